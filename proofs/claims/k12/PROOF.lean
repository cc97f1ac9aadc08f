import PyProof.Rows.All
import Wide.All
import OpenK.AllK
import Wide.FinOn
import Lean
import PyProof.EqAt
import PyProof.EqKinds
import PyProof.TupleCall
import PyProof.P3Statements
import PyProof.NoPylong
import PySem.Builtin.Int.W1All
import PyProof.StrBlockI
import KE.KSortTup
import PyProof.EnumMake
import PyProof.Draws
import KE.KSortAsk
import KE.KItemsList
import PyProof.P3In
import PySem.Challenge.RW_beamtable_k12_back_again
set_option Elab.async false
set_option linter.all false
set_option maxRecDepth 100000
set_option maxHeartbeats 0
set_option exponentiation.threshold 10000
noncomputable section
set_option compiler.extract_closed false
set_option genSizeOf false
set_option genSizeOfSpec false
set_option hygiene false
local macro_rules|`(`À)=>`(by omega)|`(`Á)=>`(λ c cdv A outer s H E hcb hr g n=>?_)|`(`Â)=>`(by decide)|`(`Ã)=>`(Value->Shared->Prop)|`(`Ä)=>`(Inv X pins σ H s)|`(`Å)=>`(λ as _ _=>⟨0,rfl⟩)|`(`Æ)=>`(Sg->Res (List D))|`(`Ç)=>`(ć (e::es) X.env=(false,eval e X.env)::ć es X.env)|`(`È)=>`(model prog w)|`(`É)=>`(model X.prog X.w)|`(`Ê)=>`(List (Addr×Obj))|`(`Ë)=>`(s.heap.objs.size+1)|`(`Ì)=>`(dC (.int 1))|`(`Í)=>`(List (List Sp))
local macro_rules|`(`Î)=>`(List Int)|`(`Ï)=>`(Array Keyed)|`(`Ð)=>`(List Value)|`(`Ñ)=>`(Sg->Res D)|`(`Ò)=>`(Str->Option Value)|`(`Ó)=>`(by simp)|`(`Ô)=>`(.builtin "object.__class__")|`(`Õ)=>`(Tx K mg cb)|`(`Ö)=>`(List Nat)|`(`Ø)=>`(Nat->Nat->Bool)|`(`Ù)=>`(ay.refl H)|`(`Ú)=>`(List Str)|`(`Û)=>`(List Slot)|`(`Ü)=>`(List Slot->cR)
local macro_rules|`(`Ý)=>`(vs.toArray.zip vs.toArray)|`(`Þ)=>`(List Expr)
set_option bootstrap.genMatcherCode false
open PySem.Heap renaming get?_push_of_some->Ā,lt_size->č,get?_push_size->đ,size_push->Āk,get?_update_ne->Ăz,SameBut->ăb,size_update->Ąd
open List renaming getElem?_eq_getElem->ā,map_cons->ą,mem_cons->Ć,append_assoc->Ċ,getD_eq_getElem?_getD->Č,getElem?_eq_some_iff->Ď,getElem?_append_right->ē,length_cons->Ė,length_map->ė,size_toArray->Ę,mem_iff_getElem->ę,take_append_drop->ě,getElem?_map->Ĝ,getElem_mem->ġ,getElem?_append_left->Ģ,zip_cons_cons->ĥ,getElem_take->Ħ,length_append->ĩ,length_take->Ī,lookup->ī,find?_cons->Ĭ,range->ĭ,mem_map->Į,lookup_cons->į,mem_append->İ,pairwise_append->ı,all_eq_true->Ĳ,mem_append_right->ĵ,getElem?_cons_succ->Ķ,not_mem_nil->ķ,pairwise_cons->Ĺ,mem_filter->ĺ,replicate->ļ,mem_cons_of_mem->Ŀ,mem_of_mem_drop->ŀ,nodup_cons->ń,flatMap_cons->ň,map_map->ŋ,getElem?_cons_zero->ō,any_cons->ŏ,getElem_drop->œ,append_nil->ŕ,drop_eq_getElem_cons->Ř,pairwise_iff_getElem->ř,length_drop->ŝ,cons_append->Ş,eq_nil_of_length_eq_zero->Š,mem_of_mem_take->š,getElem?_replicate->ţ,pairwise_map->Ť,length_nil->ť,nil_append->Ŧ,getElem?_set_self->Ū,mem_flatMap->ů,set_cons_succ->Ų,getElem?_eq_none->ų,getElem?_toArray->Ŵ,length_filter_le->ŵ,mem_of_getElem?->Ād,nodup_append->Āf,map_congr_left->Āi,mem_range->Āj,getLast_eq_getElem->Ān,set_cons_zero->Āu,findIdx?_cons->Āw,length_replicate->āb,flatten_cons->ād,getElem?_set_ne->āe,length_zip->ār,mem_cons_self->ās,mem_singleton->āu,take_sublist->āz,map_nil->Ăa,drop_eq_nil_of_le->Ăc,take_of_length_le->Ăd,drop_sublist->Ăe,reverse_perm->Ăf,length_range->Ăh,set_getElem_self->Ăl,pairwise_reverse->Ăm,map_snd_zip->Ăo,perm_middle->Ăp,mem_append_left->Ăq,of_mem_zip->Ău,filterMap_cons->Ăx,flatten_append->ăa,mem_filterMap->ăj,drop_drop->ăm,getElem?_inj->ăt,all_cons->ău,take_length->Ąe,set_append->Ąs,take_take->Ąw,map_take->ąa,map_drop->ąb,foldl->ąg,map_id->ąx,find?->Ćc
open PySem renaming wpAny_bind->Ă,mainGlobals->Ą,starEach->ć,sizeLine->Đ,wpAny_pure->Ě,sizeLine_eq->Ĵ,wpAny_mono->Ļ,wpAny_truthy_bool->Ţ,wpAny_call_entry->Ů,wpAny_passesOwn->Āb,wpAny_newObj_type->Āc,mem_of_lookup->Āh,wpAny_Call_Name_kw->Ār,wpAny_loadPart'->Āx,wpAny_holding->Āz,wpAny_pyIter_tuple->āt,wpAny_Call_method->Ăb,codeAny_call_builtin->Ăr,wpAny_execs_nil->Ăt,call_meetsIn->ăd,tupleKind_room_in1->ăk,wpAny_loadPart_at->ăq,wpAny_field->ăr,wpAny_newList->ăy,wpAny_eqBool_int->Ąb,codeAny_mono->Ąj,wpAny_standAt->Ąy,call->ąf,Within->ąh,seqIndex_neg->ąk,seqIndex_of->ąv
open PySem.W renaming Frag->ă,findIn->ĉ,keepIn->Ĕ,mg_of->Ğ,nsIn->Ĩ,emptyDict->ł,kas_item->ņ,instObj->Ŕ,piece_app->Ŝ,mg_none_of->Ŭ,kitOne->Āy,isFn->āa,makesIn->āj,kas_sort->Ăs,mroIn->ăc,excIn->Ąl,specialIn->Ąt,kitx_dict->Ąu,plainGet_of->Ąz,plainGet->ąe,callWith_K->ąl,looks_findIn->ąm,boot_heap->ąs,methodObj->ąt,hasDictIn->ąu,lookIn->ąz,fnOf->Ća
open Nat renaming le_refl->Ĉ,lt_of_lt_of_le->Ē,ne_of_lt->ĕ,le_trans->ģ,lt_of_le_of_lt->ĸ,pow_le_pow_right->Ń,le_max_right->Ņ,zero_le->Ň,le_of_not_lt->Ō,lt_irrefl->Ŏ,lt_succ_of_lt->ő,min_eq_left->ŗ,le_of_lt->ũ,add_sub_cancel_left->Āo,mul_le_mul->Āq,le_succ->āg,lt_succ_self->āk,lt_trans->āl,succ_le_succ->Ăn,gcd->ăe,le_of_dvd->ăw,max_eq_right->Ąf,div_add_mod'->Ąh,zero_add->Ąn,mod_lt->Ąp,add_assoc->ąc,ne_of_gt->ąi,sub_zero->ąp,add_comm->ąr
open PyProof.Rows renaming wpS_bind->ċ,wpS_pure->ď,wpS_forRange->Ł,wpS_mono->ś,callWith_type1->āc,get?_update_seq->Ăw,wpS_get->ăf,assignInOrder_cons->ăi,wpS_modify->ăl,listUpdate_at->ăx,seqEpoch_at->Ąv,collect_list->ąo
open Option.some renaming inj->ĝ,injEq->Ľ
open Bool renaming false_eq_true->ğ,false_ne_true->Ĥ,and_eq_true->ħ,and_eq_true_iff->āf,not_true->āp,false_or->ăv,or_eq_true->Ąr
open Option renaming bind_some->Ġ,bind_eq_some_iff->Ām,map_eq_some_iff->Āv,isSome_iff_exists->ān,map_some->āq,getD_none->Ąc,getD_some->Ąg
open PySem.Obj renaming mapSeq->ĳ
open Int renaming gcd->ľ,fdiv_eq_ediv_of_nonneg->āh,mul_nonneg->Ăi,natAbs_dvd_natAbs->Ăk,natAbs_mul->ăn,gcd_dvd_right->ăo,toNat_natCast->ăs,mul_pos->ąy
open List.Perm renaming append_left->ŉ,refl->Āp,append_right->Ăg
open Ne renaming symm->Ŋ
open Rat renaming add_assoc->Ő,add_zero->Āg,zero_add->ăg,add_comm->Ąq,normalize->ąd
open PySem.F renaming slot_tuple_iterator_next->Œ,slot_dict_get->Ś,plainAttrs_dict->Āl,entry_dict_get->Ās
open List.cons renaming injEq->Ŗ
open PySem.PyData renaming canLay0->ş,depth->Āt,depthAll->Ăv,canLayAll0->ăp,eqvAll->Ąa,eqv->Ąk
open PySem.Builtin.Int renaming intBits->ŧ
open PySem.Heap.SameBut renaming update->Ũ
open PySem.Calls renaming callWith_builtin->ū,spliced_cons->Ű,evalArgs_plain->Āe,spliced_nil->āy,Constant_str->ăh
open Prod.mk renaming injEq->ŭ
open False renaming elim->ű
open PySem.Builtin.SmallTypes renaming nextOf->Āa
open List.Pairwise renaming filter->āi
open Array renaming toList_inj->ām,length_toList->Ăy
open PySem.Builtin.List renaming listTooLong->āo
open PyProof.Rows.SortSt renaming mk'->āv
open PySem.Builtin.Str renaming occurrences->āw
open PySem.Str renaming empty->āx,ofString->Ąo
open Function renaming comp_def->Ăj,comp->ăz
open PySem.Around renaming under->Ąi
open PySem.W.KatTups renaming cons->Ąm,nil->ąw
open PySem.Paired renaming length->Ąx
open PySem.Code renaming isFrame->ąj
open Nat.succ renaming inj->ąn
open Prod renaming ext->ąq
open PySem.SeqAt renaming EqAt->Ćb
section
def KO.looked(h:PySem.Challenge.rw_beamtable_k12_back_again.row.wellSaid=true->PySem.Challenge.rw_beamtable_k12_back_again.row.Holds):PySem.Challenge.rw_beamtable_k12_back_again.Holds:=by w_on;o_law;exact h (by assumption)
namespace KO
open PySem PySem.W PySem.Calls
noncomputable abbrev pq:Program:=W.Fast.tw10741453144623551157
def bE:List Stmt:=behindTheImports pq
noncomputable def g0(l:List Stmt)(i:Nat):Stmt:=(List.drop i l).headD (.Pass ⟨0,0,0,0⟩)
def g1(i:Nat):Stmt:=g0 pq.main.body i
noncomputable def gb:Stmt->List Stmt| .ClassDef _ _ _ b _ _ _ _ _ _ _=>b| .FunctionDef _ _ b _ _ _ _ _ _ _=>b|_=>[]
def g2(i j:Nat):Stmt:=g0 (gb (g1 i)) j
noncomputable def fo(s:Stmt)(q:Str)(g:Addr)(cl:List (Str×Addr))(d kd doc md:Value)(an:Option Addr)(code ct:Value)(b:Addr):Data:=match s with| .FunctionDef n a bd _ _ _ sc _ _ _=> .func ⟨n,q,a,.stmts bd,sc,g,cl,d,kd,doc,md,an,code,ct,b⟩|_=> .plain
noncomputable def e(P:Params)(s:Str)(t:Nat)(v:Value):DictEntry:=⟨PySem.PyData.keyHash P s,.str s t,v⟩
noncomputable def ud(o:Obj)(ch:List (Nat×DictEntry))(m:List DictEntry)(n:Nat):Obj:=match o with|⟨c,d,.dict es _,s⟩=>⟨c,d,.dict ⟨(ch.foldl (λ l p=>l.set p.1 p.2) es.toList)++m⟩ n,s⟩|o=>o
noncomputable abbrev r(a:Nat):Value:= .ref a
noncomputable abbrev z:Value:= .int 0 0
noncomputable abbrev v:Value:= .none
noncomputable abbrev s(x:Str)(t:Nat):Value:= .str x t
noncomputable abbrev y(x:String):Value:= .type x
noncomputable abbrev F(c:Value)(xs:Array Value):Obj:=⟨c,none,.fields xs, #[]⟩
noncomputable abbrev Q(c:Value)(xs:Array Value):Obj:=⟨c,none,.seq xs 0, #[]⟩
noncomputable abbrev lf:Life:=⟨[],[],[],0,[],[],false, #[],[],0,false,false,false,0,[2000,10,10],false,0,true,[],[],0,false⟩
noncomputable abbrev I:=BT.ins
@[reducible]noncomputable def ß(l:`Ö):Str:=⟨⟨l⟩⟩
@[reducible]noncomputable def þ(l:`Ö):Str:=⟨⟨95::108::97::119::95::l⟩⟩
def x0:=ß [60,109,111,100,117,108,101,62]
def x1:=ß [47,99,108,97,105,109,47,99,117,116,46,112,121]
def x2:=ß [95,95,109,97,105,110,95,95]
def x3:=ß [95,95,110,97,109,101,95,95]
def x4:=ß [98,101,97,109,116,97,98,108,101,46,101,114,114,111,114,115]
def x5:=ß [95,119,97,108,108]
def x6:=ß [66,101,97,109,69,114,114,111,114]
def x7:=ß [107]
def x8:=ß [95,95,109,111,100,117,108,101,95,95]
def x9:=ß [95,95,113,117,97,108,110,97,109,101,95,95]
def xX:=ß [95,95,102,105,114,115,116,108,105,110,101,110,111,95,95]
def xW:=ß [95,95,115,116,97,116,105,99,95,97,116,116,114,105,98,117,116,101,115,95,95]
def x12:=ß [95,95,119,101,97,107,114,101,102,95,95]
def Rc:=ß [95,95,100,111,99,95,95]
def x14:=ß [78,111,70,114,97,99,116,105,111,110]
def x15:=ß [78,111,67,101,108,108]
def x16:=ß [78,111,84,97,98,108,101]
def x17:=ß [78,111,80,108,97,99,101]
def x18:=ß [98,101,97,109,116,97,98,108,101,46,119,97,121,115]
def x19:=ß [78,111,80,97,115,115]
def x20:=ß [90,69,82,79]
def x21:=ß [79,78,69]
def x22:=ß [103,114,101,97,116,101,115,116,95,100,105,118,105,115,111,114]
def x23:=ß [102,114,97,99,116,105,111,110]
def x24:=ß [109,105,110,117,115]
def x25:=ß [117,110,100,101,114]
def x26:=ß [69,65,83,84]
def x27:=ß [78,79,82,84,72]
def x28:=ß [111,110,101]
def x29:=ß [111,116,104,101,114]
def x30:=ß [108,97,114,103,101,114]
def x31:=ß [115,109,97,108,108,101,114]
def x32:=ß [114,101,115,116]
def x33:=ß [98,101,97,109,116,97,98,108,101,46,114,97,116,105,111,115]
def x34:=ß [116,111,112]
def x35:=ß [98,111,116,116,111,109]
def x36:=ß [100,105,118,105,115,111,114]
def oS:=ß [98,101,97,109,116,97,98,108,101,46,99,101,108,108,115]
def x38:=ß [87,69,83,84]
def x39:=ß [87,65,89,83]
def x40:=ß [111,112,112,111,115,105,116,101]
def x41:=ß [98,101,121,111,110,100]
def x42:=ß [98,97,99,107,95,111,102]
def x43:=ß [99,111,109,101,115,95,105,110]
def x44:=ß [99,111,109,101,115,95,111,117,116]
def x45:=ß [99,104,101,99,107,95,112,97,115,115]
def x46:=ß [112,97,115,115,101,115,95,105,110]
def x47:=ß [105,110,108,101,116,115]
def x48:=ß [111,117,116,108,101,116,115]
def x49:=ß [97,108,108,95,112,97,115,115,101,115]
def x50:=ß [108,101,97,118,105,110,103]
def x51:=ß [103,111,101,115,95,111,110]
def x52:=ß [76,69,84,84,69,82,83]
def x53:=ß [97,98,99,100,101,102,103,104,105,106,107,108,109,110,111,112,113,114,115,116,117,118,119,120,121,122]
def x54:=ß [119,97,121]
def x55:=ß [120]
def x56:=ß [121]
def x57:=ß [112]
def x58:=ß [98,101,104,105,110,100]
def x59:=ß [116,97,98,108,101]
def x60:=ß [98,101,97,109,116,97,98,108,101,46,112,97,115,115,101,115]
def x61:=ß [112,108,97,99,101]
def x62:=ß [116,104,101,114,101]
def x63:=ß [76,79,78,71,69,83,84,95,78,65,77,69]
def x64:=ß [99,104,101,99,107,95,115,108,97,110,116]
def x65:=ß [99,104,101,99,107,95,115,104,97,114,101]
def x66:=ß [99,104,101,99,107,95,110,97,109,101]
def uG:=ß [67,101,108,108]
def x68:=ß [115,108,97,110,116]
def x69:=ß [115,104,97,114,101]
def J1:=ß [108,101,97,100,115]
def x71:=ß [115,119,97,108,108,111,119,115]
def x72:=ß [116,117,114,110,101,100]
def ye:=ß [115,101,108,102]
def x74:=ß [67,101,108,108,46,108,101,97,100,115]
def x75:=ß [67,101,108,108,46,115,119,97,108,108,111,119,115]
def x76:=ß [67,101,108,108,46,116,117,114,110,101,100]
def x77:=ß [95,95,100,105,99,116,95,95]
def x78:=ß [69,109,112,116,121]
def HC:=ß [114,111,119]
def x80:=ß [69,109,112,116,121,46,114,111,119]
def x81:=ß [77,105,114,114,111,114]
def J0:=ß [95,95,105,110,105,116,95,95]
def x83:=ß [77,105,114,114,111,114,46,95,95,105,110,105,116,95,95]
def x84:=ß [77,105,114,114,111,114,46,114,111,119]
def x85:=ß [77,105,114,114,111,114,46,108,101,97,100,115]
def x86:=ß [77,105,114,114,111,114,46,116,117,114,110,101,100]
def x87:=ß [72,97,108,102]
def x88:=ß [72,97,108,102,46,95,95,105,110,105,116,95,95]
def x89:=ß [72,97,108,102,46,114,111,119]
def x90:=ß [116,104,114,111,119,110]
def x91:=ß [115,116,114,97,105,103,104,116]
def x92:=ß [72,97,108,102,46,108,101,97,100,115]
def x93:=ß [72,97,108,102,46,116,117,114,110,101,100]
def x94:=ß [70,105,108,116,101,114]
def x95:=ß [70,105,108,116,101,114,46,95,95,105,110,105,116,95,95]
def x96:=ß [70,105,108,116,101,114,46,114,111,119]
def x97:=ß [70,105,108,116,101,114,46,108,101,97,100,115]
def x98:=ß [70,105,108,116,101,114,46,115,119,97,108,108,111,119,115]
def x99:=ß [87,97,108,108]
def afW:=ß [87,97,108,108,46,114,111,119]
def afV:=ß [87,97,108,108,46,108,101,97,100,115]
def afU:=ß [87,97,108,108,46,115,119,97,108,108,111,119,115]
def uZ:=ß [98,101,97,109,116,97,98,108,101,46,116,97,98,108,101,115]
def HL:=ß [70,105,98,114,101]
def aj9:=ß [76,79,78,71,69,83,84,95,83,73,68,69]
def Tq:=ß [99,104,101,99,107,95,115,105,100,101,115]
def Tp:=ß [102,105,98,114,101,95,112,108,97,99,101,115]
def To:=ß [102,105,98,114,101,95,101,110,100,115]
def afT:=ß [110,97,109,101]
def afS:=ß [70,105,98,114,101,46,95,95,105,110,105,116,95,95]
def afR:=ß [70,105,98,114,101,46,114,111,119]
def abe:=ß [103,114,105,100]
def aj8:=ß [99,101,108,108,115]
def aj7:=ß [112,108,97,99,101,115]
def abd:=ß [99,101,108,108]
def aj6:=ß [101,110,100,115]
def HK:=ß [84,97,98,108,101]
def afQ:=ß [119,105,100,116,104]
def afP:=ß [104,101,105,103,104,116]
def afO:=ß [104,97,115,95,112,108,97,99,101]
def afN:=ß [99,104,101,99,107,95,112,108,97,99,101]
def afM:=ß [111,116,104,101,114,95,101,110,100]
def afL:=ß [114,111,119,115]
def afK:=ß [84,97,98,108,101,46,95,95,105,110,105,116,95,95]
def afJ:=ß [84,97,98,108,101,46,119,105,100,116,104]
def afI:=ß [84,97,98,108,101,46,104,101,105,103,104,116]
def afH:=ß [84,97,98,108,101,46,104,97,115,95,112,108,97,99,101]
def afG:=ß [84,97,98,108,101,46,99,104,101,99,107,95,112,108,97,99,101]
def afF:=ß [84,97,98,108,101,46,99,101,108,108]
def afE:=ß [84,97,98,108,101,46,111,116,104,101,114,95,101,110,100]
def afD:=ß [84,97,98,108,101,46,114,111,119,115]
def CY:=ß [108,97,119,95,98,101,97,109,116,97,98,108,101,95,107,49,50,95,98,97,99,107,95,97,103,97,105,110]
def Tn:=þ [99,101,108,108,95,97,116]
def Tj:=þ [108,111,119]
def Ti:=þ [115,104,97,114,101]
def Th:=þ [109,105,120,101,100]
def Te:=þ [111,110,101]
def Td:=þ [116,97,98,108,101]
def Tc:=þ [112,108,117,115]
def SY:=þ [102,117,108,108]
def VA:=ß [108,97,119]
def aj5:=þ [115,99,114,105,112,116]
def aoi:=þ [107]
def aj4:=þ [116,111,112]
def afC:=þ [98,111,116,116,111,109]
def aj3:=þ [111,110,101,95,104,101,114,101]
def aj2:=þ [111,116,104,101,114]
def afB:=þ [99,101,108,108]
def aoh:=þ [114,97,119]
def aog:=þ [119,97,121]
def aof:=þ [115,108,97,110,116]
def aj1:=þ [116,97,98,108,101,95,104,101,114,101]
def aj0:=þ [112]
def aoe:=þ [98,97,99,107]
def aod:=þ [101,110,100]
def aoc:=þ [112,97,115,115,101,115]
def aob:=þ [99,111,109,101]
def aoa:=þ [116,104,101,114,101]
def an9:=þ [115,104,97,114,101,95,104,101,114,101]
def an8:=þ [102,117,108,108,95,104,101,114,101]
noncomputable abbrev l0:String:=W.SL.s2766695959194262286x5
noncomputable abbrev l1:String:=W.SL.s5856160107412720595x4
noncomputable abbrev l2:String:=W.SL.s658472552662922059x5
noncomputable abbrev l3:String:=W.SL.s7174869446012820540x8
noncomputable abbrev l4:String:=W.SL.s6070975301684473832x10
noncomputable abbrev l5:String:=W.SL.s10062305145149207511x16
noncomputable abbrev l6:String:=W.SL.s17162191345867700912x4
noncomputable abbrev l7:String:=W.SL.s11030030927630378310x26
noncomputable abbrev l8:String:=W.SL.s14018661285674007319x4
noncomputable abbrev l9:String:=W.SL.s5946037652744460706x9
noncomputable abbrev Ye:String:=W.SL.s4278001404047624695x13
noncomputable abbrev uB:String:=W.SL.s2742458400755230247x6
noncomputable abbrev Yd:String:=W.SL.s4209523147560561109x18
noncomputable abbrev l13:String:=W.SL.s10220274742760427390x26
noncomputable abbrev l14:String:=W.SL.s14755015743595814543x17
noncomputable abbrev R3:String:=W.SL.s4290257624100764138x5
noncomputable abbrev R1:String:=W.SL.s4860613602091757760x24
noncomputable abbrev R0:String:=W.SL.s11443829558043349243x14
noncomputable abbrev l18:String:=W.SL.s6511155373996960695x17
noncomputable abbrev l19:String:=W.SL.s12411053484034534018x21
def cf(n q:Str)(t:Nat)(l:Int)(k:Value)(a:Nat)(u:Int)(w:Nat):Obj:=F (y l1) #[s n t,s q (t+1),s x1 (t+2),.int l 0,k,z,z,.int 3 0,r a,.bool true,.int 181 0,r (a+1),v,r (a+2),r (a+3),r (a+4),.int u 0,.int l 0,s x1 w]
def cl(n:Str)(t:Nat)(l:Int)(a:Nat)(u:Int)(w:Nat):Obj:=F (y l1) #[s n t,s n (t+1),s x1 (t+2),.int l 0,z,z,z,z,r a,.bool false,.int 181 0,r (a+1),v,v,v,v,.int u 0,.int l 0,s x1 w]
def fa(s:Stmt)(q:Str):Obj:=⟨v,none,fo s q 0 [] v v v v none v v 0, #[]⟩
def fb(m:Str)(t:Nat)(s:Stmt)(q:Str)(a:Nat):Obj:=⟨y l3,none,fo s q 3 [] v v v (.str m t) none (r a) v 0, #[]⟩
noncomputable def ap(o:Obj)(l:`Ð):Obj:=match o with|⟨c,d,.fields ⟨x⟩,s⟩=>⟨c,d,.fields ⟨x++l⟩,s⟩|o=>o
noncomputable def il(t:BT):List (Nat×Obj)->BT|[]=>t|p::l=>il (BT.ins t p.1 p.2) l
noncomputable def ir(t:BT)(a:Nat):List Obj->BT|[]=>t|o::l=>ir (BT.ins t a o) (a+1) l
def af:Obj:=Q (y l0) #[]
def ao:Obj:=F v #[]
def aaJ:Obj:=cl x0 182 1 11 185 186
def aaI:Obj:=⟨y l2,none,.plain, #[(some (r 13)),(some (r 3)),(some (r 3)),none,(some (s x2 164)),none,(some (r 0))]⟩
def T0(P:Params):BT:=(.node (boot_o_0 P) (.node (boot_o_1 P) (.node (boot_o_3 P) (.node (boot_o_7 P) .nil .nil) (.node af .nil .nil)) (.node (boot_o_5 P) (.node (boot_o_9 P) .nil .nil) (.node aaJ .nil .nil))) (.node (boot_o_2 P) (.node (boot_o_4 P) (.node (boot_o_8 P) .nil .nil) (.node ao .nil .nil)) (.node (boot_o_6 P) (.node (boot_o_10 P) .nil .nil) (.node aaI .nil .nil))))
def S0(P:Params)(os:OsState):SharedT:=⟨T0 P,15,lf, #[],⟨0,0,0,0⟩,187,os⟩
def T1(P:Params):BT:=(T0 P)
def S1(P:Params)(os:OsState):SharedT:=⟨T1 P,15,lf, #[],⟨0,0,0,0⟩,187,os⟩
def amw(P:Params):Obj:=ud (boot_o_3 P) [(0,e P x3 165 (s x4 194))] [e P x5 193 (r 21),e P x6 213 (r 31)] 11
def afv:Obj:=F v #[.int 1 0,z,r 20,.int 5 0,z,r 27]
def aaH:Obj:=Q (y l0) #[s x7 190]
def aaG:Obj:=fa (g1 0) x5
def aaF:Obj:=cf x5 x5 187 1 (.int 1 0) 15 191 192
def aaE:Obj:=fb x2 164 (g1 0) x5 20
def aaz:Obj:=Q (y l0) #[y l4]
def fU:Obj:=F (y l7) #[.builtin l5,y l6]
def afm(P:Params):Obj:=⟨y l8,none,(.dict #[e P x8 203 (s x4 194),e P x9 205 (s x6 204),e P xX 207 (.int 5 206),e P xW 208 (r 29)] 4), #[]⟩
def afl:Obj:=cl x6 198 5 25 201 202
def afk:Obj:=⟨y l2,none,.plain, #[(some (r 27)),(some (r 3)),(some (r 24)),none,(some (s x4 194)),none,(some (r 0))]⟩
def aam(P:Params):Obj:=⟨y l8,none,(.dict #[e P x8 203 (s x4 194),e P xX 207 (.int 5 206),e P xW 208 (r 29),e P x12 210 (r 32),e P Rc 211 v] 3), #[]⟩
def amB:Obj:=⟨y l6,none,(.cls ⟨x6,[y l4],[r 31,y l4,y l9,y Ye,y uB],30,x6,true,[],[],false,none,false⟩), #[(some (r 22)),none,(some (s x6 196)),(some (s x6 204)),(some (.builtin Yd)),(some (.bool true))]⟩
def aae:Obj:=F (y l14) #[s x12 209,r 31,.builtin l13,v]
def afj:Obj:=F (y R3) #[r 31,r 31,r 31]
def afi:Obj:=F (y l7) #[.builtin R1,r 31]
def T2(P:Params):BT:=(ir (il (T1 P) [(3,amw P),(12,afv)]) 15 [af,ao,aaH,af,aaG,aaF,aaE,aaz,fU,afm P,af,ao,afl,afk,af,aam P,amB,aae,afj,afi])
def S2(P:Params)(os:OsState):SharedT:=⟨T2 P,35,lf, #[],⟨0,0,0,0⟩,214,os⟩
def amv(P:Params):Obj:=ud (amw P) [] [e P x14 229 (r 44)] 12
def afu:Obj:=ap afv [.int 7 0,z,r 40]
def amA:Obj:=⟨y l6,none,(.cls ⟨x6,[y l4],[r 31,y l4,y l9,y Ye,y uB],30,x6,true,[],[r 44],false,none,false⟩), #[(some (r 22)),none,(some (s x6 196)),(some (s x6 204)),(some (.builtin Yd)),(some (.bool true))]⟩
def oR:Obj:=Q (y l0) #[r 31]
def afh(P:Params):Obj:=⟨y l8,none,(.dict #[e P x8 221 (s x4 194),e P x9 223 (s x14 222),e P xX 225 (.int 7 224),e P xW 226 (r 42)] 4), #[]⟩
def afa:Obj:=cl x14 216 7 38 219 220
def ae9:Obj:=⟨y l2,none,.plain, #[(some (r 40)),(some (r 3)),(some (r 37)),none,(some (s x4 194)),none,(some (r 0))]⟩
def ZU(P:Params):Obj:=⟨y l8,none,(.dict #[e P x8 221 (s x4 194),e P xX 225 (.int 7 224),e P xW 226 (r 42),e P Rc 227 v] 2), #[]⟩
def ZT:Obj:=⟨y l6,none,(.cls ⟨x14,[r 31],[r 44,r 31,y l4,y l9,y Ye,y uB],43,x14,true,[],[],false,none,false⟩), #[(some (r 35)),none,(some (s x14 214)),(some (s x14 222)),(some (.builtin Yd)),(some (.bool true))]⟩
def ae8:Obj:=F (y R3) #[r 44,r 44,r 44]
def ae7:Obj:=F (y l7) #[.builtin R1,r 44]
def T3(P:Params):BT:=(ir (il (T2 P) [(3,amv P),(12,afu),(31,amA)]) 35 [oR,fU,afh P,af,ao,afa,ae9,af,ZU P,ZT,ae8,ae7])
def S3(P:Params)(os:OsState):SharedT:=⟨T3 P,47,lf, #[],⟨0,0,0,0⟩,230,os⟩
def amu(P:Params):Obj:=ud (amv P) [] [e P x15 245 (r 56)] 13
def aft:Obj:=ap afu [.int 9 0,z,r 52]
def amz:Obj:=⟨y l6,none,(.cls ⟨x6,[y l4],[r 31,y l4,y l9,y Ye,y uB],30,x6,true,[],[r 44,r 56],false,none,false⟩), #[(some (r 22)),none,(some (s x6 196)),(some (s x6 204)),(some (.builtin Yd)),(some (.bool true))]⟩
def ae6(P:Params):Obj:=⟨y l8,none,(.dict #[e P x8 237 (s x4 194),e P x9 239 (s x15 238),e P xX 241 (.int 9 240),e P xW 242 (r 54)] 4), #[]⟩
def ae5:Obj:=cl x15 232 9 50 235 236
def ae4:Obj:=⟨y l2,none,.plain, #[(some (r 52)),(some (r 3)),(some (r 49)),none,(some (s x4 194)),none,(some (r 0))]⟩
def ZK(P:Params):Obj:=⟨y l8,none,(.dict #[e P x8 237 (s x4 194),e P xX 241 (.int 9 240),e P xW 242 (r 54),e P Rc 243 v] 2), #[]⟩
def ZJ:Obj:=⟨y l6,none,(.cls ⟨x15,[r 31],[r 56,r 31,y l4,y l9,y Ye,y uB],55,x15,true,[],[],false,none,false⟩), #[(some (r 47)),none,(some (s x15 230)),(some (s x15 238)),(some (.builtin Yd)),(some (.bool true))]⟩
def ae3:Obj:=F (y R3) #[r 56,r 56,r 56]
def ae2:Obj:=F (y l7) #[.builtin R1,r 56]
def T4(P:Params):BT:=(ir (il (T3 P) [(3,amu P),(12,aft),(31,amz)]) 47 [oR,fU,ae6 P,af,ao,ae5,ae4,af,ZK P,ZJ,ae3,ae2])
def S4(P:Params)(os:OsState):SharedT:=⟨T4 P,59,lf, #[],⟨0,0,0,0⟩,246,os⟩
def amt(P:Params):Obj:=ud (amu P) [] [e P x16 261 (r 68)] 14
def afs:Obj:=ap aft [.int 11 0,z,r 64]
def amy:Obj:=⟨y l6,none,(.cls ⟨x6,[y l4],[r 31,y l4,y l9,y Ye,y uB],30,x6,true,[],[r 44,r 56,r 68],false,none,false⟩), #[(some (r 22)),none,(some (s x6 196)),(some (s x6 204)),(some (.builtin Yd)),(some (.bool true))]⟩
def ae1(P:Params):Obj:=⟨y l8,none,(.dict #[e P x8 253 (s x4 194),e P x9 255 (s x16 254),e P xX 257 (.int 11 256),e P xW 258 (r 66)] 4), #[]⟩
def ae0:Obj:=cl x16 248 11 62 251 252
def aeZ:Obj:=⟨y l2,none,.plain, #[(some (r 64)),(some (r 3)),(some (r 61)),none,(some (s x4 194)),none,(some (r 0))]⟩
def ZI(P:Params):Obj:=⟨y l8,none,(.dict #[e P x8 253 (s x4 194),e P xX 257 (.int 11 256),e P xW 258 (r 66),e P Rc 259 v] 2), #[]⟩
def ZH:Obj:=⟨y l6,none,(.cls ⟨x16,[r 31],[r 68,r 31,y l4,y l9,y Ye,y uB],67,x16,true,[],[],false,none,false⟩), #[(some (r 59)),none,(some (s x16 246)),(some (s x16 254)),(some (.builtin Yd)),(some (.bool true))]⟩
def aeY:Obj:=F (y R3) #[r 68,r 68,r 68]
def aeX:Obj:=F (y l7) #[.builtin R1,r 68]
def T5(P:Params):BT:=(ir (il (T4 P) [(3,amt P),(12,afs),(31,amy)]) 59 [oR,fU,ae1 P,af,ao,ae0,aeZ,af,ZI P,ZH,aeY,aeX])
def S5(P:Params)(os:OsState):SharedT:=⟨T5 P,71,lf, #[],⟨0,0,0,0⟩,262,os⟩
def ams(P:Params):Obj:=ud (amt P) [] [e P x17 277 (r 80)] 15
def afr:Obj:=ap afs [.int 13 0,z,r 76]
def amx:Obj:=⟨y l6,none,(.cls ⟨x6,[y l4],[r 31,y l4,y l9,y Ye,y uB],30,x6,true,[],[r 44,r 56,r 68,r 80],false,none,false⟩), #[(some (r 22)),none,(some (s x6 196)),(some (s x6 204)),(some (.builtin Yd)),(some (.bool true))]⟩
def aeW(P:Params):Obj:=⟨y l8,none,(.dict #[e P x8 269 (s x4 194),e P x9 271 (s x17 270),e P xX 273 (.int 13 272),e P xW 274 (r 78)] 4), #[]⟩
def aeV:Obj:=cl x17 264 13 74 267 268
def aeU:Obj:=⟨y l2,none,.plain, #[(some (r 76)),(some (r 3)),(some (r 73)),none,(some (s x4 194)),none,(some (r 0))]⟩
def ZG(P:Params):Obj:=⟨y l8,none,(.dict #[e P x8 269 (s x4 194),e P xX 273 (.int 13 272),e P xW 274 (r 78),e P Rc 275 v] 2), #[]⟩
def ZF:Obj:=⟨y l6,none,(.cls ⟨x17,[r 31],[r 80,r 31,y l4,y l9,y Ye,y uB],79,x17,true,[],[],false,none,false⟩), #[(some (r 71)),none,(some (s x17 262)),(some (s x17 270)),(some (.builtin Yd)),(some (.bool true))]⟩
def aeT:Obj:=F (y R3) #[r 80,r 80,r 80]
def aeS:Obj:=F (y l7) #[.builtin R1,r 80]
def T6(P:Params):BT:=(ir (il (T5 P) [(3,ams P),(12,afr),(31,amx)]) 71 [oR,fU,aeW P,af,ao,aeV,aeU,af,ZG P,ZF,aeT,aeS])
def S6(P:Params)(os:OsState):SharedT:=⟨T6 P,83,lf, #[],⟨0,0,0,0⟩,278,os⟩
def amr(P:Params):Obj:=ud (ams P) [(0,e P x3 165 (s x18 338))] [e P x19 293 (r 92),e P x20 298 (r 95),e P x21 301 (r 96),e P x22 312 (r 103),e P x23 321 (r 110),e P x24 329 (r 117),e P x25 337 (r 124),e P x26 341 (.int 0 340),e P x27 343 (.int 1 342)] 24
def afq:Obj:=ap afr [.int 15 0,z,r 88,.int 20 0,z,r 102,.int 28 0,z,r 109,.int 35 0,z,r 116,.int 37 0,z,r 123]
def aah:Obj:=⟨y l6,none,(.cls ⟨x6,[y l4],[r 31,y l4,y l9,y Ye,y uB],30,x6,true,[],[r 44,r 56,r 68,r 80,r 92],false,none,false⟩), #[(some (r 22)),none,(some (s x6 196)),(some (s x6 204)),(some (.builtin Yd)),(some (.bool true))]⟩
def aeR(P:Params):Obj:=⟨y l8,none,(.dict #[e P x8 285 (s x4 194),e P x9 287 (s x19 286),e P xX 289 (.int 15 288),e P xW 290 (r 90)] 4), #[]⟩
def aeQ:Obj:=cl x19 280 15 86 283 284
def aeP:Obj:=⟨y l2,none,.plain, #[(some (r 88)),(some (r 3)),(some (r 85)),none,(some (s x4 194)),none,(some (r 0))]⟩
def ZE(P:Params):Obj:=⟨y l8,none,(.dict #[e P x8 285 (s x4 194),e P xX 289 (.int 15 288),e P xW 290 (r 90),e P Rc 291 v] 2), #[]⟩
def ZD:Obj:=⟨y l6,none,(.cls ⟨x19,[r 31],[r 92,r 31,y l4,y l9,y Ye,y uB],91,x19,true,[],[],false,none,false⟩), #[(some (r 83)),none,(some (s x19 278)),(some (s x19 286)),(some (.builtin Yd)),(some (.bool true))]⟩
def aeO:Obj:=F (y R3) #[r 92,r 92,r 92]
def aeN:Obj:=F (y l7) #[.builtin R1,r 92]
def ZC:Obj:=Q (y l0) #[.int 0 296,.int 1 297]
def ZA:Obj:=Q (y l0) #[.int 1 299,.int 1 300]
def Zz:Obj:=Q (y l0) #[s x28 305,s x29 306,s x30 307,s x31 308,s x32 309]
def Q4:Obj:=fa (g1 11) x22
def Q3:Obj:=cf x22 x22 302 20 (.int 2 0) 97 310 311
def Q2:Obj:=fb x33 294 (g1 11) x22 102
def Q0:Obj:=Q (y l0) #[s x34 316,s x35 317,s x36 318]
def QZ:Obj:=fa (g1 12) x23
def QY:Obj:=cf x23 x23 313 28 (.int 2 0) 104 319 320
def QX:Obj:=fb x33 294 (g1 12) x23 109
def QW:Obj:=Q (y l0) #[s x28 325,s x29 326]
def QV:Obj:=fa (g1 13) x24
def QU:Obj:=cf x24 x24 322 35 (.int 2 0) 111 327 328
def QT:Obj:=fb x33 294 (g1 13) x24 116
def QS:Obj:=Q (y l0) #[s x28 333,s x29 334]
def QO:Obj:=fa (g1 14) x25
def QN:Obj:=cf x25 x25 330 37 (.int 2 0) 118 335 336
def QM:Obj:=fb x33 294 (g1 14) x25 123
def T7(P:Params):BT:=(ir (il (T6 P) [(3,amr P),(12,afq),(31,aah)]) 83 [oR,fU,aeR P,af,ao,aeQ,aeP,af,ZE P,ZD,aeO,aeN,ZC,ZA,af,ao,Zz,af,Q4,Q3,Q2,af,ao,Q0,af,QZ,QY,QX,af,ao,QW,af,QV,QU,QT,af,ao,QS,af,QO,QN,QM])
def S7(P:Params)(os:OsState):SharedT:=⟨T7 P,125,lf, #[],⟨0,0,0,0⟩,344,os⟩
def amq(P:Params):Obj:=ud (amr P) [(0,e P x3 165 (s oS 442))] [e P x38 345 (.int 2 344),e P x39 350 (r 125),e P x40 357 (r 132),e P x41 366 (r 139),e P x42 375 (r 146),e P x43 385 (r 153),e P x44 393 (r 160),e P x45 401 (r 167),e P x46 407 (r 172),e P x47 413 (r 177),e P x48 419 (r 182),e P x49 426 (r 189),e P x50 435 (r 196),e P x51 441 (r 201),e P x52 445 (s x53 444)] 39
def afp:Obj:=ap afq [.int 44 0,z,r 131,.int 46 0,z,r 138,.int 54 0,z,r 145,.int 59 0,z,r 152,.int 61 0,z,r 159,.int 63 0,z,r 166,.int 66 0,z,r 171,.int 72 0,z,r 176,.int 74 0,z,r 181,.int 76 0,z,r 188,.int 78 0,z,r 195,.int 81 0,z,r 200]
def QL:Obj:=Q (y l0) #[.int 0 346,.int 1 347,.int 2 348,.int 3 349]
def QK:Obj:=Q (y l0) #[s x54 354]
def QI:Obj:=fa (g1 20) x40
def QH:Obj:=cf x40 x40 351 44 (.int 1 0) 126 355 356
def QG:Obj:=fb x18 338 (g1 20) x40 131
def QF:Obj:=Q (y l0) #[s x55 361,s x56 362,s x54 363]
def QE:Obj:=fa (g1 21) x41
def QD:Obj:=cf x41 x41 358 46 (.int 3 0) 133 364 365
def QC:Obj:=fb x18 338 (g1 21) x41 138
def QB:Obj:=Q (y l0) #[s x57 370,s x54 371,s x58 372]
def QA:Obj:=fa (g1 22) x42
def Qz:Obj:=cf x42 x42 367 54 (.int 1 0) 140 373 374
def Qy:Obj:=fb x18 338 (g1 22) x42 145
def Qx:Obj:=Q (y l0) #[s x59 381,s x57 382]
def Qw:Obj:=fa (g1 24) x43
def Qv:Obj:=cf x43 x43 378 59 (.int 2 0) 147 383 384
def Qu:Obj:=fb x60 376 (g1 24) x43 152
def Qt:Obj:=Q (y l0) #[s x59 389,s x57 390]
def Qs:Obj:=fa (g1 25) x44
def Qq:Obj:=cf x44 x44 386 61 (.int 2 0) 154 391 392
def Qp:Obj:=fb x60 376 (g1 25) x44 159
def Qo:Obj:=Q (y l0) #[s x59 397,s x57 398]
def Qn:Obj:=fa (g1 26) x45
def Qm:Obj:=cf x45 x45 394 63 (.int 2 0) 161 399 400
def Ql:Obj:=fb x60 376 (g1 26) x45 166
def Qk:Obj:=fa (g1 27) x46
def Qj:Obj:=F (y l1) #[s x46 402,s x46 403,s x1 404,.int 66 0,.int 1 0,z,z,.int 3 0,r 168,.bool true,.int 181 0,r 169,v,v,v,r 170,.int 405 0,.int 66 0,s x1 406]
def Qi:Obj:=fb x60 376 (g1 27) x46 171
def Qh:Obj:=fa (g1 28) x47
def Qg:Obj:=F (y l1) #[s x47 408,s x47 409,s x1 410,.int 72 0,.int 1 0,z,z,.int 3 0,r 173,.bool true,.int 181 0,r 174,v,v,v,r 175,.int 411 0,.int 72 0,s x1 412]
def Qf:Obj:=fb x60 376 (g1 28) x47 176
def Qe:Obj:=fa (g1 29) x48
def Qd:Obj:=F (y l1) #[s x48 414,s x48 415,s x1 416,.int 74 0,.int 1 0,z,z,.int 3 0,r 178,.bool true,.int 181 0,r 179,v,v,v,r 180,.int 417 0,.int 74 0,s x1 418]
def Qc:Obj:=fb x60 376 (g1 29) x48 181
def Qa:Obj:=Q (y l0) #[s x59 423]
def P9:Obj:=fa (g1 30) x49
def P8:Obj:=cf x49 x49 420 76 (.int 1 0) 183 424 425
def P7:Obj:=fb x60 376 (g1 30) x49 188
def P6:Obj:=Q (y l0) #[s x61 430,s x54 431,s x62 432]
def P5:Obj:=fa (g1 31) x50
def P4:Obj:=cf x50 x50 427 78 (.int 2 0) 190 433 434
def P1:Obj:=fb x60 376 (g1 31) x50 195
def PZ:Obj:=fa (g1 32) x51
def PY:Obj:=F (y l1) #[s x51 436,s x51 437,s x1 438,.int 81 0,.int 2 0,z,z,.int 3 0,r 197,.bool true,.int 181 0,r 198,v,v,v,r 199,.int 439 0,.int 81 0,s x1 440]
def PX:Obj:=fb x60 376 (g1 32) x51 200
def T8(P:Params):BT:=(ir (il (T7 P) [(3,amq P),(12,afp)]) 125 [QL,af,ao,QK,af,QI,QH,QG,af,ao,QF,af,QE,QD,QC,af,ao,QB,af,QA,Qz,Qy,af,ao,Qx,af,Qw,Qv,Qu,af,ao,Qt,af,Qs,Qq,Qp,af,ao,Qo,af,Qn,Qm,Ql,af,ao,Qk,Qj,Qi,af,ao,Qh,Qg,Qf,af,ao,Qe,Qd,Qc,af,ao,Qa,af,P9,P8,P7,af,ao,P6,af,P5,P4,P1,af,ao,PZ,PY,PX])
def S8(P:Params)(os:OsState):SharedT:=⟨T8 P,202,lf, #[],⟨0,0,0,0⟩,446,os⟩
def amo(P:Params):Obj:=ud (amq P) [] [e P x63 447 (.int 8 446),e P x64 454 (r 208),e P x65 461 (r 215),e P x66 467 (r 220),e P uG 509 (r 251)] 44
def afo:Obj:=ap afp [.int 93 0,z,r 207,.int 96 0,z,r 214,.int 99 0,z,r 219,.int 102 0,z,r 226]
def PV:Obj:=Q (y l0) #[s x68 451]
def PU:Obj:=fa (g1 36) x64
def PN:Obj:=cf x64 x64 448 93 (.int 1 0) 202 452 453
def PK:Obj:=fb oS 442 (g1 36) x64 207
def PJ:Obj:=Q (y l0) #[s x69 458]
def PF:Obj:=fa (g1 37) x65
def PC:Obj:=cf x65 x65 455 96 (.int 1 0) 209 459 460
def PB:Obj:=fb oS 442 (g1 37) x65 214
def Pz:Obj:=fa (g1 38) x66
def Py:Obj:=F (y l1) #[s x66 462,s x66 463,s x1 464,.int 99 0,.int 1 0,z,z,.int 3 0,r 216,.bool true,.int 181 0,r 217,v,v,v,r 218,.int 465 0,.int 99 0,s x1 466]
def Px:Obj:=fb oS 442 (g1 38) x66 219
def aaD(P:Params):Obj:=⟨y l8,none,(.dict #[e P x8 475 (s oS 442),e P x9 477 (s uG 476),e P xX 479 (.int 102 478),e P J1 487 (r 234),e P x71 494 (r 241),e P x72 501 (r 248),e P xW 502 (r 249)] 7), #[]⟩
def aaC:Obj:=F v #[.int 104 0,.int 4 0,r 233,.int 107 0,.int 4 0,r 240,.int 110 0,.int 4 0,r 247]
def aaB:Obj:=cl uG 470 102 224 473 474
def aaA:Obj:=⟨y l2,none,.plain, #[(some (r 226)),(some (r 3)),(some (r 223)),none,(some (s oS 442)),none,(some (r 0))]⟩
def Pw:Obj:=Q (y l0) #[s ye 483,s x54 484]
def Pu:Obj:=fa (g2 39 0) x74
def Pr:Obj:=cf J1 x74 480 104 (.int 2 0) 228 485 486
def Pq:Obj:=fb oS 442 (g2 39 0) x74 233
def Pp:Obj:=Q (y l0) #[s ye 491]
def Po:Obj:=fa (g2 39 1) x75
def Pk:Obj:=cf x71 x75 488 107 (.int 1 0) 235 492 493
def Pj:Obj:=fb oS 442 (g2 39 1) x75 240
def Ph:Obj:=Q (y l0) #[s ye 498]
def Pg:Obj:=fa (g2 39 2) x76
def Pf:Obj:=cf x72 x76 495 110 (.int 1 0) 242 499 500
def Pe:Obj:=fb oS 442 (g2 39 2) x76 247
def Pc(P:Params):Obj:=⟨y l8,none,(.dict #[e P x8 475 (s oS 442),e P xX 479 (.int 102 478),e P J1 487 (r 234),e P x71 494 (r 241),e P x72 501 (r 248),e P xW 502 (r 249),e P x77 504 (r 252),e P x12 506 (r 253),e P Rc 507 v] 4), #[]⟩
def aiC:Obj:=⟨y l6,none,(.cls ⟨uG,[y uB],[r 251,y uB],250,uG,true,[],[],false,none,false⟩), #[none,none,(some (s uG 468)),(some (s uG 476)),(some (.builtin R0)),(some (.bool true))]⟩
def Pa:Obj:=F (y l14) #[s x77 503,r 251,.builtin l18,.builtin l19]
def O9:Obj:=F (y l14) #[s x12 505,r 251,.builtin l13,v]
def aay:Obj:=F (y R3) #[r 251,r 251,r 251]
def aax:Obj:=F (y l7) #[.builtin R1,r 251]
def T9(P:Params):BT:=(ir (il (T8 P) [(3,amo P),(12,afo)]) 202 [af,ao,PV,af,PU,PN,PK,af,ao,PJ,af,PF,PC,PB,af,ao,Pz,Py,Px,af,fU,aaD P,af,aaC,aaB,aaA,af,ao,Pw,af,Pu,Pr,Pq,af,ao,Pp,af,Po,Pk,Pj,af,ao,Ph,af,Pg,Pf,Pe,af,Pc P,aiC,Pa,O9,aay,aax])
def S9(P:Params)(os:OsState):SharedT:=⟨T9 P,256,lf, #[],⟨0,0,0,0⟩,510,os⟩
def amn(P:Params):Obj:=ud (amo P) [] [e P x78 532 (r 272)] 45
def afn:Obj:=ap afo [.int 112 0,z,r 261]
def aiB:Obj:=⟨y l6,none,(.cls ⟨uG,[y uB],[r 251,y uB],250,uG,true,[],[r 272],false,none,false⟩), #[none,none,(some (s uG 468)),(some (s uG 476)),(some (.builtin R0)),(some (.bool true))]⟩
def iy:Obj:=Q (y l0) #[r 251]
def aaw(P:Params):Obj:=⟨y l8,none,(.dict #[e P x8 517 (s oS 442),e P x9 519 (s x78 518),e P xX 521 (.int 112 520),e P HC 528 (r 269),e P xW 529 (r 270)] 5), #[]⟩
def aav:Obj:=F v #[.int 114 0,.int 4 0,r 268]
def aau:Obj:=cl x78 512 112 259 515 516
def aat:Obj:=⟨y l2,none,.plain, #[(some (r 261)),(some (r 3)),(some (r 258)),none,(some (s oS 442)),none,(some (r 0))]⟩
def O8:Obj:=Q (y l0) #[s ye 525]
def O7:Obj:=fa (g2 40 0) x80
def O6:Obj:=cf HC x80 522 114 (.int 1 0) 263 526 527
def O5:Obj:=fb oS 442 (g2 40 0) x80 268
def O4(P:Params):Obj:=⟨y l8,none,(.dict #[e P x8 517 (s oS 442),e P xX 521 (.int 112 520),e P HC 528 (r 269),e P xW 529 (r 270),e P Rc 530 v] 2), #[]⟩
def O3:Obj:=⟨y l6,none,(.cls ⟨x78,[r 251],[r 272,r 251,y uB],271,x78,true,[],[],false,none,false⟩), #[(some (r 256)),none,(some (s x78 510)),(some (s x78 518)),(some (.builtin R0)),(some (.bool true))]⟩
def aas:Obj:=F (y R3) #[r 272,r 272,r 272]
def aar:Obj:=F (y l7) #[.builtin R1,r 272]
def T10(P:Params):BT:=(ir (il (T9 P) [(3,amn P),(12,afn),(251,aiB)]) 256 [iy,fU,aaw P,af,aav,aau,aat,af,ao,O8,af,O7,O6,O5,af,O4 P,O3,aas,aar])
def S10(P:Params)(os:OsState):SharedT:=⟨T10 P,275,lf, #[],⟨0,0,0,0⟩,533,os⟩
def amm(P:Params):Obj:=ud (amn P) [] [e P x81 579 (r 312)] 46
def aaP:Obj:=ap afn [.int 116 0,z,r 280]
def aiA:Obj:=⟨y l6,none,(.cls ⟨uG,[y uB],[r 251,y uB],250,uG,true,[],[r 272,r 312],false,none,false⟩), #[none,none,(some (s uG 468)),(some (s uG 476)),(some (.builtin R0)),(some (.bool true))]⟩
def aaq(P:Params):Obj:=⟨y l8,none,(.dict #[e P x8 540 (s oS 442),e P x9 542 (s x81 541),e P xX 544 (.int 116 543),e P J0 552 (r 288),e P HC 559 (r 295),e P J1 567 (r 302),e P x72 574 (r 309),e P xW 576 (r 310)] 8), #[]⟩
def aap:Obj:=F v #[.int 118 0,.int 4 0,r 287,.int 122 0,.int 4 0,r 294,.int 125 0,.int 4 0,r 301,.int 128 0,.int 4 0,r 308]
def aao:Obj:=cl x81 535 116 278 538 539
def aan:Obj:=⟨y l2,none,.plain, #[(some (r 280)),(some (r 3)),(some (r 277)),none,(some (s oS 442)),none,(some (r 0))]⟩
def O2:Obj:=Q (y l0) #[s ye 548,s x68 549]
def O1:Obj:=fa (g2 41 0) x83
def O0:Obj:=cf J0 x83 545 118 (.int 2 0) 282 550 551
def OZ:Obj:=fb oS 442 (g2 41 0) x83 287
def OY:Obj:=Q (y l0) #[s ye 556]
def OX:Obj:=fa (g2 41 1) x84
def OW:Obj:=cf HC x84 553 122 (.int 1 0) 289 557 558
def OV:Obj:=fb oS 442 (g2 41 1) x84 294
def OT:Obj:=Q (y l0) #[s ye 563,s x54 564]
def OS:Obj:=fa (g2 41 2) x85
def OR:Obj:=cf J1 x85 560 125 (.int 2 0) 296 565 566
def OQ:Obj:=fb oS 442 (g2 41 2) x85 301
def OP:Obj:=Q (y l0) #[s ye 571]
def OO:Obj:=fa (g2 41 3) x86
def ON:Obj:=cf x72 x86 568 128 (.int 1 0) 303 572 573
def OM:Obj:=fb oS 442 (g2 41 3) x86 308
def OL:Obj:=Q (y l0) #[s x68 575]
def OJ(P:Params):Obj:=⟨y l8,none,(.dict #[e P x8 540 (s oS 442),e P xX 544 (.int 116 543),e P J0 552 (r 288),e P HC 559 (r 295),e P J1 567 (r 302),e P x72 574 (r 309),e P xW 576 (r 310),e P Rc 577 v] 2), #[]⟩
def OI:Obj:=⟨y l6,none,(.cls ⟨x81,[r 251],[r 312,r 251,y uB],311,x81,true,[],[],false,none,false⟩), #[(some (r 275)),none,(some (s x81 533)),(some (s x81 541)),(some (.builtin R0)),(some (.bool true))]⟩
def aal:Obj:=F (y R3) #[r 312,r 312,r 312]
def aak:Obj:=F (y l7) #[.builtin R1,r 312]
def T11(P:Params):BT:=(ir (il (T10 P) [(3,amm P),(12,aaP),(251,aiA)]) 275 [iy,fU,aaq P,af,aap,aao,aan,af,ao,O2,af,O1,O0,OZ,af,ao,OY,af,OX,OW,OV,af,ao,OT,af,OS,OR,OQ,af,ao,OP,af,OO,ON,OM,OL,OJ P,OI,aal,aak])
def S11(P:Params)(os:OsState):SharedT:=⟨T11 P,315,lf, #[],⟨0,0,0,0⟩,580,os⟩
def afg(P:Params):Obj:=ud (amm P) [] [e P x87 630 (r 352)] 47
def aaO:Obj:=ap aaP [.int 130 0,z,r 320]
def aiz:Obj:=⟨y l6,none,(.cls ⟨uG,[y uB],[r 251,y uB],250,uG,true,[],[r 272,r 312,r 352],false,none,false⟩), #[none,none,(some (s uG 468)),(some (s uG 476)),(some (.builtin R0)),(some (.bool true))]⟩
def aaj(P:Params):Obj:=⟨y l8,none,(.dict #[e P x8 587 (s oS 442),e P x9 589 (s x87 588),e P xX 591 (.int 130 590),e P J0 600 (r 328),e P HC 607 (r 335),e P J1 617 (r 342),e P x72 624 (r 349),e P xW 627 (r 350)] 8), #[]⟩
def aai:Obj:=F v #[.int 132 0,.int 4 0,r 327,.int 138 0,.int 4 0,r 334,.int 141 0,.int 4 0,r 341,.int 146 0,.int 4 0,r 348]
def aag:Obj:=cl x87 582 130 318 585 586
def aaf:Obj:=⟨y l2,none,.plain, #[(some (r 320)),(some (r 3)),(some (r 317)),none,(some (s oS 442)),none,(some (r 0))]⟩
def OH:Obj:=Q (y l0) #[s ye 595,s x68 596,s x69 597]
def OG:Obj:=fa (g2 42 0) x88
def OF:Obj:=cf J0 x88 592 132 (.int 3 0) 322 598 599
def OE:Obj:=fb oS 442 (g2 42 0) x88 327
def OD:Obj:=Q (y l0) #[s ye 604]
def OC:Obj:=fa (g2 42 1) x89
def OB:Obj:=cf HC x89 601 138 (.int 1 0) 329 605 606
def OA:Obj:=fb oS 442 (g2 42 1) x89 334
def Oz:Obj:=Q (y l0) #[s ye 611,s x54 612,s x90 613,s x91 614]
def Ox:Obj:=fa (g2 42 2) x92
def Ov:Obj:=cf J1 x92 608 141 (.int 2 0) 336 615 616
def Ou:Obj:=fb oS 442 (g2 42 2) x92 341
def Ot:Obj:=Q (y l0) #[s ye 621]
def Oq:Obj:=fa (g2 42 3) x93
def Oo:Obj:=cf x72 x93 618 146 (.int 1 0) 343 622 623
def Om:Obj:=fb oS 442 (g2 42 3) x93 348
def Ol:Obj:=Q (y l0) #[s x69 625,s x68 626]
def Oj(P:Params):Obj:=⟨y l8,none,(.dict #[e P x8 587 (s oS 442),e P xX 591 (.int 130 590),e P J0 600 (r 328),e P HC 607 (r 335),e P J1 617 (r 342),e P x72 624 (r 349),e P xW 627 (r 350),e P Rc 628 v] 2), #[]⟩
def Oi:Obj:=⟨y l6,none,(.cls ⟨x87,[r 251],[r 352,r 251,y uB],351,x87,true,[],[],false,none,false⟩), #[(some (r 315)),none,(some (s x87 580)),(some (s x87 588)),(some (.builtin R0)),(some (.bool true))]⟩
def aad:Obj:=F (y R3) #[r 352,r 352,r 352]
def aac:Obj:=F (y l7) #[.builtin R1,r 352]
def T12(P:Params):BT:=(ir (il (T11 P) [(3,afg P),(12,aaO),(251,aiz)]) 315 [iy,fU,aaj P,af,aai,aag,aaf,af,ao,OH,af,OG,OF,OE,af,ao,OD,af,OC,OB,OA,af,ao,Oz,af,Ox,Ov,Ou,af,ao,Ot,af,Oq,Oo,Om,Ol,Oj P,Oi,aad,aac])
def S12(P:Params)(os:OsState):SharedT:=⟨T12 P,355,lf, #[],⟨0,0,0,0⟩,631,os⟩
def afe(P:Params):Obj:=ud (afg P) [] [e P x94 677 (r 392)] 48
def aaN:Obj:=ap aaO [.int 148 0,z,r 360]
def aiy:Obj:=⟨y l6,none,(.cls ⟨uG,[y uB],[r 251,y uB],250,uG,true,[],[r 272,r 312,r 352,r 392],false,none,false⟩), #[none,none,(some (s uG 468)),(some (s uG 476)),(some (.builtin R0)),(some (.bool true))]⟩
def aab(P:Params):Obj:=⟨y l8,none,(.dict #[e P x8 638 (s oS 442),e P x9 640 (s x94 639),e P xX 642 (.int 148 641),e P J0 650 (r 368),e P HC 657 (r 375),e P J1 665 (r 382),e P x71 672 (r 389),e P xW 674 (r 390)] 8), #[]⟩
def aaa:Obj:=F v #[.int 150 0,.int 4 0,r 367,.int 154 0,.int 4 0,r 374,.int 157 0,.int 4 0,r 381,.int 160 0,.int 4 0,r 388]
def Z9:Obj:=cl x94 633 148 358 636 637
def Z8:Obj:=⟨y l2,none,.plain, #[(some (r 360)),(some (r 3)),(some (r 357)),none,(some (s oS 442)),none,(some (r 0))]⟩
def Oh:Obj:=Q (y l0) #[s ye 646,s x69 647]
def Og:Obj:=fa (g2 43 0) x95
def Of:Obj:=cf J0 x95 643 150 (.int 2 0) 362 648 649
def Oe:Obj:=fb oS 442 (g2 43 0) x95 367
def Od:Obj:=Q (y l0) #[s ye 654]
def Oc:Obj:=fa (g2 43 1) x96
def Ob:Obj:=cf HC x96 651 154 (.int 1 0) 369 655 656
def Oa:Obj:=fb oS 442 (g2 43 1) x96 374
def N9:Obj:=Q (y l0) #[s ye 661,s x54 662]
def N8:Obj:=fa (g2 43 2) x97
def N7:Obj:=cf J1 x97 658 157 (.int 2 0) 376 663 664
def N6:Obj:=fb oS 442 (g2 43 2) x97 381
def N5:Obj:=Q (y l0) #[s ye 669]
def N4:Obj:=fa (g2 43 3) x98
def N3:Obj:=cf x71 x98 666 160 (.int 1 0) 383 670 671
def N2:Obj:=fb oS 442 (g2 43 3) x98 388
def N1:Obj:=Q (y l0) #[s x69 673]
def NZ(P:Params):Obj:=⟨y l8,none,(.dict #[e P x8 638 (s oS 442),e P xX 642 (.int 148 641),e P J0 650 (r 368),e P HC 657 (r 375),e P J1 665 (r 382),e P x71 672 (r 389),e P xW 674 (r 390),e P Rc 675 v] 2), #[]⟩
def NY:Obj:=⟨y l6,none,(.cls ⟨x94,[r 251],[r 392,r 251,y uB],391,x94,true,[],[],false,none,false⟩), #[(some (r 355)),none,(some (s x94 631)),(some (s x94 639)),(some (.builtin R0)),(some (.bool true))]⟩
def Z7:Obj:=F (y R3) #[r 392,r 392,r 392]
def Z6:Obj:=F (y l7) #[.builtin R1,r 392]
def T13(P:Params):BT:=(ir (il (T12 P) [(3,afe P),(12,aaN),(251,aiy)]) 355 [iy,fU,aab P,af,aaa,Z9,Z8,af,ao,Oh,af,Og,Of,Oe,af,ao,Od,af,Oc,Ob,Oa,af,ao,N9,af,N8,N7,N6,af,ao,N5,af,N4,N3,N2,N1,NZ P,NY,Z7,Z6])
def S13(P:Params)(os:OsState):SharedT:=⟨T13 P,395,lf, #[],⟨0,0,0,0⟩,678,os⟩
def afd(P:Params):Obj:=ud (afe P) [] [e P x99 715 (r 425)] 49
def aaM:Obj:=ap aaN [.int 162 0,z,r 400]
def aix:Obj:=⟨y l6,none,(.cls ⟨uG,[y uB],[r 251,y uB],250,uG,true,[],[r 272,r 312,r 352,r 392,r 425],false,none,false⟩), #[none,none,(some (s uG 468)),(some (s uG 476)),(some (.builtin R0)),(some (.bool true))]⟩
def Z5(P:Params):Obj:=⟨y l8,none,(.dict #[e P x8 685 (s oS 442),e P x9 687 (s x99 686),e P xX 689 (.int 162 688),e P HC 696 (r 408),e P J1 704 (r 415),e P x71 711 (r 422),e P xW 712 (r 423)] 7), #[]⟩
def Z4:Obj:=F v #[.int 164 0,.int 4 0,r 407,.int 167 0,.int 4 0,r 414,.int 170 0,.int 4 0,r 421]
def Z2:Obj:=cl x99 680 162 398 683 684
def Z1:Obj:=⟨y l2,none,.plain, #[(some (r 400)),(some (r 3)),(some (r 397)),none,(some (s oS 442)),none,(some (r 0))]⟩
def NX:Obj:=Q (y l0) #[s ye 693]
def NW:Obj:=fa (g2 44 0) afW
def NV:Obj:=cf HC afW 690 164 (.int 1 0) 402 694 695
def NU:Obj:=fb oS 442 (g2 44 0) afW 407
def NT:Obj:=Q (y l0) #[s ye 700,s x54 701]
def NS:Obj:=fa (g2 44 1) afV
def NR:Obj:=cf J1 afV 697 167 (.int 2 0) 409 702 703
def NQ:Obj:=fb oS 442 (g2 44 1) afV 414
def NP:Obj:=Q (y l0) #[s ye 708]
def NO:Obj:=fa (g2 44 2) afU
def NN:Obj:=cf x71 afU 705 170 (.int 1 0) 416 709 710
def NL:Obj:=fb oS 442 (g2 44 2) afU 421
def NK(P:Params):Obj:=⟨y l8,none,(.dict #[e P x8 685 (s oS 442),e P xX 689 (.int 162 688),e P HC 696 (r 408),e P J1 704 (r 415),e P x71 711 (r 422),e P xW 712 (r 423),e P Rc 713 v] 2), #[]⟩
def NJ:Obj:=⟨y l6,none,(.cls ⟨x99,[r 251],[r 425,r 251,y uB],424,x99,true,[],[],false,none,false⟩), #[(some (r 395)),none,(some (s x99 678)),(some (s x99 686)),(some (.builtin R0)),(some (.bool true))]⟩
def Z0:Obj:=F (y R3) #[r 425,r 425,r 425]
def ZZ:Obj:=F (y l7) #[.builtin R1,r 425]
def T14(P:Params):BT:=(ir (il (T13 P) [(3,afd P),(12,aaM),(251,aix)]) 395 [iy,fU,Z5 P,af,Z4,Z2,Z1,af,ao,NX,af,NW,NV,NU,af,ao,NT,af,NS,NR,NQ,af,ao,NP,af,NO,NN,NL,af,NK P,NJ,Z0,ZZ])
def S14(P:Params)(os:OsState):SharedT:=⟨T14 P,428,lf, #[],⟨0,0,0,0⟩,716,os⟩
def afc(P:Params):Obj:=ud (afd P) [(0,e P x3 165 (s uZ 748))] [e P HL 747 (r 451),e P aj9 751 (.int 16 750),e P Tq 759 (r 460),e P Tp 771 (r 467),e P To 781 (r 474)] 54
def aaL:Obj:=ap aaM [.int 172 0,z,r 433,.int 182 0,z,r 459,.int 190 0,z,r 466,.int 197 0,z,r 473]
def Pb:Obj:=⟨y l6,none,(.cls ⟨uG,[y uB],[r 251,y uB],250,uG,true,[],[r 272,r 312,r 352,r 392,r 425,r 451],false,none,false⟩), #[none,none,(some (s uG 468)),(some (s uG 476)),(some (.builtin R0)),(some (.bool true))]⟩
def ZY(P:Params):Obj:=⟨y l8,none,(.dict #[e P x8 723 (s oS 442),e P x9 725 (s HL 724),e P xX 727 (.int 172 726),e P J0 735 (r 441),e P HC 742 (r 448),e P xW 744 (r 449)] 6), #[]⟩
def ZX:Obj:=F v #[.int 174 0,.int 4 0,r 440,.int 178 0,.int 4 0,r 447]
def ZW:Obj:=cl HL 718 172 431 721 722
def ZV:Obj:=⟨y l2,none,.plain, #[(some (r 433)),(some (r 3)),(some (r 430)),none,(some (s oS 442)),none,(some (r 0))]⟩
def NI:Obj:=Q (y l0) #[s ye 731,s afT 732]
def NH:Obj:=fa (g2 45 0) afS
def NG:Obj:=cf J0 afS 728 174 (.int 2 0) 435 733 734
def NF:Obj:=fb oS 442 (g2 45 0) afS 440
def ND:Obj:=Q (y l0) #[s ye 739]
def NC:Obj:=fa (g2 45 1) afR
def NB:Obj:=cf HC afR 736 178 (.int 1 0) 442 740 741
def Nz:Obj:=fb oS 442 (g2 45 1) afR 447
def Ny:Obj:=Q (y l0) #[s afT 743]
def Nx(P:Params):Obj:=⟨y l8,none,(.dict #[e P x8 723 (s oS 442),e P xX 727 (.int 172 726),e P J0 735 (r 441),e P HC 742 (r 448),e P xW 744 (r 449),e P Rc 745 v] 2), #[]⟩
def Nv:Obj:=⟨y l6,none,(.cls ⟨HL,[r 251],[r 451,r 251,y uB],450,HL,true,[],[],false,none,false⟩), #[(some (r 428)),none,(some (s HL 716)),(some (s HL 724)),(some (.builtin R0)),(some (.bool true))]⟩
def ZS:Obj:=F (y R3) #[r 451,r 451,r 451]
def ZR:Obj:=F (y l7) #[.builtin R1,r 451]
def Nu:Obj:=Q (y l0) #[s abe 755,s aj8 756]
def Nt:Obj:=fa (g1 48) Tq
def Nr:Obj:=cf Tq Tq 752 182 (.int 1 0) 454 757 758
def Nq:Obj:=fb uZ 748 (g1 48) Tq 459
def Np:Obj:=Q (y l0) #[s abe 763,s aj7 764,s x56 765,s aj8 766,s x55 767,s abd 768]
def Nn:Obj:=fa (g1 49) Tp
def Nm:Obj:=cf Tp Tp 760 190 (.int 1 0) 461 769 770
def Nk:Obj:=fb uZ 748 (g1 49) Tp 466
def Nj:Obj:=Q (y l0) #[s abe 775,s aj6 776,s afT 777,s aj7 778]
def Ni:Obj:=fa (g1 50) To
def Nh:Obj:=cf To To 772 197 (.int 1 0) 468 779 780
def Ng:Obj:=fb uZ 748 (g1 50) To 473
def T15(P:Params):BT:=(ir (il (T14 P) [(3,afc P),(12,aaL),(251,Pb)]) 428 [iy,fU,ZY P,af,ZX,ZW,ZV,af,ao,NI,af,NH,NG,NF,af,ao,ND,af,NC,NB,Nz,Ny,Nx P,Nv,ZS,ZR,af,ao,Nu,af,Nt,Nr,Nq,af,ao,Np,af,Nn,Nm,Nk,af,ao,Nj,af,Ni,Nh,Ng])
def S15(P:Params)(os:OsState):SharedT:=⟨T15 P,475,lf, #[],⟨0,0,0,0⟩,782,os⟩
def afb(P:Params):Obj:=ud (afc P) [] [e P HK 865 (r 536)] 55
def aaK:Obj:=ap aaL [.int 205 0,z,r 480]
def ZQ(P:Params):Obj:=⟨y l8,none,(.dict #[e P x8 789 (s uZ 748),e P x9 791 (s HK 790),e P xX 793 (.int 205 792),e P J0 799 (r 486),e P afQ 806 (r 493),e P afP 813 (r 500),e P afO 822 (r 507),e P afN 831 (r 514),e P abd 840 (r 521),e P afM 849 (r 528),e P afL 855 (r 533),e P xW 858 (r 534)] 12), #[]⟩
def ZP:Obj:=F v #[.int 207 0,.int 4 0,r 485,.int 212 0,.int 4 0,r 492,.int 215 0,.int 4 0,r 499,.int 218 0,.int 4 0,r 506,.int 221 0,.int 4 0,r 513,.int 225 0,.int 4 0,r 520,.int 229 0,.int 4 0,r 527,.int 233 0,.int 4 0,r 532]
def ZO:Obj:=cl HK 784 205 478 787 788
def ZN:Obj:=⟨y l2,none,.plain, #[(some (r 480)),(some (r 3)),(some (r 477)),none,(some (s uZ 748)),none,(some (r 0))]⟩
def Nf:Obj:=fa (g2 51 0) afK
def Nc:Obj:=F (y l1) #[s J0 794,s afK 795,s x1 796,.int 207 0,.int 2 0,z,z,.int 3 0,r 482,.bool true,.int 181 0,r 483,v,v,v,r 484,.int 797 0,.int 207 0,s x1 798]
def Nb:Obj:=fb uZ 748 (g2 51 0) afK 485
def Na:Obj:=Q (y l0) #[s ye 803]
def M9:Obj:=fa (g2 51 1) afJ
def M8:Obj:=cf afQ afJ 800 212 (.int 1 0) 487 804 805
def M7:Obj:=fb uZ 748 (g2 51 1) afJ 492
def M6:Obj:=Q (y l0) #[s ye 810]
def M5:Obj:=fa (g2 51 2) afI
def M4:Obj:=cf afP afI 807 215 (.int 1 0) 494 811 812
def M3:Obj:=fb uZ 748 (g2 51 2) afI 499
def M0:Obj:=Q (y l0) #[s ye 817,s x55 818,s x56 819]
def MZ:Obj:=fa (g2 51 3) afH
def MY:Obj:=cf afO afH 814 218 (.int 3 0) 501 820 821
def MX:Obj:=fb uZ 748 (g2 51 3) afH 506
def MW:Obj:=Q (y l0) #[s ye 826,s x55 827,s x56 828]
def MV:Obj:=fa (g2 51 4) afG
def MU:Obj:=cf afN afG 823 221 (.int 3 0) 508 829 830
def MT:Obj:=fb uZ 748 (g2 51 4) afG 513
def MS:Obj:=Q (y l0) #[s ye 835,s x55 836,s x56 837]
def MR:Obj:=fa (g2 51 5) afF
def MQ:Obj:=cf abd afF 832 225 (.int 3 0) 515 838 839
def MP:Obj:=fb uZ 748 (g2 51 5) afF 520
def MO:Obj:=Q (y l0) #[s ye 844,s x55 845,s x56 846]
def MN:Obj:=fa (g2 51 6) afE
def MM:Obj:=cf afM afE 841 229 (.int 3 0) 522 847 848
def ML:Obj:=fb uZ 748 (g2 51 6) afE 527
def MK:Obj:=fa (g2 51 7) afD
def MJ:Obj:=F (y l1) #[s afL 850,s afD 851,s x1 852,.int 233 0,.int 1 0,z,z,.int 3 0,r 529,.bool true,.int 181 0,r 530,v,v,v,r 531,.int 853 0,.int 233 0,s x1 854]
def MI:Obj:=fb uZ 748 (g2 51 7) afD 532
def MH:Obj:=Q (y l0) #[s aj6 856,s abe 857]
def MG(P:Params):Obj:=⟨y l8,none,(.dict #[e P x8 789 (s uZ 748),e P xX 793 (.int 205 792),e P J0 799 (r 486),e P afQ 806 (r 493),e P afP 813 (r 500),e P afO 822 (r 507),e P afN 831 (r 514),e P abd 840 (r 521),e P afM 849 (r 528),e P afL 855 (r 533),e P xW 858 (r 534),e P x77 860 (r 537),e P x12 862 (r 538),e P Rc 863 v] 4), #[]⟩
def MF:Obj:=⟨y l6,none,(.cls ⟨HK,[y uB],[r 536,y uB],535,HK,true,[],[],false,none,false⟩), #[none,none,(some (s HK 782)),(some (s HK 790)),(some (.builtin R0)),(some (.bool true))]⟩
def ME:Obj:=F (y l14) #[s x77 859,r 536,.builtin l18,.builtin l19]
def MD:Obj:=F (y l14) #[s x12 861,r 536,.builtin l13,v]
def ZM:Obj:=F (y R3) #[r 536,r 536,r 536]
def ZL:Obj:=F (y l7) #[.builtin R1,r 536]
def T16(P:Params):BT:=(ir (il (T15 P) [(3,afb P),(12,aaK)]) 475 [af,fU,ZQ P,af,ZP,ZO,ZN,af,ao,Nf,Nc,Nb,af,ao,Na,af,M9,M8,M7,af,ao,M6,af,M5,M4,M3,af,ao,M0,af,MZ,MY,MX,af,ao,MW,af,MV,MU,MT,af,ao,MS,af,MR,MQ,MP,af,ao,MO,af,MN,MM,ML,af,ao,MK,MJ,MI,MH,MG P,MF,ME,MD,ZM,ZL])
def S16(P:Params)(os:OsState):SharedT:=⟨T16 P,541,lf, #[],⟨0,0,0,0⟩,866,os⟩
def Z3(P:Params):Obj:=ud (afb P) [(0,e P x3 165 (s CY 866))] [e P Tn 875 (r 547),e P Tj 885 (r 554),e P Ti 893 (r 561),e P Th 900 (r 568),e P Te 909 (r 575),e P Td 915 (r 580),e P Tc 923 (r 587),e P SY 934 (r 594),e P VA 950 (r 601)] 64
def QJ:Obj:=ap aaK [.int 239 0,z,r 546,.int 243 0,z,r 553,.int 249 0,z,r 560,.int 252 0,z,r 567,.int 254 0,z,r 574,.int 266 0,z,r 579,.int 280 0,z,r 586,.int 282 0,z,r 593,.int 291 0,z,r 600]
def MC:Obj:=Q (y l0) #[s aj5 871,s aoi 872]
def MB:Obj:=fa (g1 53) Tn
def MA:Obj:=cf Tn Tn 868 239 (.int 2 0) 541 873 874
def Mz:Obj:=fb CY 866 (g1 53) Tn 546
def My:Obj:=Q (y l0) #[s aj4 879,s afC 880,s aj3 881,s aj2 882]
def Mx:Obj:=fa (g1 54) Tj
def Mw:Obj:=cf Tj Tj 876 243 (.int 2 0) 548 883 884
def Mv:Obj:=fb CY 866 (g1 54) Tj 553
def Mu:Obj:=Q (y l0) #[s afB 889,s afC 890]
def Mt:Obj:=fa (g1 55) Ti
def Ms:Obj:=cf Ti Ti 886 249 (.int 1 0) 555 891 892
def Mr:Obj:=fb CY 866 (g1 55) Ti 560
def Mq:Obj:=Q (y l0) #[s aoh 897]
def Mp:Obj:=fa (g1 56) Th
def Mn:Obj:=cf Th Th 894 252 (.int 1 0) 562 898 899
def Mm:Obj:=fb CY 866 (g1 56) Th 567
def Ml:Obj:=Q (y l0) #[s afB 904,s aog 905,s aof 906]
def Mj:Obj:=fa (g1 57) Te
def Mi:Obj:=cf Te Te 901 254 (.int 1 0) 569 907 908
def Mh:Obj:=fb CY 866 (g1 57) Te 574
def Mf:Obj:=fa (g1 58) Td
def Me:Obj:=F (y l1) #[s Td 910,s Td 911,s x1 912,.int 266 0,.int 1 0,z,z,.int 3 0,r 576,.bool true,.int 181 0,r 577,v,v,v,r 578,.int 913 0,.int 266 0,s x1 914]
def Mb:Obj:=fb CY 866 (g1 58) Td 579
def Ma:Obj:=Q (y l0) #[s aj3 919,s aj2 920]
def L8:Obj:=fa (g1 59) Tc
def L7:Obj:=cf Tc Tc 916 280 (.int 2 0) 581 921 922
def L6:Obj:=fb CY 866 (g1 59) Tc 586
def L5:Obj:=Q (y l0) #[s aj1 927,s aj0 928,s aoe 929,s afB 930,s aod 931]
def L3:Obj:=fa (g1 60) SY
def LY:Obj:=cf SY SY 924 282 (.int 2 0) 588 932 933
def LX:Obj:=fb CY 866 (g1 60) SY 593
def LW:Obj:=Q (y l0) #[s aj5 938,s aj1 939,s aoc 940,s aob 941,s aj0 942,s aoa 943,s an9 944,s aj4 945,s afC 946,s an8 947]
def LV:Obj:=fa (g1 61) VA
def LU:Obj:=cf VA VA 935 291 (.int 1 0) 595 948 949
def LS:Obj:=fb CY 866 (g1 61) VA 600
def T17(P:Params):BT:=(ir (il (T16 P) [(3,Z3 P),(12,QJ)]) 541 [af,ao,MC,af,MB,MA,Mz,af,ao,My,af,Mx,Mw,Mv,af,ao,Mu,af,Mt,Ms,Mr,af,ao,Mq,af,Mp,Mn,Mm,af,ao,Ml,af,Mj,Mi,Mh,af,ao,Mf,Me,Mb,af,ao,Ma,af,L8,L7,L6,af,ao,L5,af,L3,LY,LX,af,ao,LW,af,LV,LU,LS])
def S17(P:Params)(os:OsState):SharedT:=⟨T17 P,602,lf, #[],⟨0,0,0,0⟩,951,os⟩
def HF(P:Params):Heap:=⟨⟨[boot_o_0 P,boot_o_1 P,boot_o_2 P,Z3 P,boot_o_4 P,boot_o_5 P,boot_o_6 P,boot_o_7 P,boot_o_8 P,boot_o_9 P,boot_o_10 P,af,QJ,aaJ,aaI,af,ao,aaH,af,aaG,aaF,aaE,aaz,fU,afm P,af,ao,afl,afk,af,aam P,aah,aae,afj,afi,oR,fU,afh P,af,ao,afa,ae9,af,ZU P,ZT,ae8,ae7,oR,fU,ae6 P,af,ao,ae5,ae4,af,ZK P,ZJ,ae3,ae2,oR,fU,ae1 P,af,ao,ae0,aeZ,af,ZI P,ZH,aeY,aeX,oR,fU,aeW P,af,ao,aeV,aeU,af,ZG P,ZF,aeT,aeS,oR,fU,aeR P,af,ao,aeQ,aeP,af,ZE P,ZD,aeO,aeN,ZC,ZA,af,ao,Zz,af,Q4,Q3,Q2,af,ao,Q0,af,QZ,QY,QX,af,ao,QW,af,QV,QU,QT,af,ao,QS,af,QO,QN,QM,QL,af,ao,QK,af,QI,QH,QG,af,ao,QF,af,QE,QD,QC,af,ao,QB,af,QA,Qz,Qy,af,ao,Qx,af,Qw,Qv,Qu,af,ao,Qt,af,Qs,Qq,Qp,af,ao,Qo,af,Qn,Qm,Ql,af,ao,Qk,Qj,Qi,af,ao,Qh,Qg,Qf,af,ao,Qe,Qd,Qc,af,ao,Qa,af,P9,P8,P7,af,ao,P6,af,P5,P4,P1,af,ao,PZ,PY,PX,af,ao,PV,af,PU,PN,PK,af,ao,PJ,af,PF,PC,PB,af,ao,Pz,Py,Px,af,fU,aaD P,af,aaC,aaB,aaA,af,ao,Pw,af,Pu,Pr,Pq,af,ao,Pp,af,Po,Pk,Pj,af,ao,Ph,af,Pg,Pf,Pe,af,Pc P,Pb,Pa,O9,aay,aax,iy,fU,aaw P,af,aav,aau,aat,af,ao,O8,af,O7,O6,O5,af,O4 P,O3,aas,aar,iy,fU,aaq P,af,aap,aao,aan,af,ao,O2,af,O1,O0,OZ,af,ao,OY,af,OX,OW,OV,af,ao,OT,af,OS,OR,OQ,af,ao,OP,af,OO,ON,OM,OL,OJ P,OI,aal,aak,iy,fU,aaj P,af,aai,aag,aaf,af,ao,OH,af,OG,OF,OE,af,ao,OD,af,OC,OB,OA,af,ao,Oz,af,Ox,Ov,Ou,af,ao,Ot,af,Oq,Oo,Om,Ol,Oj P,Oi,aad,aac,iy,fU,aab P,af,aaa,Z9,Z8,af,ao,Oh,af,Og,Of,Oe,af,ao,Od,af,Oc,Ob,Oa,af,ao,N9,af,N8,N7,N6,af,ao,N5,af,N4,N3,N2,N1,NZ P,NY,Z7,Z6,iy,fU,Z5 P,af,Z4,Z2,Z1,af,ao,NX,af,NW,NV,NU,af,ao,NT,af,NS,NR,NQ,af,ao,NP,af,NO,NN,NL,af,NK P,NJ,Z0,ZZ,iy,fU,ZY P,af,ZX,ZW,ZV,af,ao,NI,af,NH,NG,NF,af,ao,ND,af,NC,NB,Nz,Ny,Nx P,Nv,ZS,ZR,af,ao,Nu,af,Nt,Nr,Nq,af,ao,Np,af,Nn,Nm,Nk,af,ao,Nj,af,Ni,Nh,Ng,af,fU,ZQ P,af,ZP,ZO,ZN,af,ao,Nf,Nc,Nb,af,ao,Na,af,M9,M8,M7,af,ao,M6,af,M5,M4,M3,af,ao,M0,af,MZ,MY,MX,af,ao,MW,af,MV,MU,MT,af,ao,MS,af,MR,MQ,MP,af,ao,MO,af,MN,MM,ML,af,ao,MK,MJ,MI,MH,MG P,MF,ME,MD,ZM,ZL,af,ao,MC,af,MB,MA,Mz,af,ao,My,af,Mx,Mw,Mv,af,ao,Mu,af,Mt,Ms,Mr,af,ao,Mq,af,Mp,Mn,Mm,af,ao,Ml,af,Mj,Mi,Mh,af,ao,Mf,Me,Mb,af,ao,Ma,af,L8,L7,L6,af,ao,L5,af,L3,LY,LX,af,ao,LW,af,LV,LU,LS]⟩,lf⟩
def KF(P:Params):Frag:=(nat_lit 0,(boot_o_0 P))::(nat_lit 1,(boot_o_1 P))::(nat_lit 2,(boot_o_2 P))::(nat_lit 3,(Z3 P))::(nat_lit 4,(boot_o_4 P))::(nat_lit 5,(boot_o_5 P))::(nat_lit 6,(boot_o_6 P))::(nat_lit 7,(boot_o_7 P))::(nat_lit 8,(boot_o_8 P))::(nat_lit 9,(boot_o_9 P))::(nat_lit 10,(boot_o_10 P))::(nat_lit 11,af)::(nat_lit 12,QJ)::(nat_lit 13,aaJ)::(nat_lit 14,aaI)::(nat_lit 15,af)::(nat_lit 16,ao)::(nat_lit 17,aaH)::(nat_lit 18,af)::(nat_lit 19,aaG)::(nat_lit 20,aaF)::(nat_lit 21,aaE)::(nat_lit 22,aaz)::(nat_lit 29,af)::(nat_lit 30,(aam P))::(nat_lit 31,aah)::(nat_lit 32,aae)::(nat_lit 35,oR)::(nat_lit 42,af)::(nat_lit 43,(ZU P))::(nat_lit 44,ZT)::(nat_lit 47,oR)::(nat_lit 54,af)::(nat_lit 55,(ZK P))::(nat_lit 56,ZJ)::(nat_lit 59,oR)::(nat_lit 66,af)::(nat_lit 67,(ZI P))::(nat_lit 68,ZH)::(nat_lit 71,oR)::(nat_lit 78,af)::(nat_lit 79,(ZG P))::(nat_lit 80,ZF)::(nat_lit 83,oR)::(nat_lit 90,af)::(nat_lit 91,(ZE P))::(nat_lit 92,ZD)::(nat_lit 95,ZC)::(nat_lit 96,ZA)::(nat_lit 97,af)::(nat_lit 98,ao)::(nat_lit 99,Zz)::(nat_lit 100,af)::(nat_lit 101,Q4)::(nat_lit 102,Q3)::(nat_lit 103,Q2)::(nat_lit 104,af)::(nat_lit 105,ao)::(nat_lit 106,Q0)::(nat_lit 107,af)::(nat_lit 108,QZ)::(nat_lit 109,QY)::(nat_lit 110,QX)::(nat_lit 111,af)::(nat_lit 112,ao)::(nat_lit 113,QW)::(nat_lit 114,af)::(nat_lit 115,QV)::(nat_lit 116,QU)::(nat_lit 117,QT)::(nat_lit 118,af)::(nat_lit 119,ao)::(nat_lit 120,QS)::(nat_lit 121,af)::(nat_lit 122,QO)::(nat_lit 123,QN)::(nat_lit 124,QM)::(nat_lit 125,QL)::(nat_lit 126,af)::(nat_lit 127,ao)::(nat_lit 128,QK)::(nat_lit 129,af)::(nat_lit 130,QI)::(nat_lit 131,QH)::(nat_lit 132,QG)::(nat_lit 133,af)::(nat_lit 134,ao)::(nat_lit 135,QF)::(nat_lit 136,af)::(nat_lit 137,QE)::(nat_lit 138,QD)::(nat_lit 139,QC)::(nat_lit 140,af)::(nat_lit 141,ao)::(nat_lit 142,QB)::(nat_lit 143,af)::(nat_lit 144,QA)::(nat_lit 145,Qz)::(nat_lit 146,Qy)::(nat_lit 147,af)::(nat_lit 148,ao)::(nat_lit 149,Qx)::(nat_lit 150,af)::(nat_lit 151,Qw)::(nat_lit 152,Qv)::(nat_lit 153,Qu)::(nat_lit 154,af)::(nat_lit 155,ao)::(nat_lit 156,Qt)::(nat_lit 157,af)::(nat_lit 158,Qs)::(nat_lit 159,Qq)::(nat_lit 160,Qp)::(nat_lit 161,af)::(nat_lit 162,ao)::(nat_lit 163,Qo)::(nat_lit 164,af)::(nat_lit 165,Qn)::(nat_lit 166,Qm)::(nat_lit 167,Ql)::(nat_lit 168,af)::(nat_lit 169,ao)::(nat_lit 170,Qk)::(nat_lit 171,Qj)::(nat_lit 172,Qi)::(nat_lit 173,af)::(nat_lit 174,ao)::(nat_lit 175,Qh)::(nat_lit 176,Qg)::(nat_lit 177,Qf)::(nat_lit 178,af)::(nat_lit 179,ao)::(nat_lit 180,Qe)::(nat_lit 181,Qd)::(nat_lit 182,Qc)::(nat_lit 183,af)::(nat_lit 184,ao)::(nat_lit 185,Qa)::(nat_lit 186,af)::(nat_lit 187,P9)::(nat_lit 188,P8)::(nat_lit 189,P7)::(nat_lit 190,af)::(nat_lit 191,ao)::(nat_lit 192,P6)::(nat_lit 193,af)::(nat_lit 194,P5)::(nat_lit 195,P4)::(nat_lit 196,P1)::(nat_lit 197,af)::(nat_lit 198,ao)::(nat_lit 199,PZ)::(nat_lit 200,PY)::(nat_lit 201,PX)::(nat_lit 202,af)::(nat_lit 203,ao)::(nat_lit 204,PV)::(nat_lit 205,af)::(nat_lit 206,PU)::(nat_lit 207,PN)::(nat_lit 208,PK)::(nat_lit 209,af)::(nat_lit 210,ao)::(nat_lit 211,PJ)::(nat_lit 212,af)::(nat_lit 213,PF)::(nat_lit 214,PC)::(nat_lit 215,PB)::(nat_lit 216,af)::(nat_lit 217,ao)::(nat_lit 218,Pz)::(nat_lit 219,Py)::(nat_lit 220,Px)::(nat_lit 228,af)::(nat_lit 229,ao)::(nat_lit 230,Pw)::(nat_lit 231,af)::(nat_lit 232,Pu)::(nat_lit 233,Pr)::(nat_lit 234,Pq)::(nat_lit 235,af)::(nat_lit 236,ao)::(nat_lit 237,Pp)::(nat_lit 238,af)::(nat_lit 239,Po)::(nat_lit 240,Pk)::(nat_lit 241,Pj)::(nat_lit 242,af)::(nat_lit 243,ao)::(nat_lit 244,Ph)::(nat_lit 245,af)::(nat_lit 246,Pg)::(nat_lit 247,Pf)::(nat_lit 248,Pe)::(nat_lit 249,af)::(nat_lit 250,(Pc P))::(nat_lit 251,Pb)::(nat_lit 252,Pa)::(nat_lit 253,O9)::(nat_lit 256,iy)::(nat_lit 263,af)::(nat_lit 264,ao)::(nat_lit 265,O8)::(nat_lit 266,af)::(nat_lit 267,O7)::(nat_lit 268,O6)::(nat_lit 269,O5)::(nat_lit 270,af)::(nat_lit 271,(O4 P))::(nat_lit 272,O3)::(nat_lit 275,iy)::(nat_lit 282,af)::(nat_lit 283,ao)::(nat_lit 284,O2)::(nat_lit 285,af)::(nat_lit 286,O1)::(nat_lit 287,O0)::(nat_lit 288,OZ)::(nat_lit 289,af)::(nat_lit 290,ao)::(nat_lit 291,OY)::(nat_lit 292,af)::(nat_lit 293,OX)::(nat_lit 294,OW)::(nat_lit 295,OV)::(nat_lit 296,af)::(nat_lit 297,ao)::(nat_lit 298,OT)::(nat_lit 299,af)::(nat_lit 300,OS)::(nat_lit 301,OR)::(nat_lit 302,OQ)::(nat_lit 303,af)::(nat_lit 304,ao)::(nat_lit 305,OP)::(nat_lit 306,af)::(nat_lit 307,OO)::(nat_lit 308,ON)::(nat_lit 309,OM)::(nat_lit 310,OL)::(nat_lit 311,(OJ P))::(nat_lit 312,OI)::(nat_lit 315,iy)::(nat_lit 322,af)::(nat_lit 323,ao)::(nat_lit 324,OH)::(nat_lit 325,af)::(nat_lit 326,OG)::(nat_lit 327,OF)::(nat_lit 328,OE)::(nat_lit 329,af)::(nat_lit 330,ao)::(nat_lit 331,OD)::(nat_lit 332,af)::(nat_lit 333,OC)::(nat_lit 334,OB)::(nat_lit 335,OA)::(nat_lit 336,af)::(nat_lit 337,ao)::(nat_lit 338,Oz)::(nat_lit 339,af)::(nat_lit 340,Ox)::(nat_lit 341,Ov)::(nat_lit 342,Ou)::(nat_lit 343,af)::(nat_lit 344,ao)::(nat_lit 345,Ot)::(nat_lit 346,af)::(nat_lit 347,Oq)::(nat_lit 348,Oo)::(nat_lit 349,Om)::(nat_lit 350,Ol)::(nat_lit 351,(Oj P))::(nat_lit 352,Oi)::(nat_lit 355,iy)::(nat_lit 362,af)::(nat_lit 363,ao)::(nat_lit 364,Oh)::(nat_lit 365,af)::(nat_lit 366,Og)::(nat_lit 367,Of)::(nat_lit 368,Oe)::(nat_lit 369,af)::(nat_lit 370,ao)::(nat_lit 371,Od)::(nat_lit 372,af)::(nat_lit 373,Oc)::(nat_lit 374,Ob)::(nat_lit 375,Oa)::(nat_lit 376,af)::(nat_lit 377,ao)::(nat_lit 378,N9)::(nat_lit 379,af)::(nat_lit 380,N8)::(nat_lit 381,N7)::(nat_lit 382,N6)::(nat_lit 383,af)::(nat_lit 384,ao)::(nat_lit 385,N5)::(nat_lit 386,af)::(nat_lit 387,N4)::(nat_lit 388,N3)::(nat_lit 389,N2)::(nat_lit 390,N1)::(nat_lit 391,(NZ P))::(nat_lit 392,NY)::(nat_lit 395,iy)::(nat_lit 402,af)::(nat_lit 403,ao)::(nat_lit 404,NX)::(nat_lit 405,af)::(nat_lit 406,NW)::(nat_lit 407,NV)::(nat_lit 408,NU)::(nat_lit 409,af)::(nat_lit 410,ao)::(nat_lit 411,NT)::(nat_lit 412,af)::(nat_lit 413,NS)::(nat_lit 414,NR)::(nat_lit 415,NQ)::(nat_lit 416,af)::(nat_lit 417,ao)::(nat_lit 418,NP)::(nat_lit 419,af)::(nat_lit 420,NO)::(nat_lit 421,NN)::(nat_lit 422,NL)::(nat_lit 423,af)::(nat_lit 424,(NK P))::(nat_lit 425,NJ)::(nat_lit 428,iy)::(nat_lit 435,af)::(nat_lit 436,ao)::(nat_lit 437,NI)::(nat_lit 438,af)::(nat_lit 439,NH)::(nat_lit 440,NG)::(nat_lit 441,NF)::(nat_lit 442,af)::(nat_lit 443,ao)::(nat_lit 444,ND)::(nat_lit 445,af)::(nat_lit 446,NC)::(nat_lit 447,NB)::(nat_lit 448,Nz)::(nat_lit 449,Ny)::(nat_lit 450,(Nx P))::(nat_lit 451,Nv)::(nat_lit 454,af)::(nat_lit 455,ao)::(nat_lit 456,Nu)::(nat_lit 457,af)::(nat_lit 458,Nt)::(nat_lit 459,Nr)::(nat_lit 460,Nq)::(nat_lit 461,af)::(nat_lit 462,ao)::(nat_lit 463,Np)::(nat_lit 464,af)::(nat_lit 465,Nn)::(nat_lit 466,Nm)::(nat_lit 467,Nk)::(nat_lit 468,af)::(nat_lit 469,ao)::(nat_lit 470,Nj)::(nat_lit 471,af)::(nat_lit 472,Ni)::(nat_lit 473,Nh)::(nat_lit 474,Ng)::(nat_lit 482,af)::(nat_lit 483,ao)::(nat_lit 484,Nf)::(nat_lit 485,Nc)::(nat_lit 486,Nb)::(nat_lit 487,af)::(nat_lit 488,ao)::(nat_lit 489,Na)::(nat_lit 490,af)::(nat_lit 491,M9)::(nat_lit 492,M8)::(nat_lit 493,M7)::(nat_lit 494,af)::(nat_lit 495,ao)::(nat_lit 496,M6)::(nat_lit 497,af)::(nat_lit 498,M5)::(nat_lit 499,M4)::(nat_lit 500,M3)::(nat_lit 501,af)::(nat_lit 502,ao)::(nat_lit 503,M0)::(nat_lit 504,af)::(nat_lit 505,MZ)::(nat_lit 506,MY)::(nat_lit 507,MX)::(nat_lit 508,af)::(nat_lit 509,ao)::(nat_lit 510,MW)::(nat_lit 511,af)::(nat_lit 512,MV)::(nat_lit 513,MU)::(nat_lit 514,MT)::(nat_lit 515,af)::(nat_lit 516,ao)::(nat_lit 517,MS)::(nat_lit 518,af)::(nat_lit 519,MR)::(nat_lit 520,MQ)::(nat_lit 521,MP)::(nat_lit 522,af)::(nat_lit 523,ao)::(nat_lit 524,MO)::(nat_lit 525,af)::(nat_lit 526,MN)::(nat_lit 527,MM)::(nat_lit 528,ML)::(nat_lit 529,af)::(nat_lit 530,ao)::(nat_lit 531,MK)::(nat_lit 532,MJ)::(nat_lit 533,MI)::(nat_lit 534,MH)::(nat_lit 535,(MG P))::(nat_lit 536,MF)::(nat_lit 537,ME)::(nat_lit 538,MD)::(nat_lit 541,af)::(nat_lit 542,ao)::(nat_lit 543,MC)::(nat_lit 544,af)::(nat_lit 545,MB)::(nat_lit 546,MA)::(nat_lit 547,Mz)::(nat_lit 548,af)::(nat_lit 549,ao)::(nat_lit 550,My)::(nat_lit 551,af)::(nat_lit 552,Mx)::(nat_lit 553,Mw)::(nat_lit 554,Mv)::(nat_lit 555,af)::(nat_lit 556,ao)::(nat_lit 557,Mu)::(nat_lit 558,af)::(nat_lit 559,Mt)::(nat_lit 560,Ms)::(nat_lit 561,Mr)::(nat_lit 562,af)::(nat_lit 563,ao)::(nat_lit 564,Mq)::(nat_lit 565,af)::(nat_lit 566,Mp)::(nat_lit 567,Mn)::(nat_lit 568,Mm)::(nat_lit 569,af)::(nat_lit 570,ao)::(nat_lit 571,Ml)::(nat_lit 572,af)::(nat_lit 573,Mj)::(nat_lit 574,Mi)::(nat_lit 575,Mh)::(nat_lit 576,af)::(nat_lit 577,ao)::(nat_lit 578,Mf)::(nat_lit 579,Me)::(nat_lit 580,Mb)::(nat_lit 581,af)::(nat_lit 582,ao)::(nat_lit 583,Ma)::(nat_lit 584,af)::(nat_lit 585,L8)::(nat_lit 586,L7)::(nat_lit 587,L6)::(nat_lit 588,af)::(nat_lit 589,ao)::(nat_lit 590,L5)::(nat_lit 591,af)::(nat_lit 592,L3)::(nat_lit 593,LY)::(nat_lit 594,LX)::(nat_lit 595,af)::(nat_lit 596,ao)::(nat_lit 597,LW)::(nat_lit 598,af)::(nat_lit 599,LV)::(nat_lit 600,LU)::(nat_lit 601,LS)::[]
noncomputable def AF:List Nat:=[0,1,2,3,4,5,6,7,8,9,10,11,12,13,14,15,16,17,18,19,20,21,22,29,30,31,32,35,42,43,44,47,54,55,56,59,66,67,68,71,78,79,80,83,90,91,92,95,96,97,98,99,100,101,102,103,104,105,106,107,108,109,110,111,112,113,114,115,116,117,118,119,120,121,122,123,124,125,126,127,128,129,130,131,132,133,134,135,136,137,138,139,140,141,142,143,144,145,146,147,148,149,150,151,152,153,154,155,156,157,158,159,160,161,162,163,164,165,166,167,168,169,170,171,172,173,174,175,176,177,178,179,180,181,182,183,184,185,186,187,188,189,190,191,192,193,194,195,196,197,198,199,200,201,202,203,204,205,206,207,208,209,210,211,212,213,214,215,216,217,218,219,220,228,229,230,231,232,233,234,235,236,237,238,239,240,241,242,243,244,245,246,247,248,249,250,251,252,253,256,263,264,265,266,267,268,269,270,271,272,275,282,283,284,285,286,287,288,289,290,291,292,293,294,295,296,297,298,299,300,301,302,303,304,305,306,307,308,309,310,311,312,315,322,323,324,325,326,327,328,329,330,331,332,333,334,335,336,337,338,339,340,341,342,343,344,345,346,347,348,349,350,351,352,355,362,363,364,365,366,367,368,369,370,371,372,373,374,375,376,377,378,379,380,381,382,383,384,385,386,387,388,389,390,391,392,395,402,403,404,405,406,407,408,409,410,411,412,413,414,415,416,417,418,419,420,421,422,423,424,425,428,435,436,437,438,439,440,441,442,443,444,445,446,447,448,449,450,451,454,455,456,457,458,459,460,461,462,463,464,465,466,467,468,469,470,471,472,473,474,482,483,484,485,486,487,488,489,490,491,492,493,494,495,496,497,498,499,500,501,502,503,504,505,506,507,508,509,510,511,512,513,514,515,516,517,518,519,520,521,522,523,524,525,526,527,528,529,530,531,532,533,534,535,536,537,538,541,542,543,544,545,546,547,548,549,550,551,552,553,554,555,556,557,558,559,560,561,562,563,564,565,566,567,568,569,570,571,572,573,574,575,576,577,578,579,580,581,582,583,584,585,586,587,588,589,590,591,592,593,594,595,596,597,598,599,600,601]
def LZ:List Str:=[x5,x6,x14,x15,x16,x17,x19,x20,x21,x22,x23,x24,x25,x26,x27,x38,x39,x40,x41,x42,x43,x44,x45,x46,x47,x48,x49,x50,x51,x52,x63,x64,x65,x66,uG,x78,x81,x87,x94,x99,HL,aj9,Tq,Tp,To,HK,Tn,Tj,Ti,Th,Te,Td,Tc,SY]
def ev:Env:={scope:=pq.main.scope,locals:=mainNs,globals:=mainNs,cells:=[],code:=(.ref 13),frame:=some 14}
noncomputable abbrev cE:Code:= .body bE ev
noncomputable abbrev Bq:List Frame:=[topFrame ⟨0,0,0,0⟩]
def sl(i n:Nat):List Stmt:=(bE.drop i).take n
noncomputable abbrev an:Option Value:=(some (.ref 6))
def lg{w:World}{n:Nat}{s s':SharedT}{t:Thread}{f:Flow}{c:Code}{q:Pos}(h:W.Fast.tw10110043849684766642 W.Fast.tw14364793385576792824 pq w 11 an 1 n s t=some (f,s',c,q)):segRun treeTable pq w 11 an 1 n s.abs t=some (f,s'.abs,c,q):=segRun_of (by rw[W.Fast.te10110043849684766642,W.Fast.te14364793385576792824];exact h)
def lt{w:World}{n:Nat}{s:Shared}{t:Thread}{r:Option Shared}(h:W.Fast.tw14082659384304107361 W.Fast.tw14364793385576792824 pq w 11 an n s t=r):topRun treeTable pq w 11 an n s t=r:=by rw[W.Fast.te14082659384304107361,W.Fast.te14364793385576792824];exact h
def lp{w:World}{n:Nat}{s s':Shared}{p:Pos}(h:W.Fast.tw15667345088766844465 W.Fast.tw14364793385576792824 pq w 11 an n s (W.topStub pq)=some (s',⟨W.Fast.tw11892475500146522536 W.Fast.tw14364793385576792824 cE,cE,p,Bq⟩)):topGo treeTable pq w 11 an n s (topStub pq)=some (s',⟨denote treeTable cE,cE,p,Bq⟩):=by rw[W.Fast.te15667345088766844465,W.Fast.te11892475500146522536,W.Fast.te14364793385576792824];exact h
def pre(w:World)(os:OsState):topGo treeTable pq w 11 an 12 ⟨ąs w.params,Array.mk [],boot_drawn,boot_toks,os⟩ (topStub pq)=some ((S0 w.params os).abs,⟨denote treeTable cE,cE,⟨0,0,0,0⟩,Bq⟩):=lp (by kernel_rfl)
def uW(w:World)(os:OsState):segRun treeTable pq w 11 an 1 1 (S0 w.params os).abs (blockOf bE ev cE ⟨0,0,0,0⟩ Bq)=some (.next,(S1 w.params os).abs,cE,⟨0,0,0,0⟩):=lg (by kernel_rfl)
def g_1(w:World)(os:OsState):segRun treeTable pq w 11 an 1 225 (S1 w.params os).abs (piecesOf (sl 0 3) ev cE ⟨0,0,0,0⟩ Bq)=some (.next,(S2 w.params os).abs,cE,⟨5,0,6,8⟩):=lg (by kernel_rfl)
def g_2(w:World)(os:OsState):segRun treeTable pq w 11 an 1 214 (S2 w.params os).abs (piecesOf (sl 3 1) ev cE ⟨5,0,6,8⟩ Bq)=some (.next,(S3 w.params os).abs,cE,⟨7,0,8,8⟩):=lg (by kernel_rfl)
def g_3(w:World)(os:OsState):segRun treeTable pq w 11 an 1 214 (S3 w.params os).abs (piecesOf (sl 4 1) ev cE ⟨7,0,8,8⟩ Bq)=some (.next,(S4 w.params os).abs,cE,⟨9,0,10,8⟩):=lg (by kernel_rfl)
def g_4(w:World)(os:OsState):segRun treeTable pq w 11 an 1 214 (S4 w.params os).abs (piecesOf (sl 5 1) ev cE ⟨9,0,10,8⟩ Bq)=some (.next,(S5 w.params os).abs,cE,⟨11,0,12,8⟩):=lg (by kernel_rfl)
def g_5(w:World)(os:OsState):segRun treeTable pq w 11 an 1 214 (S5 w.params os).abs (piecesOf (sl 6 1) ev cE ⟨11,0,12,8⟩ Bq)=some (.next,(S6 w.params os).abs,cE,⟨13,0,14,8⟩):=lg (by kernel_rfl)
def g_6(w:World)(os:OsState):segRun treeTable pq w 11 an 1 398 (S6 w.params os).abs (piecesOf (sl 7 11) ev cE ⟨13,0,14,8⟩ Bq)=some (.next,(S7 w.params os).abs,cE,⟨41,0,41,5⟩):=lg (by kernel_rfl)
def g_7(w:World)(os:OsState):segRun treeTable pq w 11 an 1 396 (S7 w.params os).abs (piecesOf (sl 18 17) ev cE ⟨41,0,41,5⟩ Bq)=some (.next,(S8 w.params os).abs,cE,⟨91,0,91,7⟩):=lg (by kernel_rfl)
def g_8(w:World)(os:OsState):segRun treeTable pq w 11 an 1 377 (S8 w.params os).abs (piecesOf (sl 35 5) ev cE ⟨91,0,91,7⟩ Bq)=some (.next,(S9 w.params os).abs,cE,⟨102,0,111,16⟩):=lg (by kernel_rfl)
def g_9(w:World)(os:OsState):segRun treeTable pq w 11 an 1 244 (S9 w.params os).abs (piecesOf (sl 40 1) ev cE ⟨102,0,111,16⟩ Bq)=some (.next,(S10 w.params os).abs,cE,⟨112,0,115,25⟩):=lg (by kernel_rfl)
def apN(w:World)(os:OsState):segRun treeTable pq w 11 an 1 340 (S10 w.params os).abs (piecesOf (sl 41 1) ev cE ⟨112,0,115,25⟩ Bq)=some (.next,(S11 w.params os).abs,cE,⟨116,0,129,16⟩):=lg (by kernel_rfl)
def apM(w:World)(os:OsState):segRun treeTable pq w 11 an 1 344 (S11 w.params os).abs (piecesOf (sl 42 1) ev cE ⟨116,0,129,16⟩ Bq)=some (.next,(S12 w.params os).abs,cE,⟨130,0,147,16⟩):=lg (by kernel_rfl)
def apL(w:World)(os:OsState):segRun treeTable pq w 11 an 1 340 (S12 w.params os).abs (piecesOf (sl 43 1) ev cE ⟨130,0,147,16⟩ Bq)=some (.next,(S13 w.params os).abs,cE,⟨148,0,161,16⟩):=lg (by kernel_rfl)
def apK(w:World)(os:OsState):segRun treeTable pq w 11 an 1 307 (S13 w.params os).abs (piecesOf (sl 44 1) ev cE ⟨148,0,161,16⟩ Bq)=some (.next,(S14 w.params os).abs,cE,⟨162,0,171,16⟩):=lg (by kernel_rfl)
def apJ(w:World)(os:OsState):segRun treeTable pq w 11 an 1 391 (S14 w.params os).abs (piecesOf (sl 45 6) ev cE ⟨162,0,171,16⟩ Bq)=some (.next,(S15 w.params os).abs,cE,⟨197,0,204,15⟩):=lg (by kernel_rfl)
def apI(w:World)(os:OsState):segRun treeTable pq w 11 an 1 442 (S15 w.params os).abs (piecesOf (sl 51 1) ev cE ⟨197,0,204,15⟩ Bq)=some (.next,(S16 w.params os).abs,cE,⟨205,0,237,19⟩):=lg (by kernel_rfl)
def apH(w:World)(os:OsState):segRun treeTable pq w 11 an 1 289 (S16 w.params os).abs (piecesOf (sl 52 10) ev cE ⟨205,0,237,19⟩ Bq)=some (.next,(S17 w.params os).abs,cE,⟨291,0,307,15⟩):=lg (by kernel_rfl)
def fin(w:World)(os:OsState):topRun treeTable pq w 11 an 2 (S17 w.params os).abs ⟨doneF .next,cE,⟨291,0,307,15⟩,Bq⟩=some ⟨HF w.params, #[],⟨0,0,0,0⟩,951,os⟩:=lt (by kernel_rfl)
def ami:bE=sl 0 3++(sl 3 1++(sl 4 1++(sl 5 1++(sl 6 1++(sl 7 11++(sl 18 17++(sl 35 5++(sl 40 1++(sl 41 1++(sl 42 1++(sl 43 1++(sl 44 1++(sl 45 6++(sl 51 1++(sl 52 10++[]))))))))))))))):=by kernel_rfl
def rest(w:World)(os:OsState):topRun treeTable pq w 11 an (225+(214+(214+(214+(214+(398+(396+(377+(244+(340+(344+(340+(307+(391+(442+(289+(2))))))))))))))))) (S1 w.params os).abs (restOf bE ev cE ⟨0,0,0,0⟩ Bq)=some ⟨HF w.params, #[],⟨0,0,0,0⟩,951,os⟩:=(congrArg (λ l=>topRun treeTable pq w 11 an (225+(214+(214+(214+(214+(398+(396+(377+(244+(340+(344+(340+(307+(391+(442+(289+(2))))))))))))))))) (S1 w.params os).abs (restOf l ev cE ⟨0,0,0,0⟩ Bq)) ami).trans (Ŝ (g_1 w os) (Ŝ (g_2 w os) (Ŝ (g_3 w os) (Ŝ (g_4 w os) (Ŝ (g_5 w os) (Ŝ (g_6 w os) (Ŝ (g_7 w os) (Ŝ (g_8 w os) (Ŝ (g_9 w os) (Ŝ (apN w os) (Ŝ (apM w os) (Ŝ (apL w os) (Ŝ (apK w os) (Ŝ (apJ w os) (Ŝ (apI w os) (Ŝ (apH w os) (piece_nil (fin w os))))))))))))))))))
def run(w:World)(os:OsState):topRun treeTable pq w 11 an (12+(1+(225+(214+(214+(214+(214+(398+(396+(377+(244+(340+(344+(340+(307+(391+(442+(289+(2))))))))))))))))))) ⟨ąs w.params,Array.mk [],boot_drawn,boot_toks,os⟩ (topStub pq)=some ⟨HF w.params, #[],⟨0,0,0,0⟩,951,os⟩:=go_top (pre w os) (piece_block (uW w os) (rest w os))
noncomputable abbrev qv:Program:=view pq [61]
def lk1(w:World)(os:OsState):(staticsOk (importedModules pq.main.body) (ąs w.params) (HF w.params)&&namesBound pq (HF w.params)&&gensDone (Shared.mk (HF w.params) #[] ⟨0,0,0,0⟩ 951 os)&&laidKept (ąs w.params) (HF w.params))=true:=by kernel_rfl
def lk2(w:World)(os:OsState):openSeen qv LZ (importedModules pq.main.body) (λ _=>true) true (Shared.mk (HF w.params) #[] ⟨0,0,0,0⟩ 951 os)=openGood qv LZ:=by rw[W.Fast.te4187177175401517315];kernel_rfl
def lk3(w:World)(os:OsState):X.obsZ AF (Shared.mk (HF w.params) #[] ⟨0,0,0,0⟩ 951 os)=X.valZ KF 602 951 w:=by kernel_rfl
def hl1:LeftO pq qv LZ (λ _=>true) (X.obsZ AF) (X.valZ KF 602 951) 9992:=LeftO.of_pieces (boot_open (by kernel_rfl) (by kernel_rfl) (λ s=>by kernel_rfl)) (m₀:=11) (ann:=an) (λ w=>by kernel_rfl) run (by kernel_rfl) (λ w=>funext λ os=>looks_pair (lk1 w os) (looks_pair (lk2 w os) (lk3 w os)))
def hl:LeftO PySem.Challenge.pw_beamtable_k12_back_again (view PySem.Challenge.pw_beamtable_k12_back_again [61]) LZ (λ _=>true) (X.obsZ AF) (X.valZ KF 602 951) 9992:=by rw[W.Fast.te10741453144623551157];exact hl1
end KO
end
section
namespace L2
open PySem PySem.Spec PyProof.Rows
noncomputable abbrev Key:=Sum Int Str
noncomputable def zE:Key->Value->Bool
 | .inl k,v=>Value.isInt k v
 | .inr x,v=>Value.isStrOf x v
noncomputable def ape(w:World):Key->Int
 | .inl k=>hashInt k
 | .inr x=>hashStr w x
def dH:∀{k:Key} {v:Value},zE k v=true->(∃i t,k=Sum.inl i/\v=Value.int i t)\/(∃x t,k=Sum.inr x/\v=Value.str x t)
 | .inl i,v,h=>by obtain ⟨t,e⟩:=Value.isInt_shape (k:=i) (v:=v) h;exact .inl ⟨i,t,rfl,e⟩
 | .inr x,v,h=>by obtain ⟨t,e⟩:=Value.isStrOf_shape (x:=x) (v:=v) h;exact .inr ⟨x,t,rfl,e⟩
def UL(i:Int)(t:Tok):zE (.inl i) (.int i t)=true:=by simp[zE,Value.isInt]
def UK(x:Str)(t:Tok):zE (.inr x) (.str x t)=true:=by simp[zE,Value.isStrOf]
def ahx(a b:Int):decide ((Sum.inl a:Key)=Sum.inl b)=(a==b):=by
 by_cases e:a=b
 ·subst e;simp
 ·have h:¬(Sum.inl a:Key)=Sum.inl b:=λ q=>e (Sum.inl.inj q);rw[decide_eq_false h];exact (beq_eq_false_iff_ne.mpr e).symm
def ahu(a b:Str):decide ((Sum.inr a:Key)=Sum.inr b)=decide (a=b):=by
 by_cases e:a=b
 ·subst e;simp
 ·have h:¬(Sum.inr a:Key)=Sum.inr b:=λ q=>e (Sum.inr.inj q);rw[decide_eq_false h,decide_eq_false e]
def ahw(a:Int)(b:Str):decide ((Sum.inl a:Key)=Sum.inr b)=false:=decide_eq_false (λ q=>nomatch q)
def ahv(a:Str)(b:Int):decide ((Sum.inr a:Key)=Sum.inl b)=false:=decide_eq_false (λ q=>nomatch q)
noncomputable def cD(prog:Program)(w:World):PySem.KeyKind prog w Key where
 is:=zE
 hash:=ape w
 inj:=λ v a b ha hb=>by
  rcases dH ha with ⟨i,t,rfl,rfl⟩|⟨x,t,rfl,rfl⟩
  ·rcases dH hb with ⟨j,u,rfl,e⟩|⟨y,u,rfl,e⟩
   ·injection e with e1 _;rw[e1]
   ·exact nomatch e
  ·rcases dH hb with ⟨j,u,rfl,e⟩|⟨y,u,rfl,e⟩
   ·exact nomatch e
   ·injection e with e1 _;rw[e1]
 byValue:=λ k v h=>by
  rcases dH h with ⟨i,t,rfl,rfl⟩|⟨x,t,rfl,rfl⟩<;>rfl
 pyHash:=λ hv h=>by
  rcases dH hv with ⟨i,t,rfl,rfl⟩|⟨x,t,rfl,rfl⟩
  ·exact wpAny_pyHash_int h
  ·exact wpAny_pyHash_str h
 eqBool:=λ hu hv h=>by
  rcases dH hu with ⟨i,t,rfl,rfl⟩|⟨x,t,rfl,rfl⟩
  ·rcases dH hv with ⟨j,u,rfl,rfl⟩|⟨y,u,rfl,rfl⟩
   ·rw[ahx] at h;exact Ąb h
   ·rw[ahw] at h;exact SeqAt.EqAt.int_str i t y u _ _ _ _ h
  ·rcases dH hv with ⟨j,u,rfl,rfl⟩|⟨y,u,rfl,rfl⟩
   ·rw[ahv] at h;exact SeqAt.EqAt.str_int x t j u _ _ _ _ h
   ·rw[ahu] at h;exact wpAny_eqBool_str h
 «strs»:=λ k x t v h=>by
  rcases dH h with ⟨i,u,rfl,e⟩|⟨y,u,rfl,e⟩
  ·exact nomatch e
  ·injection e with e1 _
   subst e1
   cases v<;>rfl
def ahi(prog:Program)(w:World)(k:Key)(v:Value):(cD prog w).is k v=zE k v:=rfl
def IP(prog:Program)(w:World)(i:Int)(t:Tok):(cD prog w).is (.inl i) (.int i t)=true:=UL i t
def IM(prog:Program)(w:World)(x:Str)(t:Tok):(cD prog w).is (.inr x) (.str x t)=true:=UK x t
inductive V where
 |cU|bl (b:Bool)|int (i:Int)|str (x:Str)|byt (b:Array UInt8)|flt (b:UInt64)|ref (a:Addr)|ty (n:String)
 deriving DecidableEq
noncomputable def RelV:V->Value->Prop
 | .cU,u=>u=Value.none
 | .bl b,u=>u=Value.bool b
 | .int i,u=>∃t,u=Value.int i t
 | .str x,u=>∃t,u=Value.str x t
 | .byt b,u=>∃t,u=Value.bytes b t
 | .flt b,u=>∃t,u=Value.float b t
 | .ref a,u=>u=Value.ref a
 | .ty n,u=>u=Value.type n
abbrev Vals:List V->List Value->Prop:=Paired RelV
theorem Vals.length{xs:List V}{us:`Ð}(r:Vals xs us):xs.length=us.length:=Ąx r
theorem Vals.get:∀{xs:List V} {us:`Ð} {i:Nat} {x:V},Vals xs us->xs[i]? =some x->∃u,us[i]? =some u/\RelV x u
 |_,_,_,_,.nil,e=>by simp at e
 |_,_,0,_,.cons r _,e=>by simp at e;subst e;exact ⟨_,rfl,r⟩
 |_,_,i+1,x,.cons _ t,e=>by obtain ⟨u,h1,h2⟩:=Vals.get (i:=i) (x:=x) t (by simpa using e);exact ⟨u,by simpa using h1,h2⟩
theorem Vals.set(r:RelV x u):∀{xs:List V} {us:`Ð} (i:Nat),Vals xs us->Vals (xs.set i x) (us.set i u)
 |_,_,_,.nil=> .nil
 |_,_,0,.cons _ t=> .cons r t
 |_,_,i+1,.cons q t=> .cons q (Vals.set r i t)
theorem Vals.append:∀{xs ys:List V} {us ws:`Ð},Vals xs us->Vals ys ws->Vals (xs++ys) (us++ws)
 |_,_,_,_,.nil,s=>s
 |_,_,_,_,.cons r t,s=> .cons r (Vals.append t s)
theorem Vals.take:∀{xs:List V} {us:`Ð} (n:Nat),Vals xs us->Vals (xs.take n) (us.take n)
 |_,_,0,_=> .nil
 |_,_,_+1,.nil=> .nil
 |_,_,n+1,.cons r t=> .cons r (Vals.take n t)
theorem Vals.drop:∀{xs:List V} {us:`Ð} (n:Nat),Vals xs us->Vals (xs.drop n) (us.drop n)
 |_,_,0,r=>r
 |_,_,_+1,.nil=> .nil
 |_,_,n+1,.cons _ t=>Vals.drop n t
def rS:Option V->Option Value->Prop
 |some v,some u=>RelV v u
 |none,none=>True
 |_,_=>False
def KV{κ:Type}:List (κ×V)->List (κ×Value)->Prop:=Paired λ(p:κ×V) (q:κ×Value)=>p.1=q.1/\RelV p.2 q.2
noncomputable def kV:Key->V
 | .inl i=> .int i
 | .inr x=> .str x
inductive HO where
 /-- a list -/
 |lst (xs:List V)
 /-- a tuple (never changes) -/
 |tup (xs:List V)
 /-- a dict aka keys are ints and texts;one aka keys are tuples of ints and texts (D5 empty one is both) -/
 |dK (kvs:List (Key×V))|dT (kvs:List (List Key×V))
 /-- a set of ints:its members,its size -/
 |set (S:Int->Bool) (n:Nat)
 /-- an instance of D5 class at C,its dict at dx,its attributes -/
 |ins (C dx:Addr) (fs:List (Str×V))
 /-- D5 dict of D5 instance at x -/
 |own (x:Addr)
 /-- D5 dict of an exception -/
 |xd (fs:List (Str×V))
 /-- a bound method,f of x -/
 |met (f x:Addr)
 /-- a range object lo,lo+1,.. below hi -/
 |rng (lo hi:Int)
 /-- a thing HZ is known to D5 object (D5 script;a dict while a loop walks it):read,never written while it is so -/
 |CU (o:Obj) (u:HO)
 /-- a code alc table -/
 |sf (ps:Array Value)
 /-- any other thing,by what is true of its one object (a def of aqL own:ato a S n:=HO.ext λ h=> ..) -/
 |ext (φ:Heap->Prop)
noncomputable abbrev Hp:=Addr->Option HO
noncomputable def upd(H:Hp)(a:Addr)(o:HO):Hp:=λ b=>if b=a then some o else H b
def aC{H:Hp}{a:Addr}{o:HO}:upd H a o a=some o:=by unfold upd;rw[if_pos rfl]
def aE{H:Hp}{a b:Addr}{o:HO}(h:b≠a):upd H a o b=H b:=by unfold upd;rw[if_neg h]
def aln{H:Hp}{a b:Addr}{o u:HO}(h:H a=some o)(h':H b=some u)(d:o≠u):a≠b:=by intro e;subst e;rw[h] at h';exact d (ĝ h')
def jN{H:Hp}{a b:Addr}{o:HO}(h:H a=some o)(h':H b=none):a≠b:=by intro e;subst e;rw[h] at h';cases h'
section
variable(P:Program)(w:World)
def eV(H:Hp)(h:Heap)(a:Addr):HO->Prop
 | .lst xs=>xs.length<=Đ/\∃(its:`Ð) (n:Nat),Vals xs its/\h.get? a=some {cls:= .type "list",data:= .seq its.toArray n}
 | .tup xs=>xs.length<=Đ/\∃its:List Value,Vals xs its/\IsTup h a its.toArray
 | .dK kvs=>kvs.length<=Đ/\(a==sysModules)=false/\∃vs,KV kvs vs/\h.DictOf (cD P w) a vs
 | .dT kvs=>kvs.length<=Đ/\(a==sysModules)=false/\∃xs:List (List Key×Addr×Value),Paired (λ(p:List Key×V) (q:List Key×Addr×Value)=>p.1=q.1/\H q.2.1=some (.tup (p.1.map kV))/\RelV p.2 q.2.2) kvs xs/\∃o es ep,h.get? a=some o/\o.ExactDict/\o.data= .dict es ep/\es.toList=xs.map (entryOfKey (tupleKind (cD P w)))/\(xs.map (·.1)).Nodup
 | .set S n=>h.SetOf (intKind P w) a S n
 | .ins C dx fs=>H dx=some (.own a)/\fs.length<=1000/\dx≠a/\h.get? a=some (Ŕ C dx)/\∃mA,h.Ns1 dx mA/\(∀f,rS (fs.lookup f) (mA f))/\ąh mA (fs.map (·.1))
 | .own _=>∃o,h.get? a=some o
 | .xd fs=>∃mA,h.Ns1 a mA/\∀f,rS (fs.lookup f) (mA f)
 | .rng lo hi=>∃t u v,h.get? a=some {cls:= .type "range",data:= .fields #[.int lo t,.int hi u,.int 1 v]}
 | .CU o u=>h.get? a=some o/\eV H h a u
 | .sf ps=>h.get? a=some {cls:= .none,data:= .fields ps}
 | .met f x=>h.get? a=some (ąt (.ref f) (.ref x))
 | .ext φ=>φ h/\(∃o,h.get? a=some o)/\∀h1 h2:Heap,φ h1->(∀o,h1.get? a=some o->h2.get? a=some o)->φ h2
def uX(H:Hp)(h:Heap):Prop:=∀a o,H a=some o->eV P w H h a o
end
section
variable{P:Program}{w:World}{H H':Hp}{h h':Heap}{a:Addr}{o:HO}
theorem eV.lt(x:eV P w H h a o):a<h.objs.size:=by
 cases o with
 |lst xs=>obtain ⟨_,_,_,_,e⟩:=x;exact č e
 |tup xs=>obtain ⟨_,_,_,p⟩:=x;exact p.lt
 |dK kvs=>obtain ⟨_,_,_,_,o,_,_,e,_⟩:=x;exact č e
 |dT kvs=>obtain ⟨_,_,_,_,o,_,_,e,_⟩:=x;exact č e
 |set S n=>obtain ⟨o,_,_,_,e,_⟩:=x;exact č e
 |ins C dx fs=>obtain ⟨_,_,_,e,_⟩:=x;exact č e
 |own y=>obtain ⟨_,e⟩:=x;exact č e
 |xd fs=>obtain ⟨_,⟨_,_,_,e,_⟩,_⟩:=x;exact č e
 |rng lo hi=>obtain ⟨_,_,_,e⟩:=x;exact č e
 |CU ob u=>obtain ⟨e,_⟩:=x;exact č e
 |sf ps=>exact č (show h.get? a=some _ from x)
 |met f y=>exact č (show h.get? a=some _ from x)
 |ext φ=>obtain ⟨_,⟨_,e⟩,_⟩:=x;exact č e
theorem Paired.acF{F G:α->β->Prop}:∀{l₁:List α} {l₂:List β},Paired F l₁ l₂->(∀a b,F a b->G a b)->Paired G l₁ l₂
 |_,_,.nil,_=> .nil
 |_,_,.cons r t,f=> .cons (f _ _ r) (Paired.acF t f)
def eV.stay(x:eV P w H h a o)(k:∀b u,(b=a\/H b=some (.own a))->h.get? b=some u->h'.get? b=some u) (ho:∀b,H b=some (.own a)->H' b=some (.own a)) (ht:∀b xs,H b=some (.tup xs)->H' b=some (.tup xs)):eV P w H' h' a o:=by
 induction o with
 |lst xs=>obtain ⟨z,its,n,r,e⟩:=x;exact ⟨z,its,n,r,k _ _ (.inl rfl) e⟩
 |tup xs=>obtain ⟨z,its,r,ob,e,c⟩:=x;exact ⟨z,its,r,ob,k _ _ (.inl rfl) e,c⟩
 |dK kvs=>obtain ⟨z,y,vs,r,ob,es,ep,e,c⟩:=x;exact ⟨z,y,vs,r,ob,es,ep,k _ _ (.inl rfl) e,c⟩
 |dT kvs=>obtain ⟨z,y,xs,r,ob,es,ep,e,c⟩:=x;exact ⟨z,y,xs,Paired.acF r λ p q z=>⟨z.1,ht _ _ z.2.1,z.2.2⟩,ob,es,ep,k _ _ (.inl rfl) e,c⟩
 |set S n=>obtain ⟨ob,es,ep,t,e,c⟩:=x;exact ⟨ob,es,ep,t,k _ _ (.inl rfl) e,c⟩
 |ins C dx fs=>obtain ⟨d,z,ne,e,mA,⟨od,es,ep,e2,c⟩,r⟩:=x;exact ⟨ho _ d,z,ne,k _ _ (.inl rfl) e,mA,⟨od,es,ep,k _ _ (.inr d) e2,c⟩,r⟩
 |own y=>obtain ⟨ob,e⟩:=x;exact ⟨ob,k _ _ (.inl rfl) e⟩
 |xd fs=>obtain ⟨mA,⟨od,es,ep,e,c⟩,r⟩:=x;exact ⟨mA,⟨od,es,ep,k _ _ (.inl rfl) e,c⟩,r⟩
 |rng lo hi=>obtain ⟨t,u,v,e⟩:=x;exact ⟨t,u,v,k _ _ (.inl rfl) e⟩
 |CU ob u ih=>obtain ⟨e,q⟩:=x;exact ⟨k _ _ (.inl rfl) e,ih q⟩
 |sf ps=>have e:h.get? a=some {cls:= .none,data:= .fields ps}:=x;show h'.get? a=some {cls:= .none,data:= .fields ps};exact k a _ (.inl rfl) e
 |met f y=>have e:h.get? a=some (ąt (.ref f) (.ref y)):=x;show h'.get? a=some (ąt (.ref f) (.ref y));exact k a _ (.inl rfl) e
 |ext φ=>obtain ⟨p,⟨o,e⟩,st⟩:=x;exact ⟨st _ _ p λ o q=>k _ _ (.inl rfl) q,⟨o,k _ _ (.inl rfl) e⟩,st⟩
theorem uX.lt(x:uX P w H h)(e:H a=some o):a<h.objs.size:=(x a o e).lt
def uX.fresh(x:uX P w H h)(e:h.objs.size<=a):H a=none:=by
 cases q:H a with
 |none=>rfl
 |some u=>exact absurd (Ē (x.lt q) e) (Ŏ _)
def uX.kept(x:uX P w H h)(k:∀b u,h.get? b=some u->h'.get? b=some u):uX P w H h':=λ a o e=>(x a o e).stay (λ b u _ q=>k b u q) (λ _ q=>q) λ _ _ q=>q
def uX.laid(x:uX P w H h)(k:∀b u,h.get? b=some u->h'.get? b=some u)(hp:h.objs.size<=a)(new:eV P w (upd H a o) h' a o):uX P w (upd H a o) h':=λ b u e=>by
 have hn:=x.fresh hp;by_cases hb:b=a
 ·subst hb;rw[aC] at e;cases e;exact new
 ·rw[aE hb] at e;exact (x b u e).stay (λ c v _ q=>k c v q) (λ c q=>by rw[aE (jN q hn)];exact q) λ c xs q=>by rw[aE (jN q hn)];exact q
end
def Rd(H:Hp)(a:Addr)(u:HO):Prop:=H a=some u\/∃o,H a=some (.CU o u)
def Rd.ok{P:Program}{w:World}{H:Hp}{h:Heap}{a:Addr}{u:HO}(r:Rd H a u)(x:uX P w H h):eV P w H h a u:=by
 rcases r with r|⟨o,r⟩
 ·exact x a u r
 ·obtain ⟨_,q⟩:=x a _ r;exact q
def Mut:Option HO->Prop
 |some (.lst _)=>True
 |some (.dK _)=>True
 |some (.dT _)=>True
 |some (.set _ _)=>True
 |some (.ins _ _ _)=>True
 |some (.ext _)=>True
 |_=>False
section
variable{P:Program}{w:World}{H:Hp}{h h':Heap}{x e:Addr}{o':HO}
def uX.write(ok:uX P w H h)(mu:Mut (H x))(he:e=x\/H e=some (.own x))(k:∀b u,b≠e->h.get? b=some u->h'.get? b=some u)(heo:∃u,h'.get? e=some u) (new:eV P w (upd H x o') h' x o'):uX P w (upd H x o') h':=λ b u q=>by
 have alh:∀c y,H c=some (.own y)->c≠x:=λ c y r z=>by subst z;rw[r] at mu;exact mu
 have aoV:∀c xs,H c=some (.tup xs)->c≠x:=λ c xs r z=>by subst z;rw[r] at mu;exact mu
 by_cases hb:b=x
 ·subst hb;rw[aC] at q;cases q;exact new
 ·rw[aE hb] at q;by_cases hbe:b=e
  ·have q':H b=some (.own x):=by
    rcases he with z|z
    ·exact absurd (hbe.trans z) hb
    ·rw[hbe];exact z
   rw[q] at q';cases q';obtain ⟨v,hv⟩:=heo;exact ⟨v,by rw[hbe];exact hv⟩
  ·refine (ok b u q).stay (λ c v hc r=>k c v ?_ r) (λ c r=>by rw[aE (alh c b r)];exact r) λ c xs r=>by rw[aE (aoV c xs r)];exact r
   rcases hc with rfl|hc
   ·exact hbe
   ·rintro rfl
    rcases he with z|z
    ·exact alh c b hc z
    ·rw[hc] at z;cases z;exact hb rfl
end
structure Un(fs ex:List Addr)(H H':Hp)(h h':Heap):Prop where
 keep:∀b o,h.get? b=some o->H b=none->b∉fs->b∉ex->h'.get? b=some o
 slot:∀b o,h.get? b=some o->H b=none->b∈fs->b∉ex->∃sl,h'.get? b=some {o with slots:=sl}
 free:∀b o,h.get? b=some o->H b=none->b∉ex->H' b=none
 there:∀b o,h.get? b=some o->b∉ex->∃o',h'.get? b=some o'
 tups:∀b xs,H b=some (.tup xs)->H' b=some (.tup xs)
 z8:∀b o u,H b=some (.CU o u)->H' b=some (.CU o u)
 AW:∀b ps,H b=some (.sf ps)->∃more,H' b=some (.sf (ps++more))
section
variable{fs fs' ex ex':List Addr}{H H1 H2:Hp}{h h1 h2 h':Heap}{a x e:Addr}{o:HO}
def Un.any(u:Un fs ex H H1 h h1){b:Addr}{ob:Obj}(q:h.get? b=some ob)(n:H b=none)(hx:b∉ex):∃sl,h1.get? b=some {ob with slots:=sl}:=by
 by_cases hb:b∈fs
 ·exact u.slot b ob q n hb hx
 ·exact ⟨ob.slots,u.keep b ob q n hb hx⟩
def Un.kept(k:∀b u,h.get? b=some u->h'.get? b=some u):Un fs ex H H h h':=⟨λ b ob q _ _ _=>k b ob q,λ b ob q _ _ _=>⟨ob.slots,k b ob q⟩,λ _ _ _ n _=>n,λ b ob q _=>⟨ob,k b ob q⟩,λ _ _ q=>q,λ _ _ _ q=>q,λ _ ps q=>⟨#[],by rw[q];simp⟩⟩
def Un.refl:Un fs ex H H h h:=Un.kept λ _ _ q=>q
def Un.laid(k:∀b u,h.get? b=some u->h'.get? b=some u)(hp:h.objs.size<=a)(hn:H a=none):Un fs ex H (upd H a o) h h' where
 keep:=λ b u q _ _ _=>k b u q
 slot:=λ b u q _ _ _=>⟨u.slots,k b u q⟩
 free:=λ b u q n _=>by rw[aE (ĕ (Ē (č q) hp))];exact n
 there:=λ b u q _=>⟨u,k b u q⟩
 tups:=λ b xs q=>by rw[aE (jN q hn)];exact q
 z8:=λ b u xs q=>by rw[aE (jN q hn)];exact q
 AW:=λ b ps q=>⟨#[],by rw[aE (jN q hn),q];simp⟩
def Un.write(mu:Mut (H x))(he:e=x\/H e=some (.own x))(k:∀b u,b≠e->h.get? b=some u->h'.get? b=some u)(heo:∃u,h'.get? e=some u):Un fs ex H (upd H x o) h h':=by
 have hx:∀b,H b=none->b≠x:=λ b n z=>by subst z;rw[n] at mu;exact mu
 have hb:∀b,H b=none->b≠e:=λ b n z=>by
  subst z;rcases he with r|r
  ·exact hx b n r
  ·rw[n] at r;cases r
 have hm:∀b u,H b=some u->¬Mut (some u)->b≠x:=λ b u q nm z=>by subst z;rw[q] at mu;exact nm mu
 refine ⟨λ b u q n _ _=>k b u (hb b n) q,λ b u q n _ _=>⟨u.slots,k b u (hb b n) q⟩,λ b u q n _=>by rw[aE (hx b n)];exact n,λ b u q _=>?_,λ b xs q=>by rw[aE (hm b _ q λ z=>z)];exact q,λ b u xs q=>by rw[aE (hm b _ q λ z=>z)];exact q,λ b ps q=>⟨#[],by rw[aE (hm b _ q λ z=>z),q];simp⟩⟩;by_cases hbe:b=e
 ·subst hbe;exact heo
 ·exact ⟨u,k b u hbe q⟩
end
noncomputable def trk(h:Heap)(H:Hp):List Addr:=(ĭ h.objs.size).filter λ a=>(H a).isSome
def GW(h:Heap)(H:Hp):Heap:=W.hideAll h (trk h H)
def U1(h:Heap)(H:Hp):(GW h H).objs.size=h.objs.size:=W.hideAll_size _ _
def YG(e:h.get? b=some o)(n:H b=none):(GW h H).get? b=some o:=W.hideAll_get _ e λ hm=>by have q:(H b).isSome=true:=(ĺ.mp hm).2;rw[n] at q;simp at q
def ace(e:(GW h H).get? b=some o):h.get? b=some o/\H b=none:=by
 have e':h.get? b=some o:=W.of_hideAll (trk h H) e;refine ⟨e',?_⟩;cases q:H b with
 |none=>rfl
 |some x=>have hm:b∈trk h H:=ĺ.mpr ⟨Āj.mpr (č e'),by simp[q]⟩;have z:(GW h H).get? b=none:=W.hideAll_none (trk h H) hm;rw[z] at e;cases e
noncomputable def adC(g h:Heap)(L:Addr):List (Addr×Obj):=(ĭ h.objs.size).filterMap λ a=>if a=L\/(g.get? a).isSome=true then none else (h.get? a).map λ o=>(a,o)
def rest(g h:Heap)(L d:Addr):List (Addr×Obj):=(adC g h L).filter λ p=>decide (p.1≠d)
structure Mod(K:ă)(mg:`Ò)(base:Heap):Prop where
 kin:K.In base
 glob:base.Ns Ą mg
 blt:∃mb,base.Ns builtinsNs mb/\∀x:Str,x≠"__name__"->mb x=bootBuiltins x
 nolimit:base.NoLimit
set_option genInjectivity false in
structure Cx where
 prog:Program
 w:World
 K:ă
 mg:Str->Option Value
 base:Heap
 A:Around
 N:List Str
 s₀:Shared
 H₀:Hp
 env:Env
 outer:List Env
 stack:List Env
 ex:List Addr
 fn:Str->Bool
 calm:Bool
 pn:List (Addr×Obj)
 xe:Value->Shared->Prop
noncomputable def frs(l:List Env):List Addr:=l.filterMap (·.frame)
abbrev Cx.fs(X:Cx):List Addr:=frs X.outer
noncomputable def Vj(sc:Scope)(x:Str):Prop:=sc.names.lookup x=some .local\/sc.names.lookup x=some .cell\/sc.names.lookup x=some .free
noncomputable def Loc(sc:Scope)(x:Str):Prop:=sc.names.lookup x=some .local\/sc.names.lookup x=some .cell
noncomputable def Look(env:Env)(h:Heap)(m:`Ò)(x:Str)(u:Value):Prop:=(env.kindOf x=some .local/\m x=some u)\/((env.kindOf x=some .cell\/env.kindOf x=some .free)/\∃c,env.cells.lookup x=some c/\h.IsCell c (some u))
structure Cx.Ok(X:Cx):Prop where
 mod:Mod X.K X.mg X.base
 kind:X.env.scope.kind= .function
 glob:X.env.globals=Ą
 blt:X.env.builtins=builtinsNs
 above:X.s₀.heap.objs.size<=X.env.locals
 inj:∀x y c,X.env.cells.lookup x=some c->X.env.cells.lookup y=some c->x=y
 has:∀x,(X.env.kindOf x=some .cell\/X.env.kindOf x=some .free)->∃c,X.env.cells.lookup x=some c
 cab:∀x c,X.fn x=true->X.env.cells.lookup x=some c->X.s₀.heap.objs.size<=c
 hd:X.calm=true->X.A.handled=none
 frames:X.A.frames=some X.stack
 stk:X.stack=X.outer\/(X.stack=X.env::X.outer/\X.env.frame=some X.env.locals)
 exf:∀b∈X.ex,b≠X.env.locals/\∀x c,X.env.cells.lookup x=some c->c≠b
 bs:∀b o,X.base.get? b=some o->X.s₀.heap.get? b=some o/\X.H₀ b=none
 bsz:X.base.objs.size<=X.s₀.heap.objs.size
 ahc:∀b o,X.base.get? b=some o->b∉X.ex
 ah4:∀b∈X.ex,b∉X.fs
 DM:X.s₀.heap.FunFrames X.base X.outer
 frf:∀b∈X.fs,X.H₀ b=none
structure Inv(X:Cx)(pins:`Ê)(σ:List (Option V))(H:Hp)(s:Shared):Prop where
 ok:X.Ok
 os:s.os=X.s₀.os
 bare:AllBare s.gens
 base:Un X.fs X.ex X.H₀ H X.s₀.heap s.heap
 loc:∃m,s.heap.Ns X.env.locals m/\∀(i:Nat) (x:Str) (v:V),X.N[i]? =some x->σ[i]? =some (some v)->Vj X.env.scope x->∃u,RelV v u/\Look X.env s.heap m x u
 cell:∀x c,X.env.cells.lookup x=some c->∃v,s.heap.IsCell c v
 free:H X.env.locals=none
 uT:∀x c,X.env.cells.lookup x=some c->H c=none
 pin:∀p∈X.pn++pins,s.heap.get? p.1=some p.2/\H p.1=none/\p.1≠X.env.locals/\p.1∉X.fs/\∀v,p.2.data≠.cell v
 hok:uX X.prog X.w H s.heap
 len:σ.length=X.N.length
section
variable{X:Cx}{pins:`Ê}{σ:List (Option V)}{H H':Hp}{s:Shared}{h':Heap}
def Cx.Ok.ao3(ok:X.Ok)(e:X.base.get? b=some o):b∉X.fs:=λ hb=>by have:=(ok.DM.mem hb).1;rw[e] at this;cases this
theorem Inv.bs(I:`Ä):∀b o,X.base.get? b=some o->s.heap.get? b=some o/\H b=none:=λ b o e=>⟨I.base.keep b o (I.ok.bs b o e).1 (I.ok.bs b o e).2 (I.ok.ao3 e) (I.ok.ahc b o e),I.base.free b o (I.ok.bs b o e).1 (I.ok.bs b o e).2 (I.ok.ahc b o e)⟩
def Inv.bk(I:`Ä):∀b o,X.base.get? b=some o->s.heap.get? b=some o:=λ b o e=>(I.bs b o e).1
theorem Inv.mod(I:`Ä):Mod X.K X.mg X.base:=I.ok.mod
def Inv.zW(I:`Ä):X.K.In s.heap:=I.ok.mod.kin.keeps I.bk
theorem Inv.lt(I:`Ä):X.env.locals<s.heap.objs.size:=let ⟨_,hn,_⟩:=I.loc;hn.lt
def Inv.sz(I:`Ä):X.s₀.heap.objs.size<=s.heap.objs.size:=ģ I.ok.above (ũ I.lt)
def Inv.ao2(I:`Ä)(h:s.heap.objs.size<=a):a∉X.fs:=λ hb=>by obtain ⟨_,o,ho,_⟩:=I.ok.DM.mem hb;exact absurd (Ē (č ho) (ģ I.sz h)) (Ŏ _)
def Inv.cne(I:`Ä):∀x c,X.env.cells.lookup x=some c->c≠X.env.locals:=λ x c e z=>by obtain ⟨v,o,ho,hd⟩:=I.cell x c e;obtain ⟨m,⟨o',es,ep,ho',hd',_⟩,_⟩:=I.loc;rw[z,ho'] at ho;cases ho;rw[hd'] at hd;cases hd
theorem Inv.DM(I:`Ä):s.heap.FunFrames X.base X.outer:=by
 have all:∀(l:List Env),(∀b∈frs l,b∈X.fs)->X.s₀.heap.FunFrames X.base l->s.heap.FunFrames X.base l:=by
  intro l;induction l with
  |nil=>intro _ _;trivial
  |cons env r ih=>intro hs hl;obtain ⟨hk,⟨L,o,hf,hn,ho,hd⟩,hr⟩:=hl;have hL:L∈X.fs:=hs L (by unfold frs;rw[Ăx,hf];exact ās);obtain ⟨sl,e⟩:=I.base.slot L o ho (I.ok.frf L hL) hL λ z=>I.ok.ah4 L z hL;exact ⟨hk,⟨L,_,hf,hn,e,hd⟩,ih (λ b hb=>hs b (by unfold frs;rw[Ăx,hf];exact Ŀ _ hb)) hr⟩
 exact all X.outer (λ _ hb=>hb) I.ok.DM
theorem Inv.stack(I:`Ä):s.heap.FunFrames X.base X.stack:=by
 rcases I.ok.stk with e|⟨e,hf⟩
 ·rw[e];exact I.DM
 ·rw[e];obtain ⟨m,hn,_⟩:=I.loc;refine .cons (by rw[I.ok.kind];decide) hf hn ?_ I.DM;exact Heap.get?_none_of_le (ģ I.ok.bsz I.ok.above)
def Inv.Kr(I:`Ä):∀b∈frs X.stack,b∈X.env.locals::X.fs:=λ b hb=>by
 rcases I.ok.stk with e|⟨e,hf⟩
 ·rw[e] at hb;exact Ŀ _ hb
 ·rw[e] at hb;unfold frs at hb;rw[Ăx,hf] at hb;exact hb
def Inv.Fw(I:`Ä):∀b∈frs X.stack,H b=none:=λ b hb=>by
 rcases Ć.mp (I.Kr b hb) with e|hb
 ·rw[e];exact I.free
 ·obtain ⟨_,o,ho,_⟩:=I.ok.DM.mem hb;exact I.base.free b o ho (I.ok.frf b hb) λ z=>I.ok.ah4 b z hb
def Inv.step{g':Array GenState}{t':Nat}{d':Drawn}{ch:List Addr}(I:`Ä) (hch:∀b∈ch,(b∈X.ex\/X.s₀.heap.objs.size<=b)/\b≠X.env.locals/\(∀x c,X.env.cells.lookup x=some c->c≠b)/\∀p∈X.pn++pins,p.1≠b) (keep:∀b o,b≠X.env.locals->b∉X.fs->b∉ch->s.heap.get? b=some o->H b=none->h'.get? b=some o) (slot:∀b o,b≠X.env.locals->b∈X.fs->b∉ch->s.heap.get? b=some o->H b=none->∃sl,h'.get? b=some {o with slots:=sl}) (free:∀b o,b∉ch->s.heap.get? b=some o->H b=none->H' b=none) (there:∀b o,b∉ch->s.heap.get? b=some o->∃o',h'.get? b=some o') (tups:∀b xs,H b=some (.tup xs)->H' b=some (.tup xs)) (z8:∀b o u,H b=some (.CU o u)->H' b=some (.CU o u)) (AW:∀b ps,H b=some (.sf ps)->∃more,H' b=some (.sf (ps++more))) (ns:∀m,s.heap.Ns X.env.locals m->h'.Ns X.env.locals m) (hok:uX X.prog X.w H' h') (hg:AllBare g'):
  Inv X pins σ H' {s with heap:=h',gens:=g',drawn:=d',toks:=t'}:=by
 have neL:∀b o,X.s₀.heap.get? b=some o->b≠X.env.locals:=λ b o e=>ĕ (Ē (č e) I.ok.above);have neC:∀b o,X.s₀.heap.get? b=some o->b∉X.ex->b∉ch:=λ b o e hx hb=>by
  rcases (hch b hb).1 with z|z
  ·exact hx z
  ·exact absurd (Ē (č e) z) (Ŏ _)
 have cellK:∀x c,X.env.cells.lookup x=some c->∀v,s.heap.IsCell c v->h'.IsCell c v:=λ x c e v ⟨o,ho,hd⟩=>by
  have nch:c∉ch:=λ z=>(hch c z).2.2.1 x c e rfl;by_cases hc:c∈X.fs
  ·obtain ⟨sl,q⟩:=slot c o (I.cne x c e) hc nch ho (I.uT x c e);exact ⟨_,q,hd⟩
  ·exact ⟨o,keep c o (I.cne x c e) hc nch ho (I.uT x c e),hd⟩
 refine ⟨I.ok,I.os,hg,⟨λ b o e n hb hx=>?_,λ b o e n hb hx=>?_,λ b o e n hx=>?_,λ b o e hx=>?_,λ b xs e=>tups b xs (I.base.tups b xs e),λ b o xs e=>z8 b o xs (I.base.z8 b o xs e),λ b ps e=>?_⟩,?_,λ x c e=>?_,?_,λ x c e=>?_,λ p hp=>?_,hok,I.len⟩
 ·exact keep b o (neL b o e) hb (neC b o e hx) (I.base.keep b o e n hb hx) (I.base.free b o e n hx)
 ·obtain ⟨sl,e1⟩:=I.base.slot b o e n hb hx;obtain ⟨sl',e2⟩:=slot b _ (neL b o e) hb (neC b o e hx) e1 (I.base.free b o e n hx);exact ⟨sl',e2⟩
 ·obtain ⟨o',e1⟩:=I.base.there b o e hx;exact free b o' (neC b o e hx) e1 (I.base.free b o e n hx)
 ·obtain ⟨o',e1⟩:=I.base.there b o e hx;exact there b o' (neC b o e hx) e1
 ·obtain ⟨m1,e1⟩:=I.base.AW b ps e;obtain ⟨m2,e2⟩:=AW b _ e1;exact ⟨m1++m2,by rw[e2,Array.append_assoc]⟩
 ·obtain ⟨m,hn,hl⟩:=I.loc;refine ⟨m,ns m hn,λ i x v e1 e2 e3=>?_⟩;obtain ⟨u,r,l⟩:=hl i x v e1 e2 e3;refine ⟨u,r,?_⟩;rcases l with l|⟨k,c,e,z⟩
  ·exact .inl l
  ·exact .inr ⟨k,c,e,cellK x c e _ z⟩
 ·obtain ⟨v,z⟩:=I.cell x c e;exact ⟨v,cellK x c e v z⟩
 ·obtain ⟨m,⟨o,_,_,ho,_⟩,_⟩:=I.loc;exact free _ o (λ z=>(hch _ z).2.1 rfl) ho I.free
 ·obtain ⟨v,o,ho,hd⟩:=I.cell x c e;exact free c o (λ z=>(hch c z).2.2.1 x c e rfl) ho (I.uT x c e)
 ·obtain ⟨e,n,ne,nf,d⟩:=I.pin p hp;have nch:p.1∉ch:=λ z=>(hch p.1 z).2.2.2 p hp rfl;exact ⟨keep p.1 p.2 ne nf nch e n,free p.1 p.2 nch e n,ne,nf,d⟩
def Inv.un{t':Nat}(I:`Ä)(u:Un X.fs [] H H' s.heap h')(hok:uX X.prog X.w H' h'):Inv X pins σ H' {s with heap:=h',toks:=t'}:=by obtain ⟨m,⟨o,es,ep,ho,r⟩,_⟩:=id I.loc;obtain ⟨sl,hL⟩:=u.any ho I.free `Ó;exact I.step (g':=s.gens) (d':=s.drawn) (ch:=[]) (λ _ z=>nomatch z) (λ b o _ hb _ e n=>u.keep b o e n hb `Ó) (λ b o _ hb _ e n=>u.slot b o e n hb `Ó) (λ b o _ e n=>u.free b o e n `Ó) (λ b o _ e=>u.there b o e `Ó) u.tups u.z8 u.AW (λ m' hm=>by obtain ⟨o',es',ep',ho',r'⟩:=hm;rw[ho] at ho';cases ho';exact ⟨_,es',ep',hL,r'⟩) hok I.bare
def Inv.call{g':Array GenState}{t':Nat}{d':Drawn}{ch:List Addr}(I:`Ä)(u:Un (frs X.stack) ch H H' s.heap h')(hok:uX X.prog X.w H' h')(hg:AllBare g') (hch:∀b∈ch,(b∈X.ex\/X.s₀.heap.objs.size<=b)/\b≠X.env.locals/\(∀x c,X.env.cells.lookup x=some c->c≠b)/\∀p∈X.pn++pins,p.1≠b):
  Inv X pins σ H' {s with heap:=h',gens:=g',drawn:=d',toks:=t'}:=by
 obtain ⟨m,⟨o,es,ep,ho,r⟩,_⟩:=id I.loc;obtain ⟨sl,hL⟩:=u.any ho I.free λ z=>(hch _ z).2.1 rfl;exact I.step (ch:=ch) hch (λ b o hL hb hc e n=>u.keep b o e n (λ z=>(Ć.mp (I.Kr b z)).elim hL hb) hc) (λ b o _ _ hc e n=>u.any e n hc) (λ b o hc e n=>u.free b o e n hc) (λ b o hc e=>u.there b o e hc) u.tups u.z8 u.AW (λ m' hm=>by obtain ⟨o',es',ep',ho',r'⟩:=hm;rw[ho] at ho';cases ho';exact ⟨_,es',ep',hL,r'⟩) hok hg
def Inv.turned{t':Nat}{it:Addr}(I:`Ä)(k:∀b o,b≠it->s.heap.get? b=some o->h'.get? b=some o)(hn:H it=none)(hL:it≠X.env.locals) (h1:it∈X.ex\/X.s₀.heap.objs.size<=it) (h2:∀x c,X.env.cells.lookup x=some c->c≠it) (h3:∀p∈X.pn++pins,p.1≠it):Inv X pins σ H {s with heap:=h',toks:=t'}:=by
 have nit:∀b u,H b=some u->b≠it:=λ b u e z=>by rw[z,hn] at e;cases e
 refine I.step (g':=s.gens) (d':=s.drawn) (ch:=[it]) (λ b hb=>?_) (λ b o _ _ hc e _=>k b o (λ z=>hc (by simp[z])) e) (λ b o _ _ hc e _=>⟨o.slots,k b o (λ z=>hc (by simp[z])) e⟩) (λ _ _ _ _ n=>n)
  (λ b o hc e=>⟨o,k b o (λ z=>hc (by simp[z])) e⟩) (λ _ _ e=>e) (λ _ _ _ e=>e) (λ b ps e=>⟨#[],by rw[e];simp⟩) (λ m hm=>?_) (λ b u e=>?_) I.bare
 ·have e:b=it:=by simpa using hb
  subst e;exact ⟨h1,hL,h2,h3⟩
 ·obtain ⟨o,es,ep,ho,r⟩:=hm;exact ⟨o,es,ep,k _ o (Ŋ hL) ho,r⟩
 ·refine (I.hok b u e).stay (λ c v hc q=>k c v ?_ q) (λ _ q=>q) λ _ _ q=>q;rcases hc with z|z
  ·rw[z];exact nit b u e
  ·exact nit c _ z
def Inv.tok(I:`Ä)(t:Nat):Inv X pins σ H {s with toks:=t}:=I.un (h':=s.heap) (t':=t) Un.refl I.hok
theorem Inv.kept(I:`Ä)(k:∀b u,s.heap.get? b=some u->h'.get? b=some u):Inv X pins σ H {s with heap:=h',toks:=t'}:=I.un (Un.kept k) (I.hok.kept k)
theorem Inv.laid{a:Addr}{o:HO}{t':Nat}(I:`Ä)(k:∀b u,s.heap.get? b=some u->h'.get? b=some u)(hp:s.heap.objs.size<=a)(new:eV X.prog X.w (upd H a o) h' a o):
  Inv X pins σ (upd H a o) {s with heap:=h',toks:=t'}:=I.un (Un.laid k hp (I.hok.fresh hp)) (I.hok.laid k hp new)
theorem Inv.write{x e:Addr}(I:`Ä)(mu:Mut (H x))(he:e=x\/H e=some (.own x))(k:∀b u,b≠e->s.heap.get? b=some u->h'.get? b=some u)(heo:∃u,h'.get? e=some u)(new:eV X.prog X.w (upd H x o) h' x o):Inv X pins σ (upd H x o) {s with heap:=h',toks:=t'}:=I.un (Un.write mu he k heo) (I.hok.write mu he k heo new)
def Inv.RC(I:`Ä)(h:∀p∈akZ,s.heap.get? p.1=some p.2/\H p.1=none/\p.1≠X.env.locals/\p.1∉X.fs/\∀v,p.2.data≠.cell v):Inv X akZ σ H s:=⟨I.ok,I.os,I.bare,I.base,I.loc,I.cell,I.free,I.uT,λ p hp=>(İ.mp hp).elim (λ z=>I.pin p (Ăq _ z)) (h p),I.hok,I.len⟩
def IB{N:`Ú}(hN:N.Nodup){i j:Nat}{x:Str}(a:N[i]? =some x)(b:N[j]? =some x):i=j:=by obtain ⟨h1,e1⟩:=Ď.mp a;obtain ⟨h2,e2⟩:=Ď.mp b;exact (List.getElem_inj hN).mp (e1.trans e2.symm)
def TF{M:Model}{A:Around}{E:`Ã}{i:Nat}{x:Str}{v:V}{u:Value}{Q:Unit->Shared->Prop}(I:`Ä)(hN:X.N.Nodup)(hi:X.N[i]? =some x)(hx:Loc X.env.scope x)(r:RelV v u)
  (h:∀s',Inv X pins (σ.set i (some v)) H s'->(∃a,ăb a s.heap s'.heap/\(a=X.env.locals\/X.env.cells.lookup x=some a))->Q () s') (hf:X.fn x=true\/X.env.scope.names.lookup x=some .local:=by first|exact .inl rfl|exact .inr rfl|assumption):wpAny M A (storeName X.env x u) Q E s:=by
 obtain ⟨m,hn,hl⟩:=id I.loc
 have hcls:(X.env.scope.kind== .class||(X.env.scope.kind== .module&&X.env.locals !=X.env.globals))=false:=by rw[I.ok.kind];rfl
 have hiσ:i<σ.length:=by rw[I.len];exact (Ď.mp hi).1
 have cne:=I.cne
 have tracked:∀{a:Addr} {h':Heap},(∃o,s.heap.get? a=some o/\H a=none)->ăb a s.heap h'->uX X.prog X.w H h':=λ{a h'} ha hs b ob e=>by
  obtain ⟨_,_,hfree⟩:=ha
  refine (I.hok b ob e).stay (λ c w' hc q=>(hs.2 c ?_).trans q) (λ _ q=>q) λ _ _ q=>q
  rintro rfl
  rcases hc with rfl|hc
  ·rw[hfree] at e;cases e
  ·rw[hfree] at hc;cases hc
 rcases hx with hk|hk
 ·refine wpAny_storeName_local hk hn (λ h' hn' hs=>?_) hcls
  obtain ⟨oL,_,_,hoL,_⟩:=id hn
  refine h _ ⟨I.ok,I.os,I.bare,⟨λ b o e n hb hx=>?_,λ b o e n hb hx=>?_,I.base.free,λ b o e hx=>?_,I.base.tups,I.base.z8,I.base.AW⟩,⟨_,hn',λ j y v' e1 e2 e3=>?_⟩,λ y c e=>?_,I.free,I.uT,λ p hp=>?_,tracked ⟨oL,hoL,I.free⟩ hs,by simpa using I.len⟩ ⟨_,hs,.inl rfl⟩
  ·exact (hs.2 b (ĕ (Ē (č e) I.ok.above))).trans (I.base.keep b o e n hb hx)
  ·obtain ⟨sl,e1⟩:=I.base.slot b o e n hb hx
   exact ⟨sl,(hs.2 b (ĕ (Ē (č e) I.ok.above))).trans e1⟩
  ·obtain ⟨o',e1⟩:=I.base.there b o e hx
   exact ⟨o',(hs.2 b (ĕ (Ē (č e) I.ok.above))).trans e1⟩
  ·by_cases hj:j=i
   ·subst hj
    rw[hi] at e1;cases e1
    rw[Ū hiσ] at e2
    cases e2
    exact ⟨u,r,.inl ⟨hk,by simp⟩⟩
   ·rw[āe (Ŋ hj)] at e2
    obtain ⟨u',r',q⟩:=hl j y v' e1 e2 e3
    refine ⟨u',r',?_⟩
    rcases q with ⟨k,e⟩|⟨k,c,e,z⟩
    ·refine .inl ⟨k,?_⟩
     have:y≠x:=λ e=>hj (IB hN e1 (e▸hi))
     simp[this,e]
    ·exact .inr ⟨k,c,e,z.sameBut hs (cne y c e)⟩
  ·obtain ⟨w',z⟩:=I.cell y c e
   exact ⟨w',z.sameBut hs (cne y c e)⟩
  ·obtain ⟨e,n,ne,nf,d⟩:=I.pin p hp
   exact ⟨(hs.2 p.1 ne).trans e,n,ne,nf,d⟩
 ·have hfn:X.fn x=true:=by
   rcases hf with z|z
   ·exact z
   ·rw[z] at hk;cases hk
  obtain ⟨c,hc⟩:=I.ok.has x (.inl hk)
  obtain ⟨w',z⟩:=I.cell x c hc
  refine wpAny_storeName_cell I.ok.kind hk hc z (λ h' hc' hs=>?_)
  obtain ⟨oc,hoc,aps⟩:=id z
  refine h {s with heap:=h'} ⟨I.ok,I.os,I.bare,⟨λ b o e n hb hx=>?_,λ b o e n hb hx=>?_,I.base.free,λ b o e hx=>?_,I.base.tups,I.base.z8,I.base.AW⟩,⟨m,hn.sameBut hs (Ŋ (cne x c hc)),λ j y v' e1 e2 e3=>?_⟩,λ y c' e=>?_,I.free,I.uT,λ p hp=>?_,tracked ⟨oc,hoc,I.uT x c hc⟩ hs,by simpa using I.len⟩ ⟨c,hs,.inr hc⟩
  ·exact (hs.2 b (ĕ (Ē (č e) (I.ok.cab x c hfn hc)))).trans (I.base.keep b o e n hb hx)
  ·obtain ⟨sl,e1⟩:=I.base.slot b o e n hb hx
   exact ⟨sl,(hs.2 b (ĕ (Ē (č e) (I.ok.cab x c hfn hc)))).trans e1⟩
  ·obtain ⟨o',e1⟩:=I.base.there b o e hx
   exact ⟨o',(hs.2 b (ĕ (Ē (č e) (I.ok.cab x c hfn hc)))).trans e1⟩
  ·by_cases hj:j=i
   ·subst hj
    rw[hi] at e1;cases e1
    rw[Ū hiσ] at e2
    cases e2
    exact ⟨u,r,.inr ⟨.inl hk,c,hc,hc'⟩⟩
   ·rw[āe (Ŋ hj)] at e2
    obtain ⟨u',r',q⟩:=hl j y v' e1 e2 e3
    refine ⟨u',r',?_⟩
    rcases q with q|⟨k,c',e,z'⟩
    ·exact .inl q
    ·refine .inr ⟨k,c',e,z'.sameBut hs ?_⟩
     rintro rfl
     exact hj (IB hN e1 (I.ok.inj _ _ _ e hc▸hi))
  ·by_cases hcc:c'=c
   ·subst hcc;exact ⟨_,hc'⟩
   ·obtain ⟨w2,z2⟩:=I.cell y c' e
    exact ⟨w2,z2.sameBut hs hcc⟩
  ·obtain ⟨e,n,ne,nf,d⟩:=I.pin p hp
   refine ⟨(hs.2 p.1 ?_).trans e,n,ne,nf,d⟩
   intro q
   rw[q,hoc] at e
   have q':oc=p.2:=ĝ e
   exact d w' (by rw[<-q'];exact aps)
def vS{M:Model}{v:V}{Q:Unit->Shared->Prop}(I:`Ä)(hN:X.N.Nodup)(hi:X.N[i]? =some x)(hx:Loc X.env.scope x)(r:RelV v u)(h:∀s',Inv X pins (σ.set i (some v)) H s'->Q () s')(hf:X.fn x=true\/X.env.scope.names.lookup x=some .local:=by first|exact .inl rfl|exact .inr rfl|assumption):wpAny M A (storeName X.env x u) Q E s:=TF I hN hi hx r (λ s' I' _=>h s' I') hf
def Inv.Zo(I:`Ä)(ho:s'.os=s.os)(u:Un (frs X.stack) ch H H' s.heap s'.heap)(hok:uX X.prog X.w H' s'.heap)(hg:AllBare s'.gens)(hch:∀b∈ch,(b∈X.ex\/X.s₀.heap.objs.size<=b)/\b≠X.env.locals/\(∀x c,X.env.cells.lookup x=some c->c≠b)/\∀p∈X.pn++pins,p.1≠b):Inv X pins σ H' s':=by obtain ⟨h',g',d',t',o'⟩:=s';have e:o'=s.os:=ho;subst e;exact I.call (g':=g') (t':=t') (d':=d') u hok hg hch
end
abbrev XK:=Value->Option Addr->Hp->Prop
noncomputable abbrev St:=List (Option V)
abbrev VK:=V->Hp->Prop
abbrev TE:=St->Hp->VK->Prop
abbrev TT:=St->Hp->(Bool->Hp->Prop)->Prop
abbrev TA:=St->Hp->(List V->Hp->Prop)->Prop
set_option genInjectivity false in
structure Ends where
 nx:St->Hp->Prop
 rt:VK
 bk:St->Hp->Prop:=λ _ _=>False
 ct:St->Hp->Prop:=λ _ _=>False
abbrev TS:=Ends->St->Hp->Prop
def EP(X:Cx)(pins:`Ê)(σ:St)(Q:VK)(u:Value)(s':Shared):Prop:=∃v H',Inv X pins σ H' s'/\RelV v u/\Q v H'
def TP(X:Cx)(pins:`Ê)(σ:St)(Q:Bool->Hp->Prop)(b:Bool)(s':Shared):Prop:=∃H',Inv X pins σ H' s'/\Q b H'
def AP(X:Cx)(pins:`Ê)(σ:St)(Q:List V->Hp->Prop)(us:`Ð)(s':Shared):Prop:=∃vs H',Inv X pins σ H' s'/\Vals vs us/\Q vs H'
def SP(X:Cx)(pins:`Ê)(D:Ends)(f:Flow)(s':Shared):Prop:=match f with
 | .next=>∃σ' H',Inv X pins σ' H' s'/\D.nx σ' H'
 | .brk=>∃σ' H',Inv X pins σ' H' s'/\D.bk σ' H'
 | .cont=>∃σ' H',Inv X pins σ' H' s'/\D.ct σ' H'
 | .ret u=>∃v σ' H',Inv X pins σ' H' s'/\RelV v u/\D.rt v H'
def PE(X:Cx)(e:Expr)(t:TE):Prop:=∀(pins:`Ê) (s:Shared) (σ:St) (H:Hp) (Q:VK),Inv X pins σ H s->t σ H Q->wpAny `É X.A (eval e X.env) (EP X pins σ Q) X.xe s
def PT(X:Cx)(e:Expr)(t:TT):Prop:=∀(pins:`Ê) (s:Shared) (σ:St) (H:Hp) (Q:Bool->Hp->Prop),Inv X pins σ H s->t σ H Q->wpAny `É X.A (isTrue e X.env (eval e X.env)) (TP X pins σ Q) X.xe s
def PW(X:Cx)(e:Expr)(t:TT):Prop:=∀(whole:Sem Value) (pins:`Ê) (s:Shared) (σ:St) (H:Hp) (Q:Bool->Hp->Prop),Inv X pins σ H s->t σ H Q->wpAny `É X.A (isTrue e X.env whole) (TP X pins σ Q) X.xe s
def PW.pt{e:Expr}(h:PW X e t):PT X e t:=h _
def PA(X:Cx)(es:`Þ)(t:TA):Prop:=∀(pos:Pos) (pins:`Ê) (s:Shared) (σ:St) (H:Hp) (Q:List V->Hp->Prop),Inv X pins σ H s->t σ H Q->wpAny `É X.A (spliced (backTo pos (ć es X.env))) (AP X pins σ Q) X.xe s
def PS(X:Cx)(st:Stmt)(t:TS):Prop:=∀(pins:`Ê) (s:Shared) (σ:St) (H:Hp) (D:Ends),Inv X pins σ H s->t D σ H->wpAny `É X.A (exec st X.env) (SP X pins D) X.xe s
def JX(X:Cx)(st:List Stmt)(t:TS):Prop:=∀(pins:`Ê) (s:Shared) (σ:St) (H:Hp) (D:Ends),Inv X pins σ H s->t D σ H->wpAny `É X.A (execs st X.env) (SP X pins D) X.xe s
def fV{α:Type}{t:Sem α}{Q Q':α->Shared->Prop}{M:Model}{A:Around}{E:`Ã}{s:Shared}(h:wpAny M A t Q E s)(hQ:∀a s,Q a s->Q' a s):wpAny M A t Q' E s:=Ļ h hQ λ _ _ x=>x
section
variable{X:Cx}
def aor(i:Nat):TE:=λ σ H Q=>∃v,σ[i]? =some (some v)/\Q v H
def tC(v:V):TE:=λ _ H Q=>Q v H
def Bf(hN:X.N[i]? =some x)(hv:Vj X.env.scope x)(hd:(x==("__debug__":Str))=false:=by decide)(hcd:(x==("__classdict__":Str))=false:=by decide):PE X (.Name x pos) (aor i):=by
 intro pins s σ H Q I h;obtain ⟨v,e,h⟩:=h;obtain ⟨m,hn,hl⟩:=I.loc;obtain ⟨u,r,l⟩:=hl i x v hN e hv;have fin:EP X pins σ Q u s:=⟨v,H,I,r,h⟩;rcases l with ⟨hk,hm⟩|⟨hk,c,hc,hcell⟩
 ·exact wpAny_Name (wpAny_loadName_local I.ok.kind hk hn hm fin) hd
 ·rcases hk with hk|hk
  ·exact wpAny_Name (wpAny_loadName_cell I.ok.kind hk hc hcell fin) hd
  ·exact wpAny_Name (wpAny_loadName_free I.ok.kind hk hc hcell fin hcd) hd
def agS{i j pos}:PE X (.Constant (.int i) j pos) (tC (.int i)):=λ _ _ _ H _ I h=>wpAny_Constant_int ⟨.int i,H,I.tok _,⟨_,rfl⟩,h⟩
def ak3{b j pos}:PE X (.Constant (.bool b) j pos) (tC (.bl b)):=λ _ _ _ H _ I h=>Constant_bool ⟨.bl b,H,I,rfl,h⟩
def agQ{j pos}:PE X (.Constant .none j pos) (tC .cU):=λ _ _ _ H _ I h=>Constant_none ⟨.cU,H,I,rfl,h⟩
def agO{x j pos}:PE X (.Constant (.str x) j pos) (tC (.str x)):=λ _ _ _ H _ I h=>ăh ⟨.str x,H,I.tok _,⟨_,rfl⟩,h⟩
noncomputable def Gl(X:Cx)(x:Str):Prop:=X.env.kindOf x=some .globalImplicit
def wQ{s:Shared}{Q:`Ã}(I:`Ä)(hg:Gl X x)(hm:X.mg x=some u)(h:Q u s)(hd:(x==("__debug__":Str))=false:=by decide):wpAny `É X.A (eval (.Name x pos) X.env) Q E s:=Calls.Name_function_global I.ok.kind hg (Calls.loadGlobal_global (by rw[I.ok.glob];exact I.mod.glob.keeps I.bk) hm h) hd
def B5{s:Shared}{Q:`Ã}(I:`Ä)(hg:Gl X x)(hm:X.mg x=none)(hv:bootBuiltins x=some u)(h:Q u s)(hn:x≠"__name__":=by decide)(hd:(x==("__debug__":Str))=false:=by decide):wpAny `É X.A (eval (.Name x pos) X.env) Q E s:=by obtain ⟨mb,h1,h2⟩:=I.mod.blt;exact Calls.Name_function_global I.ok.kind hg (Calls.loadGlobal_builtin (by rw[I.ok.glob];exact I.mod.glob.keeps I.bk) hm (by rw[I.ok.blt];exact h1.keeps I.bk) ((h2 x hn).trans hv) h) hd
def RD{v:V}(hg:Gl X x)(hm:X.mg x=some u)(r:RelV v u)(hd:(x==("__debug__":Str))=false:=by decide):PE X (.Name x pos) (tC v):=λ _ _ _ H _ I h=>wQ I hg hm ⟨v,H,I,r,h⟩ hd
def ab4{v:V}(hg:Gl X x)(hm:X.mg x=none)(hv:bootBuiltins x=some u)(r:RelV v u)(hn:x≠"__name__":=by decide)(hd:(x==("__debug__":Str))=false:=by decide):PE X (.Name x pos) (tC v):=λ _ _ _ H _ I h=>B5 I hg hm hv ⟨v,H,I,r,h⟩ hn hd
variable{a b:Expr}{ta tb:TE}{pos:Pos}
def tB(t:TE):TT:=λ σ H Q=>t σ H λ x H1=>∃c,x= .bl c/\Q c H1
def agF{e:Expr}{t:TE}(h:PE X e t)(he:∀whole,isTrue e X.env whole=(do let v <-whole;standAt e.pos;holding [v] (truthy v)):=by intro _;rfl):PT X e (tB t):=by
 intro pins s σ H Q I hw
 refine isTrue_plain (fV (h pins s σ H _ I hw) λ v s1 ⟨x,H1,I1,r1,q1⟩=>?_) (he _)
 obtain ⟨d,rfl,q⟩:=q1
 cases r1
 exact Ţ ⟨H1,I1,q⟩
variable{tA tB':TT}{rest:`Þ}
def aoD(t u:TT):TT:=λ σ H Q=>t σ H λ c H1=>if c=true then u σ H1 Q else Q false H1
def tOr(t u:TT):TT:=λ σ H Q=>t σ H λ c H1=>if c=true then Q true H1 else u σ H1 Q
def aox(t:TT):TT:=λ σ H Q=>t σ H λ c H1=>Q (!c) H1
def abQ(ha:PT X a tA):PW X (.BoolOp .And [a] pos) tA:=by
 intro wh pins s σ H Q I h;refine isTrue_and (fV (ha pins s σ H Q I h) λ c s1 e=>?_);cases c with
 |true=>exact isTrue_and_nil e
 |false=>exact e
def agC(ha:PT X a tA):PW X (.BoolOp .Or [a] pos) tA:=by
 intro wh pins s σ H Q I h;refine isTrue_or (fV (ha pins s σ H Q I h) λ c s1 e=>?_);cases c with
 |false=>exact isTrue_or_nil e
 |true=>exact e
def agD(ha:PT X a tA)(hb:PW X (.BoolOp .And (b::rest) pos) tB'):PW X (.BoolOp .And (a::b::rest) pos) (aoD tA tB'):=by
 intro wh pins s σ H Q I h;refine isTrue_and (fV (ha pins s σ H _ I h) λ c s1 ⟨H1,I1,q1⟩=>?_);cases c with
 |true=>exact hb wh pins s1 σ H1 Q I1 q1
 |false=>exact ⟨H1,I1,q1⟩
def akV(ha:PT X a tA)(hb:PW X (.BoolOp .Or (b::rest) pos) tB'):PW X (.BoolOp .Or (a::b::rest) pos) (tOr tA tB'):=by
 intro wh pins s σ H Q I h;refine isTrue_or (fV (ha pins s σ H _ I h) λ c s1 ⟨H1,I1,q1⟩=>?_);cases c with
 |true=>exact ⟨H1,I1,q1⟩
 |false=>exact hb wh pins s1 σ H1 Q I1 q1
def agG(ha:PT X a tA):PT X (.UnaryOp .Not a pos) (aox tA):=by intro pins s σ H Q I h;exact isTrue_not (ha pins s σ H (λ c H1=>Q (!c) H1) I h)
def aku(ta tb:TE):TE:=λ σ H Q=>ta σ H λ x H1=>∃c,x= .bl c/\if c=true then tb σ H1 Q else Q (.bl false) H1
def aow(ta tb:TE):TE:=λ σ H Q=>ta σ H λ x H1=>∃c,x= .bl c/\if c=true then Q (.bl true) H1 else tb σ H1 Q
def agP{op}(h:PE X a t):PE X (.BoolOp op [a] pos) t:=λ pins s σ H Q I hw=>BoolOp_one (h pins s σ H Q I hw)
def agU(ha:PE X a ta)(hb:PE X (.BoolOp .And (b::rest) pos) tb):PE X (.BoolOp .And (a::b::rest) pos) (aku ta tb):=by
 intro pins s σ H Q I h;refine BoolOp_and (fV (ha pins s σ H _ I h) λ v s1 ⟨x,H1,I1,r1,q1⟩=>?_);obtain ⟨c,rfl,q1⟩:=q1;cases r1;refine Ţ ?_;cases c with
 |true=>exact hb pins s1 σ H1 Q I1 q1
 |false=>exact ⟨.bl false,H1,I1,rfl,q1⟩
def ak1(ha:PE X a ta)(hb:PE X (.BoolOp .Or (b::rest) pos) tb):PE X (.BoolOp .Or (a::b::rest) pos) (aow ta tb):=by
 intro pins s σ H Q I h;refine BoolOp_or (fV (ha pins s σ H _ I h) λ v s1 ⟨x,H1,I1,r1,q1⟩=>?_);obtain ⟨c,rfl,q1⟩:=q1;cases r1;refine Ţ ?_;cases c with
 |false=>exact hb pins s1 σ H1 Q I1 q1
 |true=>exact ⟨.bl true,H1,I1,rfl,q1⟩
end
def qO(K:ă)(H:Hp)(a:Addr)(xs:List V):Prop:=Rd H a (.lst xs)\/∃(o:Obj) (its:Array Value) (n:Nat),K.lookup a=some o/\o.cls= .type "list"/\o.dict=none/\o.data= .seq its n/\its.size<=Đ/\Vals xs its.toList
def yc(K:ă)(H:Hp)(a:Addr)(xs:List V):Prop:=Rd H a (.tup xs)\/∃(o:Obj) (its:Array Value) (n:Nat),K.lookup a=some o/\o.cls= .type "tuple"/\o.data= .seq its n/\its.size<=Đ/\Vals xs its.toList
noncomputable def aqa:Value->Option V
 | .none=>some .cU
 | .bool b=>some (.bl b)
 | .int i _=>some (.int i)
 | .str x _=>some (.str x)
 | .bytes b _=>some (.byt b)
 | .float b _=>some (.flt b)
 | .ref a=>some (.ref a)
 | .type n=>some (.ty n)
 |_=>none
def RelV.abs(r:RelV x u):aqa u=some x:=by
 cases x with
 |cU=>cases r;rfl
 |bl _=>cases r;rfl
 |int _=>obtain ⟨t,rfl⟩:=r;rfl
 |str _=>obtain ⟨t,rfl⟩:=r;rfl
 |byt _=>obtain ⟨t,rfl⟩:=r;rfl
 |flt _=>obtain ⟨t,rfl⟩:=r;rfl
 |ref _=>cases r;rfl
 |ty _=>cases r;rfl
theorem RelV.inj{x y:V}{u:Value}(r:RelV x u)(q:RelV y u):x=y:=ĝ (r.abs.symm.trans q.abs)
theorem Vals.inj:∀{xs ys:List V} {us:`Ð},Vals xs us->Vals ys us->xs=ys
 |_,_,_,.nil,.nil=>rfl
 |_,_,_,.cons r t,.cons r' t'=>by rw[r.inj r',Vals.inj t t']
section
variable{X:Cx}{pins:`Ê}{σ:St}{H:Hp}{s:Shared}{a:Addr}{xs ys:List V}
def qO.of{K:ă}(h:H a=some (.lst xs)):qO K H a xs:= .inl (.inl h)
def Inv.list(I:`Ä)(h:qO X.K H a xs):∃its:List Value,Vals xs its/\PlainL s.heap a its.toArray/\xs.length<=Đ:=by
 rcases h with h|⟨o,its,n,hk,hc,hd,hs,hz,r⟩
 ·obtain ⟨z,its,n,r,e⟩:=h.ok I.hok;exact ⟨its,r,⟨_,n,e,rfl,rfl,rfl⟩,z⟩
 ·refine ⟨its.toList,r,⟨o,n,I.zW a o hk,hc,hd,by simpa using hs⟩,?_⟩;have e:=r.length;simp only[Ăy] at e;omega
def Inv.tuple(I:`Ä)(h:yc X.K H a xs):∃its:List Value,Vals xs its/\IsTup s.heap a its.toArray/\xs.length<=Đ:=by
 rcases h with h|⟨o,its,n,hk,hc,hs,hz,r⟩
 ·obtain ⟨z,its,r,p⟩:=h.ok I.hok;exact ⟨its,r,p,z⟩
 ·refine ⟨its.toList,r,⟨o,I.zW a o hk,hc,n,by simpa using hs⟩,?_⟩;have e:=r.length;simp only[Ăy] at e;omega
def Inv.XS(I:`Ä)(h:qO X.K H a xs)(h':qO X.K H a ys):xs=ys:=by
 obtain ⟨its,r,⟨o,n,e,_,_,d⟩,_⟩:=I.list h;obtain ⟨its',r',⟨o',n',e',_,_,d'⟩,_⟩:=I.list h';rw[e] at e';cases e';rw[d] at d';injection d' with d1 _;have:its=its':=by simpa using congrArg Array.toList d1
 subst this;exact r.inj r'
def Inv.D3(I:`Ä)(h:yc X.K H a xs)(h':yc X.K H a ys):xs=ys:=by
 obtain ⟨its,r,⟨o,e,_,n,d⟩,_⟩:=I.tuple h;obtain ⟨its',r',⟨o',e',_,n',d'⟩,_⟩:=I.tuple h';rw[e] at e';cases e';rw[d] at d';injection d' with d1 _;have:its=its':=by simpa using congrArg Array.toList d1
 subst this;exact r.inj r'
end
section
variable{X:Cx}{pins:`Ê}{σ:St}{H:Hp}{s:Shared}{E:`Ã}
end
section
variable{X:Cx}{st:Stmt}{rest:List Stmt}{t u:TS}{e:Expr}{te:TE}{pos:Pos}
def akp:TS:=λ D σ H=>D.nx σ H
def aot(t u:TS):TS:=λ D σ H=>t {D with nx:=u D} σ H
def abT:JX X [] akp:=λ _ _ σ H _ I h=>Ăt ⟨σ,H,I,h⟩
def Wr(h1:PS X st t)(h2:JX X rest u):JX X (st::rest) (aot t u):=by
 intro pins s σ H D I h;refine wpAny_execs_cons (fV (h1 pins s σ H {D with nx:=u D} I h) λ f s1 q=>?_);cases f with
 |next=>obtain ⟨σ',H',I',q⟩:=q;exact h2 pins s1 σ' H' D I' q
 |ret v=>exact q
 |brk=>exact q
 |cont=>exact q
def abS(h1:PS X st t):JX X [st] t:=by
 intro pins s σ H D I h;refine wpAny_execs_cons (fV (h1 pins s σ H D I h) λ f s1 q=>?_);cases f with
 |next=>exact Ăt q
 |ret v=>exact q
 |brk=>exact q
 |cont=>exact q
def Inv.quiet{pins:`Ê}{σ:St}{H:Hp}{s:Shared}(I:`Ä):interactive X.env=false:=by simp[interactive,I.ok.kind]
def akr(te:TE):TS:=λ D σ H=>te σ H λ _ H1=>D.nx σ H1
def Aj(he:PE X e te)(hs:swapsWith e none pos.line X.env=pure false:=by rfl):PS X (.Expr e pos) (akr te):=by intro pins s σ H D I h;exact wpAny_Expr_any (fV (he pins s σ H _ I h) λ v s1 ⟨x,H1,I1,r1,q1⟩=>⟨σ,H1,I1,q1⟩) I.quiet hs
def aou(te:TE):TS:=λ D σ H=>te σ H D.rt
def FG(he:PE X e te):PS X (.Return (some e) pos) (aou te):=by intro pins s σ H D I h;exact wpAny_Return_some (fV (he pins s σ H _ I h) λ v s1 ⟨x,H1,I1,r1,q1⟩=>⟨x,σ,H1,I1,r1,q1⟩)
def aoz(c:TT)(t u:TS):TS:=λ D σ H=>c σ H λ b H1=>if b=true then t D σ H1 else u D σ H1
def aee{c:Expr}{a b:List Stmt}{tc:TT}(hc:PT X c tc)(ha:JX X a t)(hb:JX X b u):PS X (.If c a b pos) (aoz tc t u):=by
 intro pins s σ H D I h;refine wpAny_If (fV (hc pins s σ H _ I h) λ d s1 ⟨H1,I1,q1⟩=>?_);cases d with
 |true=>exact ha pins s1 σ H1 D I1 q1
 |false=>exact hb pins s1 σ H1 D I1 q1
end
abbrev TG:=V->St->Hp->(St->Hp->Prop)->Prop
abbrev TGs:=List V->St->Hp->(St->Hp->Prop)->Prop
def PG(X:Cx)(target:Expr)(t:TG):Prop:=∀(pins:`Ê) (s:Shared) (σ:St) (H:Hp) (v:V) (u:Value) (Q:St->Hp->Prop),Inv X pins σ H s->RelV v u->t v σ H Q->wpAny `É X.A (assign target X.env u) (λ _ s'=>∃σ' H',Inv X pins σ' H' s'/\Q σ' H') X.xe s
def PGs(X:Cx)(ts:`Þ)(t:TGs):Prop:=∀(pins:`Ê) (s:Shared) (σ:St) (H:Hp) (vs:List V) (us:`Ð) (Q:St->Hp->Prop),Inv X pins σ H s->Vals vs us->t vs σ H Q->wpAny `É X.A (assignInOrder ((assignEach ts X.env).map (·.2)) us) (λ _ s'=>∃σ' H',Inv X pins σ' H' s'/\Q σ' H') X.xe s
abbrev aiI:=V->V->V->Hp->(Hp->Prop)->Prop
def amI(X:Cx)(t:aiI):Prop:=∀(pins:`Ê) (s:Shared) (σ:St) (H:Hp) (o i v:V) (ov iv u:Value) (Q:Hp->Prop),Inv X pins σ H s->RelV o ov->RelV i iv->RelV v u->t o i v H Q->wpAny `É X.A (setItem ov iv u) (λ _ s'=>∃H',Inv X pins σ H' s'/\Q H') X.xe s
section
variable{X:Cx}{pos:Pos}
def aex(i:Nat):TG:=λ v σ H Q=>Q (σ.set i (some v)) H
def ab1(hN:X.N.Nodup)(hi:X.N[i]? =some x)(hx:Loc X.env.scope x)(hf:X.fn x=true\/X.env.scope.names.lookup x=some .local:=by first|exact .inl rfl|exact .inr rfl|assumption):PG X (.Name x pos) (aex i):=by intro pins s σ H v u Q I r h;exact wpAny_assign_Name (vS I hN hi hx r (λ s' I'=>⟨_,H,I',h⟩) hf)
def apQ:TGs:=λ vs σ H Q=>vs=[]/\Q σ H
def alT(t:TG)(u:TGs):TGs:=λ vs σ H Q=>∃v r,vs=v::r/\t v σ H λ σ' H'=>u r σ' H' Q
def ab0:PGs X [] apQ:=by intro pins s σ H vs us Q I r h;obtain ⟨e,h⟩:=h;subst e;cases r;exact assignInOrder_nil ⟨σ,H,I,h⟩
def WB{e:Expr}{es:`Þ}{t:TG}{u:TGs}(h1:PG X e t)(h2:PGs X es u) (hs:(assignEach (e::es) X.env).map (·.2)=assign e X.env::(assignEach es X.env).map (·.2):=by rfl):PGs X (e::es) (alT t u):=by
 intro pins s σ H vs us Q I r h;obtain ⟨v,vr,e1,h⟩:=h;subst e1;cases r with
 |cons r rr=>rw[hs];refine ăi (fV (h1 pins s σ H _ _ _ I r h) λ _ s1 ⟨σ1,H1,I1,q1⟩=>?_);exact h2 pins s1 σ1 H1 _ _ Q I1 rr q1
def apO(K:ă)(n:Nat)(t:TGs):TG:=λ v σ H Q=>∃a xs,v= .ref a/\yc K H a xs/\xs.length=n/\t xs σ H Q
def agM(hc:X.calm=true)(h:PGs X es t)(hn:(assignEach es X.env).length=n:=by rfl)(hst:(assignEach es X.env).findIdx? (·.1)=none:=by rfl):PG X (.Tuple es k pos) (apO X.K n t):=by intro pins s σ H v u Q I r hw;obtain ⟨a,xs,e1,hq,hl,hw⟩:=hw;subst e1;cases r;obtain ⟨its,rv,ht,hz⟩:=I.tuple hq;refine assign_Tuple_tuple (I.ok.hd hc) ht (by simp[hn, <-hl,rv.length]) hst λ h' hx=>?_;have I1:Inv X pins σ H {s with heap:=h'}:=I.kept (t':=s.toks) λ b o e=>hx b o (ĕ (č e)) e;exact h pins _ σ H xs _ Q I1 (by simpa using rv) hw
def apP(to ti:TE)(t:aiI):TG:=λ v σ H Q=>to σ H λ o H1=>ti σ H1 λ i H2=>t o i v H2 λ H3=>Q σ H3
def agN{o i:Expr}{to ti:TE}{t:aiI}(ho:PE X o to)(hi:PE X i ti)(hs:amI X t)
  (ha:∀v,assign (.Subscript o i pos) X.env v=(do
   let ov <-holding [v] (eval o X.env)
   let iv <-holding [v,ov] (eval i X.env)
   standAt pos
   holding [v,ov,iv] (setItem ov iv v)
   release [v,ov,iv] []):=by intro _;rfl):PG X (.Subscript o i pos) (apP to ti t):=by
 intro pins s σ H v u Q I r h
 rw[ha]
 refine Ă (Āz (fV (ho pins s σ H _ I h) λ ov s1 ⟨x,H1,I1,r1,q1⟩=>?_))
 refine Ă (Āz (fV (hi pins s1 σ H1 _ I1 q1) λ iv s2 ⟨y,H2,I2,r2,q2⟩=>?_))
 refine Ă (Ąy (Ă (Āz (fV (hs pins s2 σ H2 x y v ov iv u _ I2 r1 r2 r q2) λ _ s3 ⟨H3,I3,q3⟩=>?_))))
 exact wpAny_release ⟨σ,H3,I3,q3⟩
def akt(te:TE)(g:TG):TS:=λ D σ H=>te σ H λ x H1=>g x σ H1 D.nx
def Wu{tg e:Expr}{te:TE}{g:TG}(he:PE X e te)(hg:PG X tg g)(hs:swapsWithSole [tg] e pos.line X.env=pure false:=by rfl)(hw:swappedStores [tg] e X.env=pure none:=by rfl) (h1:(assignEach [tg] X.env).map (·.2)=[assign tg X.env]:=by rfl):PS X (.Assign [tg] e pos) (akt te g):=by intro pins s σ H D I h;refine wpAny_Assign_stores (fV (he pins s σ H _ I h) λ v s1 ⟨x,H1,I1,r1,q1⟩=>?_) hs hw;rw[h1];exact fV (hg pins s1 σ H1 x v _ I1 r1 q1) λ _ s2 q=>q
def KG{i:Nat}{x:Str}{e:Expr}{te:TE}{pos':Pos}(hN:X.N.Nodup)(hi:X.N[i]? =some x)(hx:Loc X.env.scope x)(he:PE X e te)(hs:swapsWith e (some (.Name x pos')) pos.line X.env=pure false:=by rfl)(hf:X.fn x=true\/X.env.scope.names.lookup x=some .local:=by first|exact .inl rfl|exact .inr rfl|assumption):
  PS X (.Assign [.Name x pos'] e pos) (akt te (aex i)):=by
 intro pins s σ H D I h;refine wpAny_Assign_Name (fV (he pins s σ H _ I h) λ v s1 ⟨y,H1,I1,r1,q1⟩=>?_) hs;exact vS I1 hN hi hx r1 (λ s2 I2=>⟨_,H1,I2,q1⟩) hf
def aov(i j:Nat)(ta:TA):TS:=λ D σ H=>ta σ H λ vs H1=>∃v w,vs=[v,w]/\D.nx ((σ.set i (some v)).set j (some w)) H1
def agI{i j:Nat}{x y:Str}{a b:Expr}{ta:TA}{px py pt:Pos}{kt k2 pt2}(hc:X.calm=true)(hN:X.N.Nodup)(hi:X.N[i]? =some x)(hj:X.N[j]? =some y)(hij:i≠j)
  (hx:X.env.scope.names.lookup x=some .local) (hy:X.env.scope.names.lookup y=some .local) (ha:PA X [a,b] ta)
  (hw:swappedStores [.Tuple [.Name x px,.Name y py] kt pt] (.Tuple [a,b] k2 pt2) X.env=pure (some [x,y]))
  (hs:swapsWithSole [.Tuple [.Name x px,.Name y py] kt pt] (.Tuple [a,b] k2 pt2) pos.line X.env=pure false:=by rfl):
  PS X (.Assign [.Tuple [.Name x px,.Name y py] kt pt] (.Tuple [a,b] k2 pt2) pos) (aov i j ta):=by
 intro pins s σ H D I h
 rw[exec_Assign_arm]
 refine Ă (Ąy ?_)
 rw[hs]
 refine Ă (Ě ?_)
 rw[if_neg `Â]
 refine Ă (Tuple_ (fV (ha _ pins s σ H _ I h) λ us s1 ⟨vs,H1,I1,r1,q1⟩=>?_))
 obtain ⟨v,w,e1,q1⟩:=q1
 subst e1
 obtain ⟨u1,u2,rfl,rv,rw'⟩:∃u1 u2,us=[u1,u2]/\RelV v u1/\RelV w u2:=by
  cases r1 with
  |cons p q=>
   cases q with
   |cons p' q'=>
    cases q'
    exact ⟨_,_,rfl,p,p'⟩
 refine Āc ?_ (by show 2<=Đ;decide)
 have I2:Inv X pins σ H1 {s1 with heap:=s1.heap.push {cls:= .type "tuple",data:= .seq [u1,u2].toArray}}:=I1.kept (t':=s1.toks) λ b o e=>Ā _ e
 rw[hw]
 refine Ă (Ě ?_)
 show wpAny `É X.A (do rule "assign.swapped-stores";let items <-unpackItems (.ref s1.heap.objs.size) 2 none;assignInOrder [λ v=>bindName X.env y v,λ v=>bindName X.env x v] items.reverse;pure Flow.next) _ _ _
 refine Ă (wpAny_rule (Ă (unpackItems_tuple (items:= #[u1,u2]) (I.ok.hd hc) (IsTup.new s1.heap _) λ h' hx'=>?_)))
 have I3:=I2.kept (h':=h') (t':=s1.toks) λ b o e=>hx' b o (ĕ (č e)) e
 show wpAny _ _ (assignInOrder [λ v=>bindName X.env y v,λ v=>bindName X.env x v] [u2,u1]>>=λ _=>pure Flow.next) _ _ _
 refine Ă (ăi (wpAny_bindName (vS I3 hN hj (.inl hy) rw' (λ s2 I4=>?_) (.inr hy))))
 refine ăi (wpAny_bindName (vS I4 hN hi (.inl hx) rv (λ s3 I5=>assignInOrder_nil (Ě ?_)) (.inr hx)))
 rw[List.set_comm _ _ (Ŋ hij)] at I5
 exact ⟨_,H1,I5,q1⟩
def agi(c:TT)(tb:TS):TS:=λ D σ H=>∃W:Nat->St->Hp->Prop,(∃m,W m σ H)/\∀m σ H,W m σ H->c σ H λ b H1=>if b=true then ∃N:St->Hp->Prop,(∀σ' H',N σ' H'->∃m',m'<m/\W m' σ' H')/\tb {D with nx:=N,ct:=N,bk:=D.nx} σ H1 else D.nx σ H1
def Ws{tb:TS}(hp:PassesOwn `É X.A X.env X.xe)(hc:PT X c tc)(hb:JX X body tb):PS X (.While c body [] pos) (agi tc tb):=by
 intro pins s σ H D I h;obtain ⟨W,⟨m0,w0⟩,turn⟩:=h;refine wpAny_While (codeAny_whileLoop (λ n s'=>∃σ' H',Inv X pins σ' H' s'/\W n σ' H') ?_ m0 ⟨σ,H,I,w0⟩)
 rintro n s1 ⟨σ1,H1,I1,w1⟩
 refine Āb hp (fV (hc pins s1 σ1 H1 _ I1 (turn n σ1 H1 w1)) λ b s2 ⟨H2,I2,q2⟩=>?_);cases b with
 |true=>
  obtain ⟨N,hN,q2⟩:=q2;rw[if_pos rfl];refine Āb hp (fV (hb pins s2 σ1 H2 _ I2 q2) λ f s3 q3=>?_);cases f with
  |next=>obtain ⟨σ3,H3,I3,n3⟩:=q3;obtain ⟨m',hm,w3⟩:=hN σ3 H3 n3;exact ⟨m',hm,σ3,H3,I3,w3⟩
  |cont=>obtain ⟨σ3,H3,I3,n3⟩:=q3;obtain ⟨m',hm,w3⟩:=hN σ3 H3 n3;exact ⟨m',hm,σ3,H3,I3,w3⟩
  |brk=>exact q3
  |ret v=>exact q3
 |false=>rw[if_neg Ĥ];exact Ăt ⟨σ1,H2,I2,q2⟩
end
set_option genInjectivity false in
structure It where
 go:Nat->Hp->Prop
 yld:Nat->Hp->V->Hp->Prop
 stop:Nat->Hp->Prop
def CS(X:Cx)(pins:`Ê)(H:Hp)(b:Addr):Prop:=H b=none/\b≠X.env.locals/\b∉X.fs/\(b∈X.ex\/X.s₀.heap.objs.size<=b)/\(∀x c,X.env.cells.lookup x=some c->c≠b)/\∀p∈X.pn++pins,p.1≠b
def Inv.LC{s:Shared}(I:`Ä)(hb:s.heap.objs.size<=b)(hn:H' b=none):CS X pins H' b:=by
 refine ⟨hn,ąi (Ē I.lt hb),I.ao2 hb,.inr (ģ I.sz hb),λ x c e z=>?_,λ p hp z=>?_⟩
 ·obtain ⟨v,q⟩:=I.cell x c e;exact absurd (Ē q.lt (by rw[z];exact hb)) (Ŏ _)
 ·exact absurd (Ē (č (I.pin p hp).1) (by rw[z];exact hb)) (Ŏ _)
structure Turn(P:Program)(w:World)(K:ă)(tg:Expr)(J:It)(fp:List Addr)(it:Addr)(tn:Nat->Heap->Prop):Prop where
 mem:it∈fp
 obj:∀i h,tn i h->∀b∈fp,∃o,h.get? b=some o/\∀v,o.data≠.cell v
 keep:∀i h h',tn i h->(∀b∈fp,∀o,h.get? b=some o->h'.get? b=some o)->tn i h'
 item:∀(X:Cx),X.prog=P->X.w=w->X.K=K->X.calm=true->∀(i:Nat) (pins:`Ê) (s:Shared) (σ:St) (H:Hp) (E:`Ã),Inv X pins σ H s->(∀b∈fp,CS X pins H b)->tn i s.heap->J.go i H->
  wpAny (model P w) X.A (pyNext (.ref it)) (λ r s1=>∃u,r=some u/\
   wpAny (model P w) X.A (letOwnedTupleGo tg (.ref it) u) (λ _ s2=>∃x H',Inv X pins σ H' s2/\RelV x u/\J.yld i H x H'/\tn (i+1) s2.heap/\∀b∈fp,H' b=none) E s1) E s
 done:∀(X:Cx),X.prog=P->X.w=w->X.K=K->X.calm=true->∀(i:Nat) (pins:`Ê) (s:Shared) (σ:St) (H:Hp) (E:`Ã),Inv X pins σ H s->(∀b∈fp,CS X pins H b)->tn i s.heap->J.stop i H->
  wpAny (model P w) X.A (pyNext (.ref it)) (λ r s1=>r=none/\Inv X pins σ H s1) E s
 self:∀(A:Around) (i:Nat) (s:Shared) (Q:`Ã) (E:`Ã),tn i s.heap->Q (.ref it) s->wpAny (model P w) A (pyIter (.ref it)) Q E s
abbrev TI:=St->Hp->(It->Hp->Prop)->Prop
def PIE(X:Cx)(pins:`Ê)(σ:St)(tg:Expr)(R:It->Hp->Prop)(itv:Value)(s2:Shared):Prop:=∃(it:Addr) (fp:List Addr) (tn:Nat->Heap->Prop) (J:It) (H':Hp),itv= .ref it/\Inv X pins σ H' s2/\Turn X.prog X.w X.K tg J fp it tn/\tn 0 s2.heap/\(∀b∈fp,CS X pins H' b)/\R J H'
def PI(X:Cx)(tg iter:Expr)(wi:TI):Prop:=∀(pins:`Ê) (s:Shared) (σ:St) (H:Hp) (R:It->Hp->Prop),Inv X pins σ H s->wi σ H R->wpAny `É X.A (eval iter X.env) (λ v s1=>wpAny `É X.A (pyIter v) (PIE X pins σ tg R) X.xe s1) X.xe s
def Js{M:Model}{s:Shared}{Q:Unit->Shared->Prop}(ho:s.heap.get? it=some o)(hc:o.cls= .type n)(hd:o.data= .fields vs)(hn:["enumerate","zip","dict_itemiterator","dict_reverseitemiterator","odict_iterator","itertools.zip_longest","itertools.pairwise"].contains n=false)(hQ:Q () s):wpAny M A (letOwnedTupleGo tg (.ref it) u) Q E s:=by
 unfold letOwnedTupleGo;cases tg<;>first
  |exact Ě hQ
  |(cases u<;>first
    |exact Ě hQ
    |(refine Ă (wpAny_load ho ?_)
      rw[hc,hd]
      show wpAny M A (if (["enumerate","zip","dict_itemiterator","dict_reverseitemiterator","odict_iterator","itertools.zip_longest","itertools.pairwise"].contains n&&vs[0]? ==some (rawInt _))=true then _ else _) Q E s
      rw[if_neg (by intro h;rw[hn,Bool.false_and] at h;cases h)]
      exact Ě hQ))
noncomputable def Itl(K:ă)(a:Addr):It:=⟨λ i H=>∃xs x,qO K H a xs/\xs[i]? =some x,λ i H x H'=>H'=H/\∀xs,qO K H a xs->xs[i]? =some x,λ i H=>∃xs,qO K H a xs/\xs.length<=i⟩
noncomputable def Itt(K:ă)(a:Addr):It:=⟨λ i H=>∃xs x,yc K H a xs/\xs[i]? =some x,λ i H x H'=>H'=H/\∀xs,yc K H a xs->xs[i]? =some x,λ i H=>∃xs,yc K H a xs/\xs.length<=i⟩
noncomputable def Itr(lo:Int)(n:Nat):It:=⟨λ i _=>i<n,λ i H x H'=>H'=H/\x= .int (lo+i),λ i _=>n<=i⟩
def Tt{P:Program}{w:World}{K:ă}{tg:Expr}(a it:Addr):Turn P w K tg (Itl K a) [it] it (λ i h=>h.IsListIter it a i) where
 mem:=by simp
 obj:=λ i h st b hb=>by
  have e:b=it:=by simpa using hb
  subst e
  obtain ⟨o,e,c,d⟩:=st
  exact ⟨o,e,λ v z=>by rw[d] at z;cases z⟩
 keep:=λ i h h' st k=>st.at λ o e=>k it `Ó o e
 item:=by
  intro X hP hw hK hc i pins s σ H E I hf st hg
  subst hP hw hK
  obtain ⟨xs,x,hq,hx⟩:=hg
  obtain ⟨its,rv,p,hz⟩:=I.list hq
  obtain ⟨u,hu,ru⟩:=rv.get hx
  obtain ⟨f0,f1,f2,f3,f4,f5⟩:=hf it `Ó
  refine wpAny_pyNext_list_item st p.isList (x:=u) (by simpa using hu) λ h' st' sb=>?_
  have I1:Inv X pins σ H {s with heap:=h'}:=I.turned (t':=s.toks) (λ b o hb e=>(sb.2 b hb).trans e) f0 f1 f3 f4 f5
  obtain ⟨o,e,c,d⟩:=id st'
  exact ⟨u,rfl,Js (s:={s with heap:=h'}) e c d `Â ⟨x,H,I1,ru,⟨rfl,λ ys hy=>by rw[I.XS hy hq];exact hx⟩,st',λ b hb=>(hf b hb).1⟩⟩
 done:=by
  intro X hP hw hK hc i pins s σ H E I hf st hg
  subst hP hw hK
  obtain ⟨xs,hq,hx⟩:=hg
  obtain ⟨its,rv,p,hz⟩:=I.list hq
  obtain ⟨f0,f1,f2,f3,f4,f5⟩:=hf it `Ó
  have hl:=rv.length
  exact wpAny_pyNext_list_end (I.ok.hd hc) st p.isList (by simp;omega) λ h' eb=>⟨rfl,I.turned (t':=s.toks) (λ b o hb e=>eb b o hb e) f0 f1 f3 f4 f5⟩
 self:=λ _ _ _ _ _ st h=>wpAny_pyIter_listiter st h
def Kg{P:Program}{w:World}{K:ă}{tg:Expr}(a it:Addr):Turn P w K tg (Itt K a) [it] it (λ i h=>h.IsTupleIter it a i) where
 mem:=by simp
 obj:=λ i h st b hb=>by
  have e:b=it:=by simpa using hb
  subst e
  obtain ⟨o,e,c,d⟩:=st
  exact ⟨o,e,λ v z=>by rw[d] at z;cases z⟩
 keep:=λ i h h' st k=>st.at λ o e=>k it `Ó o e
 item:=by
  intro X hP hw hK hc i pins s σ H E I hf st hg
  subst hP hw hK
  obtain ⟨xs,x,hq,hx⟩:=hg
  obtain ⟨its,rv,p,hz⟩:=I.tuple hq
  obtain ⟨u,hu,ru⟩:=rv.get hx
  obtain ⟨f0,f1,f2,f3,f4,f5⟩:=hf it `Ó
  refine wpAny_pyNext_tuple_item st (show s.heap.IsTuple a its.toArray from p) (x:=u) (by simpa using hu) λ h' st' sb=>?_
  have I1:Inv X pins σ H {s with heap:=h'}:=I.turned (t':=s.toks) (λ b o hb e=>(sb.2 b hb).trans e) f0 f1 f3 f4 f5
  obtain ⟨o,e,c,d⟩:=id st'
  exact ⟨u,rfl,Js (s:={s with heap:=h'}) e c d `Â ⟨x,H,I1,ru,⟨rfl,λ ys hy=>by rw[I.D3 hy hq];exact hx⟩,st',λ b hb=>(hf b hb).1⟩⟩
 done:=by
  intro X hP hw hK hc i pins s σ H E I hf st hg
  subst hP hw hK
  obtain ⟨xs,hq,hx⟩:=hg
  obtain ⟨its,rv,p,hz⟩:=I.tuple hq
  obtain ⟨f0,f1,f2,f3,f4,f5⟩:=hf it `Ó
  have hl:=rv.length
  exact wpAny_pyNext_tuple_end (I.ok.hd hc) st (show s.heap.IsTuple a its.toArray from p) (by simp;omega) λ h' eb=>⟨rfl,I.turned (t':=s.toks) (λ b o hb e=>eb b o hb e) f0 f1 f3 f4 f5⟩
 self:=λ _ _ _ _ _ st h=>wpAny_pyIter_tupleiter st h
def Kh{P:Program}{w:World}{K:PySem.W.Frag}{tg:Expr}(it:Addr)(lo:Int)(n:Nat):Turn P w K tg (Itr lo n) [it] it (λ i h=>IsRangeIter h it (lo+(i:Nat)*1) ((n:Int) -(i:Nat)) 1) where
 mem:=by simp
 obj:=λ i h st b hb=>by
  have e:b=it:=by simpa using hb
  subst e
  exact ⟨_,st,λ v z=>by
   have z':Data.fields _=Data.cell v:=z
   cases z'⟩
 keep:=λ i h h' st k=>k it `Ó _ st
 item:=by
  intro X hP hw hK hc i pins s σ H E I hf st hg
  subst hP hw hK
  obtain ⟨f0,f1,f2,f3,f4,f5⟩:=hf it `Ó
  have W:=Walks.range (prog:=X.prog) (w:=X.w) (I.ok.hd hc) it lo 1 n
  refine W.item i s _ _ hg st λ v h' tk hv st' kk=>?_
  obtain ⟨t,rfl⟩:=hv
  have I1:Inv X pins σ H {s with heap:=h',toks:=tk}:=I.turned (λ b o hb e=>kk b o (by simpa using hb) e) f0 f1 f3 f4 f5
  refine ⟨_,rfl,Js (s:={s with heap:=h',toks:=tk}) (n:="range_iterator") st' rfl rfl `Â ⟨.int (lo+i),H,I1,⟨t,?_⟩,⟨rfl,rfl⟩,st',λ b hb=>(hf b hb).1⟩⟩
  rw[Int.mul_one]
 done:=by
  intro X hP hw hK hc i pins s σ H E I hf st hg
  subst hP hw hK
  obtain ⟨f0,f1,f2,f3,f4,f5⟩:=hf it `Ó
  exact wpAny_pyNext_range_end (I.ok.hd hc) st (by have:n<=i:=hg;omega) λ h' eb=>⟨rfl,I.turned (t':=s.toks) (λ b o hb e=>eb b o hb e) f0 f1 f3 f4 f5⟩
 self:=λ _ _ _ _ _ st h=>wpAny_pyIter_rangeiter st h
section
variable{X:Cx}{tg:Expr}
def alK(K:ă)(tl:TE):TI:=λ σ H R=>tl σ H λ x H1=>∃a,x= .ref a/\(∃xs,qO K H1 a xs)/\R (Itl K a) H1
def aph(K:ă)(tl:TE):TI:=λ σ H R=>tl σ H λ x H1=>∃a,x= .ref a/\(∃xs,yc K H1 a xs)/\R (Itt K a) H1
def ue{l:Expr}{tl:TE}(hl:PE X l tl):PI X tg l (alK X.K tl):=by
 intro pins s σ H R I h;refine fV (hl pins s σ H _ I h) λ v s1 ⟨x,H1,I1,r1,q1⟩=>?_;obtain ⟨a,e,⟨xs,hq⟩,q⟩:=q1;subst e;cases r1;obtain ⟨its,rv,p,hz⟩:=I1.list hq;refine wpAny_pyIter_list p.isList ?_;refine ⟨s1.heap.objs.size,[s1.heap.objs.size],_,_,H1,rfl,I1.kept (t':=s1.toks) λ b o e=>Ā _ e,Tt a _,⟨_,đ _ rfl,rfl,rfl⟩,λ b hb=>?_,q⟩;have e:b=s1.heap.objs.size:=by simpa using hb
 subst e;exact I1.LC (Ĉ _) (I1.hok.fresh (Ĉ _))
def FI{l:Expr}{tl:TE}(hl:PE X l tl):PI X tg l (aph X.K tl):=by
 intro pins s σ H R I h;refine fV (hl pins s σ H _ I h) λ v s1 ⟨x,H1,I1,r1,q1⟩=>?_;obtain ⟨a,e,⟨xs,hq⟩,q⟩:=q1;subst e;cases r1;obtain ⟨its,rv,p,hz⟩:=I1.tuple hq;refine āt (show s1.heap.IsTuple a its.toArray from p) ?_;refine ⟨s1.heap.objs.size,[s1.heap.objs.size],_,_,H1,rfl,I1.kept (t':=s1.toks) λ b o e=>Ā _ e,Kg a _,⟨_,đ _ rfl,rfl,rfl⟩,λ b hb=>?_,q⟩;have e:b=s1.heap.objs.size:=by simpa using hb
 subst e;exact I1.LC (Ĉ _) (I1.hok.fresh (Ĉ _))
def Wn{pins:`Ê}{σ:St}{H:Hp}{s:Shared}{R:It->Hp->Prop}{E:`Ã}{lo hi:Int}{t u v:Tok}{tk:Nat}(I:`Ä)(h1: -(2^62)<=lo)(h2:lo<2^62)(h3: -(2^62)<=hi)(h4:hi<2^62) (q:R (Itr lo (hi- lo).toNat) H):wpAny `É X.A (pyIter (.ref s.heap.objs.size)) (PIE X pins σ tg R) E {s with heap:=s.heap.push {cls:= .type "range",data:= .fields #[.int lo t,.int hi u,.int 1 v]},toks:=tk}:=by
 refine wpAny_pyIter_range (IsRange.new ..) (small_one h1 h2 h3 h4) ?_;have I1:Inv X pins σ H {s with heap:=s.heap.push {cls:= .type "range",data:= .fields #[.int lo t,.int hi u,.int 1 v]},toks:=tk}:=I.kept λ b o e=>Ā _ e;refine ⟨(s.heap.push {cls:= .type "range",data:= .fields #[.int lo t,.int hi u,.int 1 v]}).objs.size,[(s.heap.push {cls:= .type "range",data:= .fields #[.int lo t,.int hi u,.int 1 v]}).objs.size],_,_,H,rfl,
  I1.kept (t':=tk) λ b o e=>Ā _ e,Kh _ lo (hi- lo).toNat,?_,λ b hb=>?_,q⟩
 ·have e1:lo+((0:Nat):Int)*1=lo:=by simp
  have e2:(((hi- lo).toNat:Nat):Int) -((0:Nat):Int)=Builtin.Range.rangeSize lo hi 1:=by rw[rangeSize_one];split<;>omega
  show IsRangeIter _ _ (lo+((0:Nat):Int)*1) ((((hi- lo).toNat:Nat):Int) -((0:Nat):Int)) 1;rw[e1,e2];exact đ _ rfl
 ·have e:b=(s.heap.push {cls:= .type "range",data:= .fields #[.int lo t,.int hi u,.int 1 v]}).objs.size:=by simpa using hb
  subst e;exact I1.LC (Ĉ _) (I1.hok.fresh (Ĉ _))
def gS(ta:TA):TI:=λ σ H R=>ta σ H λ vs H1=>∃j:Int,vs=[.int j]/\ -(2^62)<=j/\j<2^62/\R (Itr 0 j.toNat) H1
def TR{a:Expr}{ta:TA}{p pos:Pos}(hg:Gl X "range")(hm:X.mg "range"=none)(ha:PA X [a] ta)(hs:ć [a] X.env=[(false,eval a X.env)]:=by rfl):PI X tg (.Call (.Name "range" p) [a] [] pos) (gS ta):=by
 intro pins s σ H R I h;refine Call_ (B5 I hg hm boot_range (āc (fV (ha pos pins s σ H _ I h) λ us s1 ⟨vs,H1,I1,r1,q1⟩=>?_) hs rfl));obtain ⟨j,e,q1,q2,q⟩:=q1;subst e;cases r1 with
 |cons r rr=>cases rr;obtain ⟨t,rfl⟩:=r;exact call_range_1 (Wn I1 `À `À q1 q2 (by simpa using q))
def aoA(wi:TI)(g:TG)(tb:TS):TS:=λ D σ H=>wi σ H λ J H1=>∃W:Nat->Nat->St->Hp->Prop,(∃m,W 0 m σ H1)/\∀i m σ H,W i m σ H->(J.stop i H/\D.nx σ H)\/(J.go i H/\∃N:St->Hp->Prop,(∀σ' H',N σ' H'->∃m',m'<m/\W (i+1) m' σ' H')/\∀x H',J.yld i H x H'->g x σ H' λ σ2 H2=>tb {D with nx:=N,ct:=N,bk:=D.nx} σ2 H2)
noncomputable def Be(fp:List Addr)(h:Heap):List (Addr×Obj):=fp.filterMap λ b=>(h.get? b).map λ o=>(b,o)
def qZ(hb:b∈fp)(e:h.get? b=some o):(b,o)∈Be fp h:=ăj.mpr ⟨b,hb,by rw[e];rfl⟩
def Ue(hp:p∈Be fp h):p.1∈fp/\h.get? p.1=some p.2:=by
 obtain ⟨b,hb,e⟩:=ăj.mp hp;cases q:h.get? b with
 |none=>rw[q] at e;cases e
 |some o=>rw[q] at e;have e':(b,o)=p:=ĝ e;subst e';exact ⟨hb,q⟩
def Inv.pinned{s:Shared}(I:`Ä)(hf:∀b∈fp,CS X pins H b)(ho:∀b∈fp,∃o,s.heap.get? b=some o/\∀v,o.data≠.cell v):Inv X (pins++Be fp s.heap) σ H s:=I.RC λ p hp=>(İ.mp hp).elim (λ z=>I.pin p (ĵ _ z)) λ z=>by obtain ⟨hb,e⟩:=Ue z;obtain ⟨f0,f1,f2,_⟩:=hf p.1 hb;obtain ⟨o,e',d⟩:=ho p.1 hb;rw[e] at e';cases e';exact ⟨e,f0,f1,f2,d⟩
def Inv.se{s:Shared}(I:Inv X (pins++pl) σ H s):Inv X pins σ H s:=I.RC λ p hp=>I.pin p (ĵ _ (Ăq _ hp))
def agJ{g:TG}{tb:TS}(hp:PassesOwn `É X.A X.env X.xe)(hc:X.calm=true)(hi:PI X tg iter wi)(hg:PG X tg g)(hb:JX X body tb)(hs:∀x,foldedSetIterable iter X.env x=pure x:=by intro _;rfl):PS X (.For tg iter body [] pos) (aoA wi g tb):=by
 intro pins s σ H D I h;refine wpAny_For (fV (hi pins s σ H _ I h) λ v s1 h1=>fV h1 λ itv s2 h2=>?_) hs;obtain ⟨it,fp,tn,J,H2,e,I2,T,st2,f2,W,⟨m0,w0⟩,turn⟩:=h2;subst e
 -- what stays true of D5 ahD objects through D5 loop
 have agr:∀{H':Hp},(∀b∈fp,H' b=none)->∀b∈fp,CS X pins H' b:=λ hn b hb=>⟨hn b hb,(f2 b hb).2⟩;refine codeAny_forLoop_any (λ n s'=>∃i σ' H',Inv X pins σ' H' s'/\tn i s'.heap/\(∀b∈fp,H' b=none)/\W i n σ' H') ?_ m0 ⟨0,σ,H2,I2,st2,λ b hb=>(f2 b hb).1,w0⟩
 rintro n s3 ⟨i,σ3,H3,I3,st3,fr3,w3⟩
 rcases turn i n σ3 H3 w3 with ⟨stop,qn⟩|⟨go,N,hN,step⟩
 ·refine Āb hp (fV (T.done X rfl rfl rfl hc i pins s3 σ3 H3 X.xe I3 (agr fr3) st3 stop) λ r s4 ⟨hr,I4⟩=>?_);subst hr;exact Ăt ⟨σ3,H3,I4,qn⟩
 ·refine Āb hp (fV (T.item X rfl rfl rfl hc i pins s3 σ3 H3 X.xe I3 (agr fr3) st3 go) λ r s4 ⟨u,hr,h4⟩=>?_);subst hr;refine Āb hp (fV h4 λ _ s5 ⟨x,H5,I5,r5,y5,st5,fr5⟩=>?_);have I5':=I5.pinned (agr fr5) (T.obj _ _ st5);refine Āb hp (fV (hg _ s5 σ3 H5 x u _ I5' r5 (step x H5 y5)) λ _ s6 ⟨σ6,H6,I6,q6⟩=>?_);refine Āb hp (fV (hb _ s6 σ6 H6 _ I6 q6) λ f s7 q7=>?_);have again:∀{σ7:St} {H7:Hp},Inv X (pins++Be fp s5.heap) σ7 H7 s7->N σ7 H7->∃m,m<n/\∃i σ' H',Inv X pins σ' H' s7/\tn i s7.heap/\(∀b∈fp,H' b=none)/\W i m σ' H':=λ{σ7 H7} I7 n7=>by obtain ⟨m',hm,w7⟩:=hN σ7 H7 n7;refine ⟨m',hm,i+1,σ7,H7,I7.se,T.keep _ _ _ st5 λ b hb o e=>(I7.pin (b,o) (ĵ _ (ĵ _ (qZ hb e)))).1,λ b hb=>?_,w7⟩;obtain ⟨o,e,d⟩:=T.obj _ _ st5 b hb;exact (I7.pin (b,o) (ĵ _ (ĵ _ (qZ hb e)))).2.1
  cases f with
  |next=>obtain ⟨σ7,H7,I7,n7⟩:=q7;exact again I7 n7
  |cont=>obtain ⟨σ7,H7,I7,n7⟩:=q7;exact again I7 n7
  |brk=>obtain ⟨σ7,H7,I7,q7⟩:=q7;exact ⟨σ7,H7,I7.se,q7⟩
  |ret v=>obtain ⟨x7,σ7,H7,I7,r7,q7⟩:=q7;exact ⟨x7,σ7,H7,I7.se,r7,q7⟩
end
abbrev R2:=V->V->Hp->VK->Prop
def p8(X:Cx)(f:Value->Value->Sem Value)(r:R2):Prop:=∀(pins:`Ê) (s:Shared) (σ:St) (H:Hp) (x y:V) (v u:Value) (Q:VK),Inv X pins σ H s->RelV x v->RelV y u->r x y H Q->wpAny `É X.A (f v u) (EP X pins σ Q) X.xe s
def UnR(X:Cx)(f:Value->Sem Value)(r:V->Hp->VK->Prop):Prop:=∀(pins:`Ê) (s:Shared) (σ:St) (H:Hp) (x:V) (v:Value) (Q:VK),Inv X pins σ H s->RelV x v->r x H Q->wpAny `É X.A (f v) (EP X pins σ Q) X.xe s
def qN(X:Cx)(f:Value)(r:List V->Hp->VK->Prop):Prop:=∀(pins:`Ê) (s:Shared) (σ:St) (H:Hp) (xs:List V) (us:`Ð) (Q:VK),Inv X pins σ H s->Vals xs us->r xs H Q->wpAny `É X.A (call f us) (EP X pins σ Q) X.xe s
def tOp(r:R2)(ta tb:TE):TE:=λ σ H Q=>ta σ H λ x H1=>tb σ H1 λ y H2=>r x y H2 Q
def tUn(r:V->Hp->VK->Prop)(ta:TE):TE:=λ σ H Q=>ta σ H λ x H1=>r x H1 Q
def rI(C:Int->Int->Prop)(g:Int->Int->V):R2:=λ x y H Q=>∃i j,x= .int i/\y= .int j/\C i j/\Q (g i j) H
def rI0(g:Int->Int->V):R2:=λ x y H Q=>∃i j,x= .int i/\y= .int j/\Q (g i j) H
def rU(g:Int->V):V->Hp->VK->Prop:=λ x H Q=>∃i,x= .int i/\Q (g i) H
section
variable{X:Cx}{a b c:Expr}{ta tb tc:TE}{pos:Pos}
def aiu(ha:PE X a ta)(hb:PE X b tb){pins:`Ê}{s:Shared}{σ:St}{H:Hp}{R:V->V->Hp->Prop}(I:`Ä) (h:ta σ H λ x H1=>tb σ H1 λ y H2=>R x y H2) {Q:`Ã} {f:Value->Value->Sem Value} (hf:∀v u s2 x y H2,Inv X pins σ H2 s2->RelV x v->RelV y u->R x y H2->wpAny `É X.A (f v u) Q X.xe s2):
  wpAny `É X.A (eval a X.env) (λ v s₁=>wpAny `É X.A (eval b X.env) (λ u s₂=>wpAny `É X.A (f v u) Q X.xe s₂) X.xe s₁) X.xe s:=by
 refine fV (ha pins s σ H _ I h) λ v s1 ⟨x,H1,I1,r1,q1⟩=>?_;refine fV (hb pins s1 σ H1 _ I1 q1) λ u s2 ⟨y,H2,I2,r2,q2⟩=>?_;exact hf v u s2 x y H2 I2 r1 r2 q2
def aei{op:Operator}{r:R2}(ho:p8 X (binaryOp op) r)(ha:PE X a ta)(hb:PE X b tb):PE X (.BinOp a op b pos) (tOp r ta tb):=by intro pins s σ H Q I h;exact wpAny_BinOp (aiu ha hb I h λ v u s2 x y H2 I2 rx ry q=>ho pins s2 σ H2 x y v u Q I2 rx ry q)
def ak0{r:V->Hp->VK->Prop}(ho:UnR X (unaryOp op) r)(ha:PE X a ta):PE X (.UnaryOp op a pos) (tUn r ta):=by intro pins s σ H Q I h;exact UnaryOp_ (fV (ha pins s σ H _ I h) λ v s1 ⟨x,H1,I1,r1,q1⟩=>ho pins s1 σ H1 x v Q I1 r1 q1)
def opI{f:Value->Value->Sem Value}{C:Int->Int->Prop}{g:Int->Int->Int} (rule:∀(i j:Int) (t u:Tok) (s:Shared) (Q:`Ã) (E:`Ã),C i j->Q (.int (g i j) s.toks) {s with toks:=s.toks+1}->wpAny `É X.A (f (.int i t) (.int j u)) Q E s):
  p8 X f (rI C λ i j=> .int (g i j)):=by
 intro pins s σ H x y v u Q I rx ry h;obtain ⟨i,j,rfl,rfl,hc,q⟩:=h;obtain ⟨t,rfl⟩:=rx;obtain ⟨t',rfl⟩:=ry;exact rule i j t t' s _ _ hc ⟨.int (g i j),H,I.tok _,⟨_,rfl⟩,q⟩
def ag2{f:Value->Value->Sem Value}{g:Int->Int->Int} (rule:∀(i j:Int) (t u:Tok) (s:Shared) (Q:`Ã) (E:`Ã),Q (.int (g i j) s.toks) {s with toks:=s.toks+1}->wpAny `É X.A (f (.int i t) (.int j u)) Q E s):
  p8 X f (rI0 λ i j=> .int (g i j)):=by
 intro pins s σ H x y v u Q I rx ry h;obtain ⟨i,j,rfl,rfl,q⟩:=h;obtain ⟨t,rfl⟩:=rx;obtain ⟨t',rfl⟩:=ry;exact rule i j t t' s _ _ ⟨.int (g i j),H,I.tok _,⟨_,rfl⟩,q⟩
def ag3{f:Value->Value->Sem Value}{g:Int->Int->Bool} (rule:∀(i j:Int) (t u:Tok) (s:Shared) (Q:`Ã) (E:`Ã),Q (.bool (g i j)) s->wpAny `É X.A (f (.int i t) (.int j u)) Q E s):
  p8 X f (rI0 λ i j=> .bl (g i j)):=by
 intro pins s σ H x y v u Q I rx ry h;obtain ⟨i,j,rfl,rfl,q⟩:=h;obtain ⟨t,rfl⟩:=rx;obtain ⟨t',rfl⟩:=ry;exact rule i j t t' s _ _ ⟨.bl (g i j),H,I,rfl,q⟩
def ag1:p8 X (binaryOp .Add) (rI0 λ i j=> .int (i+j)):=ag2 λ _ _ _ _ _ _ _ q=>add_int q
def agZ:p8 X (binaryOp .Sub) (rI0 λ i j=> .int (i- j)):=ag2 λ _ _ _ _ _ _ _ q=>sub_int q
def ab7:p8 X (binaryOp .Mod) (rI (λ _ j=>j≠0) λ i j=> .int (i.fmod j)):=opI λ _ _ _ _ _ _ _ hc q=>mod_int' hc q
def agY:p8 X (binaryOp .BitXor) (rI0 λ i j=> .int (Builtin.bitXor i j)):=ag2 λ _ _ _ _ _ _ _ q=>xor_int q
def unI{f:Value->Sem Value}{g:Int->Int} (rule:∀(i:Int) (t:Tok) (s:Shared) (Q:`Ã) (E:`Ã),Q (.int (g i) s.toks) {s with toks:=s.toks+1}->wpAny `É X.A (f (.int i t)) Q E s):
  UnR X f (rU λ i=> .int (g i)):=by
 intro pins s σ H x v Q I rx h;obtain ⟨i,rfl,q⟩:=h;obtain ⟨t,rfl⟩:=rx;exact rule i t s _ _ ⟨.int (g i),H,I.tok _,⟨_,rfl⟩,q⟩
def af9:UnR X (unaryOp .USub) (rU λ i=> .int (-i)):=unI λ _ _ _ _ _ q=>neg_int q
def ah2{s:Shared}{Q:VK}(I:`Ä)(q:Q (.bl k) H)(e:k=k'):EP X pins σ Q (.bool k') s:=by subst e;exact ⟨.bl k,H,I,rfl,q⟩
def Eo:p8 X (compareOp .Lt) (rI0 λ i j=> .bl (decide (i<j))):=ag3 λ _ _ _ _ _ _ _ q=>lt_int q
def uO:p8 X (compareOp .LtE) (rI0 λ i j=> .bl (decide (i<=j))):=ag3 λ _ _ _ _ _ _ _ q=>le_int q
def ak9:p8 X (compareOp .Gt) (rI0 λ i j=> .bl (decide (j<i))):=ag3 λ _ _ _ _ _ _ _ q=>gt_int q
def TY:p8 X (compareOp .In) (λ x y H Q=>∃i j,x= .str i/\y= .str j/\Q (.bl (!(āw j i 0 j.length 1).isEmpty)) H):=by intro pins s σ H x y v u Q I rx ry h;obtain ⟨i,j,rfl,rfl,q⟩:=h;obtain ⟨t,rfl⟩:=rx;obtain ⟨t',rfl⟩:=ry;exact in_str (ah2 I q rfl)
def p8.or{r r':R2}(h:p8 X f r)(h':p8 X f r'):p8 X f (λ x y H Q=>r x y H Q\/r' x y H Q):=by
 intro pins s σ H x y v u Q I rx ry q;rcases q with q|q
 ·exact h pins s σ H x y v u Q I rx ry q
 ·exact h' pins s σ H x y v u Q I rx ry q
def qY(b:Expr)(h:op≠.In:=by decide)(h2:op≠.NotIn:=by decide):behindInMarks op b=false:=by
 have e1:(op==CmpOp.In)=false:=by cases op<;>first|rfl|exact absurd rfl h
 have e2:(op==CmpOp.NotIn)=false:=by cases op<;>first|rfl|exact absurd rfl h2
 cases b<;>simp[behindInMarks,e1,e2]
def ab3{op:CmpOp}{r:R2}(ho:p8 X (compareOp op) r)(ha:PE X a ta)(hb:PE X b tb)(hm:behindInMarks op b=false):PE X (.Compare a [op] [b] pos) (tOp r ta tb):=by intro pins s σ H Q I h;exact wpAny_Compare1 (aiu ha hb I h λ v u s2 x y H2 I2 rx ry q=>ho pins s2 σ H2 x y v u Q I2 rx ry q) hm
def VX(t:TE):TT:=λ σ H Q=>t σ H λ x H'=>∃k,x= .bl k/\Q k H'
def abR{r:R2}(ho:p8 X (compareOp op) r)(ha:PE X a ta)(hb:PE X b tb)(hm:behindInMarks op b=false):PT X (.Compare a [op] [b] pos) (VX (tOp r ta tb)):=by intro pins s σ H Q I h;refine wpAny_isTrue_Compare1 (fV (ha pins s σ H _ I h) λ v s1 ⟨x,H1,I1,r1,q1⟩=>fV (hb pins s1 σ H1 _ I1 q1) λ u s2 ⟨y,H2,I2,r2,q2⟩=>fV (ho pins s2 σ H2 x y v u _ I2 r1 r2 q2) λ c s3 ⟨z,H3,I3,r3,k,e,q3⟩=>?_) hm;subst e;cases r3;exact Ţ ⟨H3,I3,q3⟩
def Kp(r r':R2)(ta tb tc:TE):TE:=λ σ H Q=>ta σ H λ x H1=>tb σ H1 λ y H2=>r x y H2 λ z H3=>∃k,z= .bl k/\(if k=true then tc σ H3 λ w' H4=>r' y w' H4 Q else Q (.bl false) H3)
def WX{r r':R2}(ho:p8 X (compareOp op) r)(ho':p8 X (compareOp op') r')(ha:PE X a ta)(hb:PE X b tb)(hc:PE X c tc)(hm:lastMarks [op,op'] [b,c]=false:=by with_unfolding_all rfl):PE X (.Compare a [op,op'] [b,c] pos) (Kp r r' ta tb tc):=by
 intro pins s σ H Q I h;refine Compare_chain (fV (ha pins s σ H _ I h) λ v s1 ⟨x,H1,I1,r1,q1⟩=>chain_link (fV (hb pins s1 σ H1 _ I1 q1) λ u s2 ⟨y,H2,I2,r2,q2⟩=>fV (ho pins s2 σ H2 x y v u _ I2 r1 r2 q2) λ d s3 ⟨z,H3,I3,r3,k,e,q3⟩=>?_)) hm;subst e;cases r3;refine Ţ ?_;cases k with
 |false=>exact ite_ff ⟨.bl false,H3,I3,rfl,q3⟩
 |true=>exact ite_tt (chain_last (fV (hc pins s3 σ H3 _ I3 q3) λ w' s4 ⟨z',H4,I4,r4,q4⟩=>ho' pins s4 σ H4 y z' u w' Q I4 r2 r4 q4))
def Wq{r r':R2}(ho:p8 X (compareOp op) r)(ho':p8 X (compareOp op') r')(ha:PE X a ta)(hb:PE X b tb)(hc:PE X c tc)(hm:lastMarks [op,op'] [b,c]=false:=by with_unfolding_all rfl):PT X (.Compare a [op,op'] [b,c] pos) (VX (Kp r r' ta tb tc)):=by
 intro pins s σ H Q I h;refine isTrue_chain (fV (ha pins s σ H _ I h) λ v s1 ⟨x,H1,I1,r1,q1⟩=>test_link (fV (hb pins s1 σ H1 _ I1 q1) λ u s2 ⟨y,H2,I2,r2,q2⟩=>fV (ho pins s2 σ H2 x y v u _ I2 r1 r2 q2) λ d s3 ⟨z,H3,I3,r3,k,e,q3⟩=>?_)) hm;subst e;cases r3;refine Ţ ?_;cases k with
 |false=>obtain ⟨k',e',q'⟩:=q3;cases e';exact ite_ff ⟨H3,I3,q'⟩
 |true=>refine ite_tt (test_last (fV (hc pins s3 σ H3 _ I3 q3) λ w' s4 ⟨z',H4,I4,r4,q4⟩=>fV (ho' pins s4 σ H4 y z' u w' _ I4 r2 r4 q4) λ d' s5 ⟨z2,H5,I5,r5,k2,e2,q5⟩=>?_));subst e2;cases r5;exact Ţ ⟨H5,I5,q5⟩
def B0:(Đ:Nat)<2^63:=by rw[Ĵ];decide
def KI:p8 X (binaryOp .Add) (λ x y H Q=>∃i j,x= .str i/\y= .str j/\i.length+j.length<=Đ/\Q (.str (i++j)) H):=by intro pins s σ H x y v u Q I rx ry h;obtain ⟨i,j,rfl,rfl,hz,q⟩:=h;obtain ⟨t,rfl⟩:=rx;obtain ⟨t',rfl⟩:=ry;exact add_str (λ t' tk=>⟨.str (i++j),H,I.tok _,⟨_,rfl⟩,q⟩) hz
def vals1(r:Vals [x] us):∃u,us=[u]/\RelV x u:=by
 cases r with
 |cons r1 r2=>cases r2;exact ⟨_,rfl,r1⟩
def vals2{x y:V}(r:Vals [x,y] us):∃u w',us=[u,w']/\RelV x u/\RelV y w':=by
 cases r with
 |cons r1 r2=>
  cases r2 with
  |cons r3 r4=>cases r4;exact ⟨_,_,rfl,r1,r3⟩
def Zn:qN X (.builtin "abs") (λ xs H Q=>∃i,xs=[.int i]/\Q (.int (if i<0 then -i else i)) H):=by intro pins s σ H xs us Q I r h;obtain ⟨i,rfl,q⟩:=h;obtain ⟨u,rfl,t,rfl⟩:=vals1 r;exact call_abs_int λ u tk=>⟨.int (if i<0 then -i else i),H,I.tok _,⟨_,rfl⟩,q⟩
def Ve(hc:X.calm=true):qN X (.builtin "max") (λ xs H Q=>∃i j,xs=[.int i,.int j]/\Q (.int (if j>i then j else i)) H):=by
 intro pins s σ H xs us Q I r h;obtain ⟨i,j,rfl,q⟩:=h;obtain ⟨u,w',rfl,⟨t,rfl⟩,⟨t',rfl⟩⟩:=vals2 r;refine max_two_ints (I.ok.hd hc) λ h' tk k=>⟨_,H,I.kept k,?_,q⟩;by_cases hj:j>i
 ·rw[if_pos hj,if_pos hj];exact ⟨_,rfl⟩
 ·rw[if_neg hj,if_neg hj];exact ⟨_,rfl⟩
def Vd(hc:X.calm=true):qN X (.builtin "min") (λ xs H Q=>∃i j,xs=[.int i,.int j]/\Q (.int (if j<i then j else i)) H):=by
 intro pins s σ H xs us Q I r h;obtain ⟨i,j,rfl,q⟩:=h;obtain ⟨u,w',rfl,⟨t,rfl⟩,⟨t',rfl⟩⟩:=vals2 r;refine min_two_ints (I.ok.hd hc) λ h' tk k=>⟨_,H,I.kept k,?_,q⟩;by_cases hj:j<i
 ·rw[if_pos hj,if_pos hj];exact ⟨_,rfl⟩
 ·rw[if_neg hj,if_neg hj];exact ⟨_,rfl⟩
def aqk(K:ă)(x:V)(H:Hp)(n:Nat):Prop:=match x with
 | .str y=>y.length<=Đ/\n=y.length
 | .byt y=>y.size<=Đ/\n=y.size
 | .ref p=>(∃xs,qO K H p xs/\n=xs.length)\/∃xs,yc K H p xs/\n=xs.length
 |_=>False
def Zk:qN X (.builtin "len") (λ xs H Q=>∃x n,xs=[x]/\aqk X.K x H n/\Q (.int n) H):=by
 intro pins s σ H xs us Q I r h;obtain ⟨x,n,rfl,e,q⟩:=h;obtain ⟨u,rfl,rx⟩:=vals1 r;have hl:=B0;have hs:Đ=16777216:=Ĵ;cases x with
 |str y=>obtain ⟨t,rfl⟩:=rx;obtain ⟨hy,e'⟩:y.length<=Đ/\n=y.length:=e;subst e';exact len_str `À ⟨.int _,H,I.tok _,⟨_,rfl⟩,q⟩
 |byt y=>obtain ⟨t,rfl⟩:=rx;obtain ⟨hy,e'⟩:y.size<=Đ/\n=y.size:=e;subst e';exact W.len_bytes `À ⟨.int _,H,I.tok _,⟨_,rfl⟩,q⟩
 |ref p=>
  cases rx;have e':(∃xs,qO X.K H p xs/\n=xs.length)\/∃xs,yc X.K H p xs/\n=xs.length:=e;rcases e' with ⟨xs,hx,e'⟩|⟨xs,hx,e'⟩
  ·subst e';obtain ⟨its,r',pl,hz⟩:=I.list hx;have hlen:=r'.length;exact Calls.call_len_list pl.isList (by simp only[Ę];omega) ⟨.int xs.length,H,I.tok _,⟨_,by simp only[Ę];rw[hlen]⟩,q⟩
  ·subst e';obtain ⟨its,r',pl,hz⟩:=I.tuple hx;have hlen:=r'.length;exact len_tuple pl (by simp only[Ę];omega) ⟨.int xs.length,H,I.tok _,⟨_,by simp only[Ę];rw[hlen]⟩,q⟩
 |_=>exact (show False from e).elim
end
structure Q5(h:Heap)(x dx C:Addr)(mA:`Ò):Prop where
 obj:h.get? x=some (Ŕ C dx)
 ns:h.Ns1 dx mA
 ne:dx≠x
def Uv{h:Heap}{dx:Addr}{mA:`Ò}(n:h.Ns1 dx mA):∃od,h.get? dx=some od/\∀name,ąz name od=some (mA name):=by
 obtain ⟨o,es,ep,ho,hd,hk,_,hm⟩:=n;refine ⟨o,ho,λ name=>?_⟩;have e:=hm name;unfold nsFind findBy at e;rw[<-Array.find?_toList] at e;unfold ąz;rw[hd];dsimp only;split
 ·rename_i y q;rw[q] at e;exact congrArg some e
 ·rename_i q;rw[q] at e;have a:es.toList.any (·.refKey)=false:=by rw[List.any_eq_false];intro y hy;obtain ⟨z,t,hkey⟩:=hk y (Array.mem_toList_iff.mp hy);simp[DictEntry.refKey,hkey]
  have a':¬es.toList.any (·.refKey)=true:=by rw[a];exact Ĥ
  rw[if_neg a'];exact congrArg some e
def Q5.look(I:Q5 h x dx C mA):∃od,W.InstAt h x (Ŕ C dx) C (some od)/\∀name,ąz name od=some (mA name):=let ⟨od,ho,hl⟩:=Uv I.ns
 ⟨od,⟨I.obj,rfl,rfl,ho⟩,hl⟩
section
variable{prog:Program}{w:World}{A:Around}{E:`Ã}{s:Shared}{K:ă}{x dx C f:Addr}{mA:`Ò}{name:Str}{v:Value}
def get_map{Q:`Ã}(X:K.In s.heap)(I:Q5 s.heap x dx C mA)(hg:ąe K C name=true)(hh:ąu K C=true)(ha:ĉ K (.ref C) name=some none)(hv:mA name=some v)(hv':W.handedIn v=true)(h:Q v {s with toks:=s.toks+1}):
  wpAny `È A (getAttr (.ref x) name expr) Q E s:=by
 obtain ⟨od,J,hl⟩:=I.look;exact W.get_value X J (Ąz hg).1 (W.findObj_own hh ha rfl (by rw[hl,hv])) hv' h
def YJ{Q:Value×List Value->Shared->Prop}(X:K.In s.heap)(I:Q5 s.heap x dx C mA)(hg:ąe K C name=true)(hf:ĉ K (.ref C) name=some (some (.ref f)))(ht:āa K (.ref f)=true)(hv:mA name=none)(h:Q (.ref f,[.ref x]) s):
  wpAny `È A (getMethod (.ref x) name pl) Q E s:=by
 obtain ⟨od,J,hl⟩:=I.look;exact W.method_fn X J (Ąz hg).1 (Ąz hg).2 hf (beq_iff_eq.mp ht) (by show (ąz name od).map (·.isSome)=some false;rw[hl,hv];rfl) h
def abF{Q:Unit->Shared->Prop}(X:K.In s.heap)(I:Q5 s.heap x dx C mA)(hs:ĉ K (.ref C) "__setattr__"=some (some (.builtin "object.__setattr__")))(hp:W.plainOver K C=true)(ht:W.takerIn K C name=some none)(hh:ąu K C=true)(hw:ąh mA ns)(hsz:ns.length<=Đ)(h:∀h',Q5 h' x dx C (λ y=>if y=name then some v else mA y)->ăb dx s.heap h'->Q () {s with heap:=h',toks:=s.toks+2}):
  wpAny `È A (setAttr (.ref x) name v) Q E s:=by
 obtain ⟨od,J,hl⟩:=I.look;refine W.set_plain X J hs (W.osa_open (s:={s with toks:=s.toks+1}) (r:=none) X J hp ht λ b=>?_);obtain ⟨cd,hc,hd'⟩:=W.any_some hh;have hx:s.heap.get? x=some ⟨.ref C,some dx,.plain, #[]⟩:=I.obj;refine Ă (Ě (Ă (Ă (wpAny_loadPart hx (Ă (W.Looks.here (s:={s with toks:=s.toks+1}) (W.looks_clsIn X hc) ?_))))));rw[hd'];refine Ě (a:=some dx) (Ă (Ě (Ă ?_)));refine wpAny_nsSet1 (s:={s with toks:=s.toks+1}) I.ns λ h' hn2 hs2=>?_;obtain ⟨oD,esD,epD,hoD,hdD,hcD⟩:=hn2.count (PySem.Within.cons name v hw);refine Ă (wpAny_lookBehind hoD (by rw[hdD];exact pastItsLine_dict (ģ hcD (by rw[Ė];omega))) ?_);exact Ě (h _ ⟨(hs2.2 _ (Ŋ I.ne)).trans I.obj,hn2,I.ne⟩ hs2)
def XI(X:K.In s.heap)(hm:āj K C=true)(hi:ĉ K (.ref C) "__init__"=some (some (.ref f)))(hf:W.typeIn K (.ref f)=some (.type "function"))(h:codeAny `È (A.under (.builtin "type.__call__" ⟨.ref C::vs,kw⟩)) (.call (.ref f) ⟨.ref `Ë::vs,kw⟩) (W.InitBack `Ë R) {s with heap:=(s.heap.push ł).push (Ŕ C s.heap.objs.size)}):
  codeAny `È A (.call (.ref C) ⟨vs,kw⟩) R s:=by
 obtain ⟨hh,g,d,t,os⟩:=s;exact W.make_core (W.makes_of X hm) (W.looks_findIn X hi) (λ self=>W.bind_fn X self hf) (.inl rfl) h
end
noncomputable def qS(f:Str)(v:V):List (Str×V)->List (Str×V)
 |[]=>[(f,v)]
 |(g,x)::r=>if g=f then (g,v)::r else (g,x)::qS f v r
theorem zB(f g:Str)(v:V):∀fs:List (Str×V),(qS f v fs).lookup g=if g=f then some v else fs.lookup g
 |[]=>by
  show ī g [(f,v)]=_;by_cases h:g=f
  ·have hb:(g==f)=true:=beq_iff_eq.mpr h;simp only[ī,hb,if_pos h]
  ·have hb:(g==f)=false:=beq_eq_false_iff_ne.mpr h;simp only[ī,hb,if_neg h]
 |(k,x)::r=>by
  have ih:=zB f g v r;rw[show qS f v ((k,x)::r)=(if k=f then (k,v)::r else (k,x)::qS f v r) from rfl];by_cases hk:k=f
  ·rw[if_pos hk];by_cases h:g=k
   ·have hb:(g==k)=true:=beq_iff_eq.mpr h;simp only[ī,hb,if_pos (h.trans hk)]
   ·have hb:(g==k)=false:=beq_eq_false_iff_ne.mpr h;simp only[ī,hb,if_neg (λ e:g=f=>h (e.trans hk.symm))]
  ·rw[if_neg hk];by_cases h:g=k
   ·have hb:(g==k)=true:=beq_iff_eq.mpr h;simp only[ī,hb,if_neg (λ e:g=f=>hk (h.symm.trans e))]
   ·have hb:(g==k)=false:=beq_eq_false_iff_ne.mpr h;simp only[ī,hb];exact ih
theorem yT(f:Str)(v:V):∀fs:List (Str×V),f∈(qS f v fs).map (·.1)/\∀g,g∈fs.map (·.1)->g∈(qS f v fs).map (·.1)
 |[]=>⟨by simp[qS],λ g h=>by simp at h⟩
 |(k,x)::r=>by
  obtain ⟨i1,i2⟩:=yT f v r;rw[show qS f v ((k,x)::r)=(if k=f then (k,v)::r else (k,x)::qS f v r) from rfl];by_cases hk:k=f
  ·rw[if_pos hk];subst hk;exact ⟨by simp,λ g h=>by simpa using h⟩
  ·rw[if_neg hk];refine ⟨?_,λ g h=>?_⟩
   ·rw[ą];exact Ŀ _ i1
   ·rw[ą] at h ⊢;rcases Ć.mp h with e|e
    ·exact Ć.mpr (.inl e)
    ·exact Ŀ _ (i2 g e)
theorem zC(f:Str)(v:V):∀fs:List (Str×V),(qS f v fs).length<=fs.length+1
 |[]=>by simp[qS]
 |(k,x)::r=>by
  have ih:=zC f v r;rw[show qS f v ((k,x)::r)=(if k=f then (k,v)::r else (k,x)::qS f v r) from rfl];by_cases hk:k=f
  ·rw[if_pos hk,Ė,Ė];omega
  ·rw[if_neg hk,Ė,Ė];omega
def rS.some_of{v:V}(r:rS (some v) o):∃u,o=some u/\RelV v u:=by
 cases o with
 |none=>exact (show False from r).elim
 |some u=>exact ⟨u,rfl,r⟩
def rS.none_of(r:rS none o):o=none:=by
 cases o with
 |none=>rfl
 |some u=>exact (show False from r).elim
def U3{v:V}(r:RelV v u):W.handedIn u=true:=by
 cases v with
 |cU=>cases (show u=Value.none from r);rfl
 |bl b=>cases (show u=Value.bool b from r);rfl
 |int i=>obtain ⟨t,e⟩:=(show ∃t,u=Value.int i t from r);cases e;rfl
 |str x=>obtain ⟨t,e⟩:=(show ∃t,u=Value.str x t from r);cases e;rfl
 |byt b=>obtain ⟨t,e⟩:=(show ∃t,u=Value.bytes b t from r);cases e;rfl
 |flt b=>obtain ⟨t,e⟩:=(show ∃t,u=Value.float b t from r);cases e;rfl
 |ref a=>cases (show u=Value.ref a from r);rfl
 |ty n=>cases (show u=Value.type n from r);rfl
section
variable{P:Program}{w:World}{H H':Hp}{h h':Heap}{a C dx:Addr}{fs fs':List (Str×V)}
def Au(hok:uX P w H h)(e:H a=some (.ins C dx fs)):∃mA,Q5 h a dx C mA/\(∀f,rS (fs.lookup f) (mA f))/\ąh mA (fs.map (·.1))/\fs.length<=1000/\H dx=some (.own a):=by obtain ⟨d,z,ne,ob,mA,n,r,q⟩:=(show eV P w H h a (.ins C dx fs) from hok a _ e);exact ⟨mA,⟨ob,n,ne⟩,r,q,z,d⟩
end
structure zk(K:ă)(C:Addr):Prop where
 pg:ąe K C āx=true
 hd:ąu K C=true
 po:W.plainOver K C=true
 sa:ĉ K (.ref C) "__setattr__"=some (some (.builtin "object.__setattr__"))
def zk.get{K:ă}{C:Addr}(c:zk K C)(f:Str):ąe K C f=true:=c.pg
noncomputable def tT(K:ă)(C:Addr)(f:Str):Prop:=ĉ K (.ref C) f=some none
def tT.akl{K:ă}{C:Addr}{f:Str}(n:tT K C f):W.takerIn K C f=some none:=by unfold W.takerIn;rw[show ĉ K (.ref C) f=some none from n];rfl
structure Con(K:ă)(C:Addr)(f:Str)(v:V)(u:Value):Prop where
 at_:ĉ K (.ref C) f=some (some u)
 rel:RelV v u
 get:Ąt K u "__get__"=some none
 cp:W.copiedNames.contains f=false
structure Meth(K:ă)(C:Addr)(m:Str)(f:Addr):Prop where
 at_:ĉ K (.ref C) m=some (some (.ref f))
 fn:āa K (.ref f)=true
 kp:Ĕ K (.ref f)=true
section
variable{X:Cx}{pins:`Ê}{σ:St}{H:Hp}{s:Shared}{a C dx:Addr}{fs:List (Str×V)}{f:Str}{v:V}{A:Around}{E:`Ã}
def Lw{Q:`Ã}(I:`Ä)(e:H a=some (.ins C dx fs))(c:zk X.K C)(n:tT X.K C f)(l:fs.lookup f=some v)(h:∀u s',Inv X pins σ H s'->RelV v u->Q u s'):wpAny `É A (getAttr (.ref a) f b) Q E s:=by obtain ⟨mA,O,r,_,_,_⟩:=Au I.hok e;obtain ⟨u,hu,ru⟩:=rS.some_of (v:=v) (o:=mA f) (by rw[<-l];exact r f);exact get_map I.zW O (c.get f) c.hd n hu (U3 ru) (h u _ (I.tok _) ru)
def Cp{g:Addr}{Q:Value×List Value->Shared->Prop}(I:`Ä)(e:H a=some (.ins C dx fs))(c:zk X.K C)(k:Meth X.K C m g)(l:fs.lookup m=none)(h:Q (.ref g,[.ref a]) s):wpAny `É A (getMethod (.ref a) m pl) Q E s:=by obtain ⟨mA,O,r,_,_,_⟩:=Au I.hok e;have hn:mA m=none:=rS.none_of (by rw[<-l];exact r m);exact YJ I.zW O (c.get m) k.at_ k.fn hn h
def Ky{y:V}{Q:Unit->Shared->Prop}(I:`Ä)(e:H a=some (.ins C dx fs))(c:zk X.K C)(n:tT X.K C f)(hl:fs.length<1000)(ry:RelV y u)(h:∀s',Inv X pins σ (upd H a (.ins C dx (qS f y fs))) s'->Q () s'):wpAny `É A (setAttr (.ref a) f u) Q E s:=by
 obtain ⟨mA,O,r,wi,_,ho⟩:=Au I.hok e;have hz:(fs.map (·.1)).length<=Đ:=by rw[ė,Ĵ];omega
 refine abF I.zW O c.sa c.po n.akl c.hd wi hz λ h' O' sb=>h _ ?_;have hd:∃o,h'.get? dx=some o:=let ⟨o,_,_,e',_⟩:=O'.ns;⟨o,e'⟩
 refine I.write (x:=a) (e:=dx) (by rw[e];exact True.intro) (.inr ho) (λ b q hb z=>(sb.2 b hb).trans z) hd ?_;refine ⟨by rw[aE O.ne];exact ho,?_,O.ne,O'.obj,_,O'.ns,λ g=>?_,λ g hg=>?_⟩
 ·have:=zC f y fs;omega
 ·show rS ((qS f y fs).lookup g) (if g=f then some u else mA g);rw[zB];by_cases q:g=f
  ·rw[if_pos q,if_pos q];exact ry
  ·rw[if_neg q,if_neg q];exact r g
 ·by_cases q:g=f
  ·rw[q];exact (yT f y fs).1
  ·refine (yT f y fs).2 g (wi g λ z=>hg ?_);show (if g=f then some u else mA g)=none;rw[if_neg q];exact z
def Inv.made(I:`Ä):Inv X pins σ (upd (upd H s.heap.objs.size (.own `Ë)) `Ë (.ins C s.heap.objs.size [])) {s with heap:=(s.heap.push ł).push (Ŕ C s.heap.objs.size)}:=by
 have e1:(s.heap.push ł).get? s.heap.objs.size=some ł:=đ s.heap rfl;have e2:((s.heap.push ł).push (Ŕ C s.heap.objs.size)).get? `Ë=some (Ŕ C s.heap.objs.size):=by have:=đ (s.heap.push ł) (o:=Ŕ C s.heap.objs.size) rfl;rwa [Āk] at this
 have e3:(s.heap.push ł).Ns s.heap.objs.size (λ _=>none):=⟨ł, #[],_,e1,rfl,(λ e he=>absurd he `Ó),λ _=>rfl⟩;have I1:=I.laid (a:=s.heap.objs.size) (o:= .own `Ë) (h':=s.heap.push ł) (t':=s.toks) (λ b u q=>Ā _ q) (Ĉ _) ⟨_,e1⟩;refine I1.laid (a:=s.heap.objs.size+1) (o:= .ins C s.heap.objs.size []) (t':=s.toks) (λ b u q=>Ā _ q) (Nat.le_of_eq (Āk _ _)) ?_;have ne:s.heap.objs.size≠s.heap.objs.size+1:=ĕ (āk _);refine ⟨by rw[aE ne,aC],Ň _,ne,e2,λ _=>none,(Heap.Ns1.of_empty e3).at λ o q=>Ā _ q,λ _=>True.intro,λ y hy=>absurd rfl hy⟩
def adA{e:Expr}{s:Shared}{Q:`Ã}(hb:attributeBase e f env (eval e env)=eval e env)(h:wpAny `È A (eval e env) (λ o s₁=>wpAny `È A (getAttr o f true) Q E s₁) E s):wpAny `È A (eval (.Attribute e f pos) env) Q E s:=Attribute_any_ h (by rw[arm_eval_Attribute,hb])
end
def aoB(K:ă)(ta:TE)(f:Str):TE:=λ σ H Q=>ta σ H λ x H1=>∃a C dx fs v,x= .ref a/\H1 a=some (.ins C dx fs)/\zk K C/\tT K C f/\fs.lookup f=some v/\Q v H1
def aoG(K:ă)(ta tv:TE)(f:Str):TS:=λ D σ H=>tv σ H λ y H1=>ta σ H1 λ x H2=>∃a C dx fs,x= .ref a/\H2 a=some (.ins C dx fs)/\zk K C/\tT K C f/\fs.length<1000/\D.nx σ (upd H2 a (.ins C dx (qS f y fs)))
section
variable{X:Cx}{o e value:Expr}{f:Str}{pos pos' tpos:Pos}{ta tv:TE}
def agT(he:PE X e ta)(hb:attributeBase e f X.env (eval e X.env)=eval e X.env):PE X (.Attribute e f pos) (aoB X.K ta f):=by intro pins s σ H Q I h;refine adA hb (fV (he pins s σ H _ I h) λ u s1 ⟨x,H1,I1,rx,a,C,dx,fs,v,ex,ea,c,n,l,q⟩=>?_);subst ex;obtain rfl:u=Value.ref a:=rx;exact Lw I1 ea c n l λ u' s2 I2 ru=>⟨v,H1,I2,ru,q⟩
def agK(ha:PE X o ta)(hv:PE X value tv)(hs:swapsWith value (some (.Attribute o f pos')) pos.line X.env=pure false):PS X (.Assign [.Attribute o f pos'] value pos) (aoG X.K ta tv f):=by intro pins s σ H D I h;refine plainObj_wpAny_Assign_Attribute (fV (hv pins s σ H _ I h) λ u s1 ⟨y,H1,I1,ry,q⟩=>fV (ha pins s1 σ H1 _ I1 q) λ ov s2 ⟨x,H2,I2,rx,a,C,dx,fs,ex,ea,c,n,l,q2⟩=>?_) hs;subst ex;obtain rfl:ov=Value.ref a:=rx;exact Ky I2 ea c n l ry λ s3 I3=>⟨σ,_,I3,q2⟩
end
section
variable{X:Cx}{pins:`Ê}{σ:St}{H:Hp}{s:Shared}{A:Around}{E:`Ã}{Q:`Ã}{c:Value}{b:Bool}
inductive CO(K:ă)(H:Hp):V->Value->Prop where
 |cU:CO K H .cU (.type "NoneType")
 |bl (x:Bool):CO K H (.bl x) (.type "bool")
 |int (i:Int):CO K H (.int i) (.type "int")
 |str (x:Str):CO K H (.str x) (.type "str")
 |flt (x:UInt64):CO K H (.flt x) (.type "float")
 |lst {a:Addr} {xs:List V} (e:H a=some (.lst xs)):CO K H (.ref a) (.type "list")
 |CU {a:Addr} {o:Obj} {xs:List V} (e:H a=some (.CU o (.lst xs))):CO K H (.ref a) (.type "list")
 |tup {a:Addr} {xs:List V} (e:H a=some (.tup xs)):CO K H (.ref a) (.type "tuple")
 |dK {a:Addr} {kvs:List (Key×V)} (e:H a=some (.dK kvs)):CO K H (.ref a) (.type "dict")
 |dT {a:Addr} {kvs:List (List Key×V)} (e:H a=some (.dT kvs)):CO K H (.ref a) (.type "dict")
 |ins {a C dx:Addr} {fs:List (Str×V)} (e:H a=some (.ins C dx fs)) (cl:zk K C) (ha:ĉ K (.ref C) "__class__"=some (some `Ô))
   (hn:Ąt K `Ô "__get__"=some (some (.builtin "getset_descriptor.__get__"))) (htk:W.takesIn K `Ô=some true)
   (hm:ăc K C (.type "object")=some true):CO K H (.ref a) (.ref C)
end
structure gM(k:Nat)(A:Around):Prop where
 hd:A.handled=none
 dp:A.depth+3*k+5<recursionLimit
 un:A.units+16*k+200<cLine
def gM.mono(r:gM k A)(h:j<=k):gM j A:=⟨r.hd,by have:=r.dp;omega,by have:=r.un;omega⟩
theorem gM.deeper(r:gM (k+1) A)(env:Env):gM k (A.deeper env):=⟨r.hd,by have:=r.dp;show A.depth+1+3*k+5<_;omega,by have:=r.un;show A.units+3+16*k+200<_;omega⟩
def La{A:Around}{C:Addr}{us:`Ð}{kw:List (Str×Value)}:(A.under (.builtin "type.__call__" ⟨.ref C::us,kw⟩)).depth=A.depth+1:=by first|rfl|simp[Ąi,Code.weight,Code.isCreation,Code.isGuard,Code.isCaller,Code.frames,ąj,guardIds]
def K9{A:Around}{C:Addr}{us:`Ð}{kw:List (Str×Value)}:(A.under (.builtin "type.__call__" ⟨.ref C::us,kw⟩)).units=A.units+1:=by first|rfl|simp[Ąi,Code.cUnits,Code.frames,ąj]
def gM.make(r:gM (k+1) A)(C:Addr)(us:`Ð)(kw:List (Str×Value)):gM k (A.under (.builtin "type.__call__" ⟨.ref C::us,kw⟩)):=⟨r.hd,by have:=r.dp;rw[La];omega,by have:=r.un;rw[K9];omega⟩
theorem gM.depth(r:gM k A):A.depth<recursionLimit:=by have:=r.dp;omega
theorem gM.units(r:gM k A):A.units+64<cLine:=by have:=r.un;omega
def agj:TA:=λ _ H Q=>Q [] H
def VY(ta:TE)(tr:TA):TA:=λ σ H Q=>ta σ H λ x H1=>tr σ H1 λ xs H2=>Q (x::xs) H2
section
variable{X:Cx}{e:Expr}{es:`Þ}{te:TE}{t:TA}{pos:Pos}
def yx:PA X [] agj:=λ _ _ _ _ H Q I h=>āy ⟨[],H,I,.nil,h⟩
def pA(ha:PE X e te)(hr:PA X es t)(hs:`Ç:=by rfl):PA X (e::es) (VY te t):=by intro pos pins s σ H Q I h;rw[hs];show wpAny _ _ (spliced ((false,eval e X.env)::backTo pos (ć es X.env))) _ _ s;refine Ű (fV (ha pins s σ H _ I h) λ u s1 ⟨x,H1,I1,r1,q1⟩=>?_);exact fV (hr pos pins s1 σ H1 _ I1 q1) λ us s2 ⟨xs,H2,I2,r2,q2⟩=>⟨x::xs,H2,I2,.cons r1 r2,q2⟩
def aos(t:TA):TE:=λ σ H Q=>t σ H λ xs H1=>xs.length<=Đ/\∀p,H1 p=none->Q (.ref p) (upd H1 p (.tup xs))
def aoy(t:TA):TE:=λ σ H Q=>t σ H λ xs H1=>xs.length<=Đ/\∀p,H1 p=none->Q (.ref p) (upd H1 p (.lst xs))
def WH{x1}(h:PA X es t):PE X (.Tuple es x1 pos) (aos t):=by intro pins s σ H Q I hq;refine wpAny_Tuple_spliced (fV (h pos pins s σ H _ I hq) λ us s1 ⟨xs,H1,I1,r,z,q⟩=>⟨by rw[<-r.length];exact z,?_⟩);have hf:H1 s1.heap.objs.size=none:=I1.hok.fresh (Ĉ _);refine ⟨.ref s1.heap.objs.size,upd H1 s1.heap.objs.size (.tup xs),I1.laid (t':=s1.toks) (λ b u e=>Ā _ e) (Ĉ _) ?_,rfl,q _ hf⟩;exact ⟨z,us,r,⟨_,đ _ rfl,rfl,_,rfl⟩⟩
def agR(h:PA X es t):PE X (.List es pos) (aoy t):=by intro pins s σ H Q I hq;refine wpAny_List_spliced (fV (h pos pins s σ H _ I hq) λ us s1 ⟨xs,H1,I1,r,z,q⟩=>⟨by rw[<-r.length];exact z,?_⟩);have hf:H1 s1.heap.objs.size=none:=I1.hok.fresh (Ĉ _);refine ⟨.ref s1.heap.objs.size,upd H1 s1.heap.objs.size (.lst xs),I1.laid (t':=s1.toks) (λ b u e=>Ā _ e) (Ĉ _) ?_,rfl,q _ hf⟩;exact ⟨z,us,0,r,đ _ rfl⟩
end
abbrev Sp:=List V->Hp->VK->XK->Prop
abbrev CXT:=List Env->Hp->Shared->XK->Value->Shared->Prop
structure Q7(P:Program)(w:World)(K:ă)(mg:`Ò)(base:Heap)(A:Around)(outer:List Env)(s:Shared)(H:Hp):Prop where
 frames:A.frames=some outer
 mod:Mod K mg base
 bs:∀b o,base.get? b=some o->s.heap.get? b=some o/\H b=none
 bsz:base.objs.size<=s.heap.objs.size
 DM:s.heap.FunFrames base outer
 frf:∀b∈frs outer,H b=none
 hok:uX P w H s.heap
 bare:AllBare s.gens
def CE(outer:List Env)(P:Program)(w:World)(H:Hp)(s:Shared)(Q:VK)(u:Value)(s':Shared):Prop:=∃v H',s'.os=s.os/\AllBare s'.gens/\Un (frs outer) [] H H' s.heap s'.heap/\uX P w H' s'.heap/\RelV v u/\Q v H'
def CR(CX:CXT)(outer:List Env)(P:Program)(w:World)(H:Hp)(s:Shared)(Q:VK)(E:XK)(r:Result)(s':Shared):Prop:=match r with
 | .ok (.ret u)=>CE outer P w H s Q u s'
 | .ok _=>False
 | .error e=>CX outer H s E e s'
structure Q6(P:Program)(w:World)(K:ă)(mg:`Ò)(base:Heap)(CX:CXT)(k:Nat)(f:Addr)(fd:FuncData)(ps:`Ú)(sp:Sp):Prop where
 len:∀vs H Q E,sp vs H Q E->vs.length=ps.length
 run:∀(A:Around) (outer:List Env) (s:Shared) (H:Hp) (args:Args) (us:`Ð) (vs:List V) (Q:VK) (E:XK),gM k A->Q7 P w K mg base A outer s H->BindsTo s fd args (ps.zip us)->Vals vs us->sp vs H Q E->
  codeAny (model P w) A (.call (.ref f) args) (CR CX outer P w H s Q E) s
def Q6.imp{P:Program}{w:World}{K:ă}{mg:`Ò}{base:Heap}{CX:CXT}{k:Nat}{f:Addr}{fd:FuncData}{ps:`Ú}{sp sp':Sp}(F:Q6 P w K mg base CX k f fd ps sp) (h:∀vs H Q E,sp' vs H Q E->sp vs H Q E):Q6 P w K mg base CX k f fd ps sp':=⟨λ vs H Q E q=>F.len vs H Q E (h _ _ _ _ q),λ A outer s H args us vs Q E hr he hb hv hs=>F.run A outer s H args us vs Q E hr he hb hv (h _ _ _ _ hs)⟩
def Q7.make{P:Program}{w:World}{K:ă}{mg:`Ò}{base:Heap}{A:Around}{outer:List Env}{s:Shared}{H:Hp}(e:Q7 P w K mg base A outer s H)(C:Addr)(us:`Ð)(kw:List (Str×Value)):
  Q7 P w K mg base (A.under (.builtin "type.__call__" ⟨.ref C::us,kw⟩)) outer s H:=⟨by first|exact e.frames|(simpa[Ąi,Code.envs,ąj,pushEnvs] using e.frames),e.mod,e.bs,e.bsz,e.DM,e.frf,e.hok,e.bare⟩
section
variable{X:Cx}{pins:`Ê}{σ:St}{H:Hp}{s s':Shared}
def Inv.alZ(I:`Ä):Q7 X.prog X.w X.K X.mg X.base X.A X.stack s H:=⟨I.ok.frames,I.ok.mod,I.bs,ģ I.ok.bsz I.sz,I.stack,I.Fw,I.hok,I.bare⟩
def Inv.after{Q:VK}(I:`Ä)(h:CE X.stack X.prog X.w H s Q u s'):EP X pins σ Q u s':=by obtain ⟨v,H',os,bare,un,hok,r,q⟩:=h;obtain ⟨hh,g,d,t,os'⟩:=s';obtain rfl:os'=s.os:=os;exact ⟨v,H',I.call (h':=hh) (g':=g) (d':=d) (t':=t) (ch:=[]) un hok bare (λ b z=>absurd z `Ó),r,q⟩
end
def Binds(K:ă)(fd:FuncData)(ps:`Ú)(ds:`Ð):Prop:=∀(s:Shared) (us:`Ð),K.In s.heap->(us++ds).length=ps.length->BindsTo s fd ⟨us,[]⟩ (ps.zip (us++ds))
def Binds.all{K:ă}{fd:FuncData}{ps:`Ú}(h:∀us:List Value,us.length=ps.length->bindArgs fd ⟨us,[]⟩=pure (ps.zip us)):Binds K fd ps []:=λ s us _ hl=>by rw[ŕ] at hl ⊢;exact .of_eq (h us hl)
section
variable{X:Cx}{CX:CXT}{k:Nat}{f C:Addr}{fd:FuncData}{ps:`Ú}{sp:Sp}{dvs:List V}{ds:`Ð}{E:XK}{x m:Str}{p pos apos:Pos}{e o:Expr}{es:`Þ}{ta:TE}{t:TA}
structure Mk(K:ă)(C f:Addr):Prop where
 makes:āj K C=true
 init:ĉ K (.ref C) "__init__"=some (some (.ref f))
 fn:āa K (.ref f)=true
 kp:Ĕ K (.ref C)=true
end
section
variable{X:Cx}{CX:CXT}{k:Nat}{f C:Addr}{fd:FuncData}{ps ks:`Ú}{sp:Sp}{E:XK}{x m:Str}{p pos apos kpos:Pos}{e o:Expr}{es:`Þ}{kws:List Keyword}{te ta:TE}{t tk:TA}{nm:Option Str}
structure aql(K:ă)(fd:FuncData)(ps ks:`Ú)(g:List Value->List Value->List Value)(gV:List V->List V->List V):Prop where
 to:∀(s:Shared) (us ws:`Ð),K.In s.heap->(g us ws).length=ps.length->BindsTo s fd ⟨us,ks.zip ws⟩ (ps.zip (g us ws))
 rel:∀{vs:List V} {us:`Ð} {zs:List V} {ws:`Ð},Vals vs us->Vals zs ws->Vals (gV vs zs) (g us ws)
variable{g:List Value->List Value->List Value}{gV:List V->List V->List V}
end
structure pL(N P:`Ú)(sc:Scope):Prop where
 kind:sc.kind= .function
 co:sc.isCoroutine=false
 gen:sc.isGenerator=false
 nd:N.Nodup
 pre:N.take P.length=P
 par:∀x∈P,sc.names.lookup x=some .local\/sc.names.lookup x=some .cell
 ahb:∀y∈sc.names,y.2≠.free
theorem E9{kindOf:Str->Option NameKind}{x:Str}:∀{binds:List (Str×Value)} {m:`Ò},(∀v,(x,v)∉binds)->bindL kindOf binds m x=m x
 |[],_,_=>rfl
 |(n,v)::r,m,h=>by
  unfold bindL;rw[E9 λ w hw=>h w (Ŀ _ hw)];split
  ·have:x≠n:=by rintro rfl;exact h v ās
   simp[this]
  ·rfl
theorem Fc{kindOf:Str->Option NameKind}{x:Str}:∀{binds:List (Str×Value)} {m:`Ò},(∀v,(x,v)∉binds)->bindC kindOf binds m x=m x
 |[],_,_=>rfl
 |(n,v)::r,m,h=>by
  unfold bindC;rw[Fc λ w hw=>h w (Ŀ _ hw)];split
  ·rfl
  ·have:x≠n:=by rintro rfl;exact h v ās
   simp[this]
theorem Fb{kindOf:Str->Option NameKind}{x:Str}{v:Value}:∀{P:`Ú} {vs:`Ð} {i:Nat} {m:`Ò},P.Nodup->P[i]? =some x->vs[i]? =some v->kindOf x=some .local->bindL kindOf (P.zip vs) m x=some v
 |[],_,_,_,_,h,_,_=>by simp at h
 |_::_,[],_,_,_,_,h,_=>by simp at h
 |p::P,w::vs,0,m,nd,h1,h2,hk=>by simp at h1 h2;subst h1;subst h2;show bindL kindOf ((p,w)::P.zip vs) m p=_;unfold bindL;rw[E9 λ v hv=>(ń.mp nd).1 (Ău hv).1,if_pos hk];simp
 |p::P,w::vs,i+1,m,nd,h1,h2,hk=>by show bindL kindOf ((p,w)::P.zip vs) m x=_;unfold bindL;exact Fb (i:=i) (ń.mp nd).2 (by simpa using h1) (by simpa using h2) hk
theorem Fd{kindOf:Str->Option NameKind}{x:Str}{v:Value}:∀{P:`Ú} {vs:`Ð} {i:Nat} {m:`Ò},P.Nodup->P[i]? =some x->vs[i]? =some v->kindOf x≠some .local->bindC kindOf (P.zip vs) m x=some v
 |[],_,_,_,_,h,_,_=>by simp at h
 |_::_,[],_,_,_,_,h,_=>by simp at h
 |p::P,w::vs,0,m,nd,h1,h2,hk=>by simp at h1 h2;subst h1;subst h2;show bindC kindOf ((p,w)::P.zip vs) m p=_;unfold bindC;rw[Fc λ v hv=>(ń.mp nd).1 (Ău hv).1,if_neg hk];simp
 |p::P,w::vs,i+1,m,nd,h1,h2,hk=>by show bindC kindOf ((p,w)::P.zip vs) m x=_;unfold bindC;exact Fd (i:=i) (ń.mp nd).2 (by simpa using h1) (by simpa using h2) hk
noncomputable def start(N:`Ú)(vs:List V):St:=vs.map some++ļ (N.length- vs.length) none
noncomputable def pZ(CX:CXT)(P:Program)(w:World)(K:ă)(mg:`Ò)(base:Heap)(N:`Ú)(qual:Str)(scope:Scope)(f:Addr)(cd:Value)(A:Around)(outer:List Env)(s:Shared)(H:Hp)(E:XK):Cx where
 prog:=P
 w:=w
 K:=K
 mg:=mg
 base:=base
 A:=A.deeper (envOfC qual scope s.heap.objs.size f cd)
 N:=N
 s₀:=s
 H₀:=H
 env:=envOfC qual scope s.heap.objs.size f cd
 outer:=outer
 stack:=envOfC qual scope s.heap.objs.size f cd::outer
 ex:=[]
 calm:=true
 fn:=λ _=>true
 pn:=[]
 xe:=λ e s'=>wpAny (model P w) (A.deeper (envOfC qual scope s.heap.objs.size f cd)) (leaving (envOfC qual scope s.heap.objs.size f cd) e) (λ _ s''=>CX outer H s E e s'') (λ e' s''=>CX outer H s E e' s'') s'
def JK{sc:Scope}{n:Nat}{x:Str}(h:sc.names.lookup x=some .cell):∃c,(cellsFrom n sc.names []).lookup x=some c:=by have q:=W.cellsFrom_some sc.names n [] (.inl h);exact ān.mp q
def UO{CX:CXT}{P:Program}{w:World}{K:ă}{mg:`Ò}{base:Heap}{N ps:`Ú}{qual:Str}{scope:Scope}{f:Addr}{cd:Value}{A:Around}{outer:List Env}{s s1:Shared}{H:Hp}{E:XK}{us:`Ð}{vs:List V} (S:pL N ps scope) (hd:A.handled=none) (e0:Q7 P w K mg base A outer s H) (hl:vs.length=ps.length) (r:Vals vs us) (x:InCallC s s.heap.objs.size (bindL (envOfC qual scope s.heap.objs.size f cd).kindOf (ps.zip us) λ _=>none) (cellsFrom `Ë scope.names []) (bindC (envOfC qual scope s.heap.objs.size f cd).kindOf (ps.zip us) λ _=>none) s1):
  Inv (pZ CX P w K mg base N qual scope f cd A outer s H E) [] (start N vs) H s1:=by
 have hpl:ps.length<=N.length:=by have:=congrArg List.length S.pre;rw[Ī] at this;omega
 obtain ⟨h1,tk,rfl,hk⟩:=x.done;have noA:∀b:Addr,b∉(pZ CX P w K mg base N qual scope f cd A outer s H E).ex:=λ b z=>absurd (show b∈([]:List Addr) from z) `Ó;refine ⟨⟨e0.mod,S.kind,rfl,rfl,Ĉ _,λ y z c h1 h2=>?_,λ y hy=>?_,λ y c _ h=>?_,λ _=>hd,Around.frames_deeper e0.frames,.inr ⟨rfl,rfl⟩,λ b z=>absurd z (noA b),e0.bs,e0.bsz,λ b _ _=>noA b,λ b z=>absurd z (noA b),e0.DM,e0.frf⟩,
  rfl,e0.bare,Un.kept hk,⟨_,x.toInCall.ns,λ i y v h1 h2 h3=>?_⟩,λ y c h=>⟨_,x.cell y c h⟩,e0.hok.fresh (Ĉ _),λ y c h=>?_,λ p hp=>absurd (show p∈([]:List (Addr×Obj)) from hp) `Ó,e0.hok.kept hk,?_⟩
 ·exact name_of_addr x.apart (Āh h1) (Āh h2)
 ·have hy:scope.names.lookup y=some .cell\/scope.names.lookup y=some .free:=hy;rcases hy with hy|hy
  ·exact JK hy
  ·exact absurd rfl (S.ahb _ (Āh hy))
 ·exact ũ (x.above y c (Āh h))
 ·have hi:i<vs.length:=by
   unfold start at h2;by_cases hi:i<vs.length
   ·exact hi
   ·rw[ē (by simpa using hi)] at h2;rw[ţ] at h2;split at h2<;>cases h2
  have ha:vs[i]? =some v:=by
   unfold start at h2;rw[Ģ (by simpa using hi),Ĝ] at h2;cases e:vs[i]? with
   |none=>rw[e] at h2;cases h2
   |some a=>rw[e] at h2;cases h2;rfl
  obtain ⟨u,hu,rv⟩:=r.get ha;have hp:ps[i]? =some y:=by rw[<-S.pre,List.getElem?_take_of_lt `À];exact h1
  have ndP:ps.Nodup:=by rw[<-S.pre];exact S.nd.sublist (āz _ _)
  refine ⟨u,rv,?_⟩;rcases S.par y (Ād hp) with k|k
  ·exact .inl ⟨k,Fb ndP hp hu k⟩
  ·obtain ⟨c,e⟩:=JK (n:=s.heap.objs.size+1) k;refine .inr ⟨.inl k,c,e,?_⟩;have q:=x.cell y c e;rw[Fd ndP hp hu (by show scope.names.lookup y≠_;rw[k];decide)] at q;exact q
 ·exact e0.hok.fresh (ũ (x.above y c (Āh h)))
 ·unfold start;show _=N.length;rw[ĩ,ė,āb];omega
def aez{CX:CXT}{P:Program}{w:World}{K:ă}{mg:`Ò}{base:Heap}{k:Nat}{f:Addr}{name qual:Str}{params:Arguments}{body:List Stmt}{scope:Scope}{dV kV doc pm cdv ct oc:Value}{an od:Option Addr} {osl:Array (Option Value)} {N ps:`Ú} {sp:Sp} (lk:K.lookup f=some ⟨oc,od,.func (Ća name qual params body scope dV kV doc pm an cdv ct),osl⟩) (hcd:W.codeIn K cdv qual=true) (S:pL N ps scope) (len:∀vs H Q E,sp vs H Q E->vs.length=ps.length) (hbody:∀(A:Around) (outer:List Env) (s:Shared) (H:Hp) (vs:List V) (Q:VK) (E:XK),gM k (A.deeper (envOfC qual scope s.heap.objs.size f cdv))->sp vs H Q E->∃t,JX (pZ CX P w K mg base N qual scope f cdv A outer s H E) body t/\t {nx:=λ _ H'=>Q .cU H',rt:=Q} (start N vs) H):
  Q6 P w K mg base CX (k+1) f (Ća name qual params body scope dV kV doc pm an cdv ct) ps sp:=by
 refine ⟨len,λ A outer s H args us vs Q E hr e0 hb r JU=>?_⟩;have hl:=len _ _ _ _ JU;have KX:K.In s.heap:=e0.mod.kin.keeps λ b o e=>(e0.bs b o e).1;have lim:s.heap.NoLimit:=e0.mod.nolimit.keeps λ b o e=>(e0.bs b o e).1;have hkind:∀y∈ps.zip us,scope.names.lookup y.1=some .local\/(scope.names.lookup y.1=some .cell/\((cellsFrom `Ë scope.names []).lookup y.1).isSome=true):=λ⟨n,v⟩ hy=>by
  rcases S.par n (Ău hy).1 with q|q
  ·exact .inl q
  ·exact .inr ⟨q,W.cellsFrom_some _ _ _ (.inl q)⟩
 refine codeAny_call_function hr.depth (KX _ _ lk) rfl S.co S.gen rfl (W.codeRec_of KX hcd) (hb _ _ _ _ ?_);refine wpAny_newFunctionEnv_cells S.kind hkind λ env he s1 x=>?_;subst he;refine ⟨lim.keeps x.toInCall.keep,codeAny_func ?_⟩;obtain ⟨t,ht,hq⟩:=hbody A outer s H vs Q E (hr.deeper _) JU;have I:Inv (pZ CX P w K mg base N qual scope f cdv A outer s H E) [] (start N vs) H s1:=UO S hr.hd e0 hl r x;refine Ļ (ht [] s1 (start N vs) H _ I hq) (λ fl s' hs=>?_) λ e s' hs=>hs;have fin:∀{σ':St} {H':Hp} {v:V} {u:Value},Inv (pZ CX P w K mg base N qual scope f cdv A outer s H E) [] σ' H' s'->RelV v u->Q v H'->CE outer P w H s Q u s':=
  λ{σ' H' v u} J rv q=>⟨v,H',J.os,J.bare,J.base,J.hok,rv,q⟩
 cases fl with
 |ret u=>obtain ⟨v,σ',H',J,rv,q⟩:=hs;exact fin J rv q
 |next=>obtain ⟨σ',H',J,q⟩:=hs;exact fin (v:=V.cU) (u:=Value.none) J rfl q
 |brk=>obtain ⟨_,_,_,q⟩:=hs;exact ű q
 |cont=>obtain ⟨_,_,_,q⟩:=hs;exact ű q
section
variable{X:Cx}{x:Str}{p pos:Pos}{e:Expr}{es:`Þ}{t:TA}{id T:String}{r:List V->Hp->VK->Prop}
def tCB(r:List V->Hp->VK->Prop)(t:TA):TE:=λ σ H Q=>t σ H λ vs H1=>r vs H1 Q
def jk(hc:qN X (.builtin id) r)(hg:Gl X x)(hm:X.mg x=none)(hv:bootBuiltins x=some (.builtin id))(ha:PA X (e::es) t)(hn:x≠"__name__":=by decide)(hdb:(x==("__debug__":Str))=false:=by decide) (he:`Ç:=by rfl) (hpl:(backTo pos (ć es X.env)).any (·.1)=false:=by rfl):PE X (.Call (.Name x p) (e::es) [] pos) (tCB r t):=by intro pins s σ H Q I h;refine Ār (B5 I hg hm hv ?_ hn hdb);exact PyProof.Rows.callWith_builtin1 (fV (ha pos pins s σ H _ I h) λ us s1 ⟨vs,H1,I1,r1,q1⟩=>hc pins s1 σ H1 vs us Q I1 r1 q1) he hpl
def TU(hc:qN X (.type T) r)(hg:Gl X x)(hm:X.mg x=none)(hv:bootBuiltins x=some (.type T))(ha:PA X (e::es) t)(hn:x≠"__name__":=by decide)(hdb:(x==("__debug__":Str))=false:=by decide) (he:`Ç:=by rfl) (hpl:(backTo pos (ć es X.env)).any (·.1)=false:=by rfl):PE X (.Call (.Name x p) (e::es) [] pos) (tCB r t):=by intro pins s σ H Q I h;refine Ār (B5 I hg hm hv ?_ hn hdb);exact āc (fV (ha pos pins s σ H _ I h) λ us s1 ⟨vs,H1,I1,r1,q1⟩=>hc pins s1 σ H1 vs us Q I1 r1 q1) he hpl
end
end L2
namespace HT
open PySem PyProof.Rows
noncomputable def lexLt:List Int->List Int->Bool
 |[],[]=>false
 |[],_::_=>true
 |_::_,[]=>false
 |x::xs,y::ys=>if x=y then lexLt xs ys else decide (x<y)
def Le(x y:Int)(xs ys:`Î):lexLt (x::xs) (y::ys)=if x=y then lexLt xs ys else decide (x<y):=rfl
def DB:lexLt [] []=false:=rfl
def B3(y:Int)(ys:`Î):lexLt [] (y::ys)=true:=rfl
def B4(x:Int)(xs:`Î):lexLt (x::xs) []=false:=rfl
def Y3(A:Around)(s:Shared)(a:Int)(t:Tok)(c:Int)(u:Tok):∃e,Ćb A s (.int a t) (.int c u) e/\(e=true ↔ a=c):=⟨(a==c),SeqAt.EqAt.int_int a t c u,by simp⟩
def Wj(A:Around)(s:Shared)(a:Int)(t:Tok)(c:Int)(u:Tok)(prog:Program)(w:World)(E:`Ã)(Q:`Ã)(h:Q (.bool (decide (a<c))) s):
  wpAny `È A (richCompare .Lt (.int a t) (.int c u)) Q E s:=
 (PyProof.Rows.lt_int h:wpAny `È A (compareOp .Lt (.int a t) (.int c u)) Q E s)
section
open PySem.SeqAt
open PySem.AutoSeq1 (wpAny_loadPart')
open PySem.MeetsSeq PySem.MeetsSeq2 PySem.MeetsSeq3
def CZ(l b:Addr)(items items2:Array Value)(n n2:Nat)(dd dd2:Option Addr)(sl sl2:Array (Option Value))(ns ms:`Î)(hi:IntsAre items.toList ns)(hj:IntsAre items2.toList ms):
  Meets (Builtin.«tuple.__lt__» ⟨[.ref l,.ref b],[]⟩)
   (λ _ R s=>s.heap.get? l=some {cls:= .type "tuple",dict:=dd,data:= .seq items n,slots:=sl}/\s.heap.get? b=some {cls:= .type "tuple",dict:=dd2,data:= .seq items2 n2,slots:=sl2}/\R (.ok (.ret (.bool (lexLt ns ms)))) s):=
 .of_wp λ prog w A R s h=>by
  obtain ⟨hp,g,d,tk,os⟩:=s;obtain ⟨hl,hb,h⟩:=h;have f2:=AutoSeq1.sub_tuple_tuple;have z1:items.size=ns.length:=by rw[<-hi.length];simp
  have z2:items2.size=ms.length:=by rw[<-hj.length];simp
  wp_walk using Āx hl,Āx hb,wpAny_forIn_list _ (λ rest b s'=>b.1=none/\s'=⟨hp,g,d,tk,os⟩/\∃(vs ws:`Ð) (ns' ms':`Î),rest=vs.zip ws/\IntsAre vs ns'/\IntsAre ws ms'/\ns'.length+items2.size=ms'.length+items.size/\R (.ok (.ret (.bool (lexLt ns' ms')))) ⟨hp,g,d,tk,os⟩) _;case turn=>
   rintro ⟨y,x⟩ rest b s' ⟨hb',rfl,vs,ws,ns',ms',hz,hvi,hwi,hlen,hR⟩
   cases hvi with
   |nil=>rw[List.zip_nil_left] at hz;cases hz
   |cons a t apl=>
    cases hwi with
    |nil=>rw[List.zip_nil_right] at hz;cases hz
    |cons c u apk=>
     rw[ĥ] at hz;injection hz with hyx hrest
     injection hyx with hy hx
     subst hy hx;rw[Le] at hR;simp only[Ė] at hlen;obtain ⟨e,he,hiff⟩:=Y3 A.in1 ⟨hp,g,d,tk,os⟩ a t c u;refine Ă (he prog w _ _ ?_);cases e with
     |true=>rw[if_pos (hiff.mp rfl)] at hR;wp_walk;exact ⟨rfl,rfl,_,_,_,_,hrest,apl,apk,by omega,hR⟩
     |false=>rw[if_neg (λ q=>absurd (hiff.mpr q) Ĥ)] at hR;have hri:=Wj A.in1 ⟨hp,g,d,tk,os⟩ a t c u prog w;wp_walk using hri;exact ⟨_,rfl,by simpa using hR⟩
  case fin=>
   rintro ⟨b1,b2⟩ s' ⟨hb',rfl,vs,ws,ns',ms',hz,hvi,hwi,hlen,hR⟩
   simp only at hb';subst hb';have hv:lexLt ns' ms'=decide (items.size<items2.size):=by
    cases hvi with
    |nil=>
     cases hwi with
     |nil=>simp only[ť] at hlen;rw[DB];exact (decide_eq_false `À).symm
     |cons c u hw=>simp only[ť,Ė] at hlen;rw[B3];exact (decide_eq_true `À).symm
    |cons a t hv=>
     cases hwi with
     |nil=>simp only[ť,Ė] at hlen;rw[B4];exact (decide_eq_false `À).symm
     |cons c u hw=>rw[ĥ] at hz;cases hz
   rw[hv] at hR;wp_walk;exact ⟨_,rfl,by simpa[Builtin.Tuple.tupleCompareSizes] using hR⟩
  case h=>exact ⟨rfl,rfl,items.toList,items2.toList,ns,ms,rfl,hi,hj,by omega,h⟩
end
section
variable{prog:Program}{w:World}{A:Around}{E:`Ã}{s:Shared}
def Ld{Q:`Ã}(hl:IsTup s.heap l items)(hb:IsTup s.heap b items2)(hi:IntsAre items.toList ns)(hj:IntsAre items2.toList ms)(hu:A.units<cLine)(h:Q (.bool (lexLt ns ms)) s):wpAny `È A (compareOp .Lt (.ref l) (.ref b)) Q E s:=by obtain ⟨⟨cls,dd,data,sl⟩,ho,hc,n,hd⟩:=id hl;obtain ⟨⟨atk,dd2,data2,sl2⟩,ho2,hc2,n2,hd2⟩:=id hb;simp only at hc hd hc2 hd2;subst hc hd hc2 hd2;exact richCompare_meets_room (op:= .Lt) ⟨_,ho,rfl⟩ ⟨_,ho2,rfl⟩ PySem.F.slot_tuple_lt PySem.F.entry_tuple_lt (PySem.F.args_tuple_lt_2 _ _) (CZ l b items items2 n n2 dd dd2 sl sl2 ns ms hi hj) ⟨ho,ho2,show Value.bool (lexLt ns ms)≠Value.notImplemented/\Q (.bool (lexLt ns ms)) s from ⟨(λ x=>nomatch x),h⟩⟩ hu
noncomputable def CT(n d:Nat):Option Int->Nat
 |none=>d
 |some v=>if v<0 then (v+(n:Int)).toNat else min v.toNat n
def akI(n d:Nat):CT n d none=d:=rfl
end
end HT
namespace L2
open PySem PySem.Spec PyProof.Rows
abbrev TO:=St->Hp->(Option Int->Hp->Prop)->Prop
def PO(X:Cx)(e:Option Expr)(t:TO):Prop:=∀(pins:`Ê) (s:Shared) (σ:St) (H:Hp) (Q:Option Int->Hp->Prop),Inv X pins σ H s->t σ H Q->wpAny `É X.A (evalPart e X.env) (λ u s'=>∃o H',Inv X pins σ H' s'/\IsPart u o/\Q o H') X.xe s
def akn(t:TE):TO:=λ σ H Q=>t σ H λ x H1=>∃i,x= .int i/\Q (some i) H1
def intsAre_of:∀{us:`Ð},Vals (ns.map V.int) us->IntsAre us ns:=by
 induction ns with
 |nil=>intro us r;rw[Ăa] at r;cases r;exact .nil
 |cons n ns ih=>
  intro us r;rw[ą] at r;cases r with
  |cons r1 r2=>obtain ⟨t,e⟩:=r1;subst e;exact .cons n t (ih r2)
section
variable{X:Cx}{e:Expr}{te:TE}{lo hi:Option Expr}{tl th:TO}{pos p2:Pos}
def abV(h:PE X e te):PO X (some e) (akn te):=by intro pins s σ H Q I hw;rw[evalPart_some];refine fV (h pins s σ H _ I hw) λ u s1 ⟨x,H1,I1,r1,q1⟩=>?_;obtain ⟨i,rfl,q⟩:=q1;obtain ⟨t,rfl⟩:=r1;exact ⟨some i,H1,I1,.int i t,q⟩
def SlR(X:Cx)(r:V->Option Int->Option Int->Hp->VK->Prop):Prop:=∀(pins:`Ê) (s:Shared) (σ:St) (H:Hp) (x:V) (v vl vu:Value) (lo hi:Option Int) (sl:Addr) (Q:VK),Inv X pins σ H s->RelV x v->s.heap.IsSliceOf sl vl vu .none->IsPart vl lo->IsPart vu hi->r x lo hi H Q->∃T id,typeLookup (.type T) "__getitem__"=pure (some (.builtin id))/\s.TypeIs v T/\wpAny `É X.A (getItem v (.ref sl)) (EP X pins σ Q) X.xe s
def tSl(r:V->Option Int->Option Int->Hp->VK->Prop)(te:TE)(tl th:TO):TE:=λ σ H Q=>te σ H λ x H1=>tl σ H1 λ l H2=>th σ H2 λ u H3=>r x l u H3 Q
def WJ{r:V->Option Int->Option Int->Hp->VK->Prop}(hr:SlR X r)(he:PE X e te)(hl:PO X lo tl)(hu:PO X hi th):PE X (.Subscript e (.Slice lo hi none p2) pos) (tSl r te tl th):=by intro pins s σ H Q I h;refine Subscript_ (fV (he pins s σ H _ I h) λ v s1 ⟨x,H1,I1,r1,q1⟩=>?_);refine wpAny_Slice (fV (hl pins s1 σ H1 _ I1 q1) λ vl s2 ⟨l,H2,I2,pl,q2⟩=>fV (hu pins s2 σ H2 _ I2 q2) λ vu s3 ⟨u,H3,I3,pu,q3⟩=>?_);rw[evalPart_none];refine Ě ?_;have I4:Inv X pins σ H3 {s3 with heap:=s3.heap.push {cls:= .type "slice",data:= .fields #[vl,vu,.none]}}:=I3.kept (t':=s3.toks) λ b ob q=>Ā _ q;obtain ⟨T,id,hT,ht,hg⟩:=hr pins {s3 with heap:=s3.heap.push {cls:= .type "slice",data:= .fields #[vl,vu,.none]}} σ H3 x v vl vu l u s3.heap.objs.size Q I4 r1 (Heap.IsSliceOf.new ..) pl pu q3;show wpAny `É X.A (subscriptTail e (.Slice lo hi none p2) v (.ref s3.heap.objs.size)) (EP X pins σ Q) X.xe {s3 with heap:=s3.heap.push {cls:= .type "slice",data:= .fields #[vl,vu,.none]}};exact tail_any (ops:=[.ref s3.heap.objs.size,v]) ht hT hg (by with_unfolding_all rfl)
noncomputable def LJ(xs:List V)(lo hi:Option Int):List V:=(xs.drop (HT.CT xs.length 0 lo)).take (HT.CT xs.length xs.length hi- HT.CT xs.length 0 lo)
def JH(xs:List V)(lo hi:Option Int):(LJ xs lo hi).length<=xs.length:=by unfold LJ;rw[Ī,ŝ];omega
end
noncomputable def vA(n:Nat)(i:Int):Option Nat:=if 0<=i then (if i<n then some i.toNat else none) else if -(n:Int)<=i then some (i+n).toNat else none
def vJ{α:Type}(xs:List α)(i:Int):Option α:=(vA xs.length i).bind λ j=>xs[j]?
def Sb(h:vA n i=some j):seqIndex? i n=some j/\j<n/\ -(n:Int)<=i/\i<n:=by
 unfold vA at h;by_cases h0:0<=i
 ·rw[if_pos h0] at h;by_cases h1:i<n
  ·rw[if_pos h1] at h;have e:i.toNat=j:=ĝ h;exact ⟨by rw[ąv h0 h1,e],by omega,by omega,h1⟩
  ·rw[if_neg h1] at h;cases h
 ·rw[if_neg h0] at h;by_cases h1: -(n:Int)<=i
  ·rw[if_pos h1] at h;have e:(i+n).toNat=j:=ĝ h;exact ⟨by rw[ąk `À h1,e],by omega,h1,by omega⟩
  ·rw[if_neg h1] at h;cases h
def Hr{α:Type}{xs:List α}{i:Int}{v:α}(h:vJ xs i=some v):∃j,seqIndex? i xs.length=some j/\xs[j]? =some v/\j<xs.length/\ -(xs.length:Int)<=i/\i<xs.length:=by
 unfold vJ at h;cases e:vA xs.length i with
 |none=>rw[e] at h;cases h
 |some j=>rw[e] at h;obtain ⟨h1,h2,h3,h4⟩:=Sb e;exact ⟨j,h1,h,h2,h3,h4⟩
noncomputable def SO(b:Expr):Prop:=∀o i,subscripted b false o i=operate [o,i] (getItem o i)
def IxR(X:Cx)(r:R2):Prop:=∀(value slice:Expr) (pins:`Ê) (s:Shared) (σ:St) (H:Hp) (x y:V) (v u:Value) (Q:VK),Inv X pins σ H s->RelV x v->RelV y u->r x y H Q->subscripted slice false v u=operate [v,u] (getItem v u)->wpAny `É X.A (subscriptTail value slice v u) (EP X pins σ Q) X.xe s
def MtR(X:Cx)(id:String)(r:V->List V->Hp->VK->Prop):Prop:=∀(pins:`Ê) (s:Shared) (σ:St) (H:Hp) (x:V) (xs:List V) (v:Value) (us:`Ð) (Q:VK),Inv X pins σ H s->RelV x v->Vals xs us->r x xs H Q->wpAny `É X.A (call (.builtin id) (v::us)) (EP X pins σ Q) X.xe s
section
variable{X:Cx}{a b:Expr}{ta tb:TE}{pos:Pos}
def IxR.or{r r':R2}(h:IxR X r)(h':IxR X r'):IxR X (λ x y H Q=>r x y H Q\/r' x y H Q):=by
 intro value slice pins s σ H x y v u Q I rx ry q hs;rcases q with q|q
 ·exact h value slice pins s σ H x y v u Q I rx ry q hs
 ·exact h' value slice pins s σ H x y v u Q I rx ry q hs
def ak2{r:R2}(hr:IxR X r)(ha:PE X a ta)(hb:PE X b tb)(hs:SO b):PE X (.Subscript a b pos) (tOp r ta tb):=by intro pins s σ H Q I h;exact Subscript_ (aiu ha hb I h λ v u s2 x y H2 I2 rx ry q=>hr a b pins s2 σ H2 x y v u Q I2 rx ry q (hs _ _))
def akS(K:ă):R2:=λ x y H Q=>∃p xs i v,x= .ref p/\y= .int i/\qO K H p xs/\vJ xs i=some v/\Q v H
def akQ(K:ă):R2:=λ x y H Q=>∃p xs i v,x= .ref p/\y= .int i/\yc K H p xs/\vJ xs i=some v/\Q v H
def akR:R2:=λ x y H Q=>∃z i c,x= .str z/\y= .int i/\z.length<=Đ/\vJ z.cps.toList i=some c/\Q (.str ⟨#[c]⟩) H
def acX:IxR X (akS X.K):=by
 intro value slice pins s σ H x y v u Q I rx ry h hs;obtain ⟨p,xs,i,z,rfl,rfl,hq,he,q⟩:=h;cases rx;obtain ⟨t,rfl⟩:=ry;obtain ⟨its,r,pl,hz⟩:=I.list hq;obtain ⟨j,h1,h2,h3,h4,h5⟩:=Hr he;obtain ⟨w,ew,rw'⟩:=r.get h2;have hl:=r.length;have hn:=B0;have fin:EP X pins σ Q w s:=⟨z,H,I,rw',q⟩;by_cases h0:0<=i
 ·have hj:i.toNat=j:=by rw[ąv h0 h5] at h1;exact ĝ h1
  exact item_listR pl.isList h0 `À (by rw[hj];simpa using ew) fin hs
 ·have hj:(i+(its.toArray.size:Int)).toNat=j:=by rw[ąk `À h4] at h1;rw[Ę, <-hl];exact ĝ h1
  exact subscriptTail_builtinR (x:=w) pl.isList.typeIs slot_list_getitem.lookup
   (wpAny_getItem_list_neg (Q:=λ r s'=>r=w/\EP X pins σ Q r s') pl.isList `À (by rw[Ę]<;>omega) `À (by rw[hj];simpa using ew) ⟨rfl,fin⟩) hs
def ahA:IxR X (akQ X.K):=by
 intro value slice pins s σ H x y v u Q I rx ry h hs;obtain ⟨p,xs,i,z,rfl,rfl,hq,he,q⟩:=h;cases rx;obtain ⟨t,rfl⟩:=ry;obtain ⟨its,r,pl,hz⟩:=I.tuple hq;obtain ⟨j,h1,h2,h3,h4,h5⟩:=Hr he;obtain ⟨w,ew,rw'⟩:=r.get h2;have hl:=r.length;have hn:=B0;have fin:EP X pins σ Q w s:=⟨z,H,I,rw',q⟩;exact subscriptTail_builtinR (x:=w) pl.typeIs slot_tuple_getitem.lookup
  (getItem_tuple (j:=j) (Q:=λ r s'=>r=w/\EP X pins σ Q r s') pl `À `À (by rw[Ę, <-hl];exact h1) (by simpa using ew) ⟨rfl,fin⟩) hs
def ahB:IxR X akR:=by
 intro value slice pins s σ H x y v u Q I rx ry h hs;obtain ⟨z,i,c,rfl,rfl,hz,he,q⟩:=h;obtain ⟨t,rfl⟩:=rx;obtain ⟨t',rfl⟩:=ry;obtain ⟨j,h1,h2,h3,h4,h5⟩:=Hr he;have hl:z.cps.toList.length=z.length:=by simp[Str.length]
 rw[hl] at h1 h4 h5;have hn:=B0;exact tail_any (typeIs_str s z t) slot_str_getitem.lookup (getItem_str (c:=c) (by have e1:decide (i< -(2^63:Int))=false:=decide_eq_false `À;have e2:decide (i>=2^63)=false:=decide_eq_false `À;rw[e1,e2,Bool.or_false]) (by rw[h1];simpa using h2) ⟨.str ⟨#[c]⟩,H,I.tok _,⟨_,rfl⟩,q⟩) hs
def rIx(K:ă):R2:=λ x y H Q=>akS K x y H Q\/akQ K x y H Q\/akR x y H Q
def ahC:IxR X (rIx X.K):=acX.or (ahA.or ahB)
def K8(its:`Ð)(n j:Nat)(u:Value):ĳ (·.setIfInBounds j u) {cls:= .type "list",data:= .seq its.toArray n}={cls:= .type "list",data:= .seq (its.set j u).toArray n}:=by simp[ĳ]
theorem Inv.lst{s:Shared}(I:`Ä)(h:H p=some (.lst xs)):
  ∃(its:`Ð) (n:Nat),Vals xs its/\s.heap.get? p=some {cls:= .type "list",data:= .seq its.toArray n}/\xs.length<=Đ:=by
 obtain ⟨z,its,n,r,e⟩:=I.hok p _ h;exact ⟨its,n,r,e,z⟩
def Inv.ahm{s:Shared}{its its':`Ð}{n n':Nat}(I:`Ä)(h:H p=some (.lst xs))(ho:s.heap.get? p=some {cls:= .type "list",data:= .seq its.toArray n})(hf:f {cls:= .type "list",data:= .seq its.toArray n}={cls:= .type "list",data:= .seq its'.toArray n'})(r:Vals ys its')(hz:ys.length<=Đ)(t:Nat):
  Inv X pins σ (upd H p (.lst ys)) {s with heap:=s.heap.update p f,toks:=t}:=by
 have e:(s.heap.update p f).get? p=some {cls:= .type "list",data:= .seq its'.toArray n'}:=by rw[Heap.get?_update_self f ho (by rw[hf]<;>rfl),hf]
 refine I.write (x:=p) (e:=p) (by rw[h];trivial) (.inl rfl) (λ b u hb q=>(Heap.get?_update_other _ _ (Ŋ hb)).trans q) ⟨_,e⟩ ?_;exact ⟨hz,its',n',r,e⟩
def akP:V->V->V->Hp->(Hp->Prop)->Prop:=λ o i v H Q=>∃p xs k j,o= .ref p/\i= .int k/\H p=some (.lst xs)/\vA xs.length k=some j/\Q (upd H p (.lst (xs.set j v)))
def set_list:amI X akP:=by
 intro pins s σ H o i v ov iv u Q I ro ri rv h;obtain ⟨p,xs,k,j,rfl,rfl,hp,hj,q⟩:=h;cases ro;obtain ⟨t,rfl⟩:=ri;obtain ⟨its,n,r,ho,hz⟩:=I.lst hp;obtain ⟨h1,h2,h3,h4⟩:=Sb hj;have hl:=r.length;have hn:=B0;have I':Inv X pins σ (upd H p (.lst (xs.set j v))) {s with heap:=s.heap.update p (ĳ (·.setIfInBounds j u))}:=
  I.ahm hp ho (K8 its n j u) (r.set rv j) (by rw[List.length_set];exact hz) s.toks
 by_cases h0:0<=k
 ·have hk:k.toNat=j:=by rw[ąv h0 h4] at h1;exact ĝ h1
  exact W.ki_setAt ho h0 `À (by rw[Ę, <-hl];exact h4) (by rw[hk];exact ⟨_,I',q⟩)
 ·have hk:(k+(its.toArray.size:Int)).toNat=j:=by rw[ąk `À h3] at h1;rw[Ę, <-hl];exact ĝ h1
  exact W.ki_setBack ho `À (by rw[Ę, <-hl];exact h3) `À (by rw[hk];exact ⟨_,I',q⟩)
def Fx(lo hi:Option Int)(n:Nat):(sliceBounds lo hi none n).1=((HT.CT n 0 lo:Nat):Int)/\(sliceBounds lo hi none n).2.1=((HT.CT n n hi:Nat):Int)/\(sliceBounds lo hi none n).2.2=1:=by
 refine ⟨?_,?_,rfl⟩
 ·cases lo with
  |none=>simp[sliceBounds,HT.CT]
  |some i=>
   simp only[sliceBounds,HT.CT,Ąc,show (1:Int)>0 by decide,if_true];by_cases h:i<0
   ·simp only[h,if_true]<;>omega
   ·simp only[h,if_false]<;>omega
 ·cases hi with
  |none=>simp[sliceBounds,HT.CT]
  |some i=>
   simp only[sliceBounds,HT.CT,Ąc,show (1:Int)>0 by decide,if_true];by_cases h:i<0
   ·simp only[h,if_true]<;>omega
   ·simp only[h,if_false]<;>omega
def C3(its:`Ð)(lo hi:Option Int):slicePick its.toArray lo hi none=((its.drop (HT.CT its.length 0 lo)).take (HT.CT its.length its.length hi- HT.CT its.length 0 lo)).toArray:=by obtain ⟨h1,h2,h3⟩:=Fx lo hi its.toArray.size;unfold slicePick;rw[h1,h2,h3];simp only[sliceRange_one,pick_run,Ę]<;>rfl
def aoJ(K:ă):V->Option Int->Option Int->Hp->VK->Prop:=λ x lo hi H Q=>∃a xs,x= .ref a/\qO K H a xs/\∀p,H p=none->Q (.ref p) (upd H p (.lst (LJ xs lo hi)))
def abA:SlR X (aoJ X.K):=by intro pins s σ H x v vl vu lo hi sl Q I rx hs pl pu h;obtain ⟨a,xs,rfl,hx,q⟩:=h;cases rx;obtain ⟨its,r,ht,hz⟩:=I.list hx;have hlen:=r.length;refine ⟨"list",_,slot_list_getitem.lookup,ht.isList.typeIs,?_⟩;refine wpAny_getItem_list_slice ht.isList hs pl pu .none `Ó ?_ (by rw[Ę]<;>omega);rw[C3, <-hlen];refine ⟨.ref s.heap.objs.size,_,I.laid (t':=s.toks) (o:= .lst (LJ xs lo hi)) (λ b ob q=>Ā _ q) (Ĉ _) ?_,rfl,q _ (I.hok.fresh (Ĉ _))⟩;exact ⟨ģ (JH xs lo hi) hz,_,0,(r.drop (HT.CT xs.length 0 lo)).take (HT.CT xs.length xs.length hi- HT.CT xs.length 0 lo),đ _ rfl⟩
noncomputable def uV:V->Bool
 | .cU=>true
 | .bl _=>true
 | .int _=>true
 | .str _=>true
 |_=>false
noncomputable def eqV:V->V->Bool
 | .cU,.cU=>true
 | .bl a,.bl b=>a==b
 | .bl a,.int b=>(if a then 1 else 0)==b
 | .int a,.bl b=>a==(if b then 1 else 0)
 | .int a,.int b=>a==b
 | .str a,.str b=>a==b
 |_,_=>false
def ah8{s:Shared}{y x:V}{u v:Value}(ry:RelV y u)(rx:RelV x v)(fy:uV y=true)(fx:uV x=true):Ćb A s u v (eqV y x):=by
 cases y with
 |cU=>
  cases ry;cases x with
  |cU=>cases rx;exact SeqAt.EqAt.same _
  |bl b=>cases rx;exact SeqAt.EqAt.none_bool b
  |int b=>obtain ⟨t,rfl⟩:=rx;exact SeqAt.EqAt.none_int b t
  |str b=>obtain ⟨t,rfl⟩:=rx;exact SeqAt.EqAt.none_str b t
  |_=>exact absurd (show false=true from fx) Ĥ
 |bl a=>
  cases ry;cases x with
  |cU=>cases rx;exact SeqAt.EqAt.bool_none a
  |bl b=>cases rx;exact SeqAt.EqAt.bool_bool a b
  |int b=>obtain ⟨t,rfl⟩:=rx;exact SeqAt.EqAt.bool_int a b t
  |str b=>obtain ⟨t,rfl⟩:=rx;exact SeqAt.EqAt.bool_str a b t
  |_=>exact absurd (show false=true from fx) Ĥ
 |int a=>
  obtain ⟨t',rfl⟩:=ry;cases x with
  |cU=>cases rx;exact SeqAt.EqAt.int_none a t'
  |bl b=>cases rx;exact SeqAt.EqAt.int_bool a t' b
  |int b=>obtain ⟨t,rfl⟩:=rx;exact SeqAt.EqAt.int_int a t' b t
  |str b=>obtain ⟨t,rfl⟩:=rx;exact SeqAt.EqAt.int_str a t' b t
  |_=>exact absurd (show false=true from fx) Ĥ
 |str a=>
  obtain ⟨t',rfl⟩:=ry;cases x with
  |cU=>cases rx;exact SeqAt.EqAt.str_none a t'
  |bl b=>cases rx;exact SeqAt.EqAt.str_bool a t' b
  |int b=>obtain ⟨t,rfl⟩:=rx;exact SeqAt.EqAt.str_int a t' b t
  |str b=>obtain ⟨t,rfl⟩:=rx;exact SeqAt.EqAt.str_str a t' b t
  |_=>exact absurd (show false=true from fx) Ĥ
 |_=>exact absurd (show false=true from fy) Ĥ
def LD(x:V)(u:Value):Bool:=match u with
 | .none=>eqV .cU x
 | .bool b=>eqV (.bl b) x
 | .int i _=>eqV (.int i) x
 | .str z _=>eqV (.str z) x
 |_=>false
def Y0{x y:V}(r:RelV y u)(f:uV y=true):LD x u=eqV y x:=by
 cases y with
 |cU=>cases r;rfl
 |bl b=>cases r;rfl
 |int i=>obtain ⟨t,rfl⟩:=r;rfl
 |str z=>obtain ⟨t,rfl⟩:=r;rfl
 |_=>exact absurd (show false=true from f) Ĥ
theorem xU:∀{xs:List V} {us:`Ð},Vals xs us->xs.all uV=true->us.any (LD x)=xs.any λ y=>eqV y x
 |_,_,.nil,_=>rfl
 |y::xs,u::us,.cons r t,f=>by rw[ău,ħ] at f;rw[ŏ,ŏ,Y0 r f.1,xU t f.2]
theorem sU{s:Shared}{v:Value}(rx:RelV x v)(fx:uV x=true):∀{xs:List V} {us:`Ð},Vals xs us->xs.all uV=true->∀u∈us,Ćb A s u v (LD x u)
 |_,_,.nil,_=>λ u hu=>by cases hu
 |y::xs,u::us,.cons r t,f=>λ u' hu=>by
  rw[ău,ħ] at f;rcases Ć.mp hu with rfl|hu
  ·rw[Y0 r f.1];exact ah8 r rx f.1 fx
  ·exact sU rx fx t f.2 u' hu
def inV(x:V)(xs:List V):Bool:=xs.any λ y=>eqV y x
def rIn(K:ă)(neg:Bool):R2:=λ x y H Q=>∃p xs,y= .ref p/\(qO K H p xs\/yc K H p xs)/\uV x=true/\xs.all uV=true/\Q (.bl (if neg then !inV x xs else inV x xs)) H
def TZ:p8 X (compareOp .In) (rIn X.K false):=by
 intro pins s σ H x y v u Q I rx ry h;obtain ⟨p,xs,rfl,hq,fx,fs,q⟩:=h;cases ry;rcases hq with hq|hq
 ·obtain ⟨its,r,pl,hz⟩:=I.list hq;refine SeqAt.in_listAt (LD x) pl.isList (λ w hw=>sU rx fx r fs w (by simpa using hw)) ⟨.bl _,H,I,rfl,?_⟩;rw[show its.toArray.any (LD x)=its.any (LD x) by simp,xU r fs];exact q
 ·obtain ⟨its,r,pl,hz⟩:=I.tuple hq;refine SeqAt.in_tupleAt (LD x) pl (λ w hw=>sU rx fx r fs w (by simpa using hw)) ⟨.bl _,H,I,rfl,?_⟩;rw[show its.toArray.any (LD x)=its.any (LD x) by simp,xU r fs];exact q
def FU:p8 X (compareOp .NotIn) (rIn X.K true):=by
 intro pins s σ H x y v u Q I rx ry h;obtain ⟨p,xs,rfl,hq,fx,fs,q⟩:=h;cases ry;rcases hq with hq|hq
 ·obtain ⟨its,r,pl,hz⟩:=I.list hq;refine SeqAt.notIn_listAt (LD x) pl.isList (λ w hw=>sU rx fx r fs w (by simpa using hw)) ⟨.bl _,H,I,rfl,?_⟩;rw[show its.toArray.any (LD x)=its.any (LD x) by simp,xU r fs];exact q
 ·obtain ⟨its,r,pl,hz⟩:=I.tuple hq;refine SeqAt.notIn_tupleAt (LD x) pl (λ w hw=>sU rx fx r fs w (by simpa using hw)) ⟨.bl _,H,I,rfl,?_⟩;rw[show its.toArray.any (LD x)=its.any (LD x) by simp,xU r fs];exact q
def DT:qN X (.type "tuple") (λ xs H Q=>∃p ys,xs=[.ref p]/\((qO X.K H p ys/\∀l,H l=none->Q (.ref l) (upd H l (.tup ys)))\/(yc X.K H p ys/\Q (.ref p) H))):=by
 intro pins s σ H xs us Q I r h;obtain ⟨p,ys,rfl,h⟩:=h;obtain ⟨u,rfl,rx⟩:=vals1 r;cases rx;rcases h with ⟨hq,q⟩|⟨hq,q⟩
 ·obtain ⟨its,r',pl,hz⟩:=I.list hq;have hlen:=r'.length;refine call_tuple_list pl.isList (λ h' kp=>?_) (by simp only[Ę]<;>omega);have I1:Inv X pins σ H {s with heap:=h'}:=I.kept (t':=s.toks) kp;have I2:Inv X pins σ (upd H h'.objs.size (.tup ys)) {s with heap:=h'.push {cls:= .type "tuple",data:= .seq its.toArray}}:=
   I1.laid (t':=s.toks) (λ b o e=>Ā _ e) (Ĉ _) (show eV X.prog X.w _ _ _ (.tup ys) from ⟨hz,its,r',IsTup.new _ _⟩)
  exact ⟨.ref h'.objs.size,_,I2,rfl,q _ (I1.hok.fresh (Ĉ _))⟩
 ·obtain ⟨its,r',pl,hz⟩:=I.tuple hq;exact call_tuple_same pl ⟨.ref p,H,I,rfl,q⟩
def tyV(K:ă)(T:String)(x:V)(H:Hp):Prop:=match x with
 | .str _=>T="str"
 | .int _=>T="int"
 | .ref p=>(T="list"/\∃xs,qO K H p xs)\/(T="tuple"/\∃o,K.lookup p=some o/\o.cls= .type "tuple"/\o.dict=none)\/(T="dict"/\((∃kvs,H p=some (.dK kvs))\/∃kvs,H p=some (.dT kvs)))\/(T="set"/\∃S n,H p=some (.set S n))
 |_=>False
def agb{s:Shared}{v:Value}(I:`Ä)(r:RelV x v)(ty:tyV X.K T x H):
  s.TypeIs v T/\∀a,v= .ref a->∃ob,s.heap.get? a=some ob/\ob.dict=none:=by
 cases x with
 |str z=>obtain ⟨t,rfl⟩:=r;cases (show T="str" from ty);exact ⟨typeIs_str s z t,λ _ e=>nomatch e⟩
 |int i=>obtain ⟨t,rfl⟩:=r;cases (show T="int" from ty);exact ⟨typeIs_int s i t,λ _ e=>nomatch e⟩
 |ref p=>
  cases r;rcases ty with ⟨rfl,xs,hq⟩|⟨rfl,o,hk,hc,hd⟩|⟨rfl,hk⟩|⟨rfl,S,n,hk⟩
  ·obtain ⟨its,_,pl,_⟩:=I.list hq;refine ⟨pl.isList.typeIs,λ a e=>?_⟩;cases e;obtain ⟨o,n,e,c,hd,_⟩:=pl;exact ⟨o,e,hd⟩
  ·refine ⟨⟨o,I.zW p o hk,hc⟩,λ a e=>?_⟩;cases e;exact ⟨o,I.zW _ o hk,hd⟩
  ·have z:∃o,s.heap.get? p=some o/\o.ExactDict:=by
    rcases hk with ⟨kvs,hk⟩|⟨kvs,hk⟩
    ·obtain ⟨_,_,_,_,o,_,_,e,ex,_⟩:=I.hok p _ hk;exact ⟨o,e,ex⟩
    ·obtain ⟨_,_,_,_,o,_,_,e,ex,_⟩:=I.hok p _ hk;exact ⟨o,e,ex⟩
   obtain ⟨o,e,ex⟩:=z;refine ⟨⟨o,e,ex.1⟩,λ a e2=>?_⟩;cases e2;exact ⟨o,e,ex.2.1⟩
  ·obtain ⟨o,_,_,_,e,ex,_⟩:=I.hok p _ hk;refine ⟨⟨o,e,ex.1⟩,λ a e2=>?_⟩;cases e2;exact ⟨o,e,ex.2.1⟩
 |_=>exact ű ty
def tBM(K:ă)(T:String)(r:V->List V->Hp->VK->Prop)(to:TE)(t:TA):TE:=λ σ H Q=>to σ H λ x H1=>tyV K T x H1/\t σ H1 λ xs H2=>r x xs H2 Q
variable{o e:Expr}{es:`Þ}{to:TE}{t:TA}{name:Str}{apos cpos:Pos}{T id:String}{r:V->List V->Hp->VK->Prop}
def aej(pa:PlainAttrs T)(slot:Slot T name id)(hty:typeOf (.builtin id)=pure (.type "method_descriptor"))(hm:MtR X id r)(ho:PE X o to)(ha:PA X (e::es) t) (hbase:attributeBase o name X.env (eval o X.env)=eval o X.env:=by rfl) (hfew:((backTo cpos (ć (e::es) X.env)).all (λ x=>!x.1)&&(backToKw cpos (keywordEach [] X.env)).all (λ x=>x.1.isSome)
   &&decide ((e::es).length+([]:List Keyword).length+(if ([]:List Keyword).isEmpty then 0 else 1)<30))=true:=by rfl)
  (hline:(apos.endLine==cpos.line)=true:=by rfl) (hs:`Ç:=by rfl) (hplain:(backTo cpos (ć es X.env)).any (·.1)=false:=by rfl):
  PE X (.Call (.Attribute o name apos) (e::es) [] cpos) (tBM X.K T r to t):=by
 intro pins s σ H Q I h;refine wpAny_Call_method_late hbase hfew hline rfl (fV (ho pins s σ H _ I h) λ v s1 ⟨x,H1,I1,r1,ty,q1⟩=>?_);obtain ⟨h1,h2⟩:=agb I1 r1 ty;refine ⟨T,id,pa,slot,hty,h1,h2,?_⟩;have hA:=ha cpos pins s1 σ H1 _ I1 q1;rw[hs] at hA ⊢;refine ū (by show (false||(backTo cpos (ć es X.env)).any (·.1))=false;rw[hplain]<;>rfl) (Āe ?_);exact fV hA λ us s2 ⟨vs,H2,I2,r2,q2⟩=>hm pins s2 σ H2 x vs v us Q I2 r1 r2 q2
end
def MtM(X:Cx)(id:String)(r:V->List V->Hp->VK->Prop):Prop:=∀(pins:`Ê) (s:Shared) (σ:St) (H:Hp) (x:V) (xs:List V) (v:Value) (us:`Ð) (Q:VK),Inv X pins σ H s->RelV x v->Vals xs us->r x xs H Q->wpAny `É X.A (call (.builtin id) (v::us)) (EP X pins σ Q) X.xe s
def Vals.one:∀{x:V} {us:`Ð},Vals [x] us->∃u,us=[u]/\RelV x u
 |_,_,.cons r .nil=>⟨_,rfl,r⟩
section
variable{X:Cx}{pins:`Ê}{σ:St}{H:Hp}{s:Shared}{l b:Addr}{xs ys zs:List V}
def Inv.alz{its its':`Ð}{n:Nat}{f:Array Value->Array Value}{t':Nat}(I:`Ä)(hH:H l=some (.lst xs)) (e:s.heap.get? l=some {cls:= .type "list",data:= .seq its.toArray n}) (hf:f its.toArray=its'.toArray) (hv:Vals ys its') (hz:ys.length<=Đ):
  Inv X pins σ (upd H l (.lst ys)) {s with heap:=s.heap.update l (ĳ f),toks:=t'}:=by
 have q:=PySem.IsL.update e f;rw[hf] at q;refine I.write (x:=l) (e:=l) (by rw[hH];exact trivial) (.inl rfl) (λ b' u hb hu=>(Heap.get?_update_other s.heap (ĳ f) (Ŋ hb)).trans hu) ⟨_,q⟩ ?_;exact ⟨hz,its',_,hv,q⟩
def Inv.ao7(I:`Ä)(hv:Vals ys its)(hz:ys.length<=Đ):
  Inv X pins σ (upd H s.heap.objs.size (.lst ys)) {s with heap:=s.heap.push {cls:= .type "list",data:= .seq its.toArray},toks:=t'}:=
 I.laid (λ _ _ q=>Ā _ q) (Ĉ _) ⟨hz,its,0,hv,đ _ rfl⟩
theorem Inv.fresh(I:`Ä):H s.heap.objs.size=none:=I.hok.fresh (Ĉ _)
def Inv.ahn(I:`Ä)(hH:H l=some (.lst xs)):xs.length<=Đ/\∃(its:`Ð) (n:Nat),Vals xs its/\xs.length=its.length/\s.heap.get? l=some {cls:= .type "list",data:= .seq its.toArray n}:=by obtain ⟨z,its,n,r,e⟩:=I.hok l _ hH;exact ⟨z,its,n,r,r.length,e⟩
def Xn{n:Nat}(h:n<=Đ):āo n=false:=by unfold āo;exact decide_eq_false `À
end
section
variable{X:Cx}
def Rz:V->List V->Hp->VK->Prop:=λ x vs H Q=>∃l xs y,x= .ref l/\vs=[y]/\H l=some (.lst xs)/\xs.length<Đ/\Q .cU (upd H l (.lst (xs++[y])))
def Ex:MtM X "list.append" Rz:=by intro pins s σ H x vs v us Q I rx rv h;obtain ⟨l,xs,y,rfl,rfl,hH,hz,q⟩:=h;cases rx;obtain ⟨u,rfl,ru⟩:=rv.one;obtain ⟨z,its,n,r,hl,e⟩:=I.ahn hH;refine call_meets F.slot_list_append ⟨_,e,rfl⟩ F.entry_list_append (F.args_list_append_2 _ _) (PySem.list_append l its.toArray n u (by rw[Ę];omega)) ⟨e,?_⟩;refine ⟨.cU,_,I.alz (its':=its++[u]) hH e `Ó (r.append (.cons ru .nil)) ?_,rfl,q⟩;rw[ĩ,List.length_singleton];omega
def abO:V->List V->Hp->VK->Prop:=λ x vs H Q=>∃l b xs zs,x= .ref l/\vs=[.ref b]/\H l=some (.lst xs)/\H b=some (.lst zs)/\xs.length+zs.length<=Đ/\Q .cU (upd H l (.lst (xs++zs)))
def Uo:MtM X "list.extend" abO:=by
 intro pins s σ H x vs v us Q I rx rv h;obtain ⟨l,b,xs,zs,rfl,rfl,hH,hB,hz,q⟩:=h;cases rx;obtain ⟨u,rfl,ru⟩:=rv.one;cases ru;obtain ⟨z,its,n,r,hl,e⟩:=I.ahn hH;obtain ⟨z2,its2,n2,r2,hl2,e2⟩:=I.ahn hB;have hsz:its.toArray.size+its2.toArray.size<=Đ:=by rw[Ę,Ę];omega
 have alM:¬(!its.toArray.isEmpty&&āo (its.toArray.size+its2.toArray.size))=true:=by rw[Xn hsz,Bool.and_false];exact Ĥ
 refine call_meets F.slot_list_extend ⟨_,e,rfl⟩ F.entry_list_extend (F.args_list_extend_2 _ _)
  (AutoSeq1.list_extend_list_list_0 l its.toArray n b its2.toArray n2 alM (by rw[Ę];omega) `À) ⟨e,e2,?_⟩
 refine ⟨.cU,_,I.alz (its':=its++its2) hH e `Ó (r.append r2) ?_,rfl,q⟩;rw[ĩ];omega
end
section
variable{prog:Program}{w:World}{A:Around}{E:`Ã}{s:Shared}
end
section
variable{X:Cx}
end
section
variable{κ:Type} [DecidableEq κ]
noncomputable def jM(kvs:List (κ×V))(k:κ):Option V:=(kvs.find? λ kv=>decide (kv.1=k)).map (·.2)
noncomputable def putK(kvs:List (κ×V))(k:κ)(v:V):List (κ×V):=if (kvs.any λ kv=>decide (kv.1=k))=true then kvs.map (λ kv=>if kv.1=k then (kv.1,v) else kv) else kvs++[(k,v)]
def akh:jM ([]:List (κ×V)) k=none:=rfl
def AR{p:κ×V}{r:List (κ×V)}{k:κ}(e:p.1=k):jM (p::r) k=some p.2:=by simp[jM,Ĭ,e]
def AS{p:κ×V}{r:List (κ×V)}{k:κ}(e:¬p.1=k):jM (p::r) k=jM r k:=by simp[jM,Ĭ,e]
theorem AU(k:κ):∀kvs:List (κ×V),(kvs.any λ kv=>decide (kv.1=k))=(jM kvs k).isSome
 |[]=>rfl
 |p::r=>by
  rw[ŏ];by_cases e:p.1=k
  ·simp only[AR e,decide_eq_true e,Bool.true_or,Option.isSome_some]
  ·rw[AS e,decide_eq_false e,ăv];exact AU k r
def sZ(kvs:List (κ×V))(k:κ)(v:V):(putK kvs k v).length<=kvs.length+1:=by
 unfold putK;split
 ·rw[ė];omega
 ·rw[ĩ,Ė,ť];omega
def rS.UM(r:rS o u):o.isSome=u.isSome:=by
 cases o with
 |none=>cases u with
  |none=>rfl
  |some _=>exact (show False from r).elim
 |some _=>cases u with
  |none=>exact (show False from r).elim
  |some _=>rfl
theorem rS.getD{o:Option V}{u:Option Value}{d:V}{d':Value}(r:rS o u)(rd:RelV d d'):RelV (o.getD d) (u.getD d'):=by
 cases o with
 |none=>cases u with
  |none=>exact rd
  |some _=>exact (show False from r).elim
 |some _=>cases u with
  |none=>exact (show False from r).elim
  |some _=>exact r
def KV.val(r:KV kvs vs)(k:κ):rS (jM kvs k) (valueAt vs k):=by
 unfold KV at r;induction r with
 |nil=>exact True.intro
 | @cons p q ps qs h t ih=>
  obtain ⟨h1,h2⟩:=h;by_cases e:p.1=k
  ·have e':q.1=k:=h1.symm.trans e;have b:valueAt (q::qs) k=some q.2:=by simp[valueAt,Ĭ,e']
   rw[AR e,b];exact h2
  ·have e':¬q.1=k:=λ z=>e (h1.trans z);have b:valueAt (q::qs) k=valueAt qs k:=by simp[valueAt,Ĭ,e']
   rw[AS e,b];exact ih
theorem KV.any{kvs:List (κ×V)}{vs:List (κ×Value)}(r:KV kvs vs)(k:κ):(kvs.any λ kv=>decide (kv.1=k))=vs.any λ kv=>decide (kv.1=k):=by
 unfold KV at r;induction r with
 |nil=>rfl
 |cons h t ih=>rw[ŏ,ŏ,ih,h.1]
def KV.repl(r:KV kvs vs)(k:κ){y:V}(ry:RelV y u):
  KV (kvs.map λ kv=>if kv.1=k then (kv.1,y) else kv) (vs.map λ kv=>if kv.1=k then (kv.1,u) else kv):=by
 unfold KV at r ⊢;induction r with
 |nil=>exact .nil
 | @cons p q ps qs h t ih=>
  rw[ą,ą];refine .cons ?_ ih;obtain ⟨h1,h2⟩:=h;by_cases e:p.1=k
  ·rw[if_pos e,if_pos (h1.symm.trans e)];exact ⟨h1,ry⟩
  ·rw[if_neg e,if_neg (λ z=>e (h1.trans z))];exact ⟨h1,h2⟩
def KV.put(r:KV kvs vs)(k:κ){y:V}(ry:RelV y u):KV (putK kvs k y) (stored vs k u):=by
 unfold putK stored;rw[r.any k];by_cases e:(vs.any λ kv=>decide (kv.1=k))=true
 ·rw[if_pos e,if_pos e];exact r.repl k ry
 ·rw[if_neg e,if_neg e];exact Paired.snoc r ⟨rfl,ry⟩
theorem KV.length{kvs:List (κ×V)}{vs:List (κ×Value)}(r:KV kvs vs):kvs.length=vs.length:=Ąx r
end
def Jj(r:RelV (kV k) u):(cD P w).is k u=true:=by
 cases k with
 |inl i=>obtain ⟨t,e⟩:=(show ∃t,u=Value.int i t from r);subst e;exact IP P w i t
 |inr x=>obtain ⟨t,e⟩:=(show ∃t,u=Value.str x t from r);subst e;exact IM P w x t
theorem EO:∀{ks:List Key} {us:`Ð},Vals (ks.map kV) us->ItemsAre (cD P w) ks us
 |[],_,r=>by rw[Ăa] at r;cases r;exact .nil
 |k::ks,_,r=>by
  rw[ą] at r;cases r with
  |cons h t=>exact .cons (Jj h) (EO t)
abbrev KT(H:Hp):List (List Key×V)->List (List Key×Addr×Value)->Prop:=Paired λ p q=>p.1=q.1/\H q.2.1=some (.tup (p.1.map kV))/\RelV p.2 q.2.2
def KT.val(r:KT H kvs xs)(k:List Key):rS (jM kvs k) ((atKey xs k).map (·.2)):=by
 induction r with
 |nil=>exact True.intro
 | @cons p q ps qs h t ih=>
  obtain ⟨h1,_,h2⟩:=h;by_cases e:p.1=k
  ·have e':q.1=k:=h1.symm.trans e;have b:atKey (q::qs) k=some q.2:=by simp[atKey,Ĭ,e']
   rw[AR e,b];exact h2
  ·have e':¬q.1=k:=λ z=>e (h1.trans z);have b:atKey (q::qs) k=atKey qs k:=by simp[atKey,Ĭ,e']
   rw[AS e,b];exact ih
def KT.repl(r:KT H kvs xs)(k:List Key){y:V}(ry:RelV y u):
  KT H (kvs.map λ kv=>if kv.1=k then (kv.1,y) else kv) (xs.map (putAt k u)):=by
 induction r with
 |nil=>exact .nil
 | @cons p q ps qs h t ih=>
  rw[ą,ą];refine .cons ?_ ih;obtain ⟨h1,h2,h3⟩:=h;unfold putAt;by_cases e:p.1=k
  ·rw[if_pos e,if_pos (h1.symm.trans e)];exact ⟨h1,h2,ry⟩
  ·rw[if_neg e,if_neg (λ z=>e (h1.trans z))];exact ⟨h1,h2,h3⟩
def KT.put(r:KT H kvs xs)(k:List Key){y:V}(hb:H b=some (.tup (k.map kV)))(ry:RelV y u):
  KT H (putK kvs k y) (storedH xs k b u):=by
 have e:(kvs.any λ kv=>decide (kv.1=k))=(atKey xs k).isSome:=by rw[AU,(r.val k).UM,Option.isSome_map]
 unfold putK storedH;rw[e];by_cases q:(atKey xs k).isSome=true
 ·rw[if_pos q,if_pos q];exact r.repl k ry
 ·rw[if_neg q,if_neg q];exact Paired.snoc r ⟨rfl,hb,ry⟩
def KT.keeps(r:KT H kvs xs)(ht:∀b ys,H b=some (.tup ys)->H' b=some (.tup ys)):KT H' kvs xs:=Paired.acF r λ _ _ z=>⟨z.1,ht _ _ z.2.1,z.2.2⟩
section
variable{P:Program}{w:World}{H:Hp}{h:Heap}{a:Addr}
def aed(ok:uX P w H h)(e:Rd H a u):eV P w H h a u:=e.ok ok
def SD(ok:uX P w H h)(e:Rd H a (.dK kvs)):kvs.length<=Đ/\(a==sysModules)=false/\∃vs,KV kvs vs/\h.DictOf (cD P w) a vs:=show eV P w H h a (.dK kvs) from aed ok e
def aeC(ok:uX P w H h)(e:H a=some (.dK kvs)):kvs.length<=Đ/\(a==sysModules)=false/\∃vs,KV kvs vs/\h.DictOf (cD P w) a vs:=SD ok (.inl e)
def Cd(ok:uX P w H h)(e:H a=some (.tup (ks.map kV))):(tupleKind (cD P w)).is h ks a:=by obtain ⟨_,its,r,o,h1,h2,n,h3⟩:=(show eV P w H h a (.tup (ks.map kV)) from ok a _ e);exact ⟨o,its.toArray,n,h1,h2,h3,by simpa using EO r⟩
def Sy(ok:uX P w H h)(e:Rd H a (.dT kvs)):kvs.length<=Đ/\(a==sysModules)=false/\∃xs,KT H kvs xs/\h.DictOfH (tupleKind (cD P w)) a xs:=by
 obtain ⟨z,y,xs,r,o,es,ep,h1,h2,h3,h4,h5⟩:=(show eV P w H h a (.dT kvs) from aed ok e);refine ⟨z,y,xs,r,o,es,ep,h1,h2,h3,h4,λ x hx=>?_,h5⟩;have all:∀{l:List (List Key×V)} {m:List (List Key×Addr×Value)},KT H l m->∀x∈m,(tupleKind (cD P w)).is h x.1 x.2.1:=by
  intro l m q;induction q with
  |nil=>intro x hx;exact nomatch hx
  | @cons p q ps qs hq t ih=>
   intro x hx;rcases Ć.mp hx with e|hx
   ·subst e;exact Cd ok (by rw[<-hq.1];exact hq.2.1)
   ·exact ih x hx
 exact all r x hx
def al2(ok:uX P w H h)(e:H a=some (.dT kvs)):kvs.length<=Đ/\(a==sysModules)=false/\∃xs,KT H kvs xs/\h.DictOfH (tupleKind (cD P w)) a xs:=Sy ok (.inl e)
end
def adP(H:Hp)(a:Addr)(y:V)(r:Option V):Prop:=(∃kvs k,Rd H a (.dK kvs)/\y=kV k/\r=jM kvs k)\/∃kvs k b,Rd H a (.dT kvs)/\y= .ref b/\H b=some (.tup (k.map kV))/\r=jM kvs k
def amV(H:Hp)(a:Addr)(y v:V)(H':Hp):Prop:=(∃kvs k,H a=some (.dK kvs)/\y=kV k/\kvs.length<Đ/\H'=upd H a (.dK (putK kvs k v)))\/∃kvs k b,H a=some (.dT kvs)/\y= .ref b/\H b=some (.tup (k.map kV))/\kvs.length<Đ/\H'=upd H a (.dT (putK kvs k v))
section
variable{X:Cx}{pins:`Ê}{σ:St}{H:Hp}{s:Shared}{a:Addr}{y v:V}{u r:Value}{o:Option V}{A:Around}{E:`Ã}
def Inv.big(I:`Ä):sysModules<s.heap.objs.size:=by have h:Ą<s.heap.objs.size:=(I.mod.glob.keeps I.bk).lt;exact āl `Â h
def Hf(I:`Ä)(mu:Mut (H a))(hs:ăb a s.heap h')(he:∃q,h'.get? a=some q)(new:eV X.prog X.w (upd H a ob) h' a ob):
  Inv X pins σ (upd H a ob) {s with heap:=h',toks:=t'}:=
 I.write (x:=a) (e:=a) mu (.inl rfl) (λ b q hb z=>(hs.2 b hb).trans z) he new
def Y9(z:kvs.length<=Đ)(hd:(a==sysModules)=false)(rel:KV kvs vs)(dd:h'.DictOf (cD P w) a vs):
  eV P w H' h' a (.dK kvs):=⟨z,hd,vs,rel,dd⟩
def Va{Q:Unit->Shared->Prop}(hu:A.units+1<cLine)(I:`Ä)(g:amV H a y v H')(ry:RelV y u)(rv:RelV v r)(h:∀s',Inv X pins σ H' s'->Q () s'):
  wpAny `É A (setItem (.ref a) u r) Q E s:=by
 rcases g with ⟨kvs,k,e,ey,l,eH⟩|⟨kvs,k,b,e,ey,eb,l,eH⟩
 ·subst ey eH;obtain ⟨z,hd,vs,rel,dd⟩:=aeC I.hok e;have hz:vs.length<=Đ:=by rw[<-rel.length];exact z
  have hl:(putK kvs k v).length<=Đ:=by have:=sZ kvs k v;omega
  refine wpAny_setItem_pairs (hsz:=hz) (Jj ry) dd λ h' dd' hs=>h _ ?_;have he:∃q,h'.get? a=some q:=let ⟨q,_,_,hq,_⟩:=dd';⟨q,hq⟩
  exact Hf I (by rw[e];exact True.intro) hs he (Y9 hl hd (rel.put k rv) dd')
 ·subst ey eH;cases (show u=Value.ref b from ry);obtain ⟨z,hd,xs,rel,dd⟩:=al2 I.hok e;have hz:xs.length<=Đ:=by rw[<-Ąx rel];exact z
  have hl:(putK kvs k v).length<=Đ:=by have:=sZ kvs k v;omega
  refine wpAny_setItem_heap (hsz:=hz) (ăk hu) (Cd I.hok eb) dd λ h' dd' hs=>h _ ?_;obtain ⟨q,es,ep,hq,h2,h3,h4,_,h5⟩:=dd';refine Hf I (by rw[e];exact True.intro) hs ⟨q,hq⟩ ⟨hl,hd,_,(rel.put k eb rv).keeps λ c ys ec=>?_,q,es,ep,hq,h2,h3,h4,h5⟩;rw[aE (aln ec e (λ z=>nomatch z))];exact ec
end
section
variable{X:Cx}{pins:`Ê}{σ:St}{H:Hp}{s:Shared}{a:Addr}{kvs:List (Key×V)}{k:Key}{u:Value}{A:Around}{E:`Ã}
end
def akJ(td ty tv:TE):TS:=λ D σ H=>tv σ H λ v H1=>td σ H1 λ x H2=>ty σ H2 λ y H3=>∃a H4,x= .ref a/\amV H3 a y v H4/\D.nx σ H4
section
variable{X:Cx}{o i e value:Expr}{pos pos' tpos:Pos}{td ty tv:TE}
def abU(hu:X.A.units+1<cLine)(ho:PE X o td)(hi:PE X i ty)(hv:PE X value tv)(hs:swapsWith value (some (.Subscript o i pos')) pos.line X.env=pure false):
  PS X (.Assign [.Subscript o i pos'] value pos) (akJ td ty tv):=by
 intro pins s σ H D I h;refine wpAny_Assign_Subscript (fV (hv pins s σ H _ I h) λ r s1 ⟨v,H1,I1,rv,q1⟩=>fV (ho pins s1 σ H1 _ I1 q1) λ u s2 ⟨x,H2,I2,rx,q2⟩=>fV (hi pins s2 σ H2 _ I2 q2) λ iv s3 ⟨y,H3,I3,ry,a,H4,ex,g,q3⟩=>?_) hs;subst ex;obtain rfl:u=Value.ref a:=rx;exact Va hu I3 g ry rv λ s4 I4=>⟨σ,H4,I4,q3⟩
end
def Za(h:Heap)(hb:sysModules<h.objs.size):eV P w H (h.push {cls:= .type "dict",data:= .dict #[]}) h.objs.size (.dK []):=⟨Ň _,beq_eq_false_iff_ne.mpr (Ŋ (ĕ hb)),[],.nil,Heap.DictOf.new h⟩
def Y7(h:Heap)(hb:sysModules<h.objs.size):eV P w H (h.push {cls:= .type "dict",data:= .dict #[]}) h.objs.size (.dT []):=⟨Ň _,beq_eq_false_iff_ne.mpr (Ŋ (ĕ hb)),[],.nil,_, #[],0,đ _ rfl,⟨rfl,rfl,rfl⟩,rfl,rfl,List.nodup_nil⟩
def agm:TE:=λ _ H Q=>∀p,H p=none->Q (.ref p) (upd H p (.dK []))
def agl:TE:=λ _ H Q=>∀p,H p=none->Q (.ref p) (upd H p (.dT []))
section
variable{X:Cx}{pos:Pos}
def WQ:PE X (.Dict [] [] pos) agm:=λ pins s σ H Q I h=>wpAny_Dict_empty ⟨.ref s.heap.objs.size,_,I.laid (a:=s.heap.objs.size) (o:= .dK []) (t':=s.toks) (λ _ _ q=>Ā _ q) (Ĉ _) (Za s.heap I.big),rfl,h _ (I.hok.fresh (Ĉ _))⟩
def WN:PE X (.Dict [] [] pos) agl:=λ pins s σ H Q I h=>wpAny_Dict_empty ⟨.ref s.heap.objs.size,_,I.laid (a:=s.heap.objs.size) (o:= .dT []) (t':=s.toks) (λ _ _ q=>Ā _ q) (Ĉ _) (Y7 s.heap I.big),rfl,h _ (I.hok.fresh (Ĉ _))⟩
end
structure M1(X:Cx)(o:Expr)(m:Str)(apos:Pos)(e:Expr)(cpos:Pos):Prop where
 base:attributeBase o m X.env (eval o X.env)=eval o X.env
 few:((backTo cpos (ć [e] X.env)).all (λ x=>!x.1)&&(backToKw cpos (keywordEach [] X.env)).all (λ x=>x.1.isSome)
  &&decide (([e]:List Expr).length+([]:List Keyword).length+(if ([]:List Keyword).isEmpty then 0 else 1)<30))=true
 line:(apos.endLine==cpos.line)=true
 trees:backTo cpos (ć [e] X.env)=[(false,eval e X.env)]
structure M2(X:Cx)(o:Expr)(m:Str)(apos:Pos)(e f:Expr)(cpos:Pos):Prop where
 base:attributeBase o m X.env (eval o X.env)=eval o X.env
 few:((backTo cpos (ć [e,f] X.env)).all (λ x=>!x.1)&&(backToKw cpos (keywordEach [] X.env)).all (λ x=>x.1.isSome)
  &&decide (([e,f]:List Expr).length+([]:List Keyword).length+(if ([]:List Keyword).isEmpty then 0 else 1)<30))=true
 line:(apos.endLine==cpos.line)=true
 trees:backTo cpos (ć [e,f] X.env)=[(false,eval e X.env),(false,eval f X.env)]
def IsD(H:Hp)(a:Addr):Prop:=(∃kvs,Rd H a (.dK kvs))\/∃kvs,Rd H a (.dT kvs)
def GU{s:Shared}(I:`Ä)(d:IsD H a):
  s.TypeIs (.ref a) "dict"/\(∀b,Value.ref a= .ref b->∃ob,s.heap.get? b=some ob/\ob.dict=none)/\(a==sysModules)=false:=by
 rcases d with ⟨kvs,e⟩|⟨kvs,e⟩
 ·obtain ⟨_,hd,vs,_,dd⟩:=SD I.hok e;refine ⟨dd.typeIs,λ b q=>?_,hd⟩;cases q;obtain ⟨ob,_,_,h1,h2,_⟩:=dd;exact ⟨ob,h1,h2.2.1⟩
 ·obtain ⟨_,hd,xs,_,dd⟩:=Sy I.hok e;refine ⟨dd.typeIs,λ b q=>?_,hd⟩;cases q;obtain ⟨ob,_,_,h1,h2,_⟩:=dd;exact ⟨ob,h1,h2.2.1⟩
section
variable{X:Cx}{pins:`Ê}{σ:St}{H:Hp}{s:Shared}{a:Addr}{y d:V}{u r:Value}{o:Option V}{A:Around}{E:`Ã}
def aii{Q:`Ã}(hu:A.units+1<cLine)(I:`Ä)(g:adP H a y o)(ry:RelV y u)(h:∀w' s',Inv X pins σ H s'->RelV (o.getD .cU) w'->Q w' s'):
  wpAny `É A (call (.builtin "dict.get") [.ref a,u]) Q E s:=by
 rcases g with ⟨kvs,k,e,ey,l⟩|⟨kvs,k,b,e,ey,eb,l⟩
 ·subst ey;obtain ⟨z,hd,vs,rel,dd⟩:=SD I.hok e;refine ăd Ś dd.typeIs Ās (PySem.F.args_dict_get_2 _ _) (meets_dict_get (cD X.prog X.w) a (Jj ry) hd) ⟨_,dd.mapOf,h _ _ (I.tok _) ?_⟩;rw[l];exact (rel.val k).getD rfl
 ·subst ey;cases (show u=Value.ref b from ry);obtain ⟨z,hd,xs,rel,dd⟩:=Sy I.hok e;refine ăd Ś dd.typeIs Ās (PySem.F.args_dict_get_2 _ _) (meetsH_dict_get (tupleKind (cD X.prog X.w)) a b hd) ⟨ăk hu,k,xs,Cd I.hok eb,dd,h _ _ (I.tok _) ?_⟩;rw[l];exact (rel.val k).getD rfl
def aih{Q:`Ã}(hu:A.units+1<cLine)(I:`Ä)(g:adP H a y o)(ry:RelV y u)(rd:RelV d r)(h:∀w' s',Inv X pins σ H s'->RelV (o.getD d) w'->Q w' s'):
  wpAny `É A (call (.builtin "dict.get") [.ref a,u,r]) Q E s:=by
 rcases g with ⟨kvs,k,e,ey,l⟩|⟨kvs,k,b,e,ey,eb,l⟩
 ·subst ey;obtain ⟨z,hd,vs,rel,dd⟩:=SD I.hok e;refine ăd Ś dd.typeIs Ās (PySem.F.args_dict_get_3 _ _ _) (meets_dict_get_default (cD X.prog X.w) a (Jj ry) hd r) ⟨_,dd.mapOf,h _ _ (I.tok _) ?_⟩;rw[l];exact (rel.val k).getD rd
 ·subst ey;cases (show u=Value.ref b from ry);obtain ⟨z,hd,xs,rel,dd⟩:=Sy I.hok e;refine ăd Ś dd.typeIs Ās (PySem.F.args_dict_get_3 _ _ _) (meetsH_dict_get_default (tupleKind (cD X.prog X.w)) a b hd r) ⟨ăk hu,k,xs,Cd I.hok eb,dd,h _ _ (I.tok _) ?_⟩;rw[l];exact (rel.val k).getD rd
end
def ago(td ty:TE):TE:=λ σ H Q=>td σ H λ x H1=>∃a,x= .ref a/\IsD H1 a/\ty σ H1 λ y H2=>∃o,adP H2 a y o/\Q (o.getD .cU) H2
def agn(td ty tx:TE):TE:=λ σ H Q=>td σ H λ x H1=>∃a,x= .ref a/\IsD H1 a/\ty σ H1 λ y H2=>tx σ H2 λ z H3=>∃o,adP H3 a y o/\Q (o.getD z) H3
section
variable{X:Cx}{o e f:Expr}{apos cpos:Pos}{td ty tx:TE}
def WU(hu:X.A.units+1<cLine)(ho:PE X o td)(he:PE X e ty)(m:M1 X o "get" apos e cpos):PE X (.Call (.Attribute o "get" apos) [e] [] cpos) (ago td ty):=by intro pins s σ H Q I h;refine Ăb m.base m.few m.line Āl Ś PySem.F.type_dict_get (fV (ho pins s σ H _ I h) λ u s1 ⟨x,H1,I1,rx,a,ex,d,q1⟩=>?_);subst ex;obtain rfl:u=Value.ref a:=rx;obtain ⟨t1,t2,_⟩:=GU I1 d;refine ⟨t1,t2,?_⟩;rw[m.trees];refine ū rfl (Āe (Ű (fV (he pins s1 σ H1 _ I1 q1) λ iv s2 ⟨y,H2,I2,ry,ov,g,q2⟩=>āy ?_)));exact aii hu I2 g ry λ w' s3 I3 rw'=>⟨_,H2,I3,rw',q2⟩
def WR(hu:X.A.units+1<cLine)(ho:PE X o td)(he:PE X e ty)(hf:PE X f tx)(m:M2 X o "get" apos e f cpos):PE X (.Call (.Attribute o "get" apos) [e,f] [] cpos) (agn td ty tx):=by intro pins s σ H Q I h;refine Ăb m.base m.few m.line Āl Ś PySem.F.type_dict_get (fV (ho pins s σ H _ I h) λ u s1 ⟨x,H1,I1,rx,a,ex,d,q1⟩=>?_);subst ex;obtain rfl:u=Value.ref a:=rx;obtain ⟨t1,t2,_⟩:=GU I1 d;refine ⟨t1,t2,?_⟩;rw[m.trees];refine ū rfl (Āe (Ű (fV (he pins s1 σ H1 _ I1 q1) λ iv s2 ⟨y,H2,I2,ry,q2⟩=>Ű (fV (hf pins s2 σ H2 _ I2 q2) λ fv s3 ⟨z,H3,I3,rz,ov,g,q3⟩=>āy ?_))));exact aih hu I3 g ry rz λ w' s4 I4 rw'=>⟨_,H3,I4,rw',q3⟩
end
section
variable{X:Cx}{pins:`Ê}{σ:St}{H:Hp}{s:Shared}{a:Addr}{kvs:List (Key×V)}{A:Around}{E:`Ã}
end
section
variable{X:Cx}{pins:`Ê}{σ:St}{H:Hp}{s:Shared}{a:Addr}{y:V}{u:Value}{A:Around}{E:`Ã}
end
end L2
namespace Att
open PySem PySem.W PySem.Calls PyProof.Rows
def zY:∀(ns:`Î) (vs:`Ð),WellAll P h vs (ns.map WData.int)->IntsAre vs ns:=by
 intro ns;induction ns with
 |nil=>intro vs w;rw[Ăa] at w;cases w;exact .nil
 |cons n ns ih=>
  intro vs w;rw[ą] at w;cases w with
  |cons a b=>cases a;exact .cons _ _ (ih _ b)
def TJ{l:OpenLaw}{n:Nat}(hn:l.most=some n){P:Params}{h:Heap}{args:List WData}{vals:`Ð} (hpre:l.row.toRowW.claim.pre args=true) (hwl:WellAll P h vals args):
  ∃a vs ns,vals=[Value.ref a]/\args=[WData.list (ns.map WData.int)]/\h.get? a=some {cls:= .type "list",data:= .seq vs.toArray}/\IntsAre vs ns/\ns.length<=n:=by
 have hsh:WShape.hasAll [] args [.list .int]=true:=(pre_splitW hpre).1;have hc:l.pre.holds [] {args:=args}=true:=(pre_splitW hpre).2;obtain ⟨d,r,rfl,h1,h2⟩:=hasAllW_cons hsh;obtain rfl:=hasAllW_nil h2;obtain ⟨xs,rfl,h3⟩:=hasW_list h1;obtain ⟨ns,rfl⟩:=items_int h3;have hlen:ns.length<=n:=by
  unfold OpenLaw.pre at hc;have h4:(WTm.not (.lt (.lit (.int (n:Int))) (.len (.arg 0)))).holds [] {args:=[.list (ns.map .int)]}=true:=by have h4:=(holds_andW hc).1;rw[hn] at h4;exact h4
  have h5:=condW_of h4 (w_not (w_lt w_lit (w_len_list (w_arg rfl))));rw[ė] at h5;refine Ō λ q=>?_;have q':(n:Int)<((ns.length:Nat):Int):=by omega
  first
   |(rw[decide_eq_true q'] at h5;exact absurd h5 `Â)
   |(simp at h5;omega)
 cases hwl with
 |cons w1 w2=>
  cases w2;cases w1 with
  |list ho hall=>exact ⟨_,_,ns,rfl,rfl,ho,zY ns _ hall,hlen⟩
def TQ(l:OpenLaw)(args:List WData):l.row.toRowW.claim.post args (.bool true) args=true:=postW_of (r:=l.row.toRowW) (X:=(true==true))
  (show WShape.has [] (.bool true) .bool=true by first|rfl|decide|simp[WShape.has,WShape.arms,WShape.armsAll])
  (show (WTm.eq .res (.lit (.bool true))).value [] {args:=args,res:=some (.bool true),after:=args}=some (.bool (true==true)) from w_eq_bool (w_res rfl) w_lit) rfl
def JN{l:OpenLaw}{n:Nat}{q:Program}{loose:`Ú}{XP:(Str->Option Value)->Heap->Prop}{YP:World->Heap->Prop}{d:DefRec} (hn:l.most=some n) (hdf:d.params.defaults=[]) (call:∀(w:World) (s₀ s₁:Shared) (mg mb:`Ò) (fa:Addr) (o:Obj) (pm cd doc:Value) (a:Addr) (vs:`Ð) (ns:`Î),Ground q loose [] XP w s₀ mg mb s₁.heap->YP w s₁.heap->s₁.heap.get? fa=some o->o.data= .func (docDef d.name d.params d.body d.scope pm cd doc)->s₁.heap.CodeRec cd d.name->mg d.name=some (.ref fa)->s₁.heap.get? a=some {cls:= .type "list",data:= .seq vs.toArray}->IntsAre vs ns->ns.length<=n->s₁.gens= #[]->codeAny (model l.prog w) callerA (.call (.ref fa) ⟨[.ref a],[]⟩) (λ r s'=>r= .ok (.ret (.bool true))/\OldK s₁.heap s'.heap/\s'.os=s₁.os/\AllBare s'.gens) s₁):
  WalkO q loose XP YP l.row.toRowW d [] (λ f vs=>ąf f vs):=by
 intro w s₀ s₁ mg mb G Y fa o pm cd doc dV kV ho hd hcd hD hmg hg args vals as hpre hlay hrd hwl hlo;obtain rfl:dV= .none:=Dflts.none hD hdf;obtain rfl:kV= .none:=Dflts.noKw hD;obtain ⟨a,vs,ns,rfl,rfl,hobj,hints,hlen⟩:=TJ hn hpre hwl;refine enter_call (Ąj (call w s₀ s₁ mg mb fa o pm cd doc a vs ns G Y ho (fd_plain hd) hcd hmg hobj hints hlen hg) λ r s' hq=>?_);obtain ⟨rfl,h2,h3,h4⟩:=hq;exact ⟨.inl ⟨.bool true,.bool true,[],rfl,λ _=>rfl,.bool true,TQ l _,λ _=>⟨List.Pairwise.nil,λ _ hm=>(nomatch hm)⟩⟩,h2,h3,h4⟩
section
variable{prog:Program}{w:World}{A:Around}{E:`Ã}{s:Shared}{K:Frag}
end
end Att
namespace L2
open PySem PySem.Spec PyProof.Rows
theorem DY:∀{vs:`Ð} {ns:`Î},IntsAre vs ns->Vals (ns.map V.int) vs
 |_,_,.nil=> .nil
 |_,_,.cons n t h=> .cons ⟨t,rfl⟩ (DY h)
def aiK(H:Hp):Prop:=∀b,H b=none\/∃o xs,H b=some (.CU o (.lst xs))
def X4{P:Program}{w:World}{K:ă}{mg mb:`Ò}{CX:CXT}{k:Nat}{fa a:Addr}{fd:FuncData}{x:Str}{sp:Sp}{s₁:Shared}{vs:`Ð}{ns:`Î} (KX:K.In s₁.heap) (hns:s₁.heap.Ns Ą mg) (hb:s₁.heap.Ns builtinsNs mb) (hbb:∀x:Str,x≠"__name__"->mb x=bootBuiltins x) (hlim:s₁.heap.NoLimit) (hg:s₁.gens= #[]) (ha:s₁.heap.get? a=some {cls:= .type "list",data:= .seq vs.toArray}) (hi:IntsAre vs ns) (hl:ns.length<=Đ) (hr:gM k callerA) (F:∀base:Heap,K.In base->base.Ns Ą mg->Q6 P w K mg base CX k fa fd [x] sp) (hbind:∀(s:Shared) (u:Value),BindsTo s fd ⟨[u],[]⟩ [(x,u)]) (JU:∀H:Hp,aiK H->qO K H a (ns.map V.int)->sp [.ref a] H (λ v _=>v= .bl true) λ _ _ _=>False) (hCX:∀H e s',CX [] H s₁ (λ _ _ _=>False) e s'->False):
  codeAny (model P w) callerA (.call (.ref fa) ⟨[.ref a],[]⟩) (λ r s'=>r= .ok (.ret (.bool true))/\OldK s₁.heap s'.heap/\s'.os=s₁.os/\AllBare s'.gens) s₁:=by
 have rv:=DY hi;have apa:=hi.length
 -- from an abstract heap in which nothing but D5 script may be tracked
 have core:∀H:Hp,aiK H->qO K H a (ns.map V.int)->uX P w H s₁.heap->(∀b,H b≠none->b=a)->(H a≠none->K.lookup a=none)->codeAny (model P w) callerA (.call (.ref fa) ⟨[.ref a],[]⟩) (λ r s'=>r= .ok (.ret (.bool true))/\OldK s₁.heap s'.heap/\s'.os=s₁.os/\AllBare s'.gens) s₁:=by
  intro H hO hS hok hA hK;have SK:∀{b:Addr} {o:Obj},s₁.heap.get? b=some o->H b=none->(GW s₁.heap H).get? b=some o:=λ e n=>YG e n;have noA:∀{b:Addr} {o:Obj} {es:Array DictEntry} {ep:Nat},s₁.heap.get? b=some o->o.data= .dict es ep->H b=none:=λ{b o es ep} e d=>by
   cases q:H b with
   |none=>rfl
   |some u=>have e':b=a:=hA b (by rw[q];simp);subst e';rw[ha] at e;cases e;have d':Data.seq vs.toArray _=Data.dict es ep:=d;cases d'
  have nsK:∀{b:Addr} {m:`Ò},s₁.heap.Ns b m->(GW s₁.heap H).Ns b m:=λ{b m} ⟨o,es,ep,e,d,r⟩=>⟨o,es,ep,SK e (noA e d),d,r⟩;have hKb:K.In (GW s₁.heap H):=λ b o e=>SK (KX b o e) (by
   cases q:H b with
   |none=>rfl
   |some u=>have e':b=a:=hA b (by rw[q];simp);subst e';rw[hK (by rw[q];simp)] at e;cases e)
  have hM:Mod K mg (GW s₁.heap H):=⟨hKb,nsK hns,⟨mb,nsK hb,hbb⟩,let ⟨mc,h1,h2⟩:=hlim;⟨mc,nsK h1,h2⟩⟩;have e0:Q7 P w K mg (GW s₁.heap H) callerA [] s₁ H:=⟨rfl,hM,λ b o e=>ace e,Nat.le_of_eq (U1 _ _),trivial,λ b hb=>absurd (show b∈([]:List Addr) from hb) `Ó,hok,.of_eq hg⟩;refine Ąj ((F _ hKb (nsK hns)).run callerA [] s₁ H ⟨[.ref a],[]⟩ [.ref a] [.ref a] _ _ hr e0 (hbind s₁ (.ref a)) (.cons rfl .nil) (JU H hO hS)) λ r s' h=>?_;cases r with
  |error e=>exact (hCX H e s' h).elim
  |ok fl=>
   cases fl with
   |next=>exact ű h
   |brk=>exact ű h
   |cont=>exact ű h
   |ret u=>
    obtain ⟨v,H',os,bare,un,apr,r',q⟩:=h;have q':v= .bl true:=q;subst q';obtain rfl:u=Value.bool true:=r';refine ⟨rfl,OldK.of_keep λ b o e=>?_,os,bare⟩;cases q:H b with
    |none=>exact un.keep b o e q (by intro z;exact absurd (show b∈([]:List Addr) from z) `Ó) `Ó
    |some u=>
     rcases hO b with z|⟨ob,xs,z⟩
     ·rw[q] at z;cases z
     ·have z2:=un.z8 b ob _ z;obtain ⟨e1,_⟩:=hok b _ z;obtain ⟨e2,_⟩:=apr b _ z2;rw[e] at e1;cases e1;exact e2
 cases hk:K.lookup a with
 |some o=>
  -- D5 script is one of D5 als own objects
  have e:=KX a o hk;rw[ha] at e;cases e;refine core (λ _=>none) (λ _=> .inl rfl) (.inr ⟨_,vs.toArray,_,hk,rfl,rfl,rfl,by rw[Ę,apa];exact hl,by simpa using rv⟩) (λ b u z=>by have z':(none:Option HO)=some u:=z;cases z') (λ b z=>absurd rfl z) λ z=>absurd rfl z
 |none=>
  refine core (λ b=>if b=a then some (.CU {cls:= .type "list",data:= .seq vs.toArray} (.lst (ns.map V.int))) else none) (λ b=>?_) (.inl (.inr ⟨{cls:= .type "list",data:= .seq vs.toArray},if_pos rfl⟩)) (λ b u z=>?_) (λ b z=>?_) λ _=>hk
  ·by_cases hb:b=a
   ·exact .inr ⟨_,_,if_pos hb⟩
   ·exact .inl (if_neg hb)
  ·by_cases hb:b=a
   ·have z':=(if_pos hb).symm.trans z;cases z';subst hb;exact ⟨ha,by rw[ė];exact hl,vs,_,rv,ha⟩
   ·have z':=(if_neg hb).symm.trans z;cases z'
  ·by_cases hb:b=a
   ·exact hb
   ·exact absurd (if_neg hb) z
def abq{l:W.OpenLaw}{n k:Nat}{q:Program}{loose:`Ú}{XP:(Str->Option Value)->Heap->Prop}{YP:World->Heap->Prop}{d:DefRec}{K:Params->ă}{CX:World->CXT}{sp:World->Sp}{x:Str} (hn:l.most=some n) (hn2:n<=Đ) (hdf:d.params.defaults=[]) (hr:gM k callerA) (hY:∀(w:World) (h:Heap),YP w h->(K w.params).In h) (F:∀(w:World) (mg:`Ò) (fa:Addr) (h:Heap),(K w.params).In h->h.Ns Ą mg->mg d.name=some (.ref fa)->∃fd:FuncData,(∀(s:Shared) (u:Value),BindsTo s fd ⟨[u],[]⟩ [(x,u)])/\∀base:Heap,(K w.params).In base->base.Ns Ą mg->Q6 l.prog w (K w.params) mg base (CX w) k fa fd [x] (sp w)) (JU:∀(w:World) (H:Hp) (a:Addr) (ns:`Î),ns.length<=n->aiK H->qO (K w.params) H a (ns.map V.int)->sp w [.ref a] H (λ v _=>v= .bl true) λ _ _ _=>False) (hCX:∀(w:World) (H:Hp) (s:Shared) (e:Value) (s':Shared),CX w [] H s (λ _ _ _=>False) e s'->False):
  W.WalkO q loose XP YP l.row.toRowW d [] (λ f vs=>ąf f vs):=by
 refine Att.JN hn hdf λ w s₀ s₁ mg mb fa o pm cd doc a vs ns G Y ho hd hcd hmg hobj hints hlen hg=>?_;have KX:=hY w _ Y;obtain ⟨fd,hb,hF⟩:=F w mg fa _ KX G.T.g hmg;exact X4 KX G.T.g G.T.b G.T.builtins G.T.nolimit hg hobj hints (ģ hlen hn2) hr hF hb (λ H hO hS=>JU w H a ns hlen hO hS) λ H e s'=>hCX w H s₁ e s'
noncomputable def Ay(s:Stmt):Arguments:=match s with
 | .FunctionDef _ a _ _ _ _ _ _ _ _=>a
 |_=>{posonlyargs:=[],args:=[],vararg:=none,kwonlyargs:=[],kw_defaults:=[],kwarg:=none,defaults:=[]}
noncomputable def mh(s:Stmt):List Stmt:=match s with
 | .FunctionDef _ _ b _ _ _ _ _ _ _=>b
 |_=>[]
noncomputable def aP(s:Stmt):Scope:=match s with
 | .FunctionDef _ _ _ _ _ _ sc _ _ _=>sc
 |_=>{kind:= .function,names:=[],isGenerator:=false,isCoroutine:=false}
structure cY(K:ă)(x qual:Str)(st:Stmt)(f:Addr)(fd:FuncData):Prop where
 ex:∃(oc:Value) (od:Option Addr) (kV doc pm:Value) (an:Option Addr) (cdv ct:Value) (osl:Array (Option Value)),
  fd=Ća x qual (Ay st) (mh st) (aP st) .none kV doc pm an cdv ct/\K.lookup f=some ⟨oc,od,.func fd,osl⟩/\W.codeIn K cdv qual=true
 kp:Ĕ K (.ref f)=true
section
variable{P:Program}{w:World}{K:ă}{mg:`Ò}{base:Heap}
def cY.binds{x qual:Str}{st:Stmt}{f:Addr}{fd:FuncData}{ps:`Ú}(F:cY K x qual st f fd) (h:∀(kV doc pm:Value) (an:Option Addr) (cdv ct:Value) (us:`Ð),us.length=ps.length->bindArgs (Ća x qual (Ay st) (mh st) (aP st) .none kV doc pm an cdv ct) ⟨us,[]⟩=pure (ps.zip us)):Binds K fd ps []:=by obtain ⟨oc,od,kV,doc,pm,an,cdv,ct,osl,rfl,lk,hcd⟩:=F.ex;exact .all (h kV doc pm an cdv ct)
def ahW{x qual:Str}{st:Stmt}{f:Addr}{oc:Value}{od an:Option Addr}{osl:Array (Option Value)}{kV doc pm cdv ct:Value}(l:K.lookup f=some ⟨oc,od,.func (Ća x qual (Ay st) (mh st) (aP st) .none kV doc pm an cdv ct),osl⟩) (c:W.codeIn K cdv qual=true) (k:Ĕ K (.ref f)=true):cY K x qual st f (Ća x qual (Ay st) (mh st) (aP st) .none kV doc pm an cdv ct):=⟨⟨oc,od,kV,doc,pm,an,cdv,ct,osl,rfl,l,c⟩,k⟩
end
def tZ(h:n<=1000):n<Đ:=ĸ h `Â
section
variable{X:Cx}
end
def Jl{A B:Prop}(h:B):if false=true then A else B:=by rw[if_neg Ĥ];exact h
def Jk{A B:Prop}(h:A):if true=true then A else B:=by rw[if_pos rfl];exact h
def ay(H H':Hp):Prop:=∀b o,H b=some o->H' b=some o
def ay.refl(H:Hp):ay H H:=λ _ _ h=>h
def ay.trans(a:ay H H1)(b:ay H1 H2):ay H H2:=λ c o h=>b c o (a c o h)
def ay.free{H H':Hp}(e:ay H H'){l:Addr}(h:H' l=Option.none):H l=Option.none:=by
 cases q:H l with
 |none=>rfl
 |some o=>rw[e l o q] at h;cases h
section
variable{κ:Type} [DecidableEq κ]
end
end L2
end
section
namespace L4
open PySem
noncomputable def vA(n:Nat)(i:Int):Option Nat:=if 0<=i then (if i<n then some i.toNat else none) else if -(n:Int)<=i then some (i+n).toNat else none
noncomputable def vJ{α:Type}(xs:List α)(i:Int):Option α:=(vA xs.length i).bind λ j=>xs[j]?
noncomputable def CT(n d:Nat):Option Int->Nat
 |none=>d
 |some v=>if v<0 then (v+(n:Int)).toNat else min v.toNat n
inductive Ks where
 |s (ks:List (Sum Int Str))|t (ks:List (List (Sum Int Str)))
noncomputable def Ks.len:Ks->Nat
 | .s ks=>ks.length
 | .t ks=>ks.length
inductive D where
 |cU|bl (b:Bool)|int (i:Int)|str (x:Str)|tup (xs:List D)|lst (xs:List D)
 /-- a tuple HZ is a constant of D5 module -/
 |gt (xs:List D)
 /-- an instance HZ ahd changes any more;an exception -/
 |obj (c:String) (ns:`Ú) (xs:List D)|exc (c:String)
 /-- a list HZ am8 zD:for this expression (true),for this call (false) -/
 |bor (t:Bool) (xs:List D)
 /-- a dict HZ ahd changes;a lent one -/
 |r6 (ks:Ks) (xs:List D)|uF (t:Bool) (ks:Ks) (xs:List D)
 /-- a lent instance HZ may change -/
 |yb (t:Bool) (c:String) (ns:`Ú) (xs:List D)
inductive M where
 |d (x:D)|l (xs:List D)|n (ms:List M)|t (ms:List M)|k (ks:Ks) (xs:List D)
 /-- an instance HZ may change -/
 |o (c:String) (ns:`Ú) (xs:List D)
 /-- a dict of what it owns -/
 |q (ks:Ks) (ms:List M)
mutual
/-- lent for an expression -/
noncomputable def lend:M->D
 | .d x=>x
 | .l xs=> .bor true xs
 | .n ms=> .bor true (zD ms)
 | .t ms=> .tup (zD ms)
 | .k ks xs=> .uF true ks xs
 | .o c ns xs=> .yb true c ns xs
 | .q ks ms=> .uF true ks (zD ms)
noncomputable def zD:List M->List D
 |[]=>[]
 |m::ms=>lend m::zD ms
end
mutual
/-- changed no more -/
noncomputable def Jz:M->D
 | .d x=>x
 | .l xs=> .lst xs
 | .n ms=> .lst (uD ms)
 | .t ms=> .tup (uD ms)
 | .k ks xs=> .r6 ks xs
 | .o _ _ _=> .cU
 | .q ks ms=> .r6 ks (uD ms)
noncomputable def uD:List M->List D
 |[]=>[]
 |m::ms=>Jz m::uD ms
end
mutual
/-- no instance HZ may change is in it -/
noncomputable def z7:M->Bool
 | .n ms=>xA ms
 | .t ms=>xA ms
 | .q _ ms=>xA ms
 | .o _ _ _=>false
 |_=>true
noncomputable def xA:List M->Bool
 |[]=>true
 |m::ms=>z7 m&&xA ms
end
mutual
/-- nothing lent for D5 expression alone is in it -/
noncomputable def nt:D->Bool
 | .tup xs=>ly xs
 | .gt xs=>ly xs
 | .lst xs=>ly xs
 | .obj _ _ xs=>ly xs
 | .r6 _ xs=>ly xs
 | .bor t xs=>!t&&ly xs
 | .uF t _ xs=>!t&&ly xs
 | .yb t _ _ xs=>!t&&ly xs
 |_=>true
noncomputable def ly:List D->Bool
 |[]=>true
 |d::ds=>nt d&&ly ds
end
mutual
/-- nothing lent is in it -/
noncomputable def nb:D->Bool
 | .tup xs=>vp xs
 | .gt xs=>vp xs
 | .lst xs=>vp xs
 | .obj _ _ xs=>vp xs
 | .r6 _ xs=>vp xs
 | .bor _ _=>false
 | .uF _ _ _=>false
 | .yb _ _ _ _=>false
 |_=>true
noncomputable def vp:List D->Bool
 |[]=>true
 |d::ds=>nb d&&vp ds
end
mutual
/-- lent on to a def HZ is called -/
noncomputable def dn:D->D
 | .tup xs=> .tup (xP xs)
 | .gt xs=> .gt (xP xs)
 | .lst xs=> .lst (xP xs)
 | .obj c ns xs=> .obj c ns (xP xs)
 | .r6 ks xs=> .r6 ks (xP xs)
 | .bor _ xs=> .bor false (xP xs)
 | .uF _ ks xs=> .uF false ks (xP xs)
 | .yb _ c ns xs=> .yb false c ns (xP xs)
 |d=>d
noncomputable def xP:List D->List D
 |[]=>[]
 |d::ds=>dn d::xP ds
end
mutual
def JS:M->Bool
 | .d x=>nb x
 | .l xs=>vp xs
 | .n ms=>Uh ms
 | .t ms=>Uh ms
 | .k _ xs=>vp xs
 | .o _ _ xs=>vp xs
 | .q _ ms=>Uh ms
def Uh:List M->Bool
 |[]=>true
 |m::ms=>JS m&&Uh ms
end
mutual
def yI:M->Bool
 | .d x=>nt x
 | .l xs=>ly xs
 | .n ms=>F3 ms
 | .t ms=>F3 ms
 | .k _ xs=>ly xs
 | .o _ _ xs=>ly xs
 | .q _ ms=>F3 ms
def F3:List M->Bool
 |[]=>true
 |m::ms=>yI m&&F3 ms
end
inductive Res(α:Type) where
 |ok (a:α)|err (c:String)|bad
noncomputable def Res.bnd{α β:Type}(r:Res α)(f:α->Res β):Res β:=match r with
 | .ok a=>f a
 | .err c=> .err c
 | .bad=> .bad
@[simp] theorem Res.bw(a:α)(f:α->Res β):(Res.ok a).bnd f=f a:=(rfl)
@[simp] theorem Res.Az(c:String)(f:α->Res β):(Res.err c:Res α).bnd f= .err c:=(rfl)
@[simp] theorem Res.AA(f:α->Res β):(Res.bad:Res α).bnd f= .bad:=(rfl)
inductive Slot where
 |no|val (d:D)|own (m:M)|par (m:M)
noncomputable abbrev Sg:=List Slot
inductive Out where
 |nx (Γ:Sg)|bk (Γ:Sg)|ct (Γ:Sg)|rt (d:D)|Rx (m:M)|rtG (d:D) (Γ:Sg)|Im (m:M) (Γ:Sg)|err (c:String) (Γ:Sg)|bad
noncomputable def aj(i:Nat):Sg->Res D:=λ Γ=>match Γ[i]? with
 |some (.val d)=> .ok d
 |_=> .bad
def ju(i:Nat):Sg->Res D:=λ Γ=>match Γ[i]? with
 |some (.val d)=> .ok d
 |some (.own m)=> .ok (lend m)
 |some (.par m)=> .ok (lend m)
 |_=> .bad
noncomputable def dC(d:D):Sg->Res D:=λ _=> .ok d
noncomputable def aH(r:D->D->Res D)(f g:`Ñ):Sg->Res D:=λ Γ=>(f Γ).bnd λ x=>(g Γ).bnd λ y=>r x y
noncomputable def tst:D->Res Bool
 | .bl b=> .ok b
 |_=> .bad
noncomputable def dT(f:`Ñ):Sg->Res Bool:=λ Γ=>(f Γ).bnd tst
def JL(f g:Sg->Res Bool):Sg->Res Bool:=λ Γ=>(f Γ).bnd λ c=>if c=true then g Γ else .ok false
noncomputable def cOr(f g:Sg->Res Bool):Sg->Res Bool:=λ Γ=>(f Γ).bnd λ c=>if c=true then .ok true else g Γ
noncomputable def rN(f:Sg->Res Bool):Sg->Res Bool:=λ Γ=>(f Γ).bnd λ c=> .ok (!c)
def adv(f g:`Ñ):Sg->Res D:=λ Γ=>(f Γ).bnd λ x=>(tst x).bnd λ c=>if c=true then g Γ else .ok (.bl false)
noncomputable def dOr(f g:`Ñ):Sg->Res D:=λ Γ=>(f Γ).bnd λ x=>(tst x).bnd λ c=>if c=true then .ok (.bl true) else g Γ
noncomputable def az:Sg->Res (List D):=λ _=> .ok []
noncomputable def ai(f:`Ñ)(r:`Æ):Sg->Res (List D):=λ Γ=>(f Γ).bnd λ x=>(r Γ).bnd λ xs=> .ok (x::xs)
noncomputable def iG(r:`Æ):Sg->Res D:=λ Γ=>(r Γ).bnd λ xs=>if xs.length<=1000 then .ok (.tup xs) else .bad
def vH(r:`Æ):Sg->Res (List D):=λ Γ=>(r Γ).bnd λ xs=>if xs.length<=1000 then .ok xs else .bad
def ze(f:`Æ):Sg->Res D:=λ Γ=>(f Γ).bnd λ ds=> .ok (.lst ds)
noncomputable def oE{α:Type}(r:Res α)(Γ:Sg)(k:α->Out):Out:=match r with
 | .ok d=>k d
 | .err c=> .err c Γ
 | .bad=> .bad
@[simp] theorem ql(d:α)(Γ:Sg)(k:α->Out):oE (.ok d) Γ k=k d:=(rfl)
noncomputable def dW:Sg->Out:=λ Γ=> .nx Γ
noncomputable def aU(F G:Sg->Out):Sg->Out:=λ Γ=>match F Γ with
 | .nx Γ'=>G Γ'
 |o=>o
noncomputable def qi(f:`Ñ):Sg->Out:=λ Γ=>oE (f Γ) Γ λ _=> .nx Γ
noncomputable def gj(f:`Ñ):Sg->Out:=λ Γ=>oE (f Γ) Γ λ d=> .rt d
def Wc(f:`Ñ):Sg->Out:=λ Γ=>oE (f Γ) Γ λ d=>if nt d=true then .rt d else .bad
def rV(f:Sg->Res M):Sg->Out:=λ Γ=>oE (f Γ) Γ λ m=>if yI m=true then .Rx m else .bad
noncomputable def A7(i:Nat):Sg->Out:=λ Γ=>match Γ[i]? with
 |some (.own m)=> .Rx m
 |some (.val d)=> .rt d
 |_=> .bad
def uM(p:Sg->Res Bool)(F G:Sg->Out):Sg->Out:=λ Γ=>oE (p Γ) Γ λ c=>if c=true then F Γ else G Γ
noncomputable def iF(i:Nat)(f:`Ñ):Sg->Out:=λ Γ=>oE (f Γ) Γ λ d=> .nx (Γ.set i (.val d))
def Eg(i:Nat)(f:`Ñ):Sg->Out:=λ Γ=>oE (f Γ) Γ λ d=>if nt d=true then .nx (Γ.set i (.val d)) else .bad
def uL(i:Nat)(f:Sg->Res M):Sg->Out:=λ Γ=>oE (f Γ) Γ λ m=>if yI m=true then .nx (Γ.set i (.own m)) else .bad
noncomputable def mL(f:`Æ):Sg->Res M:=λ Γ=>(f Γ).bnd λ ds=> .ok (.l ds)
noncomputable def mD(f:`Ñ):Sg->Res M:=λ Γ=>(f Γ).bnd λ d=> .ok (.d d)
noncomputable def Vr(m:M):Res D:=if z7 m=true then .ok (Jz m) else .bad
def lu(f:Sg->Res M):Sg->Res D:=λ Γ=>(f Γ).bnd Vr
abbrev Tg:=D->Sg->Option Sg
abbrev Tgs:=List D->Sg->Option Sg
noncomputable def aD(i:Nat):Tg:=λ d Γ=>some (Γ.set i (.val d))
noncomputable def kj:Tgs:=λ ds Γ=>match ds with
 |[]=>some Γ
 |_=>none
noncomputable def aY(t:Tg)(u:Tgs):Tgs:=λ ds Γ=>match ds with
 |d::r=>(t d Γ).bind λ Γ'=>u r Γ'
 |[]=>none
noncomputable def jh(n:Nat)(t:Tgs):Tg:=λ d Γ=>match d with
 | .tup ds=>if ds.length=n then t ds Γ else none
 |_=>none
def ar8(f:`Ñ)(t:Tg):Sg->Out:=λ Γ=>oE (f Γ) Γ λ d=>match t d Γ with
 |some Γ'=> .nx Γ'
 |none=> .bad
def Rv(f:`Ñ)(t:Tg):Sg->Out:=λ Γ=>oE (f Γ) Γ λ d=>if nt d=true then (match t d Γ with
 |some Γ'=> .nx Γ'
 |none=> .bad) else .bad
def agx(i k:Nat)(r:`Æ):Sg->Out:=λ Γ=>oE (r Γ) Γ λ ds=>match ds with
 |[x,y]=> .nx ((Γ.set i (.val x)).set k (.val y))
 |_=> .bad
noncomputable def gf(t:Tg)(B:Sg->Out):List D->Sg->Out
 |[],Γ=> .nx Γ
 |x::xs,Γ=>match t x Γ with
  |none=> .bad
  |some Γ1=>match B Γ1 with
   | .nx Γ'=>gf t B xs Γ'
   | .ct Γ'=>gf t B xs Γ'
   | .bk Γ'=> .nx Γ'
   |o=>o
noncomputable def iJ(p:Sg->Res Bool)(B:Sg->Out):Nat->Sg->Out
 |0,_=> .bad
 |n+1,Γ=>oE (p Γ) Γ λ c=>if c=true then (match B Γ with
   | .nx Γ'=>iJ p B n Γ'
   | .ct Γ'=>iJ p B n Γ'
   | .bk Γ'=> .nx Γ'
   |o=>o) else .nx Γ
def drop_one{α:Type}{xs:List α}{i:Nat}{d:α}(h:xs[i]? =some d):xs.drop i=d::xs.drop (i+1):=by obtain ⟨hi,e⟩:=Ď.mp h;rw[Ř hi,e]
noncomputable def f9(lo:Int)(n:Nat):List D:=(ĭ n).map λ(k:Nat)=>D.int (lo+k)
def UQ{lo:Int}(h:i<n):(f9 lo n)[i]? =some (.int (lo+i)):=by unfold f9;rw[Ĝ,List.getElem?_range h];rfl
def qu{lo:Int}:(f9 lo n).length=n:=by simp[f9]
def C4(ds:List D):Res (List D):=match ds with
 |[.int j]=>if -(2^62)<=j/\j<2^62 then .ok (f9 0 j.toNat) else .bad
 |_=> .bad
def abK(h:C4 ds= .ok xs):∃j,ds=[.int j]/\ -(2^62)<=j/\j<2^62/\xs=f9 0 j.toNat:=by
 unfold C4 at h;split at h
 ·split at h
  ·rename_i j hj;cases h;exact ⟨j,rfl,hj.1,hj.2,rfl⟩
  ·cases h
 ·cases h
def abL(ds:List D)(c:String):C4 ds≠.err c:=by
 unfold C4;split
 ·split<;>exact λ z=>nomatch z
 ·exact λ z=>nomatch z
noncomputable def ar9(ds:List D):Res (List D):=match ds with
 |[.int i,.int j]=>if -(2^62)<=i/\i<2^62/\ -(2^62)<=j/\j<2^62 then .ok (f9 i (j- i).toNat) else .bad
 |_=> .bad
inductive cR where
 |ok (d:D)|new (m:M)|RH (d:D) (os:List (Nat×M))|KU (m:M) (os:List (Nat×M))|err (c:String)|bad
noncomputable def fK:Nat->Sg->List (Nat×M)
 |_,[]=>[]
 |i,.par m::r=>(i,m)::fK (i+1) r
 |i,_::r=>fK (i+1) r
noncomputable def nu:Out->cR
 | .nx _=> .ok .cU
 | .rt d=> .ok d
 | .Rx m=> .new m
 | .rtG d Γ=> .RH d (fK 0 Γ)
 | .Im m Γ=> .KU m (fK 0 Γ)
 | .err c _=> .err c
 |_=> .bad
def Hs:Out->cR
 | .nx Γ=> .RH .cU (fK 0 Γ)
 |o=>nu o
def CH:cR->Res D
 | .ok d=> .ok d
 | .new m=>Vr m
 | .err c=> .err c
 |_=> .bad
noncomputable def rZ:cR->Res M
 | .ok d=> .ok (.d d)
 | .new m=> .ok m
 | .err c=> .err c
 |_=> .bad
def bz(n:Nat)(F:`Ü)(fa:`Æ):Sg->Res D:=λ Γ=>(fa Γ).bnd λ ds=>if ds.length=n then CH (F (ds.map Slot.val)) else .bad
noncomputable def XM(n:Nat)(F:`Ü)(fa:`Æ):Sg->Res M:=λ Γ=>(fa Γ).bnd λ ds=>if ds.length=n then rZ (F (ds.map Slot.val)) else .bad
def bK(n:Nat)(F:`Ü)(fa:`Æ):Sg->Res D:=λ Γ=>(fa Γ).bnd λ ds=>if ds.length=n/\ly ds=true then CH (F (ds.map Slot.val)) else .bad
def Lc(n:Nat)(F:`Ü)(fa:`Æ):Sg->Res M:=λ Γ=>(fa Γ).bnd λ ds=>if ds.length=n/\ly ds=true then rZ (F (ds.map Slot.val)) else .bad
def nbA:cR->cR
 | .ok d=>if nb d=true then .ok d else .bad
 | .new m=>if JS m=true then .new m else .bad
 | .err c=> .err c
 |_=> .bad
def pX(n:Nat)(F:`Ü)(fa:`Æ):Sg->Res D:=λ Γ=>(fa Γ).bnd λ ds=>if ds.length=n then CH (nbA (F ((xP ds).map Slot.val))) else .bad
def Lb(n:Nat)(F:`Ü)(fa:`Æ):Sg->Res M:=λ Γ=>(fa Γ).bnd λ ds=>if ds.length=n then rZ (nbA (F ((xP ds).map Slot.val))) else .bad
noncomputable def cB(N:`Ú)(as:`Û):Sg:=as++ļ (N.length- as.length) Slot.no
noncomputable def intD(C:Int->Int->Bool)(g:Int->Int->D):D->D->Res D
 | .int i,.int j=>if C i j=true then .ok (g i j) else .bad
 |_,_=> .bad
@[simp] theorem Yt(C:Int->Int->Bool)(g:Int->Int->D)(i j:Int):intD C g (.int i) (.int j)=if C i j=true then .ok (g i j) else .bad:=(rfl)
noncomputable abbrev yes:Int->Int->Bool:=λ _ _=>true
def Ic:D->D->Res D:=intD yes λ i j=> .int (i- j)
noncomputable def sR(i j:Int):Bool:=decide (ŧ i<=64)||decide (ŧ j<=64)||(decide (ŧ i<=2^20)&&decide (ŧ j<=2^20))
def ie:D->D->Res D:=intD sR λ i j=> .int (i*j)
noncomputable def E4(_ j:Int):Bool:=decide (j≠0)&&decide (j.natAbs.log2<9000)
def iC:D->D->Res D:=intD E4 λ i j=> .int (i.fdiv j)
noncomputable def nI:D->D->Res D:=intD (λ _ j=>decide (j≠0)) λ i j=> .int (i.fmod j)
def Vz:D->D->Res D:=intD yes λ i j=> .int (Builtin.bitXor i j)
def ltI:D->D->Res D:=intD yes λ i j=> .bl (decide (i<j))
def Uz:D->D->Res D:=intD yes λ i j=> .bl (decide (i<=j))
def gtI:D->D->Res D:=intD yes λ i j=> .bl (decide (j<i))
noncomputable def ahf:D->Res D
 | .int i=> .ok (.int (-i))
 |_=> .bad
noncomputable def dUn(r:D->Res D)(f:`Ñ):Sg->Res D:=λ Γ=>(f Γ).bnd r
noncomputable def pY(r:List D->Res D)(fa:`Æ):Sg->Res D:=λ Γ=>(fa Γ).bnd r
noncomputable def Zy:List D->Res D
 |[.int i]=> .ok (.int (if i<0 then -i else i))
 |_=> .bad
noncomputable def ig:List D->Res D
 |[.lst ds]=> .ok (.int ds.length)
 |[.tup ds]=> .ok (.int ds.length)
 |[.gt ds]=> .ok (.int ds.length)
 |[.bor _ ds]=> .ok (.int ds.length)
 |[.str x]=>if x.length<=Đ then .ok (.int x.length) else .bad
 |_=> .bad
mutual
noncomputable def py:D->PyData
 | .cU=> .none
 | .bl b=> .bool b
 | .int i=> .int i
 | .str x=> .str x
 | .tup ds=> .tuple (C6 ds)
 | .gt ds=> .tuple (C6 ds)
 | .lst ds=> .list (C6 ds)
 | .bor _ ds=> .list (C6 ds)
 | .obj _ _ _=> .none
 | .exc _=> .none
 | .r6 _ _=> .none
 | .uF _ _ _=> .none
 | .yb _ _ _ _=> .none
noncomputable def C6:List D->List PyData
 |[]=>[]
 |d::ds=>py d::C6 ds
end
noncomputable def jb:Nat->D->Bool
 |_,.cU=>true
 |_,.bl _=>true
 |_,.int _=>true
 |_,.str x=>PyData.strOk x
 |n+1,.tup ds=>ds.all (jb n)
 |n+1,.gt ds=>ds.all (jb n)
 |n+1,.lst ds=>ds.all (jb n)
 |n+1,.bor _ ds=>ds.all (jb n)
 |_,_=>false
def LF(x y:D):Bool:=(py x).eqv (py y)
def Vs(x y:D):Res D:=if jb 12 x=true/\jb 12 y=true then .ok (.bl (LF x y)) else .bad
def RN(x y:D):Res D:=if jb 12 x=true/\jb 12 y=true then .ok (.bl (!LF x y)) else .bad
def SJ(i j:Int):(i==j)=decide (i=j):=by
 by_cases h:i=j
 ·subst h;simp
 ·simp[h]
@[simp] theorem Ax(i j:Int):Vs (.int i) (.int j)= .ok (.bl (decide (i=j))):=by simp[Vs,jb,LF,py,Ąk,SJ]
@[simp] theorem acq(i j:Int):RN (.int i) (.int j)= .ok (.bl (!decide (i=j))):=by simp[RN,jb,LF,py,Ąk,SJ]
noncomputable def cC:D->D->Res D
 | .lst ds,.int i=>match vJ ds i with
  |some d=> .ok d
  |none=> .bad
 | .bor _ ds,.int i=>match vJ ds i with
  |some d=> .ok d
  |none=> .bad
 | .tup ds,.int i=>match vJ ds i with
  |some d=> .ok d
  |none=> .bad
 | .gt ds,.int i=>match vJ ds i with
  |some d=> .ok d
  |none=> .bad
 | .str x,.int i=>if x.length<=Đ then (match vJ x.cps.toList i with
  |some c=> .ok (.str ⟨#[c]⟩)
  |none=> .bad) else .bad
 |_,_=> .bad
noncomputable def oV:D->D->Res D
 | .int i,.int j=> .ok (.int (i+j))
 | .str x,.str y=>if x.length+y.length<=Đ then .ok (.str (x++y)) else .bad
 |_,_=> .bad
@[simp] theorem amk(i j:Int):oV (.int i) (.int j)= .ok (.int (i+j)):=(rfl)
noncomputable def Vh:D->Option (List D)
 | .lst xs=>some xs
 | .bor _ xs=>some xs
 |_=>none
@[simp] theorem anI(xs:List D):Vh (.lst xs)=some xs:=(rfl)
noncomputable def Zj(x y:D):Res (List D):=match Vh x,Vh y with
 |some xs,some ys=>if xs.length+ys.length<=Đ then .ok (xs++ys) else .bad
 |_,_=> .bad
noncomputable def lOp(r:D->D->Res (List D))(f g:`Ñ):Sg->Res (List D):=λ Γ=>(f Γ).bnd λ x=>(g Γ).bnd λ y=>r x y
noncomputable def Hh{α:Type}(xs:List α)(lo hi:Option Int):List α:=(xs.drop (CT xs.length 0 lo)).take (CT xs.length xs.length hi- CT xs.length 0 lo)
noncomputable def dP(f:`Ñ):Sg->Res (Option Int):=λ Γ=>(f Γ).bnd λ d=>match d with
 | .int i=> .ok (some i)
 |_=> .bad
def DJ(f:`Ñ)(l u:Sg->Res (Option Int)):Sg->Res (List D):=λ Γ=>(f Γ).bnd λ d=>(l Γ).bnd λ lo=>(u Γ).bnd λ hi=>match Vh d with
 |some xs=> .ok (Hh xs lo hi)
 |none=> .bad
noncomputable def HE:M->List Nat->Option M
 |m,[]=>some m
 | .n ms,k::ks=>(ms[k]?).bind λ m=>HE m ks
 | .t ms,k::ks=>(ms[k]?).bind λ m=>HE m ks
 | .q _ ms,k::ks=>(ms[k]?).bind λ m=>HE m ks
 |_,_::_=>none
noncomputable def nD:M->List Nat->M->M
 |_,[],m'=>m'
 | .n ms,k::ks,m'=> .n (match ms[k]? with
  |some m=>ms.set k (nD m ks m')
  |none=>ms)
 | .t ms,k::ks,m'=> .t (match ms[k]? with
  |some m=>ms.set k (nD m ks m')
  |none=>ms)
 | .q kq ms,k::ks,m'=> .q kq (match ms[k]? with
  |some m=>ms.set k (nD m ks m')
  |none=>ms)
 |m,_::_,_=>m
noncomputable def V8:Slot->Option M
 | .own m=>some m
 | .par m=>some m
 |_=>none
def om(i:Nat):Sg->Res (List Nat):=λ Γ=>match (Γ[i]?).bind V8 with
 |some _=> .ok []
 |none=> .bad
noncomputable def Wh:Slot->M->Slot
 | .own _,m=> .own m
 | .par _,m=> .par m
 |s,_=>s
def xY(i:Nat)(ks:`Ö)(f:M->Option M)(Γ:Sg):Option Sg:=(Γ[i]?).bind λ s=>(V8 s).bind λ m=>(HE m ks).bind λ m'=>(f m').map λ je=>Γ.set i (Wh s (nD m ks je))
noncomputable def oUp:Option Sg->Out
 |some Γ=> .nx Γ
 |none=> .bad
def Vi(d:D):M->Option M
 | .l xs=>if xs.length<1000000/\nt d=true then some (.l (xs++[d])) else none
 | .n ms=>if ms.length<1000000/\nt d=true then some (.n (ms++[.d d])) else none
 |_=>none
def setM(z:Int)(d:D):M->Option M
 | .l xs=>if nt d=true then (vA xs.length z).map λ j=> .l (xs.set j d) else none
 | .n ms=>if nt d=true then (vA ms.length z).map λ j=> .n (ms.set j (.d d)) else none
 |_=>none
noncomputable def UN:Option M->Bool
 |some (.l _)=>true
 |some (.n _)=>true
 |_=>false
def zy(i:Nat)(ks:`Ö)(Γ:Sg):Option M:=((Γ[i]?).bind V8).bind λ m=>HE m ks
def yu(i:Nat)(g:Sg->Res (List Nat))(fk f:`Ñ):Sg->Out:=λ Γ=>oE (f Γ) Γ λ d=>oE (g Γ) Γ λ ks=>oE (fk Γ) Γ λ z=>match z with
 | .int z=>oUp (xY i ks (setM z d) Γ)
 |_=> .bad
noncomputable def signs(x:Str):List D:=x.cps.toList.map λ c=> .str ⟨#[c]⟩
def abI:D->Res (List D)
 | .lst xs=> .ok xs
 | .bor _ xs=> .ok xs
 | .tup xs=> .ok xs
 | .gt xs=> .ok xs
 | .str x=> .ok (signs x)
 |_=> .bad
noncomputable def iL(fi:`Æ)(t:Tg)(B:Sg->Out):Sg->Out:=λ Γ=>oE (fi Γ) Γ λ xs=>gf t B xs Γ
def U0(f:`Ñ):Sg->Res (List D):=λ Γ=>(f Γ).bnd abI
noncomputable def gS(r:`Æ):Sg->Res (List D):=λ Γ=>(r Γ).bnd C4
def ais(tm:Bool):Slot->Slot
 | .val d=> .val d
 | .own m=>if tm=true then .val (lend m) else .no
 | .par m=>if tm=true then .val (lend m) else .no
 | .no=> .no
def uW(tm:Bool)(k:Nat)(caps:`Ö)(Γ:Sg):Sg:=ļ k .no++caps.map λ i=>ais tm ((Γ[i]?).getD .no)
def SH{sl:Slot}(h:(uW tm k caps Γ)[i]? =some sl):sl= .no\/∃c sc,caps[i- k]? =some c/\k<=i/\Γ[c]? =some sc/\sl=ais tm sc:=by
 unfold uW at h;by_cases hi:i<k
 ·rw[Ģ (by simpa using hi),ţ,if_pos hi] at h;cases h;exact .inl rfl
 ·rw[ē (by simpa using hi),āb,Ĝ] at h;cases q:caps[i- k]? with
  |none=>rw[q] at h;cases h
  |some c=>
   rw[q] at h;simp only[āq,Ľ] at h;subst h;cases q2:Γ[c]? with
   |none=>exact .inl rfl
   |some sl=>exact .inr ⟨c,sl,rfl,Ō hi,q2,rfl⟩
noncomputable def E1(t:Tg)(p:Sg->Res Bool)(fe:`Ñ)(Γ0:Sg)(x:D):Res (Option D):=match t x Γ0 with
 |none=> .bad
 |some Γ1=>match p Γ1 with
  | .ok true=>(match fe Γ1 with
   | .ok d=> .ok (some d)
   |_=> .bad)
  | .ok false=> .ok none
  |_=> .bad
noncomputable def jY(e:D->Res (Option D)):List D->Res (List D)
 |[]=> .ok []
 |x::xs=>(e x).bnd λ o=>(jY e xs).bnd λ r=> .ok (match o with
  |some d=>d::r
  |none=>r)
def gi(tm:Bool)(fi:`Æ)(k:Nat)(caps:`Ö)(t:Tg)(p:Sg->Res Bool)(fe:`Ñ):Sg->Res (List D):=λ Γ=>(fi Γ).bnd λ xs=>if xs.length<1000000 then jY (E1 t p fe (uW tm k caps Γ)) xs else .bad
noncomputable def elM(t:Tg)(p:Sg->Res Bool)(fe:Sg->Res M)(Γ0:Sg)(x:D):Res (Option M):=match t x Γ0 with
 |none=> .bad
 |some Γ1=>match p Γ1 with
  | .ok true=>(match fe Γ1 with
   | .ok d=> .ok (some d)
   |_=> .bad)
  | .ok false=> .ok none
  |_=> .bad
noncomputable def pI(e:D->Res (Option M)):List D->Res (List M)
 |[]=> .ok []
 |x::xs=>(e x).bnd λ o=>(pI e xs).bnd λ r=> .ok (match o with
  |some d=>d::r
  |none=>r)
def RX(tm:Bool)(fi:`Æ)(k:Nat)(caps:`Ö)(t:Tg)(p:Sg->Res Bool)(fe:Sg->Res M):Sg->Res (List M):=λ Γ=>(fi Γ).bnd λ xs=>if xs.length<1000000 then pI (elM t p fe (uW tm k caps Γ)) xs else .bad
noncomputable def mN(f:Sg->Res (List M)):Sg->Res M:=λ Γ=>(f Γ).bnd λ ms=> .ok (.n ms)
def aia:elM t p fe Γ0 x≠.err c:=by
 unfold elM;split
 ·exact λ z=>nomatch z
 ·split
  ·split<;>exact λ z=>nomatch z
  ·exact λ z=>nomatch z
  ·exact λ z=>nomatch z
theorem JI{e:D->Res (Option M)}(he:∀x c,e x≠.err c):∀xs c,pI e xs≠.err c
 |[],c=>λ z=>nomatch z
 |x::xs,c=>by
  simp only[pI];cases q:e x with
  |ok o=>
   cases q2:pI e xs with
   |ok r=>exact λ z=>nomatch z
   |err c'=>exact absurd q2 (JI he xs c')
   |bad=>exact λ z=>nomatch z
  |err c'=>exact absurd q (he x c')
  |bad=>exact λ z=>nomatch z
def LN{e:D->Res (Option M)}{r:List M}(h:pI e (x::xs)= .ok r):∃o r',e x= .ok o/\pI e xs= .ok r'/\r=(match o with|some d=>d::r'|none=>r'):=by
 simp only[pI] at h;cases q:e x with
 |ok o=>
  cases q2:pI e xs with
  |ok r'=>rw[q,q2] at h;cases h;exact ⟨o,r',rfl,rfl,rfl⟩
  |err c'=>rw[q,q2] at h;cases h
  |bad=>rw[q,q2] at h;cases h
 |err c'=>rw[q] at h;cases h
 |bad=>rw[q] at h;cases h
def adq:elM t p (mD fe) Γ0 x=(E1 t p fe Γ0 x).bnd λ o=> .ok (o.map M.d):=by
 unfold elM E1 mD;cases t x Γ0 with
 |none=>rfl
 |some Γ1=>
  dsimp only;cases p Γ1 with
  |ok b=>
   cases b with
   |false=>rfl
   |true=>dsimp only;cases fe Γ1<;>rfl
  |err c=>rfl
  |bad=>rfl
theorem zH:∀(xs:List D),pI (elM t p (mD fe) Γ0) xs=(jY (E1 t p fe Γ0) xs).bnd λ ds=> .ok (ds.map M.d)
 |[]=>rfl
 |x::xs=>by
  simp only[pI,jY,zH xs,adq];cases E1 t p fe Γ0 x with
  |ok o=>
   simp only[Res.bw];cases jY (E1 t p fe Γ0) xs with
   |ok r=>cases o<;>rfl
   |err c=>rfl
   |bad=>rfl
  |err c=>rfl
  |bad=>rfl
noncomputable def mV:Sg->Res Bool:=λ _=> .ok true
def ali(Γ:Sg):Prop:=∀(i:Nat) (m:M),Γ[i]?≠some (.own m)/\Γ[i]?≠some (.par m)
noncomputable def lD(c:String)(fa:`Æ):Sg->Out:=λ Γ=>oE (fa Γ) Γ λ ds=>if ds.length<=1000 then .err c Γ else .bad
noncomputable def aoU(i:Nat):Out->Out
 | .nx Γ=> .nx (Γ.set i .no)
 | .bk Γ=> .bk (Γ.set i .no)
 | .ct Γ=> .ct (Γ.set i .no)
 | .err _ _=> .bad
 |o=>o
noncomputable def kinds(mt:List (String×List String)):D->Option (List String)
 | .cU=>some ["NoneType"]
 | .bl _=>some ["bool","int"]
 | .int _=>some ["int"]
 | .str _=>some ["str"]
 | .tup _=>some ["tuple"]
 | .gt _=>some ["tuple"]
 | .lst _=>some ["list"]
 | .bor _ _=>some ["list"]
 | .obj c _ _=>mt.lookup c
 | .exc c=>mt.lookup c
 | .r6 _ _=>some ["dict"]
 | .uF _ _ _=>some ["dict"]
 | .yb _ _ _ _=>none
def zX(mt:List (String×List String))(cs:List String)(d:D):Res D:=match kinds mt d with
 |some ks=> .ok (.bl (cs.any λ c=>ks.contains c))
 |none=> .bad
def DR(mt:List (String×List String))(cs:List String)(f:`Ñ):Sg->Res D:=λ Γ=>(f Γ).bnd (zX mt cs)
noncomputable def bools:List D->Option (List Bool)
 |[]=>some []
 | .bl b::r=>(bools r).map (b:: ·)
 |_::_=>none
def Zw:List D->Res D
 |[x]=>match Vh x with
  |some ds=>(match bools ds with
   |some bs=> .ok (.bl (bs.all id))
   |none=> .bad)
  |none=> .bad
 |_=> .bad
noncomputable def rB(f:Str):D->Res D
 | .obj _ ns xs=>match (ns.zip xs).lookup f with
  |some d=> .ok d
  |none=> .bad
 | .yb _ _ ns xs=>match (ns.zip xs).lookup f with
  |some d=> .ok d
  |none=> .bad
 |_=> .bad
def tR(f:Str)(g:`Ñ):Sg->Res D:=λ Γ=>(g Γ).bnd (rB f)
noncomputable def nh(sf:List (String×(List Slot->cR))):D->Option (List Slot->cR)
 | .obj c _ _=>sf.lookup c
 |_=>none
def jl(n:Nat)(sf:List (String×(List Slot->cR)))(fo:`Ñ)(fa:`Æ):Sg->Res M:=λ Γ=>(fo Γ).bnd λ o=>match nh sf o with
 |some F=>(fa Γ).bnd λ ds=>if ds.length=n then rZ (F ((o::ds).map Slot.val)) else .bad
 |none=> .bad
noncomputable def ng(c:String)(ns:`Ú):cR->Res D
 | .RH .cU [(0,.o c' ns' xs)]=>if c'=c/\ns'=ns then .ok (.obj c ns xs) else .bad
 | .err x=> .err x
 |_=> .bad
def nbX(c:String)(ns:`Ú):Res D->Res D
 | .ok d=>if nb d=true then .ok d else .bad
 |r=>r
def E5(n:Nat)(c:String)(ns:`Ú)(F:`Ü)(fa:`Æ):Sg->Res D:=λ Γ=>(fa Γ).bnd λ ds=>if ds.length=n then ng c ns (F (.par (.o c [] [])::ds.map Slot.val)) else .bad
def zd(n:Nat)(c:String)(ns:`Ú)(F:`Ü)(fa:`Æ):Sg->Res D:=λ Γ=>(fa Γ).bnd λ ds=>if ds.length=n/\ly ds=true then ng c ns (F (.par (.o c [] [])::ds.map Slot.val)) else .bad
def CF(n:Nat)(c:String)(ns:`Ú)(F:`Ü)(fa:`Æ):Sg->Res D:=λ Γ=>(fa Γ).bnd λ ds=>if ds.length=n then nbX c ns (ng c ns (F (.par (.o c [] [])::(xP ds).map Slot.val))) else .bad
def Bb(ft:List (String×List Str))(f:Str)(d:D):M->Option M
 | .o c ns xs=>(ft.lookup c).bind λ full=>if nt d=true/\ns.length<full.length/\ns.length<900/\f∉ns then some (.o c (ns++[f]) (xs++[d])) else none
 |_=>none
def qh(i:Nat)(ft:List (String×List Str))(f:Str)(g:`Ñ):Sg->Out:=λ Γ=>oE (g Γ) Γ λ d=>oE (om i Γ) Γ λ ks=>oUp (xY i ks (Bb ft f d) Γ)
noncomputable def tK:D->Bool
 | .cU=>true
 | .bl _=>true
 | .int _=>true
 | .str _=>true
 |_=>false
noncomputable def eqF:D->D->Bool
 | .cU,.cU=>true
 | .bl a,.bl b=>a==b
 | .bl a,.int b=>(if a then 1 else 0)==b
 | .int a,.bl b=>a==(if b then 1 else 0)
 | .int a,.int b=>a==b
 | .str a,.str b=>a==b
 |_,_=>false
def inF(x:D)(xs:List D):Bool:=xs.any λ y=>eqF y x
noncomputable def vV:D->Option (List D)
 | .lst xs=>some xs
 | .bor _ xs=>some xs
 | .tup xs=>some xs
 | .gt xs=>some xs
 |_=>none
def inD(x y:D):Res D:=match vV y with
 |some xs=>if tK x=true/\xs.all tK=true then .ok (.bl (inF x xs)) else .bad
 |none=> .bad
def sQ(x y:D):Res D:=match vV y with
 |some xs=>if tK x=true/\xs.all tK=true then .ok (.bl (!inF x xs)) else .bad
 |none=> .bad
noncomputable def Sj(i j:Str):Bool:=!(āw j i 0 j.length 1).isEmpty
def inA(x y:D):Res D:=match y with
 | .str j=>(match x with
  | .str i=> .ok (.bl (Sj i j))
  |_=> .bad)
 |_=>inD x y
noncomputable def ltT:D->D->Option Bool
 | .tup (.int i::_),.tup (.int j::_)=>if i=j then none else some (decide (i<j))
 |_,_=>none
def A1:List D->Res (List D)
 |[x]=>match Vh x with
  |some []=> .ok []
  |some [a]=> .ok [a]
  |some [a,b]=>(match ltT b a with
   |some true=> .ok [b,a]
   |some false=> .ok [a,b]
   |none=> .bad)
  |_=> .bad
 |_=> .bad
noncomputable def EA:List D->Res D
 |[.int i,.int j]=> .ok (.int (if j>i then j else i))
 |_=> .bad
noncomputable def rW:List D->Res D
 |[.int i,.int j]=> .ok (.int (if j<i then j else i))
 |_=> .bad
def Yb(r:List D->Res (List D))(fa:`Æ):Sg->Res (List D):=λ Γ=>(fa Γ).bnd r
def m7:List D->Res D
 |[x]=>match vV x with
  |some xs=> .ok (match x with
   | .gt ys=> .gt ys
   |_=> .tup xs)
  |none=> .bad
 |_=> .bad
noncomputable def Ln:D->Option (Sum Int Str)
 | .int i=>some (.inl i)
 | .str x=>some (.inr x)
 |_=>none
noncomputable def dcO:D->Option (List (Sum Int Str)×List D)
 | .r6 (.s ks) xs=>some (ks,xs)
 | .uF _ (.s ks) xs=>some (ks,xs)
 |_=>none
noncomputable def apG(ks:List (Sum Int Str))(xs:List D)(k:Sum Int Str):Option D:=((ks.zip xs).find? λ kv=>decide (kv.1=k)).map (·.2)
def getD(o y:D):Res D:=match dcO o with
 |some (ks,xs)=>(match Ln y with
  |some k=>(match apG ks xs k with
   |some d=> .ok d
   |none=> .bad)
  |none=> .bad)
 |none=>cC o y
noncomputable def fM(r r':D->D->Res D)(f g h:`Ñ):Sg->Res D:=λ Γ=>(f Γ).bnd λ x=>(g Γ).bnd λ y=>(r x y).bnd λ z=>match z with
 | .bl true=>(h Γ).bnd λ w=>r' y w
 | .bl false=> .ok (.bl false)
 |_=> .bad
noncomputable def HD:D->D->Res D
 |x,.cU=> .ok (.bl (match x with
  | .cU=>true
  |_=>false))
 |x,.bl b=> .ok (.bl (match x with
  | .bl c=>c==b
  |_=>false))
 |_,_=> .bad
noncomputable def ER:D->D->Res D
 |x,.cU=> .ok (.bl (match x with
  | .cU=>false
  |_=>true))
 |x,.bl b=> .ok (.bl (match x with
  | .bl c=>!(c==b)
  |_=>true))
 |_,_=> .bad
noncomputable def aci(o:Out)(G:Sg->Out):Out:=match o with
 | .nx Γ'=>G Γ'
 |o=>o
noncomputable def asq(i:Nat)(h:String->Option Bool)(o:Out)(G:Sg->Out):Out:=match o with
 | .err c Γ1=>(match h c with
  |some true=>aoU i (G (Γ1.set i (.val (.exc c))))
  |_=> .bad)
 |o=>o
def ag9(r:Res Bool)(F G:Sg->Out)(Γ:Sg):Out:=oE r Γ λ c=>if c=true then F Γ else G Γ
def agB(r:Res Bool)(q:Sg->Res Bool)(Γ:Sg):Res Bool:=r.bnd λ c=>if c=true then q Γ else .ok false
noncomputable def rOr(r:Res Bool)(q:Sg->Res Bool)(Γ:Sg):Res Bool:=r.bnd λ c=>if c=true then .ok true else q Γ
def abr(r:Res Bool)(q:`Ñ)(Γ:Sg):Res D:=r.bnd λ c=>if c=true then q Γ else .ok (.bl false)
noncomputable def vOr(r:Res Bool)(q:`Ñ)(Γ:Sg):Res D:=r.bnd λ c=>if c=true then .ok (.bl true) else q Γ
section
variable(Γ:Sg)(f g:`Ñ)(p q:Sg->Res Bool)(F G:Sg->Out)(fa:`Æ)
@[simp] theorem bN:aU F G Γ=aci (F Γ) G:=(rfl)
@[simp] theorem cT:aci (.nx Γ) G=G Γ:=(rfl)
@[simp] theorem ani(d:D):aci (.rt d) G= .rt d:=(rfl)
@[simp] theorem ale(d:M):aci (.Rx d) G= .Rx d:=(rfl)
@[simp] theorem aju:dW Γ= .nx Γ:=(rfl)
@[simp] theorem abJ:uM p F G Γ=ag9 (p Γ) F G Γ:=(rfl)
@[simp] theorem acj:ag9 (.ok true) F G Γ=F Γ:=(rfl)
@[simp] theorem ack:ag9 (.ok false) F G Γ=G Γ:=(rfl)
@[simp] theorem ang:agB (.ok true) q Γ=q Γ:=(rfl)
@[simp] theorem anh:agB (.ok false) q Γ= .ok false:=(rfl)
@[simp] theorem aoK:rOr (.ok true) q Γ= .ok true:=(rfl)
@[simp] theorem aoL:rOr (.ok false) q Γ=q Γ:=(rfl)
@[simp] theorem am2:abr (.ok true) f Γ=f Γ:=(rfl)
@[simp] theorem am3:abr (.ok false) f Γ= .ok (.bl false):=(rfl)
@[simp] theorem aok:vOr (.ok true) f Γ= .ok (.bl true):=(rfl)
@[simp] theorem aol:vOr (.ok false) f Γ=f Γ:=(rfl)
@[simp] theorem akG:gj f Γ=oE (f Γ) Γ λ d=> .rt d:=(rfl)
@[simp] theorem yw(fm:Sg->Res M):rV fm Γ=oE (fm Γ) Γ λ m=>if yI m=true then .Rx m else .bad:=(rfl)
@[simp] theorem TL:Wc f Γ=oE (f Γ) Γ λ d=>if nt d=true then .rt d else .bad:=(rfl)
@[simp] theorem ajv:qi f Γ=oE (f Γ) Γ λ _=> .nx Γ:=(rfl)
@[simp] theorem akF(i:Nat):iF i f Γ=oE (f Γ) Γ λ d=> .nx (Γ.set i (.val d)):=(rfl)
@[simp] theorem Eh(i:Nat)(fm:Sg->Res M):uL i fm Γ=oE (fm Γ) Γ λ m=>if yI m=true then .nx (Γ.set i (.own m)) else .bad:=(rfl)
@[simp] theorem ajs(i:Nat):Eg i f Γ=oE (f Γ) Γ λ d=>if nt d=true then .nx (Γ.set i (.val d)) else .bad:=(rfl)
@[simp] theorem Gv:mL fa Γ=(fa Γ).bnd λ ds=> .ok (.l ds):=(rfl)
@[simp] theorem al7(fm:Sg->Res M):lu fm Γ=(fm Γ).bnd Vr:=(rfl)
@[simp] theorem al8(n:Str):tR n f Γ=(f Γ).bnd (rB n):=(rfl)
@[simp] theorem ajL(i:Nat):ju i Γ=match Γ[i]? with
 |some (.val d)=> .ok d
 |some (.own m)=> .ok (lend m)
 |some (.par m)=> .ok (lend m)
 |_=> .bad:=(rfl)
@[simp] theorem Aq(r:List D->Res (List D)):Yb r fa Γ=(fa Γ).bnd r:=(rfl)
@[simp] theorem akH(i k:Nat):agx i k fa Γ=oE (fa Γ) Γ λ ds=>match ds with
 |[x,y]=> .nx ((Γ.set i (.val x)).set k (.val y))
 |_=> .bad:=(rfl)
@[simp] theorem agw(c:String):lD c fa Γ=oE (fa Γ) Γ λ ds=>if ds.length<=1000 then .err c Γ else .bad:=(rfl)
@[simp] theorem CD(i:Nat):aj i Γ=match Γ[i]? with
 |some (.val d)=> .ok d
 |_=> .bad:=(rfl)
@[simp] theorem ail(d:D):dC d Γ= .ok d:=(rfl)
@[simp] theorem Hg(r:D->D->Res D):aH r f g Γ=(f Γ).bnd λ x=>(g Γ).bnd λ y=>r x y:=(rfl)
@[simp] theorem anr(r:D->D->Res (List D)):lOp r f g Γ=(f Γ).bnd λ x=>(g Γ).bnd λ y=>r x y:=(rfl)
@[simp] theorem apZ:dT f Γ=(f Γ).bnd tst:=(rfl)
@[simp] theorem aop(b:Bool):tst (.bl b)= .ok b:=(rfl)
@[simp] theorem amf:JL p q Γ=agB (p Γ) q Γ:=(rfl)
@[simp] theorem anG:cOr p q Γ=rOr (p Γ) q Γ:=(rfl)
@[simp] theorem ame:rN p Γ=(p Γ).bnd λ c=> .ok (!c):=(rfl)
@[simp] theorem ama:adv f g Γ=abr ((f Γ).bnd tst) g Γ:=by cases h:f Γ<;>simp only[adv,abr,h,Res.bw,Res.Az,Res.AA]
@[simp] theorem anD:dOr f g Γ=vOr ((f Γ).bnd tst) g Γ:=by cases h:f Γ<;>simp only[dOr,vOr,h,Res.bw,Res.Az,Res.AA]
@[simp] theorem mU:az Γ= .ok []:=(rfl)
@[simp] theorem g5:ai f fa Γ=(f Γ).bnd λ x=>(fa Γ).bnd λ xs=> .ok (x::xs):=(rfl)
@[simp] theorem al5:iG fa Γ=(fa Γ).bnd λ xs=>if xs.length<=1000 then .ok (.tup xs) else .bad:=(rfl)
@[simp] theorem Zc:vH fa Γ=(fa Γ).bnd λ xs=>if xs.length<=1000 then .ok xs else .bad:=(rfl)
@[simp] theorem rM:ze fa Γ=(fa Γ).bnd λ ds=> .ok (.lst ds):=(rfl)
@[simp] theorem anC(r:D->Res D):dUn r f Γ=(f Γ).bnd r:=(rfl)
@[simp] theorem alk(i:Int):ahf (.int i)= .ok (.int (-i)):=(rfl)
@[simp] theorem SG(r:List D->Res D):pY r fa Γ=(fa Γ).bnd r:=(rfl)
@[simp] theorem ajN(n:Nat)(K:`Ü):bz n K fa Γ=(fa Γ).bnd λ ds=>if ds.length=n then CH (K (ds.map Slot.val)) else .bad:=(rfl)
@[simp] theorem aik(n:Nat)(K:`Ü):bK n K fa Γ=(fa Γ).bnd λ ds=>if ds.length=n/\ly ds=true then CH (K (ds.map Slot.val)) else .bad:=(rfl)
@[simp] theorem LH(n:Nat)(K:`Ü):pX n K fa Γ=(fa Γ).bnd λ ds=>if ds.length=n then CH (nbA (K ((xP ds).map Slot.val))) else .bad:=(rfl)
@[simp] theorem ajM(n:Nat)(c:String)(ns:`Ú)(K:`Ü):E5 n c ns K fa Γ=(fa Γ).bnd λ ds=>if ds.length=n then ng c ns (K (.par (.o c [] [])::ds.map Slot.val)) else .bad:=(rfl)
@[simp] theorem al6(mt:List (String×List String))(cs:List String):DR mt cs f Γ=(f Γ).bnd (zX mt cs):=(rfl)
@[simp] theorem ap0:dP f Γ=(f Γ).bnd λ d=>match d with
 | .int i=> .ok (some i)
 |_=> .bad:=(rfl)
@[simp] theorem alJ:U0 f Γ=(f Γ).bnd abI:=(rfl)
@[simp] theorem Zp:mV Γ= .ok true:=(rfl)
@[simp] theorem qR(i:Nat)(d:D):aD i d Γ=some (Γ.set i (.val d)):=(rfl)
@[simp] theorem ajj:kj [] Γ=some Γ:=(rfl)
@[simp] theorem agh(t:Tg)(u:Tgs)(d:D)(r:List D):aY t u (d::r) Γ=(t d Γ).bind λ Γ'=>u r Γ':=(rfl)
@[simp] theorem aji(n:Nat)(t:Tgs)(ds:List D):jh n t (.tup ds) Γ=if ds.length=n then t ds Γ else none:=(rfl)
end
@[simp] theorem anF(d:D):CH (.ok d)= .ok d:=(rfl)
@[simp] theorem al9(m:M):CH (.new m)=Vr m:=(rfl)
@[simp] theorem ano(d:D):rZ (.ok d)= .ok (.d d):=(rfl)
@[simp] theorem alw(m:M):rZ (.new m)= .ok m:=(rfl)
@[simp] theorem alx(c:String):rZ (.err c)= .err c:=(rfl)
@[simp] theorem aq9(d:D):Vr (.d d)= .ok d:=(rfl)
@[simp] theorem aq8(xs:List D):Vr (.l xs)= .ok (.lst xs):=(rfl)
@[simp] theorem Iz(xs:List D):yI (.l xs)=ly xs:=by simp[yI]
@[simp] theorem aoZ(i:Int):nt (.int i)=true:=by simp[nt]
@[simp] theorem aoW(i:Str):nt (.str i)=true:=by simp[nt]
@[simp] theorem aha(xs:List D):nt (.tup xs)=ly xs:=by simp[nt]
@[simp] theorem aoY(xs:List D):nt (.lst xs)=ly xs:=by simp[nt]
@[simp] theorem anj:ly []=true:=by simp[ly]
@[simp] theorem alf(d:D)(ds:List D):ly (d::ds)=(nt d&&ly ds):=by simp[ly]
theorem F1(f:α->D)(h:∀x,nt (f x)=true):∀xs:List α,ly (xs.map f)=true
 |[]=>by simp
 |x::xs=>by simp[h x,F1 f h xs]
@[simp] theorem aho(xs:List D):lend (.l xs)= .bor true xs:=by simp[lend]
@[simp] theorem anH(m:M):HE m []=some m:=by cases m<;>rfl
@[simp] theorem akX(m m':M):nD m [] m'=m':=by cases m<;>rfl
@[simp] theorem ana(m:M):V8 (.own m)=some m:=(rfl)
@[simp] theorem am9(m:M):V8 (.par m)=some m:=(rfl)
@[simp] theorem anf(m m':M):Wh (.own m) m'= .own m':=(rfl)
@[simp] theorem ane(m m':M):Wh (.par m) m'= .par m':=(rfl)
@[simp] theorem ald(Γ:Sg):oUp (some Γ)= .nx Γ:=(rfl)
@[simp] theorem ap7(Γ:Sg):nu (.nx Γ)= .ok .cU:=(rfl)
@[simp] theorem ap6(d:D):nu (.rt d)= .ok d:=(rfl)
@[simp] theorem anJ(m:M):nu (.Rx m)= .new m:=(rfl)
@[simp] theorem anL(Γ:Sg):Hs (.nx Γ)= .RH .cU (fK 0 Γ):=(rfl)
@[simp] theorem anK(c:String)(Γ:Sg):nu (.err c Γ)= .err c:=(rfl)
@[simp] theorem akv(i j:Int):Ic (.int i) (.int j)= .ok (.int (i- j)):=(rfl)
@[simp] theorem anp(i j:Int):ltI (.int i) (.int j)= .ok (.bl (decide (i<j))):=(rfl)
@[simp] theorem anq(i j:Int):Uz (.int i) (.int j)= .ok (.bl (decide (i<=j))):=(rfl)
@[simp] theorem anz(i j:Int):gtI (.int i) (.int j)= .ok (.bl (decide (j<i))):=(rfl)
def BP(i j:Int)(h:sR i j=true):ie (.int i) (.int j)= .ok (.int (i*j)):=by simp[ie,h]
def zc(i j:Int)(h:E4 i j=true):iC (.int i) (.int j)= .ok (.int (i.fdiv j)):=by simp[iC,h]
def qo(i j:Int)(h:j≠0):nI (.int i) (.int j)= .ok (.int (i.fmod j)):=by simp[nI,h]
def bits_le(h:i.natAbs<2^n):ŧ i<=n:=by
 unfold ŧ;split
 ·exact Ň _
 ·rename_i hz;have:i.natAbs≠0:=by simpa using hz
  exact Nat.succ_le_of_lt ((Nat.log2_lt this).mpr h)
def IK(h:j.natAbs<2^64):sR i j=true:=by simp[sR,bits_le h]
def K2(h:i.natAbs<2^64):sR i j=true:=by simp[sR,bits_le h]
def K3(hi:i.natAbs<2^a)(hj:j.natAbs<2^b)(ha:a<=2^20)(hb:b<=2^20):sR i j=true:=by have h1:=ģ (bits_le hi) ha;have h2:=ģ (bits_le hj) hb;simp only[sR,Ąr,ħ,decide_eq_true_eq];exact .inr ⟨h1,h2⟩
def CB(h0:j≠0)(h:j.natAbs<2^9000):E4 i j=true:=by
 have:j.natAbs≠0:=by simpa using h0
 simp only[E4,ħ,decide_eq_true_eq];exact ⟨h0,(Nat.log2_lt this).mpr h⟩
@[simp] theorem alu(i j:Int)(h:j≠0):nI (.int i) (.int j)= .ok (.int (i.fmod j)):=qo i j h
@[simp] theorem BO(i j:Int)(h:j.natAbs<18446744073709551616):ie (.int i) (.int j)= .ok (.int (i*j)):=BP i j (IK h)
@[simp] theorem ajy(i j:Int)(h:i.natAbs<18446744073709551616):ie (.int i) (.int j)= .ok (.int (i*j)):=BP i j (K2 h)
@[simp] theorem U8(i j:Int)(h:j≠0)(h2:j.natAbs<18446744073709551616):iC (.int i) (.int j)= .ok (.int (i.fdiv j)):=zc i j (CB h (Ē h2 (show 2^64<=2^9000 from Ń `Â `Â)))
section
variable(f:`Ñ)(r:`Æ)(t:Tg)(B:Sg->Out)(Γ:Sg)(xs:List D)
end
@[simp] theorem alX(t:Tg)(B:Sg->Out)(Γ:Sg):gf t B [] Γ= .nx Γ:=(rfl)
section
variable(Γ:Sg)(f g h:`Ñ)(fa:`Æ)(t:Tg)(B:Sg->Out)
def ja(n:Nat)(sf:List (String×(List Slot->cR)))(o:D)(r:Res (List D)):Res M:=match nh sf o with
 |some F=>r.bnd λ ds=>if ds.length=n then rZ (F ((o::ds).map Slot.val)) else .bad
 |none=> .bad
@[simp] theorem ajz(n:Nat)(sf:List (String×(List Slot->cR))):jl n sf f fa Γ=(f Γ).bnd λ o=>ja n sf o (fa Γ):=(rfl)
@[simp] theorem aoX(c:String)(ns:`Ú)(xs:List D):nt (.obj c ns xs)=ly xs:=by simp[nt]
def VS(r:Res D)(r':D->D->Res D)(y:D)(h:`Ñ)(Γ:Sg):Res D:=r.bnd λ z=>match z with
 | .bl true=>(h Γ).bnd λ w=>r' y w
 | .bl false=> .ok (.bl false)
 |_=> .bad
@[simp] theorem aij(r r':D->D->Res D):fM r r' f g h Γ=(f Γ).bnd λ x=>(g Γ).bnd λ y=>VS (r x y) r' y h Γ:=(rfl)
@[simp] theorem ajh(r':D->D->Res D)(y:D):VS (.ok (.bl true)) r' y h Γ=(h Γ).bnd λ w=>r' y w:=(rfl)
@[simp] theorem ajt(i:Nat)(ft:List (String×List Str))(n:Str):qh i ft n f Γ=oE (f Γ) Γ λ d=>oE (om i Γ) Γ λ ks=>oUp (xY i ks (Bb ft n d) Γ):=(rfl)
@[simp] theorem nT(tm:Bool)(k:Nat)(caps:`Ö)(p:Sg->Res Bool):gi tm fa k caps t p f Γ=(fa Γ).bnd λ xs=>if xs.length<1000000 then jY (E1 t p f (uW tm k caps Γ)) xs else .bad:=(rfl)
end
noncomputable def xB(b:Int)(g:Nat):Int:=if b<0 then -(g:Int) else (g:Int)
def EU(t b:Int):Int:=t.fdiv (xB b (ľ t b))
def G4(t b:Int):Int:=b.fdiv (xB b (ľ t b))
def Sl(h:b≠0):0<ľ t b:=Int.gcd_pos_of_ne_zero_right t h
def YV(h:b≠0):xB b (ľ t b)≠0:=by have:=Sl (t:=t) h;unfold xB;split<;>omega
def G2(t b:Int):xB b (ľ t b)∣t:=by
 unfold xB;split
 ·exact Int.neg_dvd.mpr (Int.gcd_dvd_left _ _)
 ·exact Int.gcd_dvd_left _ _
def DN(t b:Int):xB b (ľ t b)∣b:=by
 unfold xB;split
 ·exact Int.neg_dvd.mpr (ăo _ _)
 ·exact ăo _ _
def rX{a d:Int}(h:d∣a):a.fdiv d*d=a:=by rw[Int.fdiv_eq_ediv_of_dvd h];exact Int.ediv_mul_cancel h
def G1(t b:Int):EU t b*xB b (ľ t b)=t:=rX (G2 t b)
def Su(t b:Int):G4 t b*xB b (ľ t b)=b:=rX (DN t b)
def U6(h:b≠0)(hb:b.natAbs<2^n):(xB b (ľ t b)).natAbs<2^n:=by
 have e:(xB b (ľ t b)).natAbs=ľ t b:=by unfold xB;split<;>simp
 rw[e];exact ĸ (ăw `À (Ăk.mpr (ăo t b))) hb
def ahZ(h:b≠0):(G4 t b).natAbs<=b.natAbs:=by have:G4 t b∣b:=⟨xB b (ľ t b),(Su t b).symm⟩;exact ăw `À (Ăk.mpr this)
def ahY(h:b≠0):(EU t b).natAbs<=t.natAbs:=by
 by_cases ht:t=0
 ·have:=G1 t b;rw[ht] at this ⊢;rcases Int.mul_eq_zero.mp this with z|z
  ·rw[z];simp
  ·exact absurd z (by have:=YV (t:=0) h;exact this)
 ·have:EU t b∣t:=⟨xB b (ľ t b),(G1 t b).symm⟩;exact ăw `À (Ăk.mpr this)
def aoN(h:n<2^64):n<2^9000:=Ē h (Ń `Â `Â)
def Jv(l s:Nat)(h:s≠0):ăe l s=ăe s (l%s):=by rw[Nat.gcd_comm l s,Nat.gcd_rec,Nat.gcd_comm]
def JB(l s:Nat):Int.fmod (l:Int) (s:Int)=((l%s:Nat):Int):=by rw[Int.fmod_eq_emod_of_nonneg _ `À];rfl
end L4
end
section
namespace L4
open PySem PySem.Spec PyProof.Rows L2
abbrev St:=L2.St
set_option genInjectivity false in
structure Cb where
 exc:String->Option Addr
 cls:String->Option (Addr×List Str)
 /-- all classes of instances -/
 ins:String->Option Addr
set_option genInjectivity false in
structure Cf where
 cb:Cb
 L:Hp
 io:Addr->Prop
 args:List V
set_option genInjectivity false in
structure Ct where
 f:Cf
 B:Hp
 tm:Bool
noncomputable def Cf.z(c:Cf):Ct:=⟨c,λ _=>none,false⟩
noncomputable def Cf.at'(c:Cf)(H:Hp):Ct:=⟨c,H,true⟩
noncomputable def zJ(a C:Addr):Heap->Prop:=λ h=>∃o,h.get? a=some o/\o.cls= .ref C
def FzL(K:ă)(H:Hp)(a:Addr)(vs:List V):Prop:=(∃o,H a=some (.CU o (.lst vs)))\/∃(o:Obj) (its:Array Value) (n:Nat),K.lookup a=some o/\o.cls= .type "list"/\o.dict=none/\o.data= .seq its n/\its.size<=Đ/\Vals vs its.toList
def FzL.sq{K:ă}{H:Hp}{a:Addr}{vs:List V}(h:FzL K H a vs):qO K H a vs:=by
 rcases h with ⟨o,h⟩|h
 ·exact .inl (.inr ⟨o,h⟩)
 ·exact .inr h
noncomputable def Ct.lo(ct:Ct)(t:Bool):Hp:=if t=true then ct.B else ct.f.L
def SqK(K:ă)(a:Addr)(xs:List V):Prop:=∃(o:Obj) (its:Array Value) (n:Nat),K.lookup a=some o/\o.cls= .type "tuple"/\o.data= .seq its n/\its.size<=Đ/\Vals xs its.toList
def SqK.sq{K:ă}{H:Hp}{a:Addr}{xs:List V}(h:SqK K a xs):yc K H a xs:= .inr h
def oh{K:ă}{H:Hp}{a:Addr}{xs:List V}(h:H a=some (.tup xs)):yc K H a xs:= .inl (.inl h)
noncomputable def Ks.ho:Ks->List V->HO
 | .s ks,vs=> .dK (ks.zip vs)
 | .t ks,vs=> .dT (ks.zip vs)
mutual
def Tl(K:ă)(ct:Ct)(H:Hp):D->V->Prop
 | .cU,v=>v= .cU
 | .bl b,v=>v= .bl b
 | .int i,v=>v= .int i
 | .str x,v=>v= .str x
 | .tup ds,v=>∃a vs,v= .ref a/\H a=some (.tup vs)/\aF K ct H ds vs
 | .gt ds,v=>∃a vs,v= .ref a/\SqK K a vs/\aF K ct H ds vs
 | .lst ds,v=>∃a vs,v= .ref a/\FzL K H a vs/\aF K ct H ds vs
 | .obj c ns ds,v=>∃a C dx vs,v= .ref a/\ct.f.cb.cls c=some (C,ns)/\H a=some (.ins C dx (ns.zip vs))/\ns.length=vs.length/\aF K ct H ds vs
 | .exc c,v=>∃a C,v= .ref a/\ct.f.cb.exc c=some C/\H a=some (.ext (zJ a C))
 | .bor t ds,v=>∃a vs,v= .ref a/\ct.lo t a=some (.lst vs)/\aF K ct H ds vs
 | .r6 ks ds,v=>∃a vs,v= .ref a/\(∃o,H a=some (.CU o (ks.ho vs)))/\ks.len=vs.length/\aF K ct H ds vs
 | .uF t ks ds,v=>∃a vs,v= .ref a/\ct.lo t a=some (ks.ho vs)/\ks.len=vs.length/\aF K ct H ds vs
 | .yb t c ns ds,v=>∃a C dx vs,v= .ref a/\ct.f.cb.ins c=some C/\ct.lo t a=some (.ins C dx (ns.zip vs))/\ns.length=vs.length/\aF K ct H ds vs
def aF(K:ă)(ct:Ct)(H:Hp):List D->List V->Prop
 |[],vs=>vs=[]
 |d::ds,vs=>∃v r,vs=v::r/\Tl K ct H d v/\aF K ct H ds r
end
def aiJ(cb:Cb):HO->Prop
 | .tup _=>True
 | .CU _ _=>True
 | .ins C _ fs=>∃c ns,cb.cls c=some (C,ns)/\fs.map (·.1)=ns
 | .ext _=>True
 |_=>False
def aW(cb:Cb)(H H':Hp):Prop:=∀b o,H b=some o->aiJ cb o->H' b=some o
def ay.keep(e:ay H H'):aW cb H H':=λ b o h _=>e b o h
def aW.refl(H:Hp):aW cb H H:=λ _ _ h _=>h
def aW.trans(a:aW cb H H1)(b:aW cb H1 H2):aW cb H H2:=λ c o h s=>b c o (a c o h s) s
theorem aW.lst(h:H a=some (.lst vs)):aW cb H (upd H a o):=λ b u hb st=>by
 have:b≠a:=by rintro rfl;rw[h] at hb;cases hb;exact st
 rw[aE this];exact hb
theorem aW.dK(h:H a=some (.dK kvs)):aW cb H (upd H a o):=λ b u hb st=>by
 have:b≠a:=by rintro rfl;rw[h] at hb;cases hb;exact st
 rw[aE this];exact hb
theorem aW.dT(h:H a=some (.dT kvs)):aW cb H (upd H a o):=λ b u hb st=>by
 have:b≠a:=by rintro rfl;rw[h] at hb;cases hb;exact st
 rw[aE this];exact hb
def Ks.Bv{cb:Cb}{ks:Ks}{vs:List V}:¬aiJ cb (ks.ho vs):=by cases ks<;>exact λ q=>q
def aW.sqT{cb:Cb}{K:ă}{H H':Hp}{a:Addr}{xs:List V}(e:aW cb H H')(h:yc K H a xs):yc K H' a xs:=by
 rcases h with (h|⟨o,h⟩)|h
 ·exact .inl (.inl (e _ _ h trivial))
 ·exact .inl (.inr ⟨o,e _ _ h trivial⟩)
 ·exact .inr h
def aW.fzL{cb:Cb}{K:ă}{H H':Hp}{a:Addr}{xs:List V}(e:aW cb H H')(h:FzL K H a xs):FzL K H' a xs:=by
 rcases h with ⟨o,h⟩|h
 ·exact .inl ⟨o,e _ _ h trivial⟩
 ·exact .inr h
theorem AE:∀{ns:List α} {vs:List β},ns.length=vs.length->(ns.zip vs).map (·.1)=ns
 |[],_,_=>by simp
 |n::ns,[],h=>by simp at h
 |n::ns,v::vs,h=>by simp only[ĥ,ą,Ŗ,true_and];exact AE (by simpa using h)
mutual
theorem Tl.keep{K:ă}{ct:Ct}{H H':Hp}(e:aW ct.f.cb H H'):∀{d:D} {v:V},Tl K ct H d v->Tl K ct H' d v
 | .cU,_,h=>by simpa[Tl] using h
 | .bl b,_,h=>by simpa[Tl] using h
 | .int i,_,h=>by simpa[Tl] using h
 | .str x,_,h=>by simpa[Tl] using h
 | .tup ds,v,h=>by simp only[Tl] at h ⊢;obtain ⟨a,vs,h1,h2,h3⟩:=h;exact ⟨a,vs,h1,e _ _ h2 trivial,aF.keep e h3⟩
 | .gt ds,v,h=>by simp only[Tl] at h ⊢;obtain ⟨a,vs,h1,h2,h3⟩:=h;exact ⟨a,vs,h1,h2,aF.keep e h3⟩
 | .lst ds,v,h=>by simp only[Tl] at h ⊢;obtain ⟨a,vs,h1,h2,h3⟩:=h;exact ⟨a,vs,h1,e.fzL h2,aF.keep e h3⟩
 | .obj c ns ds,v,h=>by simp only[Tl] at h ⊢;obtain ⟨a,C,dx,vs,h1,h2,h3,h4,h5⟩:=h;exact ⟨a,C,dx,vs,h1,h2,e _ _ h3 ⟨c,ns,h2,AE h4⟩,h4,aF.keep e h5⟩
 | .exc c,v,h=>by simp only[Tl] at h ⊢;obtain ⟨a,C,h1,h2,h3⟩:=h;exact ⟨a,C,h1,h2,e _ _ h3 trivial⟩
 | .bor t ds,v,h=>by simp only[Tl] at h ⊢;obtain ⟨a,vs,h1,h2,h3⟩:=h;exact ⟨a,vs,h1,h2,aF.keep e h3⟩
 | .r6 ks ds,v,h=>by simp only[Tl] at h ⊢;obtain ⟨a,vs,h1,⟨o,h2⟩,h3,h4⟩:=h;exact ⟨a,vs,h1,⟨o,e _ _ h2 trivial⟩,h3,aF.keep e h4⟩
 | .uF t ks ds,v,h=>by simp only[Tl] at h ⊢;obtain ⟨a,vs,h1,h2,h3,h4⟩:=h;exact ⟨a,vs,h1,h2,h3,aF.keep e h4⟩
 | .yb t c ns ds,v,h=>by simp only[Tl] at h ⊢;obtain ⟨a,C,dx,vs,h1,h2,h3,h4,h5⟩:=h;exact ⟨a,C,dx,vs,h1,h2,h3,h4,aF.keep e h5⟩
theorem aF.keep{K:ă}{ct:Ct}{H H':Hp}(e:aW ct.f.cb H H'):∀{ds:List D} {vs:List V},aF K ct H ds vs->aF K ct H' ds vs
 |[],_,h=>by simpa[aF] using h
 |d::ds,_,h=>by simp only[aF] at h ⊢;obtain ⟨v,r,h1,h2,h3⟩:=h;exact ⟨v,r,h1,Tl.keep e h2,aF.keep e h3⟩
end
structure aa2(ct jv:Ct)(p:Bool->Bool)(g:Bool->Bool):Prop where
 cb:jv.f.cb=ct.f.cb
 at':∀t a o,p t=true->ct.lo t a=some o->jv.lo (g t) a=some o
mutual
noncomputable def C5(g:Bool->Bool):D->D
 | .tup xs=> .tup (uv g xs)
 | .gt xs=> .gt (uv g xs)
 | .lst xs=> .lst (uv g xs)
 | .obj c ns xs=> .obj c ns (uv g xs)
 | .r6 ks xs=> .r6 ks (uv g xs)
 | .bor t xs=> .bor (g t) (uv g xs)
 | .uF t ks xs=> .uF (g t) ks (uv g xs)
 | .yb t c ns xs=> .yb (g t) c ns (uv g xs)
 | .cU=> .cU
 | .bl b=> .bl b
 | .int i=> .int i
 | .str x=> .str x
 | .exc c=> .exc c
noncomputable def uv(g:Bool->Bool):List D->List D
 |[]=>[]
 |d::ds=>C5 g d::uv g ds
end
mutual
noncomputable def Er(p:Bool->Bool):D->Bool
 | .tup xs=>sO p xs
 | .gt xs=>sO p xs
 | .lst xs=>sO p xs
 | .obj _ _ xs=>sO p xs
 | .r6 _ xs=>sO p xs
 | .bor t xs=>p t&&sO p xs
 | .uF t _ xs=>p t&&sO p xs
 | .yb t _ _ xs=>p t&&sO p xs
 |_=>true
noncomputable def sO(p:Bool->Bool):List D->Bool
 |[]=>true
 |d::ds=>Er p d&&sO p ds
end
mutual
theorem Tl.re{K:ă}{ct jv:Ct}{H:Hp}{p g:Bool->Bool}(r:aa2 ct jv p g):∀{d:D} {v:V},Er p d=true->Tl K ct H d v->Tl K jv H (C5 g d) v
 | .cU,_,_,h=>by simpa[Tl,C5] using h
 | .bl b,_,_,h=>by simpa[Tl,C5] using h
 | .int i,_,_,h=>by simpa[Tl,C5] using h
 | .str x,_,_,h=>by simpa[Tl,C5] using h
 | .exc c,v,_,h=>by simp only[Tl,C5] at h ⊢;rw[r.cb];exact h
 | .tup ds,v,q,h=>by simp only[Tl,C5,Er] at h q ⊢;obtain ⟨a,vs,h1,h2,h3⟩:=h;exact ⟨a,vs,h1,h2,aF.re r q h3⟩
 | .gt ds,v,q,h=>by simp only[Tl,C5,Er] at h q ⊢;obtain ⟨a,vs,h1,h2,h3⟩:=h;exact ⟨a,vs,h1,h2,aF.re r q h3⟩
 | .lst ds,v,q,h=>by simp only[Tl,C5,Er] at h q ⊢;obtain ⟨a,vs,h1,h2,h3⟩:=h;exact ⟨a,vs,h1,h2,aF.re r q h3⟩
 | .obj c ns ds,v,q,h=>by simp only[Tl,C5,Er] at h q ⊢;obtain ⟨a,C,dx,vs,h1,h2,h3,h4,h5⟩:=h;exact ⟨a,C,dx,vs,h1,by rw[r.cb];exact h2,h3,h4,aF.re r q h5⟩
 | .bor t ds,v,q,h=>by simp only[Tl,C5,Er,ħ] at h q ⊢;obtain ⟨a,vs,h1,h2,h3⟩:=h;exact ⟨a,vs,h1,r.at' t a _ q.1 h2,aF.re r q.2 h3⟩
 | .r6 ks ds,v,q,h=>by simp only[Tl,C5,Er] at h q ⊢;obtain ⟨a,vs,h1,h2,h3,h4⟩:=h;exact ⟨a,vs,h1,h2,h3,aF.re r q h4⟩
 | .uF t ks ds,v,q,h=>by simp only[Tl,C5,Er,ħ] at h q ⊢;obtain ⟨a,vs,h1,h2,h3,h4⟩:=h;exact ⟨a,vs,h1,r.at' t a _ q.1 h2,h3,aF.re r q.2 h4⟩
 | .yb t c ns ds,v,q,h=>by simp only[Tl,C5,Er,ħ] at h q ⊢;obtain ⟨a,C,dx,vs,h1,h2,h3,h4,h5⟩:=h;exact ⟨a,C,dx,vs,h1,by rw[r.cb];exact h2,r.at' t a _ q.1 h3,h4,aF.re r q.2 h5⟩
theorem aF.re{K:ă}{ct jv:Ct}{H:Hp}{p g:Bool->Bool}(r:aa2 ct jv p g):∀{ds:List D} {vs:List V},sO p ds=true->aF K ct H ds vs->aF K jv H (uv g ds) vs
 |[],_,_,h=>by simpa[aF,uv] using h
 |d::ds,_,q,h=>by simp only[aF,uv,sO,ħ] at h q ⊢;obtain ⟨v,w,h1,h2,h3⟩:=h;exact ⟨v,w,h1,Tl.re r q.1 h2,aF.re r q.2 h3⟩
end
mutual
theorem A8:∀(d:D),C5 id d=d
 | .cU| .bl _| .int _| .str _| .exc _=>by simp[C5]
 | .tup ds| .gt ds| .lst ds| .obj _ _ ds| .r6 _ ds| .bor _ ds| .uF _ _ ds| .yb _ _ _ ds=>by simp[C5,uc ds]
theorem uc:∀(ds:List D),uv id ds=ds
 |[]=>rfl
 |d::ds=>by simp[uv,A8 d,uc ds]
end
mutual
theorem agA:∀(d:D),C5 (λ _=>false) d=dn d
 | .cU| .bl _| .int _| .str _| .exc _=>by simp[C5,dn]
 | .tup ds| .gt ds| .lst ds| .obj _ _ ds| .r6 _ ds| .bor _ ds| .uF _ _ ds| .yb _ _ _ ds=>by simp[C5,dn,FF ds]
theorem FF:∀(ds:List D),uv (λ _=>false) ds=xP ds
 |[]=>rfl
 |d::ds=>by simp[uv,xP,agA d,FF ds]
end
mutual
theorem F0:∀(d:D),Er (λ _=>true) d=true
 | .cU| .bl _| .int _| .str _| .exc _=>by simp[Er]
 | .tup ds| .gt ds| .lst ds| .obj _ _ ds| .r6 _ ds| .bor _ ds| .uF _ _ ds| .yb _ _ _ ds=>by simp[Er,sN ds]
theorem sN:∀(ds:List D),sO (λ _=>true) ds=true
 |[]=>rfl
 |d::ds=>by simp[sO,F0 d,sN ds]
end
mutual
theorem Xf:∀(d:D),Er (λ t=>!t) d=nt d
 | .cU| .bl _| .int _| .str _| .exc _=>by simp[Er,nt]
 | .tup ds| .gt ds| .lst ds| .obj _ _ ds| .r6 _ ds| .bor _ ds| .uF _ _ ds| .yb _ _ _ ds=>by simp[Er,nt,FY ds]
theorem FY:∀(ds:List D),sO (λ t=>!t) ds=ly ds
 |[]=>rfl
 |d::ds=>by simp[sO,ly,Xf d,FY ds]
end
mutual
theorem Xg:∀(d:D),Er (λ _=>false) d=nb d
 | .cU| .bl _| .int _| .str _| .exc _=>by simp[Er,nb]
 | .tup ds| .gt ds| .lst ds| .obj _ _ ds| .r6 _ ds=>by simp[Er,nb,FZ ds]
 | .bor _ ds| .uF _ _ ds| .yb _ _ _ ds=>by simp[Er,nb]
theorem FZ:∀(ds:List D),sO (λ _=>false) ds=vp ds
 |[]=>rfl
 |d::ds=>by simp[sO,vp,Xg d,FZ ds]
end
def Tl.lift{K:ă}{c:Cf}{B H:Hp}{d:D}{v:V}(h:Tl K c.z H d v):Tl K (c.at' B) H d v:=by
 have:=Tl.re (ct:=c.z) (jv:=c.at' B) (p:=λ _=>true) (g:=id) ⟨rfl,λ t a o _ q=>by cases t with
  |true=>exact absurd q (by simp[Ct.lo,Cf.z])
  |false=>exact q⟩ (F0 d) h
 rwa [A8] at this
def Tl.down{K:ă}{c:Cf}{B H:Hp}{tm:Bool}{d:D}{v:V}(h:Tl K ⟨c,B,tm⟩ H d v)(n:nt d=true):Tl K c.z H d v:=by
 have:=Tl.re (ct:=⟨c,B,tm⟩) (jv:=c.z) (p:=λ t=>!t) (g:=id) ⟨rfl,λ t a o p q=>by cases t with
  |true=>cases p
  |false=>exact q⟩ (by rw[Xf];exact n) h
 rwa [A8] at this
def Tl.bare{K:ă}{ct jv:Ct}{H:Hp}{d:D}{v:V}(e:jv.f.cb=ct.f.cb)(h:Tl K ct H d v)(n:nb d=true):Tl K jv H d v:=by have:=Tl.re (ct:=ct) (jv:=jv) (p:=λ _=>false) (g:=id) ⟨e,λ t a o p q=>nomatch p⟩ (by rw[Xg];exact n) h;rwa [A8] at this
def aF.bare{K:ă}{ct jv:Ct}{H:Hp}{d:List D}{v:List V}(e:jv.f.cb=ct.f.cb)(h:aF K ct H d v)(n:vp d=true):aF K jv H d v:=by have:=aF.re (ct:=ct) (jv:=jv) (p:=λ _=>false) (g:=id) ⟨e,λ t a o p q=>nomatch p⟩ (by rw[FZ];exact n) h;rwa [uc] at this
def aF.lift{K:ă}{c:Cf}{B H:Hp}{d:List D}{v:List V}(h:aF K c.z H d v):aF K (c.at' B) H d v:=by
 have:=aF.re (ct:=c.z) (jv:=c.at' B) (p:=λ _=>true) (g:=id) ⟨rfl,λ t a o _ q=>by cases t with
  |true=>exact absurd q (by simp[Ct.lo,Cf.z])
  |false=>exact q⟩ (sN d) h
 rwa [uc] at this
def aF.down{K:ă}{c:Cf}{B H:Hp}{tm:Bool}{d:List D}{v:List V}(h:aF K ⟨c,B,tm⟩ H d v)(n:ly d=true):aF K c.z H d v:=by
 have:=aF.re (ct:=⟨c,B,tm⟩) (jv:=c.z) (p:=λ t=>!t) (g:=id) ⟨rfl,λ t a o p q=>by cases t with
  |true=>cases p
  |false=>exact q⟩ (by rw[FY];exact n) h
 rwa [uc] at this
def aF.lent{K:ă}{ct:Ct}{c':Cf}{H:Hp}{d:List D}{v:List V}(e:c'.cb=ct.f.cb)(eL:c'.L=H)(l:ay ct.f.L H)(b:ay ct.B H)(h:aF K ct H d v):aF K c'.z H (xP d) v:=by
 have:=aF.re (ct:=ct) (jv:=c'.z) (p:=λ _=>true) (g:=λ _=>false) ⟨e,λ t a o _ q=>by
  show c'.L a=some o;rw[eL];cases t with
  |true=>exact b a o q
  |false=>exact l a o q⟩ (sN d) h
 rwa [FF] at this
theorem aF.length{K:ă}{ct:Ct}{H:Hp}:∀{ds:List D} {vs:List V},aF K ct H ds vs->ds.length=vs.length
 |[],_,h=>by simp only[aF] at h;rw[h];rfl
 |d::ds,_,h=>by simp only[aF] at h;obtain ⟨v,r,rfl,_,h⟩:=h;simp[aF.length h]
theorem aF.get{K:ă}{ct:Ct}{H:Hp}:∀{ds:List D} {vs:List V} {i:Nat} {d:D},aF K ct H ds vs->ds[i]? =some d->∃v,vs[i]? =some v/\Tl K ct H d v
 |[],_,_,_,_,e=>by simp at e
 |d::ds,_,i,d',h,e=>by
  simp only[aF] at h;obtain ⟨v,r,rfl,h1,h2⟩:=h;cases i with
  |zero=>simp at e;subst e;exact ⟨v,rfl,h1⟩
  |succ i=>exact aF.get (i:=i) h2 (by simpa using e)
def aF.nil{K:ă}{ct:Ct}{H:Hp}:aF K ct H [] []:=by simp[aF]
def aF.cons{K:ă}{ct:Ct}{H:Hp}{d:D}{v:V}{ds:List D}{vs:List V}(h:Tl K ct H d v)(t:aF K ct H ds vs):aF K ct H (d::ds) (v::vs):=by simp only[aF];exact ⟨v,vs,rfl,h,t⟩
theorem aF.append{K:ă}{ct:Ct}{H:Hp}:∀{ds es:List D} {vs us:List V},aF K ct H ds vs->aF K ct H es us->aF K ct H (ds++es) (vs++us)
 |[],_,_,_,h,t=>by simp only[aF] at h;subst h;simpa using t
 |d::ds,_,_,_,h,t=>by simp only[aF] at h;obtain ⟨v,r,rfl,h1,h2⟩:=h;exact aF.cons h1 (aF.append h2 t)
theorem aF.take{K:ă}{ct:Ct}{H:Hp}:∀{ds:List D} {vs:List V} (n:Nat),aF K ct H ds vs->aF K ct H (ds.take n) (vs.take n)
 |[],_,n,h=>by simp only[aF] at h;subst h;simp[aF]
 |d::ds,_,0,_=>by simp[aF]
 |d::ds,_,n+1,h=>by simp only[aF] at h;obtain ⟨v,r,rfl,h1,h2⟩:=h;exact aF.cons h1 (aF.take n h2)
theorem aF.drop{K:ă}{ct:Ct}{H:Hp}:∀{ds:List D} {vs:List V} (n:Nat),aF K ct H ds vs->aF K ct H (ds.drop n) (vs.drop n)
 |[],_,n,h=>by simp only[aF] at h;subst h;simp[aF]
 |d::ds,_,0,h=>h
 |d::ds,_,n+1,h=>by simp only[aF] at h;obtain ⟨v,r,rfl,h1,h2⟩:=h;exact aF.drop n h2
theorem aF.set{K:ă}{ct:Ct}{H:Hp}{d:D}{v:V}(q:Tl K ct H d v):∀{ds:List D} {vs:List V} (n:Nat),aF K ct H ds vs->aF K ct H (ds.set n d) (vs.set n v)
 |[],_,n,h=>by simp only[aF] at h;subst h;simp[aF]
 |_::ds,_,0,h=>by simp only[aF] at h;obtain ⟨w,r,rfl,_,h2⟩:=h;exact aF.cons q h2
 |_::ds,_,n+1,h=>by simp only[aF] at h;obtain ⟨w,r,rfl,h1,h2⟩:=h;exact aF.cons h1 (aF.set q n h2)
noncomputable abbrev Fp:=Addr->Prop
mutual
def Ow(K:ă)(ct:Ct)(H:Hp):M->V->Fp->Prop
 | .d x,v,_=>Tl K ct H x v
 | .l xs,v,S=>∃a vs,v= .ref a/\S a/\H a=some (.lst vs)/\aF K ct H xs vs
 | .n ms,v,S=>∃a vs,v= .ref a/\S a/\H a=some (.lst vs)/\eU K ct H ms vs λ b=>S b/\b≠a
 | .t ms,v,S=>∃a vs,v= .ref a/\H a=some (.tup vs)/\eU K ct H ms vs S
 | .k ks xs,v,S=>∃a vs,v= .ref a/\S a/\H a=some (ks.ho vs)/\ks.len=vs.length/\aF K ct H xs vs
 | .o c ns xs,v,S=>∃a C dx vs,v= .ref a/\S a/\ct.f.cb.ins c=some C/\H a=some (.ins C dx (ns.zip vs))/\ns.length=vs.length/\aF K ct H xs vs
 | .q ks ms,v,S=>∃a vs,v= .ref a/\S a/\H a=some (ks.ho vs)/\ks.len=vs.length/\eU K ct H ms vs λ b=>S b/\b≠a
def eU(K:ă)(ct:Ct)(H:Hp):List M->List V->Fp->Prop
 |[],vs,_=>vs=[]
 |m::ms,vs,S=>∃v r S1 S2,vs=v::r/\(∀b,S1 b->S b)/\(∀b,S2 b->S b)/\(∀b,S1 b->¬S2 b)/\Ow K ct H m v S1/\eU K ct H ms r S2
end
section
variable{K:ă}{ct jv:Ct}{H H':Hp}
mutual
/-- a aqx place -/
theorem Ow.wide:∀{m:M} {v:V} {S T:Fp},(∀b,S b->T b)->Ow K ct H m v S->Ow K ct H m v T
 | .d x,v,S,T,_,h=>by simpa[Ow] using h
 | .l xs,v,S,T,k,h=>by simp only[Ow] at h ⊢;obtain ⟨a,vs,h1,h2,h3⟩:=h;exact ⟨a,vs,h1,k _ h2,h3⟩
 | .n ms,v,S,T,k,h=>by simp only[Ow] at h ⊢;obtain ⟨a,vs,h1,h2,h3,h4⟩:=h;exact ⟨a,vs,h1,k _ h2,h3,eU.wide (λ b z=>⟨k b z.1,z.2⟩) h4⟩
 | .t ms,v,S,T,k,h=>by simp only[Ow] at h ⊢;obtain ⟨a,vs,h1,h2,h3⟩:=h;exact ⟨a,vs,h1,h2,eU.wide k h3⟩
 | .k ks xs,v,S,T,k,h=>by simp only[Ow] at h ⊢;obtain ⟨a,vs,h1,h2,h3⟩:=h;exact ⟨a,vs,h1,k _ h2,h3⟩
 | .o c ns xs,v,S,T,k,h=>by simp only[Ow] at h ⊢;obtain ⟨a,C,dx,vs,h1,h2,h3⟩:=h;exact ⟨a,C,dx,vs,h1,k _ h2,h3⟩
 | .q ks ms,v,S,T,k,h=>by simp only[Ow] at h ⊢;obtain ⟨a,vs,h1,h2,h3,h4,h5⟩:=h;exact ⟨a,vs,h1,k _ h2,h3,h4,eU.wide (λ b z=>⟨k b z.1,z.2⟩) h5⟩
theorem eU.wide:∀{ms:List M} {vs:List V} {S T:Fp},(∀b,S b->T b)->eU K ct H ms vs S->eU K ct H ms vs T
 |[],vs,S,T,_,h=>by simpa[eU] using h
 |m::ms,vs,S,T,k,h=>by simp only[eU] at h ⊢;obtain ⟨v,r,S1,S2,h1,h2,h3,h4,h5,h6⟩:=h;exact ⟨v,r,S1,S2,h1,λ b z=>k b (h2 b z),λ b z=>k b (h3 b z),h4,h5,h6⟩
end
mutual
/-- its places are untouched,D5 data are kept -/
theorem Ow.frame(e:aW ct.f.cb H H'):∀{m:M} {v:V} {S:Fp},(∀b o,S b->H b=some o->H' b=some o)->Ow K ct H m v S->Ow K ct H' m v S
 | .d x,v,S,_,h=>by simp only[Ow] at h ⊢;exact h.keep e
 | .l xs,v,S,k,h=>by simp only[Ow] at h ⊢;obtain ⟨a,vs,h1,h2,h3,h4⟩:=h;exact ⟨a,vs,h1,h2,k _ _ h2 h3,h4.keep e⟩
 | .n ms,v,S,k,h=>by simp only[Ow] at h ⊢;obtain ⟨a,vs,h1,h2,h3,h4⟩:=h;exact ⟨a,vs,h1,h2,k _ _ h2 h3,eU.frame e (λ b o z=>k b o z.1) h4⟩
 | .t ms,v,S,k,h=>by simp only[Ow] at h ⊢;obtain ⟨a,vs,h1,h2,h3⟩:=h;exact ⟨a,vs,h1,e _ _ h2 trivial,eU.frame e k h3⟩
 | .k ks xs,v,S,k,h=>by simp only[Ow] at h ⊢;obtain ⟨a,vs,h1,h2,h3,h4,h5⟩:=h;exact ⟨a,vs,h1,h2,k _ _ h2 h3,h4,h5.keep e⟩
 | .o c ns xs,v,S,k,h=>by simp only[Ow] at h ⊢;obtain ⟨a,C,dx,vs,h1,h2,h3,h4,h5,h6⟩:=h;exact ⟨a,C,dx,vs,h1,h2,h3,k _ _ h2 h4,h5,h6.keep e⟩
 | .q ks ms,v,S,k,h=>by simp only[Ow] at h ⊢;obtain ⟨a,vs,h1,h2,h3,h4,h5⟩:=h;exact ⟨a,vs,h1,h2,k _ _ h2 h3,h4,eU.frame e (λ b o z=>k b o z.1) h5⟩
theorem eU.frame(e:aW ct.f.cb H H'):∀{ms:List M} {vs:List V} {S:Fp},(∀b o,S b->H b=some o->H' b=some o)->eU K ct H ms vs S->eU K ct H' ms vs S
 |[],vs,S,_,h=>by simpa[eU] using h
 |m::ms,vs,S,k,h=>by simp only[eU] at h ⊢;obtain ⟨v,r,S1,S2,h1,h2,h3,h4,h5,h6⟩:=h;exact ⟨v,r,S1,S2,h1,h2,h3,h4,Ow.frame e (λ b o z=>k b o (h2 b z)) h5,eU.frame e (λ b o z=>k b o (h3 b z)) h6⟩
end
mutual
/-- lent for an expression -/
theorem Ow.lend:∀{m:M} {v:V} {S:Fp},(∀b,S b->ct.B b=H b)->Ow K ct H m v S->Tl K ct H (lend m) v
 | .d x,v,S,_,h=>by simpa only[Ow,L4.lend] using h
 | .l xs,v,S,k,h=>by simp only[Ow,L4.lend,Tl] at h ⊢;obtain ⟨a,vs,h1,h2,h3,h4⟩:=h;exact ⟨a,vs,h1,(k a h2).trans h3,h4⟩
 | .n ms,v,S,k,h=>by simp only[Ow,L4.lend,Tl] at h ⊢;obtain ⟨a,vs,h1,h2,h3,h4⟩:=h;exact ⟨a,vs,h1,(k a h2).trans h3,eU.lend (λ b z=>k b z.1) h4⟩
 | .t ms,v,S,k,h=>by simp only[Ow,L4.lend,Tl] at h ⊢;obtain ⟨a,vs,h1,h2,h3⟩:=h;exact ⟨a,vs,h1,h2,eU.lend k h3⟩
 | .k ks xs,v,S,k,h=>by simp only[Ow,L4.lend,Tl] at h ⊢;obtain ⟨a,vs,h1,h2,h3,h4,h5⟩:=h;exact ⟨a,vs,h1,(k a h2).trans h3,h4,h5⟩
 | .o c ns xs,v,S,k,h=>by simp only[Ow,L4.lend,Tl] at h ⊢;obtain ⟨a,C,dx,vs,h1,h2,h3,h4,h5,h6⟩:=h;exact ⟨a,C,dx,vs,h1,h3,(k a h2).trans h4,h5,h6⟩
 | .q ks ms,v,S,k,h=>by simp only[Ow,L4.lend,Tl] at h ⊢;obtain ⟨a,vs,h1,h2,h3,h4,h5⟩:=h;exact ⟨a,vs,h1,(k a h2).trans h3,h4,eU.lend (λ b z=>k b z.1) h5⟩
theorem eU.lend:∀{ms:List M} {vs:List V} {S:Fp},(∀b,S b->ct.B b=H b)->eU K ct H ms vs S->aF K ct H (zD ms) vs
 |[],vs,S,_,h=>by simpa[eU,L4.zD,aF] using h
 |m::ms,vs,S,k,h=>by simp only[eU,L4.zD,aF] at h ⊢;obtain ⟨v,r,S1,S2,h1,h2,h3,h4,h5,h6⟩:=h;exact ⟨v,r,h1,Ow.lend (λ b z=>k b (h2 b z)) h5,eU.lend (λ b z=>k b (h3 b z)) h6⟩
end
mutual
/-- D5 data in it told otherwise -/
theorem Ow.map{p:D->Bool}(ec:jv.f.cb=ct.f.cb)(g:∀d v,p d=true->Tl K ct H d v->Tl K jv H d v){q:List D->Bool}(gs:∀d v,q d=true->aF K ct H d v->aF K jv H d v){pm:M->Bool}{JR:List M->Bool} (e1:∀x,pm (.d x)=true->p x=true) (e2:∀x,pm (.l x)=true->q x=true) (e3:∀x,pm (.n x)=true->JR x=true) (e4:∀x,pm (.t x)=true->JR x=true) (e5:∀k x,pm (.k k x)=true->q x=true) (e7:∀c k x,pm (.o c k x)=true->q x=true) (e8:∀k x,pm (.q k x)=true->JR x=true) (e6:∀m ms,JR (m::ms)=true->pm m=true/\JR ms=true):∀{m:M} {v:V} {S:Fp},pm m=true->Ow K ct H m v S->Ow K jv H m v S
 | .d x,v,S,z,h=>by simp only[Ow] at h ⊢;exact g _ _ (e1 _ z) h
 | .l xs,v,S,z,h=>by simp only[Ow] at h ⊢;obtain ⟨a,vs,h1,h2,h3,h4⟩:=h;exact ⟨a,vs,h1,h2,h3,gs _ _ (e2 _ z) h4⟩
 | .n ms,v,S,z,h=>by simp only[Ow] at h ⊢;obtain ⟨a,vs,h1,h2,h3,h4⟩:=h;exact ⟨a,vs,h1,h2,h3,eU.map ec g gs e1 e2 e3 e4 e5 e7 e8 e6 (e3 _ z) h4⟩
 | .t ms,v,S,z,h=>by simp only[Ow] at h ⊢;obtain ⟨a,vs,h1,h2,h3⟩:=h;exact ⟨a,vs,h1,h2,eU.map ec g gs e1 e2 e3 e4 e5 e7 e8 e6 (e4 _ z) h3⟩
 | .k ks xs,v,S,z,h=>by simp only[Ow] at h ⊢;obtain ⟨a,vs,h1,h2,h3,h4,h5⟩:=h;exact ⟨a,vs,h1,h2,h3,h4,gs _ _ (e5 _ _ z) h5⟩
 | .o c ns xs,v,S,z,h=>by simp only[Ow] at h ⊢;obtain ⟨a,C,dx,vs,h1,h2,h3,h4,h5,h6⟩:=h;exact ⟨a,C,dx,vs,h1,h2,by rw[ec];exact h3,h4,h5,gs _ _ (e7 _ _ _ z) h6⟩
 | .q ks ms,v,S,z,h=>by simp only[Ow] at h ⊢;obtain ⟨a,vs,h1,h2,h3,h4,h5⟩:=h;exact ⟨a,vs,h1,h2,h3,h4,eU.map ec g gs e1 e2 e3 e4 e5 e7 e8 e6 (e8 _ _ z) h5⟩
theorem eU.map{p:D->Bool}(ec:jv.f.cb=ct.f.cb)(g:∀d v,p d=true->Tl K ct H d v->Tl K jv H d v){q:List D->Bool}(gs:∀d v,q d=true->aF K ct H d v->aF K jv H d v){pm:M->Bool}{JR:List M->Bool} (e1:∀x,pm (.d x)=true->p x=true) (e2:∀x,pm (.l x)=true->q x=true) (e3:∀x,pm (.n x)=true->JR x=true) (e4:∀x,pm (.t x)=true->JR x=true) (e5:∀k x,pm (.k k x)=true->q x=true) (e7:∀c k x,pm (.o c k x)=true->q x=true) (e8:∀k x,pm (.q k x)=true->JR x=true) (e6:∀m ms,JR (m::ms)=true->pm m=true/\JR ms=true):∀{ms:List M} {vs:List V} {S:Fp},JR ms=true->eU K ct H ms vs S->eU K jv H ms vs S
 |[],vs,S,_,h=>by simpa[eU] using h
 |m::ms,vs,S,z,h=>by simp only[eU] at h ⊢;obtain ⟨v,r,S1,S2,h1,h2,h3,h4,h5,h6⟩:=h;exact ⟨v,r,S1,S2,h1,h2,h3,h4,Ow.map ec g gs e1 e2 e3 e4 e5 e7 e8 e6 (e6 _ _ z).1 h5,eU.map ec g gs e1 e2 e3 e4 e5 e7 e8 e6 (e6 _ _ z).2 h6⟩
end
end
section
variable{K:ă}{c:Cf}{B H:Hp}{m:M}{v:V}{S:Fp}
theorem Ow.lift(h:Ow K c.z H m v S):Ow K (c.at' B) H m v S:=Ow.map (ct:=c.z) (jv:=c.at' B) (p:=λ _=>true) rfl (λ _ _ _=>Tl.lift) (q:=λ _=>true) (λ _ _ _=>aF.lift) (pm:=λ _=>true) (JR:=λ _=>true) (λ _ _=>rfl) (λ _ _=>rfl) (λ _ _=>rfl) (λ _ _=>rfl) (λ _ _ _=>rfl) (λ _ _ _ _=>rfl) (λ _ _ _=>rfl) (λ _ _ _=>⟨rfl,rfl⟩) rfl h
theorem Ow.down{tm:Bool}(h:Ow K ⟨c,B,tm⟩ H m v S)(n:yI m=true):Ow K c.z H m v S:=Ow.map (ct:=⟨c,B,tm⟩) (jv:=c.z) (p:=nt) rfl (λ _ _ n h=>h.down n) (q:=ly) (λ _ _ n h=>h.down n) (pm:=yI) (JR:=F3) (λ _ z=>by simpa[yI] using z) (λ _ z=>by simpa[yI] using z) (λ _ z=>by simpa[yI] using z) (λ _ z=>by simpa[yI] using z) (λ _ _ z=>by simpa[yI] using z) (λ _ _ _ z=>by simpa[yI] using z) (λ _ _ z=>by simpa[yI] using z)
  (λ _ _ z=>by simpa[F3] using z) n h
theorem Ow.bare{ct jv:Ct}(e:jv.f.cb=ct.f.cb)(h:Ow K ct H m v S)(n:JS m=true):Ow K jv H m v S:=Ow.map (p:=nb) e (λ _ _ n h=>h.bare e n) (q:=vp) (λ _ _ n h=>h.bare e n) (pm:=JS) (JR:=Uh) (λ _ z=>by simpa[JS] using z) (λ _ z=>by simpa[JS] using z) (λ _ z=>by simpa[JS] using z) (λ _ z=>by simpa[JS] using z) (λ _ _ z=>by simpa[JS] using z) (λ _ _ _ z=>by simpa[JS] using z) (λ _ _ z=>by simpa[JS] using z)
  (λ _ _ z=>by simpa[Uh] using z) n h
end
structure SOk(ct:Ct)(H₀ H:Hp)(S:Fp):Prop where
 new:∀b,S b->H₀ b=none\/ct.f.io b
 here:∀b,S b->H b≠none
 IA:∀b,S b->ct.f.L b=none
 lent:∀b,S b->ct.tm=true->ct.B b=H b
def p7(K:ă)(ct:Ct)(H₀ H:Hp)(i:Nat)(S:Fp):Slot->Option V->Prop
 | .no,_=>∀b,¬S b
 | .val d,ov=>(∃v,ov=some v/\Tl K ct H d v)/\∀b,¬S b
 | .own m,ov=>∃v,ov=some v/\Ow K ct H m v S/\SOk ct H₀ H S/\∀b,S b->H₀ b=none
 | .par m,ov=>∃v,ov=some v/\Ow K ct H m v S/\SOk ct H₀ H S/\ct.f.args[i]? =some v
structure J(K:ă)(ct:Ct)(H₀:Hp)(Γ:Sg)(σ:St)(H:Hp):Prop where
 same:∀b o,H₀ b=some o->¬ct.f.io b->H b=some o
 free:∀b,H b=none->H₀ b=none
 lL:ay ct.f.L H
 lB:ay ct.B H
 len:Γ.length=σ.length
 sl:∃S:Nat->Fp,(∀i sl ov,Γ[i]? =some sl->σ[i]? =some ov->p7 K ct H₀ H i (S i) sl ov)/\(∀i j b,i≠j->S i b->¬S j b)/\∀i b,S i b->H b≠none
section
variable{K:ă}{ct:Ct}{H₀ H H':Hp}{Γ:Sg}{σ:St}{i:Nat}{S:Fp}{sl:Slot}{ov:Option V}
def SOk.same(h:SOk ct H₀ H S)(e:ay H H'):SOk ct H₀ H' S:=⟨h.new,λ b z q=>h.here b z (by
  cases w:H b with
  |none=>rfl
  |some o=>rw[e b o w] at q;cases q),h.IA,λ b z t=>by
 rw[h.lent b z t];cases w:H b with
 |none=>exact absurd w (h.here b z)
 |some o=>exact (e b o w).symm⟩
theorem p7.same(h:p7 K ct H₀ H i S sl ov)(e:ay H H'):p7 K ct H₀ H' i S sl ov:=by
 cases sl with
 |no=>exact h
 |val d=>obtain ⟨⟨v,h1,h2⟩,h3⟩:=h;exact ⟨⟨v,h1,h2.keep (ay.keep e)⟩,h3⟩
 |own m=>obtain ⟨v,h1,h2,h3,h4⟩:=h;exact ⟨v,h1,h2.frame (ay.keep e) (λ b o _ q=>e b o q),h3.same e,h4⟩
 |par m=>obtain ⟨v,h1,h2,h3,h4⟩:=h;exact ⟨v,h1,h2.frame (ay.keep e) (λ b o _ q=>e b o q),h3.same e,h4⟩
def J.mono(j:J K ct H₀ Γ σ H)(e:ay H H'):J K ct H₀ Γ σ H':=by obtain ⟨S,h1,h2,h3⟩:=j.sl;exact ⟨λ b o q n=>e b o (j.same b o q n),λ b q=>j.free b (e.free q),j.lL.trans e,j.lB.trans e,j.len,S,λ i sl ov g1 g2=>(h1 i sl ov g1 g2).same e,h2,λ i b w q=>h3 i b w (e.free q)⟩
def J.get(j:J K ct H₀ Γ σ H)(h:Γ[i]? =some sl):∃ov S,σ[i]? =some ov/\p7 K ct H₀ H i S sl ov:=by
 have hi:i<σ.length:=by rw[<-j.len];exact (Ď.mp h).1
 obtain ⟨S,h1,h2⟩:=j.sl;exact ⟨σ[i],S i,ā hi,h1 i sl _ h (ā hi)⟩
theorem J.val{d:D}(j:J K ct H₀ Γ σ H)(h:Γ[i]? =some (.val d)):∃v,σ[i]? =some (some v)/\Tl K ct H d v:=by obtain ⟨ov,S,h1,⟨v,h2,h3⟩,_⟩:=j.get h;exact ⟨v,by rw[h1,h2],h3⟩
theorem J.own{m:M}(j:J K ct H₀ Γ σ H)(h:Γ[i]? =some (.own m)):∃v S,σ[i]? =some (some v)/\Ow K ct H m v S/\SOk ct H₀ H S/\∀b,S b->H₀ b=none:=by obtain ⟨ov,S,h1,v,h2,h3⟩:=j.get h;exact ⟨v,S,by rw[h1,h2],h3⟩
theorem J.par{m:M}(j:J K ct H₀ Γ σ H)(h:Γ[i]? =some (.par m)):∃v S,σ[i]? =some (some v)/\Ow K ct H m v S/\SOk ct H₀ H S/\ct.f.args[i]? =some v:=by obtain ⟨ov,S,h1,v,h2,h3⟩:=j.get h;exact ⟨v,S,by rw[h1,h2],h3⟩
theorem J.lift{c:Cf}(j:J K c.z H₀ Γ σ H):J K (c.at' H) H₀ Γ σ H:=by
 obtain ⟨S,h1,h2⟩:=j.sl;refine ⟨j.same,j.free,j.lL,ay.refl H,j.len,S,λ i sl ov g1 g2=>?_,h2⟩;have h:=h1 i sl ov g1 g2;cases sl with
 |no=>exact h
 |val d=>obtain ⟨⟨v,h1,h2⟩,h3⟩:=h;exact ⟨⟨v,h1,h2.lift⟩,h3⟩
 |own m=>obtain ⟨v,h1,h2,h3,h4⟩:=h;exact ⟨v,h1,h2.lift,⟨h3.new,h3.here,h3.IA,λ _ _ _=>rfl⟩,h4⟩
 |par m=>obtain ⟨v,h1,h2,h3,h4⟩:=h;exact ⟨v,h1,h2.lift,⟨h3.new,h3.here,h3.IA,λ _ _ _=>rfl⟩,h4⟩
def J.chg(j:J K ct H₀ Γ σ H)(i:Nat):∃S:Fp,(∀sl ov,Γ[i]? =some sl->σ[i]? =some ov->p7 K ct H₀ H i S sl ov)/\∀(H':Hp) (sl:Slot) (ov:Option V) (S':Fp),aW ct.f.cb H H'->(∀b o,H b=some o->¬S b->H' b=some o)->(∀b,H' b=none->H b=none)->ay ct.B H'->p7 K ct H₀ H' i S' sl ov->(∀b,S' b->S b\/H b=none)->J K ct H₀ (Γ.set i sl) (σ.set i ov) H':=by
 obtain ⟨S,h1,h2,h3⟩:=j.sl;by_cases hi:i<Γ.length
 ·refine ⟨S i,λ sl ov g1 g2=>h1 i sl ov g1 g2,λ H' sl ov S' kp hs hf hB new hS'=>?_⟩;have hiσ:i<σ.length:=by rw[<-j.len];exact hi
  -- D5 places of i,if it has some
  have q:=h1 i Γ[i] σ[i] (ā hi) (ā hiσ);have so:(∀b,S i b->H₀ b=none\/ct.f.io b)/\∀b,S i b->ct.f.L b=none:=by
   generalize Γ[i]=sl0 at q;cases sl0 with
   |no=>exact ⟨λ b z=>absurd z (q b),λ b z=>absurd z (q b)⟩
   |val d=>exact ⟨λ b z=>absurd z (q.2 b),λ b z=>absurd z (q.2 b)⟩
   |own m=>obtain ⟨v,_,_,h3,_⟩:=q;exact ⟨h3.new,h3.IA⟩
   |par m=>obtain ⟨v,_,_,h3,_⟩:=q;exact ⟨h3.new,h3.IA⟩
  refine ⟨λ b o e n=>?_,λ b e=>j.free b (hf b e),λ b o e=>?_,λ b o e=>?_,by simp[j.len],λ k=>if k=i then S' else S k,λ k sl' ov' g1 g2=>?_,λ k l b hkl=>?_,λ k b w=>?_⟩
  ·have:=j.same b o e n;refine hs b o this λ z=>?_;rcases so.1 b z with w|w
   ·rw[w] at e;cases e
   ·exact n w
  ·exact hs b o (j.lL b o e) λ z=>by rw[so.2 b z] at e;cases e
  ·exact hB b o e
  ·by_cases e:i=k
   ·subst e;rw[Ū hi] at g1;rw[Ū hiσ] at g2;cases g1;cases g2;simpa using new
   ·rw[āe e] at g1 g2;have ek:¬k=i:=λ z=>e z.symm;simp only[ek,if_false];have z:=h1 k sl' ov' g1 g2;have un:∀b o,S k b->H b=some o->H' b=some o:=λ b o w q=>hs b o q λ w'=>h2 k i b ek w w';have sok:SOk ct H₀ H (S k)->SOk ct H₀ H' (S k):=λ s=>⟨s.new,λ b w q=>s.here b w (hf b q),s.IA,λ b w t=>by
     rw[s.lent b w t];cases x:H b with
     |none=>exact absurd x (s.here b w)
     |some o=>exact (un b o w x).symm⟩
    cases sl' with
    |no=>exact z
    |val d=>obtain ⟨⟨v,z1,z2⟩,z3⟩:=z;exact ⟨⟨v,z1,z2.keep kp⟩,z3⟩
    |own m=>obtain ⟨v,z1,z2,z3,z4⟩:=z;exact ⟨v,z1,z2.frame kp un,sok z3,z4⟩
    |par m=>obtain ⟨v,z1,z2,z3,z4⟩:=z;exact ⟨v,z1,z2.frame kp un,sok z3,z4⟩
  ·-- apart
   have far:∀l b,¬l=i->S' b->¬S l b:=λ l b hl w w'=>by
    rcases hS' b w with u|u
    ·exact h2 l i b hl w' u
    ·exact h3 l b w' u
   by_cases e1:k=i
   ·subst e1;have e2:¬l=k:=λ z=>hkl z.symm;simp only[if_true,e2,if_false];exact far l b e2
   ·by_cases e2:l=i
    ·subst e2;simp only[e1,if_false,if_true];exact λ w w'=>far k b e1 w' w
    ·simp only[e1,e2,if_false];exact h2 k l b hkl
  ·by_cases e:k=i
   ·subst e;simp only[if_true] at w;cases sl with
    |no=>exact absurd w (new b)
    |val d=>exact absurd w (new.2 b)
    |own m=>obtain ⟨v,_,_,z,_⟩:=new;exact z.here b w
    |par m=>obtain ⟨v,_,_,z,_⟩:=new;exact z.here b w
   ·simp only[e,if_false] at w;exact λ q=>h3 k b w (hf b q)
 ·refine ⟨λ _=>False,λ sl ov g1 g2=>?_,λ H' sl ov S' kp hs hf hB new hS'=>?_⟩
  ·rw[ų (Ō hi)] at g1;cases g1
  ·rw[List.set_eq_of_length_le (Ō hi),List.set_eq_of_length_le (by rw[<-j.len];exact Ō hi)];exact j.mono λ b o q=>hs b o q λ z=>z
theorem J.set{v:V}(j:J K ct H₀ Γ σ H)(h:Tl K ct H d v):J K ct H₀ (Γ.set i (.val d)) (σ.set i (some v)) H:=by obtain ⟨S,_,h2⟩:=j.chg i;exact h2 H _ _ (λ _=>False) (aW.refl H) (λ _ _ q _=>q) (λ _ q=>q) j.lB ⟨⟨v,rfl,h⟩,λ _ z=>z⟩ λ _ z=>z.elim
def J.setM{v:V}(j:J K ct H₀ Γ σ H)(e:ay H H')(tm:ct.tm=false)(h:Ow K ct H' m v S')(new:∀b,S' b->H b=none)(here:∀b,S' b->H' b≠none):J K ct H₀ (Γ.set i (.own m)) (σ.set i (some v)) H':=by
 obtain ⟨S,_,h2⟩:=j.chg i;refine h2 H' _ _ S' (ay.keep e) (λ b o q _=>e b o q) (λ b q=>e.free q) (j.lB.trans e) ⟨v,rfl,h,⟨λ b z=> .inl (j.free b (new b z)),here,λ b z=>?_,λ b z t=>by rw[tm] at t;cases t⟩,λ b z=>j.free b (new b z)⟩ λ b z=> .inr (new b z);cases w:ct.f.L b with
 |none=>rfl
 |some o=>have:=j.lL b o w;rw[new b z] at this;cases this
def J.weak(j:J K ct H₀ Γ1 σ H)(hl:Γ1.length=Γ.length)(h:∀i:Nat,Γ[i]? =some .no\/Γ[i]? =Γ1[i]?):J K ct H₀ Γ σ H:=by
 obtain ⟨S,h1,h2,h3⟩:=j.sl;refine ⟨j.same,j.free,j.lL,j.lB,by rw[<-hl];exact j.len,λ i b=>S i b/\Γ[i]? =Γ1[i]?/\Γ[i]?≠some .no,λ i sl ov g1 g2=>?_,λ i k b e w w'=>h2 i k b e w.1 w'.1,λ i b w=>h3 i b w.1⟩;by_cases e:sl= .no
 ·subst e;exact λ b w=>w.2.2 g1
 ·have e1:Γ[i]? =Γ1[i]? :=by
   rcases h i with z|z
   ·rw[z] at g1;cases g1;exact absurd rfl e
   ·exact z
  have q:=h1 i sl ov (e1▸g1) g2;have eS:(λ b=>S i b/\Γ[i]? =Γ1[i]?/\Γ[i]?≠some .no)=S i:=funext λ b=>propext ⟨λ w=>w.1,λ w=>⟨w,e1,by rw[g1];exact λ z=>e (ĝ z)⟩⟩;show p7 K ct H₀ H i (λ b=>S i b/\Γ[i]? =Γ1[i]?/\Γ[i]?≠some .no) sl ov;rw[eS];exact q
def J.akj(j:J K ct H₀ Γ σ H)(n:ali Γ)(k:aW ct.f.cb H H')(s:∀b o,H₀ b=some o->¬ct.f.io b->H' b=some o)(f:∀b,H' b=none->H₀ b=none)(l:ay ct.f.L H')(b:ay ct.B H'):J K ct H₀ Γ σ H':=by
 obtain ⟨S,h1,h2,h3⟩:=j.sl;refine ⟨s,f,l,b,j.len,λ _ _=>False,λ i sl ov g1 g2=>?_,λ _ _ _ _ z=>z.elim,λ _ _ z=>z.elim⟩;have q:=h1 i sl ov g1 g2;cases sl with
 |no=>exact λ _ z=>z
 |val d=>obtain ⟨⟨v,q1,q2⟩,_⟩:=q;exact ⟨⟨v,q1,q2.keep k⟩,λ _ z=>z⟩
 |own m=>exact absurd g1 (n i m).1
 |par m=>exact absurd g1 (n i m).2
def Tl.oU{v:V}(l:ay ct.f.L H)(b:ay ct.B H)(h:Tl K ct H d v)(e:Vh d=some ds):∃a vs,v= .ref a/\qO K H a vs/\aF K ct H ds vs:=by
 cases d with
 |lst xs=>cases e;simp only[Tl] at h;obtain ⟨a,vs,h1,h2,h3⟩:=h;exact ⟨a,vs,h1,h2.sq,h3⟩
 |bor t xs=>
  cases e;simp only[Tl] at h;obtain ⟨a,vs,h1,h2,h3⟩:=h;refine ⟨a,vs,h1,.inl (.inl ?_),h3⟩;cases t with
  |true=>exact b a _ h2
  |false=>exact l a _ h2
 |_=>cases e
end
def HG(P:Program)(w:World):CXT:=λ outer H s E e s'=>∃(a C:Addr) (H':Hp) (B:Heap) (a0:Value),e= .ref a/\E (.ref C) none H'/\s'.os=s.os/\AllBare s'.gens/\Heap.FlyingW B outer a (.ref C) a0 s'.heap/\H' a=none/\s.heap.get? a=none/\∀h':Heap,B.StaysIn h'->s'.heap.UpToSlots h'->Un (frs outer) [] H H' s.heap h'/\uX P w H' h'
def kZ(X:Cx)(cb:Cb)(σ:St)(H:Hp)(c:String)(e:Value)(s':Shared):Prop:=∃(pins:`Ê) (H1:Hp) (s1:Shared) (C:Addr),Inv X pins σ H1 s1/\ay H H1/\cb.exc c=some C/\((∃(a:Addr) (args:`Ð) (h':Heap),e= .ref a/\s'={s1 with heap:=h'}/\Heap.MadeExcOf s1.heap h' a (.ref C) args)\/HG X.prog X.w X.stack H1 s1 (λ cls od H'=>cls= .ref C/\od=none/\ay H1 H') e s')
def kZ.mono{X:Cx}{cb:Cb}{σ:St}{H H2:Hp}{c:String}{e:Value}{s':Shared}(s:ay H H2)(h:kZ X cb σ H2 c e s'):kZ X cb σ H c e s':=by obtain ⟨pins,H1,s1,C,h1,h2,h3⟩:=h;exact ⟨pins,H1,s1,C,h1,s.trans h2,h3⟩
def Ok{α:Type}(X:Cx)(ct:Ct)(σ:St)(H:Hp)(r:Res α)(W:α->Prop):Prop:=match r with
 | .ok d=>W d
 | .err c=>∀e s',kZ X ct.f.cb σ H c e s'->X.xe e s'
 | .bad=>False
theorem Ok.mono{α:Type}{X:Cx}{ct:Ct}{σ:St}{H H2:Hp}{r:Res α}{W W':α->Prop}(s:ay H H2)(h:Ok X ct σ H r W)(k:∀d,W d->W' d):Ok X ct σ H2 r W':=by
 cases r with
 |ok d=>exact k d h
 |err c=>exact λ e s' q=>h e s' (q.mono s)
 |bad=>exact h
theorem Ok.bnd{α β:Type}{X:Cx}{ct:Ct}{σ:St}{H:Hp}{r:Res α}{f:α->Res β}{W:β->Prop}{W':α->Prop}(h:Ok X ct σ H (r.bnd f) W)(k:∀d,r= .ok d->Ok X ct σ H (f d) W->W' d):Ok X ct σ H r W':=by
 cases r with
 |ok d=>exact k d rfl h
 |err c=>exact h
 |bad=>exact h
def Wd(X:Cx)(ct:Ct)(H:Hp)(Q:VK)(d:D):Prop:=∀v H',ay H H'->Tl X.K ct H' d v->Q v H'
def Wl(X:Cx)(ct:Ct)(H:Hp)(Q:VK)(ds:List D):Prop:=∀a vs H',ay H H'->H a=none->H' a=some (.lst vs)->aF X.K ct H' ds vs->Q (.ref a) H'
def Wm(X:Cx)(ct:Ct)(H:Hp)(Q:VK)(m:M):Prop:=∀v H' S,ay H H'->Ow X.K ct H' m v S->(∀b,S b->H b=none)->(∀b,S b->H' b≠none)->Q v H'
def Wt(H:Hp)(Q:Bool->Hp->Prop)(b:Bool):Prop:=∀H',ay H H'->Q b H'
def Wa(X:Cx)(ct:Ct)(H:Hp)(Q:List V->Hp->Prop)(ds:List D):Prop:=∀vs H',ay H H'->aF X.K ct H' ds vs->Q vs H'
abbrev Jx(X:Cx)(ct:Ct)(Γ:Sg)(σ:St)(H:Hp):Prop:=J X.K ct X.H₀ Γ σ H
def rL(X:Cx)(ct:Ct)(f:`Ñ):TE:=λ σ H Q=>∃Γ,Jx X ct Γ σ H/\Ok X ct σ H (f Γ) (Wd X ct H Q)
def lOf(X:Cx)(ct:Ct)(f:`Æ):TE:=λ σ H Q=>∃Γ,Jx X ct Γ σ H/\Ok X ct σ H (f Γ) (Wl X ct H Q)
def mOf(X:Cx)(ct:Ct)(f:Sg->Res M):TE:=λ σ H Q=>∃Γ,Jx X ct Γ σ H/\Ok X ct σ H (f Γ) (Wm X ct H Q)
def Zq(X:Cx)(ct:Ct)(f:Sg->Res Bool):TT:=λ σ H Q=>∃Γ,Jx X ct Γ σ H/\Ok X ct σ H (f Γ) (Wt H Q)
def JW(X:Cx)(ct:Ct)(f:`Æ):TA:=λ σ H Q=>∃Γ,Jx X ct Γ σ H/\Ok X ct σ H (f Γ) (Wa X ct H Q)
abbrev PD(X:Cx)(ct:Ct)(e:Expr)(f:`Ñ):Prop:=PE X e (rL X ct f)
abbrev PL(X:Cx)(ct:Ct)(e:Expr)(f:`Æ):Prop:=PE X e (lOf X ct f)
abbrev PM(X:Cx)(ct:Ct)(e:Expr)(f:Sg->Res M):Prop:=PE X e (mOf X ct f)
abbrev PDT(X:Cx)(ct:Ct)(e:Expr)(f:Sg->Res Bool):Prop:=PT X e (Zq X ct f)
abbrev PDW(X:Cx)(ct:Ct)(e:Expr)(f:Sg->Res Bool):Prop:=PW X e (Zq X ct f)
abbrev PDA(X:Cx)(ct:Ct)(es:`Þ)(f:`Æ):Prop:=PA X es (JW X ct f)
structure Bk(X:Cx)(c:Cf)(H':Hp):Prop where
 same:∀b o,X.H₀ b=some o->¬c.io b->H' b=some o
 free:∀b,H' b=none->X.H₀ b=none
def J.bk(j:Jx X ct Γ σ H):Bk X ct.f H:=⟨j.same,j.free⟩
def Fn(X:Cx)(c:Cf)(H:Hp)(o:Out)(E:Ends):Prop:=match o with
 | .nx Γ=>∀σ' H',aW c.cb H H'->Jx X c.z Γ σ' H'->E.nx σ' H'
 | .bk Γ=>∀σ' H',aW c.cb H H'->Jx X c.z Γ σ' H'->E.bk σ' H'
 | .ct Γ=>∀σ' H',aW c.cb H H'->Jx X c.z Γ σ' H'->E.ct σ' H'
 | .rt d=>∀v H',Bk X c H'->Tl X.K c.z H' d v->E.rt v H'
 | .Rx m=>∀v H' S,Bk X c H'->Ow X.K c.z H' m v S->(∀b,S b->X.H₀ b=none)->(∀b,S b->H' b≠none)->E.rt v H'
 | .rtG d Γ=>∀v σ' H',Jx X c.z Γ σ' H'->Tl X.K c.z H' d v->E.rt v H'
 | .Im m Γ=>∀σ' H' (i:Nat) v,Jx X c.z Γ σ' H'->Γ[i]? =some (Slot.par m)->σ'[i]? =some (some v)->E.rt v H'
 | .err x Γ=>∀σ' H' e s',aW c.cb H H'->Jx X c.z Γ σ' H'->kZ X c.cb σ' H' x e s'->X.xe e s'
 | .bad=>False
def Fn.mono{X:Cx}{c:Cf}{H H2:Hp}{o:Out}{E:Ends}(k:aW c.cb H H2)(h:Fn X c H o E):Fn X c H2 o E:=by
 cases o with
 |nx Γ=>exact λ σ' H' e=>h σ' H' (k.trans e)
 |bk Γ=>exact λ σ' H' e=>h σ' H' (k.trans e)
 |ct Γ=>exact λ σ' H' e=>h σ' H' (k.trans e)
 |rt d=>exact h
 |Rx m=>exact h
 |rtG d Γ=>exact h
 |Im m Γ=>exact h
 |err x Γ=>exact λ σ' H' e s' q=>h σ' H' e s' (k.trans q)
 |bad=>exact h
def sOf(X:Cx)(c:Cf)(F:Sg->Out):TS:=λ E σ H=>∃Γ,Jx X c.z Γ σ H/\Fn X c H (F Γ) E
abbrev PDS(X:Cx)(c:Cf)(st:Stmt)(F:Sg->Out):Prop:=PS X st (sOf X c F)
abbrev amJ(X:Cx)(c:Cf)(sts:List Stmt)(F:Sg->Out):Prop:=JX X sts (sOf X c F)
structure WE(X:Cx)(e:Expr)(t:TE):Prop where
 out:PE X e t
structure WT(X:Cx)(e:Expr)(t:TT):Prop where
 out:PT X e t
structure WW(X:Cx)(e:Expr)(t:TT):Prop where
 out:PW X e t
structure WA(X:Cx)(es:`Þ)(t:TA):Prop where
 out:PA X es t
structure WS(X:Cx)(st:Stmt)(t:TS):Prop where
 out:PS X st t
structure WSs(X:Cx)(st:List Stmt)(t:TS):Prop where
 out:JX X st t
abbrev WD(X:Cx)(ct:Ct)(e:Expr)(f:`Ñ):Prop:=WE X e (rL X ct f)
abbrev WL(X:Cx)(ct:Ct)(e:Expr)(f:`Æ):Prop:=WE X e (lOf X ct f)
abbrev WM(X:Cx)(ct:Ct)(e:Expr)(f:Sg->Res M):Prop:=WE X e (mOf X ct f)
abbrev DV(X:Cx)(ct:Ct)(e:Expr)(f:Sg->Res Bool):Prop:=WT X e (Zq X ct f)
abbrev WDW(X:Cx)(ct:Ct)(e:Expr)(f:Sg->Res Bool):Prop:=WW X e (Zq X ct f)
abbrev CM(X:Cx)(ct:Ct)(es:`Þ)(f:`Æ):Prop:=WA X es (JW X ct f)
abbrev CL(X:Cx)(c:Cf)(st:Stmt)(F:Sg->Out):Prop:=WS X st (sOf X c F)
abbrev xV(X:Cx)(c:Cf)(sts:List Stmt)(F:Sg->Out):Prop:=WSs X sts (sOf X c F)
def af4:WA X [] agj:=⟨yx⟩
def Ri{e:Expr}(ha:WE X e te)(hr:WA X es t)(hs:`Ç:=by rfl):WA X (e::es) (VY te t):=⟨pA ha.out hr.out hs⟩
section
variable{X:Cx}{ct:Ct}{a b e:Expr}{f g:`Ñ}{H:Hp}{Γ:Sg}{σ:St}{pos:Pos}
def PE.imp{t u:TE}(h:PE X e t)(k:∀σ H Q,u σ H Q->t σ H Q):PE X e u:=λ pins s σ H Q I q=>h pins s σ H Q I (k σ H Q q)
def PT.imp{t u:TT}(h:PT X e t)(k:∀σ H Q,u σ H Q->t σ H Q):PT X e u:=λ pins s σ H Q I q=>h pins s σ H Q I (k σ H Q q)
def PW.imp{t u:TT}(h:PW X e t)(k:∀σ H Q,u σ H Q->t σ H Q):PW X e u:=λ wh pins s σ H Q I q=>h wh pins s σ H Q I (k σ H Q q)
def PA.imp{es:`Þ}{t u:TA}(h:PA X es t)(k:∀σ H Q,u σ H Q->t σ H Q):PA X es u:=λ pos pins s σ H Q I q=>h pos pins s σ H Q I (k σ H Q q)
def PS.imp{st:Stmt}{t u:TS}(h:PS X st t)(k:∀E σ H,u E σ H->t E σ H):PS X st u:=λ pins s σ H E I q=>h pins s σ H E I (k E σ H q)
def JX.imp{st:List Stmt}{t u:TS}(h:JX X st t)(k:∀E σ H,u E σ H->t E σ H):JX X st u:=λ pins s σ H E I q=>h pins s σ H E I (k E σ H q)
theorem rL.bnd{β:Type}{r:D->Res β}{W:β->Prop}{Q:VK}(j:Jx X ct Γ σ H)(h:Ok X ct σ H ((f Γ).bnd r) W) (k:∀d v H',ay H H'->Tl X.K ct H' d v->Jx X ct Γ σ H'->Ok X ct σ H (r d) W->Q v H'):rL X ct f σ H Q:=⟨Γ,j,h.bnd λ d _ q v H' s t=>k d v H' s t (j.mono s) q⟩
theorem JW.bnd{fa:`Æ}{β:Type}{r:List D->Res β}{W:β->Prop}{Q:List V->Hp->Prop}(j:Jx X ct Γ σ H)(h:Ok X ct σ H ((fa Γ).bnd r) W) (k:∀d v H',ay H H'->aF X.K ct H' d v->Jx X ct Γ σ H'->Ok X ct σ H (r d) W->Q v H'):JW X ct fa σ H Q:=⟨Γ,j,h.bnd λ d _ q v H' s t=>k d v H' s t (j.mono s) q⟩
theorem Zq.bnd{fa:Sg->Res Bool}{β:Type}{r:Bool->Res β}{W:β->Prop}{Q:Bool->Hp->Prop}(j:Jx X ct Γ σ H)(h:Ok X ct σ H ((fa Γ).bnd r) W) (k:∀d H',ay H H'->Jx X ct Γ σ H'->Ok X ct σ H (r d) W->Q d H'):Zq X ct fa σ H Q:=⟨Γ,j,h.bnd λ d _ q H' s=>k d H' s (j.mono s) q⟩
def Wd.mono{H2:Hp}{Q:VK}{d:D}(s:ay H H2)(h:Wd X ct H Q d):Wd X ct H2 Q d:=λ v H' e t=>h v H' (s.trans e) t
def Wt.mono{H2:Hp}{Q:Bool->Hp->Prop}{d:Bool}(s:ay H H2)(h:Wt H Q d):Wt H2 Q d:=λ H' e=>h H' (s.trans e)
def ah(i:Nat)(hN:X.N[i]? =some x:=by rfl)(hv:Vj X.env.scope x:=by first|exact Or.inl rfl|exact Or.inr (Or.inl rfl)|exact Or.inr (Or.inr rfl))(hd:(x==("__debug__":Str))=false:=by decide)(hcd:(x==("__classdict__":Str))=false:=by decide):WD X ct (.Name x pos) (aj i):=by
 refine ⟨?_⟩;refine PE.imp (Bf hN hv hd hcd) λ σ H Q ⟨Γ,j,h⟩=>?_;unfold aj at h;split at h
 ·rename_i d hd';obtain ⟨v,h1,h2⟩:=j.val hd';exact ⟨v,h1,h v H `Ù h2⟩
 ·exact h.elim
def oW(i:Nat)(tm:ct.tm=true:=by rfl)(hN:X.N[i]? =some x:=by rfl)(hv:Vj X.env.scope x:=by first|exact Or.inl rfl|exact Or.inr (Or.inl rfl)|exact Or.inr (Or.inr rfl))(hd:(x==("__debug__":Str))=false:=by decide)(hcd:(x==("__classdict__":Str))=false:=by decide):WD X ct (.Name x pos) (ju i):=by
 refine ⟨?_⟩;refine PE.imp (Bf hN hv hd hcd) λ σ H Q ⟨Γ,j,h⟩=>?_;unfold ju at h;split at h
 ·rename_i d hd';obtain ⟨v,h1,h2⟩:=j.val hd';exact ⟨v,h1,h v H `Ù h2⟩
 ·rename_i m hm;obtain ⟨v,S,h1,h2,h3,_⟩:=j.own hm;exact ⟨v,h1,h v H `Ù (h2.lend λ b z=>h3.lent b z tm)⟩
 ·rename_i m hm;obtain ⟨v,S,h1,h2,h3,_⟩:=j.par hm;exact ⟨v,h1,h v H `Ù (h2.lend λ b z=>h3.lent b z tm)⟩
 ·exact h.elim
def aA{i k pos}:WD X ct (.Constant (.int i) k pos) (dC (.int i)):=by exact ⟨PE.imp agS λ σ H Q ⟨Γ,j,h⟩=>h _ H `Ù (by simp[Tl])⟩
def HU{b k pos}:WD X ct (.Constant (.bool b) k pos) (dC (.bl b)):=by exact ⟨PE.imp ak3 λ σ H Q ⟨Γ,j,h⟩=>h _ H `Ù (by simp[Tl])⟩
def AN{k pos}:WD X ct (.Constant .none k pos) (dC .cU):=by exact ⟨PE.imp agQ λ σ H Q ⟨Γ,j,h⟩=>h _ H `Ù (by simp[Tl])⟩
def jL{x k pos}:WD X ct (.Constant (.str x) k pos) (dC (.str x)):=by exact ⟨PE.imp agO λ σ H Q ⟨Γ,j,h⟩=>h _ H `Ù (by simp[Tl])⟩
def ab5{v:V}(hg:Gl X x)(hm:X.mg x=some u)(r:RelV v u)(t:∀H,Tl X.K ct H d v)(hd:(x==("__debug__":Str))=false:=by decide):PD X ct (.Name x pos) (dC d):=PE.imp (RD hg hm r hd) λ σ H Q ⟨Γ,j,h⟩=>h _ H `Ù (t H)
def CV(X:Cx)(ct:Ct)(r2:R2)(r:D->D->Res D):Prop:=∀(σ:St) (H:Hp) (x y:V) (d1 d2:D) (Q:VK),ay ct.f.L H->ay ct.B H->Tl X.K ct H d1 x->Tl X.K ct H d2 y->Ok X ct σ H (r d1 d2) (Wd X ct H Q)->r2 x y H Q
def FW{r2:R2}{r:D->D->Res D}(ho:CV X ct r2 r):∀σ H Q,rL X ct (aH r f g) σ H Q->tOp r2 (rL X ct f) (rL X ct g) σ H Q:=by
 rintro σ H Q ⟨Γ,j,h⟩
 refine rL.bnd j h λ d1 v H1 s1 t1 j1 h1=>?_;refine rL.bnd (W:=Wd X ct H Q) j1 (Ok.mono s1 h1 λ _ z=>z) λ d2 u H2 s2 t2 j2 h2=>?_;exact ho σ H2 v u d1 d2 Q j2.lL j2.lB (t1.keep (ay.keep s2)) t2 (Ok.mono s2 h2 λ d q=>q.mono (s1.trans s2))
def Em{r:D->D->Res D}(hr:p8 X (binaryOp op) r2)(ho:CV X ct r2 r)(ha:PD X ct a f)(hb:PD X ct b g):PD X ct (.BinOp a op b pos) (aH r f g):=PE.imp (aei hr ha hb) (FW ho)
def FL{r:D->D->Res D}(hr:p8 X (compareOp op) r2)(ho:CV X ct r2 r)(ha:PD X ct a f)(hb:PD X ct b g)(hm:behindInMarks op b=false):PD X ct (.Compare a [op] [b] pos) (aH r f g):=PE.imp (ab3 hr ha hb hm) (FW ho)
def Kn{t:TE}(k:∀σ H Q,rL X ct f σ H Q->t σ H Q):∀σ H Q,Zq X ct (dT f) σ H Q->VX t σ H Q:=by
 rintro σ H Q ⟨Γ,j,h⟩
 refine k σ H _ (rL.bnd j h λ d v H' s t j' h'=>?_);cases d with
 |bl b=>simp only[Tl] at t;exact ⟨b,t,h' H' s⟩
 |_=>exact h'.elim
def o9{r:D->D->Res D}(hr:p8 X (compareOp op) r2)(ho:CV X ct r2 r)(ha:PD X ct a f)(hb:PD X ct b g)(hm:behindInMarks op b=false):PDT X ct (.Compare a [op] [b] pos) (dT (aH r f g)):=PT.imp (abR hr ha hb hm) (Kn (FW ho))
def jD(ha:WD X ct e f)(he:∀whole,isTrue e X.env whole=(do let v <-whole;standAt e.pos;holding [v] (truthy v)):=by intro _;rfl):DV X ct e (dT f):=by
 have ha:=ha.out
 exact ⟨PT.imp (agF ha he) (Kn λ _ _ _ z=>z)⟩
variable{p q:Sg->Res Bool}{rest:`Þ}
def AG(ha:DV X ct a p):WDW X ct (.BoolOp .And [a] pos) p:=by have ha:=ha.out;exact ⟨abQ ha⟩
def tX(ha:DV X ct a p):WDW X ct (.BoolOp .Or [a] pos) p:=by have ha:=ha.out;exact ⟨agC ha⟩
def Af(ha:DV X ct a p)(hb:WDW X ct (.BoolOp .And (b::rest) pos) q):WDW X ct (.BoolOp .And (a::b::rest) pos) (JL p q):=by
 have ha:=ha.out;have hb:=hb.out;refine ⟨?_⟩;refine PW.imp (agD ha hb) λ σ H Q ⟨Γ,j,h⟩=>?_;refine Zq.bnd j h λ c H' s j' h'=>?_;cases c with
 |true=>exact Jk ⟨Γ,j',Ok.mono s h' λ d z=>z.mono s⟩
 |false=>exact Jl (h' H' s)
def yf(ha:DV X ct a p)(hb:WDW X ct (.BoolOp .Or (b::rest) pos) q):WDW X ct (.BoolOp .Or (a::b::rest) pos) (cOr p q):=by
 have ha:=ha.out;have hb:=hb.out;refine ⟨?_⟩;refine PW.imp (akV ha hb) λ σ H Q ⟨Γ,j,h⟩=>?_;refine Zq.bnd j h λ c H' s j' h'=>?_;cases c with
 |true=>exact Jk (h' H' s)
 |false=>exact Jl ⟨Γ,j',Ok.mono s h' λ d z=>z.mono s⟩
def vM{e:Expr}(h:WDW X ct e p):DV X ct e p:=by have h:=h.out;exact ⟨h.pt⟩
def iz(ha:DV X ct a p):DV X ct (.UnaryOp .Not a pos) (rN p):=by have ha:=ha.out;refine ⟨?_⟩;refine PT.imp (agG ha) λ σ H Q ⟨Γ,j,h⟩=>?_;exact Zq.bnd j h λ c H' s j' h'=>h' H' s
def VI{op}(h:WD X ct a f):WD X ct (.BoolOp op [a] pos) f:=by have h:=h.out;exact ⟨agP h⟩
def af2(ha:WD X ct a f)(hb:WD X ct (.BoolOp .And (b::rest) pos) g):WD X ct (.BoolOp .And (a::b::rest) pos) (adv f g):=by
 have ha:=ha.out;have hb:=hb.out;refine ⟨?_⟩;refine PE.imp (agU ha hb) λ σ H Q ⟨Γ,j,h⟩=>?_;refine rL.bnd j h λ d v H' s t j' h'=>?_;cases d with
 |bl c=>
  simp only[Tl] at t;refine ⟨c,t,?_⟩;cases c with
  |true=>exact Jk ⟨Γ,j',Ok.mono s h' λ d z=>z.mono s⟩
  |false=>exact Jl (h' _ H' s (by simp[Tl]))
 |_=>exact h'.elim
def akc(ha:WD X ct a f)(hb:WD X ct (.BoolOp .Or (b::rest) pos) g):WD X ct (.BoolOp .Or (a::b::rest) pos) (dOr f g):=by
 have ha:=ha.out;have hb:=hb.out;refine ⟨?_⟩;refine PE.imp (ak1 ha hb) λ σ H Q ⟨Γ,j,h⟩=>?_;refine rL.bnd j h λ d v H' s t j' h'=>?_;cases d with
 |bl c=>
  simp only[Tl] at t;refine ⟨c,t,?_⟩;cases c with
  |true=>exact Jk (h' _ H' s (by simp[Tl]))
  |false=>exact Jl ⟨Γ,j',Ok.mono s h' λ d z=>z.mono s⟩
 |_=>exact h'.elim
def ak:CM X ct [] az:=by exact ⟨PA.imp yx λ σ H Q ⟨Γ,j,h⟩=>h [] H `Ù aF.nil⟩
def aa{r:`Æ}(ha:WD X ct e f)(hr:CM X ct es r)(hs:`Ç:=by rfl):CM X ct (e::es) (ai f r):=by have ha:=ha.out;have hr:=hr.out;refine ⟨?_⟩;refine PA.imp (pA ha hr hs) λ σ H Q ⟨Γ,j,h⟩=>?_;refine rL.bnd j h λ d v H1 s1 t1 j1 h1=>?_;refine JW.bnd (W:=Wa X ct H Q) j1 (Ok.mono s1 h1 λ _ z=>z) λ ds vs H2 s2 t2 j2 h2=>?_;exact h2 _ H2 (s1.trans s2) (aF.cons (t1.keep (ay.keep s2)) t2)
def bf{H:Hp}{p:Addr}(h:H p=none)(o:HO):ay H (upd H p o):=λ b u q=>by rw[aE (jN q h)];exact q
def eW{r:`Æ}{x1}(h:CM X ct es r):WD X ct (.Tuple es x1 pos) (iG r):=by
 have h:=h.out;refine ⟨?_⟩;refine PE.imp (WH h) λ σ H Q ⟨Γ,j,h⟩=>?_;refine JW.bnd j h λ ds vs H1 s1 t1 j1 h1=>?_;split at h1
 ·rename_i hl;refine ⟨ũ (tZ (by rw[<-t1.length];exact hl)),λ p hp=>?_⟩;have s2:=bf hp (.tup vs);refine h1 _ _ (s1.trans s2) ?_;simp only[Tl];exact ⟨p,vs,rfl,aC,t1.keep (ay.keep s2)⟩
 ·exact h1.elim
def nV{r:`Æ}(h:CM X ct es r):WL X ct (.List es pos) (vH r):=by
 have h:=h.out;refine ⟨?_⟩;refine PE.imp (agR h) λ σ H Q ⟨Γ,j,h⟩=>?_;refine JW.bnd j h λ ds vs H1 s1 t1 j1 h1=>?_;split at h1
 ·rename_i hl;refine ⟨ũ (tZ (by rw[<-t1.length];exact hl)),λ p hp=>?_⟩;have s2:=bf hp (.lst vs);exact h1 p vs _ (s1.trans s2) (s1.free hp) aC (t1.keep (ay.keep s2))
 ·exact h1.elim
end
section
variable{P:Program}{w:World}
def zx(x:eV P w H h a o):∃ob,h.get? a=some ob:=by
 cases o with
 |lst xs=>obtain ⟨_,_,_,_,e⟩:=x;exact ⟨_,e⟩
 |tup xs=>obtain ⟨_,_,_,ob,e,_⟩:=x;exact ⟨_,e⟩
 |dK kvs=>obtain ⟨_,_,_,_,o,_,_,e,_⟩:=x;exact ⟨_,e⟩
 |dT kvs=>obtain ⟨_,_,_,_,o,_,_,e,_⟩:=x;exact ⟨_,e⟩
 |set S n=>obtain ⟨o,_,_,_,e,_⟩:=x;exact ⟨_,e⟩
 |ins C dx fs=>obtain ⟨_,_,_,e,_⟩:=x;exact ⟨_,e⟩
 |own y=>obtain ⟨_,e⟩:=x;exact ⟨_,e⟩
 |xd fs=>obtain ⟨_,⟨_,_,_,e,_⟩,_⟩:=x;exact ⟨_,e⟩
 |rng lo hi=>obtain ⟨_,_,_,e⟩:=x;exact ⟨_,e⟩
 |CU ob u=>obtain ⟨e,_⟩:=x;exact ⟨_,e⟩
 |sf ps=>exact ⟨_,(show h.get? a=some _ from x)⟩
 |met f y=>exact ⟨_,(show h.get? a=some _ from x)⟩
 |ext φ=>obtain ⟨_,⟨_,e⟩,_⟩:=x;exact ⟨_,e⟩
end
section
variable{X:Cx}{ct:Ct}{pins:`Ê}{σ:St}{H:Hp}{s:Shared}{a:Addr}{o o':HO}{vs:List V}
def Inv.Wg(I:`Ä)(ha:H a=some o)(h0:X.H₀ a=none)(nt:∀xs,o≠.tup xs)(no:∀y,o≠.own y)(new:eV X.prog X.w (upd H a o') s.heap a o'):Inv X pins σ (upd H a o') s:=by
 have ne:∀b,H b=none->b≠a:=λ b hb z=>by subst z;rw[ha] at hb;cases hb
 have ne0:∀b u,X.H₀ b=some u->b≠a:=λ b u hb z=>by subst z;rw[h0] at hb;cases hb
 refine ⟨I.ok,I.os,I.bare,⟨I.base.keep,I.base.slot,λ b u q n hx=>?_,I.base.there,λ b xs q=>?_,λ b u v q=>?_,λ b ps q=>?_⟩,I.loc,I.cell,?_,λ x c h=>?_,λ p hp=>?_,λ b u e=>?_,I.len⟩
 ·have:=I.base.free b u q n hx;rw[aE (ne b this)];exact this
 ·rw[aE (ne0 b _ q)];exact I.base.tups b xs q
 ·rw[aE (ne0 b _ q)];exact I.base.z8 b u v q
 ·rw[aE (ne0 b _ q)];exact I.base.AW b ps q
 ·rw[aE (ne _ I.free)];exact I.free
 ·rw[aE (ne _ (I.uT x c h))];exact I.uT x c h
 ·obtain ⟨h1,h2,h3,h4,h5⟩:=I.pin p hp;exact ⟨h1,by rw[aE (ne _ h2)];exact h2,h3,h4,h5⟩
 ·by_cases hb:b=a
  ·subst hb;rw[aC] at e;cases e;exact new
  ·rw[aE hb] at e;refine (I.hok b u e).stay (λ c v _ q=>q) (λ c q=>?_) (λ c xs q=>?_)
   ·have:c≠a:=by rintro rfl;rw[ha] at q;exact no _ (ĝ q)
    rw[aE this];exact q
   ·have:c≠a:=by rintro rfl;rw[ha] at q;exact nt _ (ĝ q)
    rw[aE this];exact q
def Inv.freeze(I:`Ä)(ha:H a=some (.lst vs))(h0:X.H₀ a=none):∃ob,Inv X pins σ (upd H a (.CU ob (.lst vs))) s:=by obtain ⟨z,its,n,r,e⟩:=I.hok a _ ha;refine ⟨_,Inv.Wg I ha h0 (λ _ q=>nomatch q) (λ _ q=>nomatch q) ⟨e,z,its,n,r,e⟩⟩
def Inv.Ss{ks:Ks}{us:List V}(I:`Ä)(ha:H a=some (ks.ho us))(h0:X.H₀ a=none):∃ob,Inv X pins σ (upd H a (.CU ob (ks.ho us))) s:=by
 have q:=I.hok a _ ha;obtain ⟨ob,e⟩:=zx q;refine ⟨ob,Inv.Wg I ha h0 (λ _ q=>by cases ks<;>cases q) (λ _ q=>by cases ks<;>cases q) ⟨e,?_⟩⟩;refine q.stay (λ c v _ z=>z) (λ c z=>?_) (λ c xs z=>?_)
 ·have:c≠a:=λ y=>by subst y;rw[ha] at z;cases ks<;>cases z
  rw[aE this];exact z
 ·have:c≠a:=λ y=>by subst y;rw[ha] at z;cases ks<;>cases z
  rw[aE this];exact z
structure Fz(X:Cx)(ct:Ct)(pins:`Ê)(σ:St)(s:Shared)(S:Fp)(H H':Hp):Prop where
 inv:Inv X pins σ H' s
 un:∀b o,H b=some o->¬S b->H' b=some o
 keep:aW ct.f.cb H H'
 free:∀b,H' b=none->H b=none
def Fz.step(z:Fz X ct pins σ s S H H1)(ha:H1 a=some o)(hs:S a)(no:¬aiJ ct.f.cb o)(I:Inv X pins σ (upd H1 a o') s):Fz X ct pins σ s S H (upd H1 a o'):=by
 refine ⟨I,λ b u q n=>?_,z.keep.trans λ b u hb st=>?_,λ b q=>?_⟩
 ·have:b≠a:=by rintro rfl;exact n hs
  rw[aE this];exact z.un b u q n
 ·have:b≠a:=by rintro rfl;rw[ha] at hb;cases hb;exact no st
  rw[aE this];exact hb
 ·by_cases e:b=a
  ·subst e;rw[aC] at q;cases q
  ·rw[aE e] at q;exact z.free b q
mutual
theorem Inv.Jz:∀{m:M} {v:V} {S:Fp} {H:Hp},z7 m=true->Inv X pins σ H s->Ow X.K ct H m v S->(∀b,S b->X.H₀ b=none)->∃H',Fz X ct pins σ s S H H'/\Tl X.K ct H' (L4.Jz m) v
 | .d x,v,S,H,fo,I,h,_=>by simp only[Ow] at h;exact ⟨H,⟨I,λ _ _ q _=>q,aW.refl H,λ _ q=>q⟩,by simpa only[L4.Jz] using h⟩
 | .l xs,v,S,H,fo,I,h,n=>by simp only[Ow] at h;obtain ⟨a,vs,rfl,h2,h3,h4⟩:=h;obtain ⟨ob,I2⟩:=Inv.freeze I h3 (n a h2);have z:Fz X ct pins σ s S H H:=⟨I,λ _ _ q _=>q,aW.refl H,λ _ q=>q⟩;have z2:=z.step h3 h2 (λ q=>q) I2;refine ⟨_,z2,?_⟩;simp only[L4.Jz,Tl];exact ⟨a,vs,rfl,.inl ⟨ob,aC⟩,h4.keep z2.keep⟩
 | .n ms,v,S,H,fo,I,h,n=>by simp only[Ow] at h;obtain ⟨a,vs,rfl,h2,h3,h4⟩:=h;obtain ⟨H1,z1,t1⟩:=Inv.uD (by simpa[z7] using fo) I h4 λ b w=>n b w.1;have h3':=z1.un a _ h3 λ w=>w.2 rfl;obtain ⟨ob,I2⟩:=Inv.freeze z1.inv h3' (n a h2);have z2:Fz X ct pins σ s S H H1:=⟨z1.inv,λ b o q w=>z1.un b o q λ u=>w u.1,z1.keep,z1.free⟩;have z3:=z2.step h3' h2 (λ q=>q) I2;refine ⟨_,z3,?_⟩;simp only[L4.Jz,Tl];exact ⟨a,vs,rfl,.inl ⟨ob,aC⟩,t1.keep (aW.lst h3')⟩
 | .t ms,v,S,H,fo,I,h,n=>by simp only[Ow] at h;obtain ⟨a,vs,rfl,h2,h3⟩:=h;obtain ⟨H1,z1,t1⟩:=Inv.uD (by simpa[z7] using fo) I h3 n;refine ⟨H1,z1,?_⟩;simp only[L4.Jz,Tl];exact ⟨a,vs,rfl,z1.keep _ _ h2 trivial,t1⟩
 | .k ks xs,v,S,H,fo,I,h,n=>by simp only[Ow] at h;obtain ⟨a,vs,rfl,h2,h3,h4,h5⟩:=h;obtain ⟨ob,I2⟩:=Inv.Ss I h3 (n a h2);have z:Fz X ct pins σ s S H H:=⟨I,λ _ _ q _=>q,aW.refl H,λ _ q=>q⟩;have z2:=z.step h3 h2 Ks.Bv I2;refine ⟨_,z2,?_⟩;simp only[L4.Jz,Tl];exact ⟨a,vs,rfl,⟨ob,aC⟩,h4,h5.keep z2.keep⟩
 | .o c ns xs,v,S,H,fo,I,h,n=>by simp[z7] at fo
 | .q ks ms,v,S,H,fo,I,h,n=>by
  simp only[Ow] at h;obtain ⟨a,vs,rfl,h2,h3,h4,h5⟩:=h;obtain ⟨H1,z1,t1⟩:=Inv.uD (by simpa[z7] using fo) I h5 λ b w=>n b w.1;have h3':=z1.un a _ h3 λ w=>w.2 rfl;obtain ⟨ob,I2⟩:=Inv.Ss z1.inv h3' (n a h2);have z2:Fz X ct pins σ s S H H1:=⟨z1.inv,λ b o q w=>z1.un b o q λ u=>w u.1,z1.keep,z1.free⟩;have z3:=z2.step h3' h2 Ks.Bv I2;refine ⟨_,z3,?_⟩;simp only[L4.Jz,Tl];exact ⟨a,vs,rfl,⟨ob,aC⟩,h4,t1.keep (λ b u hb st=>by
   have:b≠a:=by rintro rfl;rw[h3'] at hb;cases hb;exact Ks.Bv st
   rw[aE this];exact hb)⟩
theorem Inv.uD:∀{ms:List M} {vs:List V} {S:Fp} {H:Hp},xA ms=true->Inv X pins σ H s->eU X.K ct H ms vs S->(∀b,S b->X.H₀ b=none)->∃H',Fz X ct pins σ s S H H'/\aF X.K ct H' (L4.uD ms) vs
 |[],vs,S,H,fo,I,h,_=>by simp only[eU] at h;exact ⟨H,⟨I,λ _ _ q _=>q,aW.refl H,λ _ q=>q⟩,by simpa only[L4.uD,aF] using h⟩
 |m::ms,vs,S,H,fo,I,h,n=>by simp only[eU] at h;obtain ⟨v,r,S1,S2,rfl,h2,h3,h4,h5,h6⟩:=h;obtain ⟨H1,z1,t1⟩:=Inv.Jz (āf.mp (by simpa[xA] using fo)).1 I h5 λ b w=>n b (h2 b w);have h6':=h6.frame z1.keep λ b o w q=>z1.un b o q λ u=>h4 b u w;obtain ⟨H2,z2,t2⟩:=Inv.uD (āf.mp (by simpa[xA] using fo)).2 z1.inv h6' λ b w=>n b (h3 b w);refine ⟨H2,⟨z2.inv,λ b o q w=>z2.un b o (z1.un b o q λ u=>w (h2 b u)) λ u=>w (h3 b u),z1.keep.trans z2.keep,λ b q=>z1.free b (z2.free b q)⟩,?_⟩;simp only[L4.uD,aF];exact ⟨v,r,rfl,t1.keep z2.keep,t2⟩
end
def Iq{e:Expr}(h:PL X ct e f):PM X ct e (mL f):=by
 refine PE.imp h λ σ H Q ⟨Γ,j,q⟩=>⟨Γ,j,q.bnd λ ds _ w a vs H' s n k t=>?_⟩;refine w (.ref a) H' (λ b=>b=a) s ?_ (λ b z=>z▸n) λ b z q=>by subst z;rw[k] at q;cases q
 simp only[Ow];exact ⟨a,vs,rfl,rfl,k,t⟩
def fY{e:Expr}(h:WL X ct e f):WM X ct e (mL f):=⟨Iq (h:=h.out)⟩
def Wv{e:Expr}(h:PD X ct e f):PM X ct e (mD f):=by refine PE.imp h λ σ H Q ⟨Γ,j,q⟩=>⟨Γ,j,q.bnd λ d _ w v H' s t=>?_⟩;exact w v H' (λ _=>False) s (by simpa only[Ow] using t) (λ _ z=>z.elim) λ _ z=>z.elim
def sE{e:Expr}(h:PM X ct e f):PD X ct e (lu f):=by
 intro pins s σ H Q I ⟨Γ,j,q⟩;have t:mOf X ct f σ H (λ v H'=>∃m S,ay H H'/\Ow X.K ct H' m v S/\(∀b,S b->H b=none)/\z7 m=true/\Wd X ct H Q (Jz m)):=
  ⟨Γ,j,q.bnd λ m _ w v H' S s o n k=>by
   unfold Vr at w;split at w
   ·rename_i fo;exact ⟨m,S,s,o,n,fo,w⟩
   ·exact w.elim⟩
 refine fV (h pins s σ H _ I t) λ v s1 ⟨x,H1,I1,r1,m,S,e1,o,n,fo,w⟩=>?_;obtain ⟨H2,z,t2⟩:=Inv.Jz fo I1 o λ b u=>j.free b (n b u);exact ⟨x,H2,z.inv,r1,w x H2 (λ b u q=>z.un b u (e1 b u q) λ y=>by rw[n b y] at q;cases q) t2⟩
def c8{e:Expr}(h:WM X ct e f):WD X ct e (lu f):=⟨sE (h:=h.out)⟩
def fZ{e:Expr}(h:WL X ct e f):WD X ct e (ze f):=by
 have h:=h.out;refine ⟨?_⟩;have e':ze f=lu (mL f):=funext λ Γ=>by simp only[ze,lu,mL];cases f Γ<;>rfl
 rw[e'];exact sE (Iq h)
end
section
variable{X:Cx}{c:Cf}{st:Stmt}{rest:List Stmt}{F G:Sg->Out}{e:Expr}{f:`Ñ}{fl:Sg->Res M}{p:Sg->Res Bool}{pos:Pos}{H:Hp}{Γ:Sg}{σ:St}
theorem Fn.ok{α:Type}{B:Hp}{tm:Bool}{r:Res α}{k:α->Out}{E:Ends}{W:α->Prop}(j:Jx X c.z Γ σ H)(h:Fn X c H (oE r Γ k) E)(w:∀d,r= .ok d->Fn X c H (k d) E->W d):Ok X ⟨c,B,tm⟩ σ H r W:=by
 cases r with
 |ok d=>exact w d rfl h
 |err x=>exact λ e s' q=>h σ H e s' (aW.refl H) j q
 |bad=>exact h.elim
def aO:xV X c [] dW:=by exact ⟨JX.imp abT λ E σ H ⟨Γ,j,h⟩=>h σ H (aW.refl H) j⟩
def au(h1:CL X c st F)(h2:xV X c rest G):xV X c (st::rest) (aU F G):=by
 have h1:=h1.out;have h2:=h2.out;refine ⟨?_⟩;refine JX.imp (Wr h1 h2) λ E σ H ⟨Γ,j,h⟩=>⟨Γ,j,?_⟩;unfold aU at h;cases q:F Γ with
 |nx Γ'=>rw[q] at h;exact λ σ' H' k j'=>⟨Γ',j',h.mono k⟩
 |bk Γ'=>rw[q] at h;exact h
 |ct Γ'=>rw[q] at h;exact h
 |rt d=>rw[q] at h;exact h
 |Rx ds=>rw[q] at h;exact h
 |rtG d Γ'=>rw[q] at h;exact h
 |Im d Γ'=>rw[q] at h;exact h
 |err x Γ'=>rw[q] at h;exact h
 |bad=>rw[q] at h;exact h
def aq(h1:CL X c st F):xV X c [st] F:=by have h1:=h1.out;exact ⟨abS h1⟩
def VG(he:∀B,WD X (c.at' B) e f)(hs:swapsWith e none pos.line X.env=pure false:=by rfl):CL X c (.Expr e pos) (qi f):=by have he:=λ B=>(he B).out;refine ⟨?_⟩;intro pins s σ H E I ⟨Γ,j,h⟩;exact Aj (he H) hs pins s σ H E I ⟨Γ,j.lift,Fn.ok j h λ d _ q v H' s t=>q σ H' (ay.keep s) (j.mono s)⟩
def aM(he:WD X c.z e f):CL X c (.Return (some e) pos) (gj f):=by have he:=he.out;exact ⟨PS.imp (FG he) λ E σ H ⟨Γ,j,h⟩=>⟨Γ,j,Fn.ok j h λ d _ q v H' s t=>q v H' (j.mono s).bk t⟩⟩
def VF(he:∀B,WD X (c.at' B) e f):CL X c (.Return (some e) pos) (Wc f):=by
 have he:=λ B=>(he B).out;refine ⟨?_⟩;intro pins s σ H E I ⟨Γ,j,h⟩;refine FG (he H) pins s σ H E I ⟨Γ,j.lift,Fn.ok j h λ d _ q v H' s t=>?_⟩;split at q
 ·rename_i n;exact q v H' (j.mono s).bk (t.down n)
 ·exact q.elim
def jg(he:∀B,WM X (c.at' B) e fl):CL X c (.Return (some e) pos) (rV fl):=by
 have he:=λ B=>(he B).out;refine ⟨?_⟩;intro pins s σ H E I ⟨Γ,j,h⟩;refine FG (he H) pins s σ H E I ⟨Γ,j.lift,Fn.ok j h λ m _ q v H' S s o n k=>?_⟩;split at q
 ·rename_i nn;exact q v H' S (j.mono s).bk (o.down nn) (λ b z=>j.free b (n b z)) k
 ·exact q.elim
def AK(i:Nat)(hN:X.N[i]? =some x:=by rfl)(hv:Vj X.env.scope x:=by first|exact Or.inl rfl|exact Or.inr (Or.inl rfl)|exact Or.inr (Or.inr rfl))(hd:(x==("__debug__":Str))=false:=by decide)(hcd:(x==("__classdict__":Str))=false:=by decide):CL X c (.Return (some (.Name x pos')) pos) (A7 i):=by
 refine ⟨?_⟩;refine PS.imp (FG (Bf hN hv hd hcd)) λ E σ H ⟨Γ,j,h⟩=>?_;unfold A7 at h;split at h
 ·rename_i m hi;obtain ⟨v,S,h1,h2,h3,h4⟩:=j.own hi;exact ⟨_,h1,h v H S j.bk h2 h4 h3.here⟩
 ·rename_i d hi;obtain ⟨v,h1,h2⟩:=j.val hi;exact ⟨_,h1,h v H j.bk h2⟩
 ·exact h.elim
def afZ{ce:Expr}(hc:∀B,DV X (c.at' B) ce p)(ha:xV X c a F)(hb:xV X c b G):CL X c (.If ce a b pos) (uM p F G):=by
 have hc:=λ B=>(hc B).out;have ha:=ha.out;have hb:=hb.out;refine ⟨?_⟩;intro pins s σ H E I ⟨Γ,j,h⟩;refine aee (hc H) ha hb pins s σ H E I ⟨Γ,j.lift,Fn.ok j h λ x _ q H' s=>?_⟩;cases x with
 |true=>exact Jk ⟨Γ,j.mono s,Fn.mono (ay.keep s) q⟩
 |false=>exact Jl ⟨Γ,j.mono s,Fn.mono (ay.keep s) q⟩
def aZ(i:Nat)(hN:X.N.Nodup)(he:WD X c.z e f)(hi:X.N[i]? =some x:=by rfl)(hx:Loc X.env.scope x:=by first|exact Or.inl rfl|exact Or.inr rfl)(hs:swapsWith e (some (.Name x pos')) pos.line X.env=pure false:=by rfl)(hf:X.fn x=true\/X.env.scope.names.lookup x=some .local:=by first|exact .inl rfl|exact .inr rfl):CL X c (.Assign [.Name x pos'] e pos) (iF i f):=by have he:=he.out;exact ⟨PS.imp (KG hN hi hx he hs hf) λ E σ H ⟨Γ,j,h⟩=>⟨Γ,j,Fn.ok j h λ d _ q v H' s t=>q _ H' (ay.keep s) ((j.mono s).set t)⟩⟩
def HN(i:Nat)(hN:X.N.Nodup)(he:∀B,WD X (c.at' B) e f)(hi:X.N[i]? =some x:=by rfl)(hx:Loc X.env.scope x:=by first|exact Or.inl rfl|exact Or.inr rfl)(hs:swapsWith e (some (.Name x pos')) pos.line X.env=pure false:=by rfl)(hf:X.fn x=true\/X.env.scope.names.lookup x=some .local:=by first|exact .inl rfl|exact .inr rfl):CL X c (.Assign [.Name x pos'] e pos) (Eg i f):=by
 have he:=λ B=>(he B).out;refine ⟨?_⟩;intro pins s σ H E I ⟨Γ,j,h⟩;refine KG hN hi hx (he H) hs hf pins s σ H E I ⟨Γ,j.lift,Fn.ok j h λ d _ q v H' s t=>?_⟩;split at q
 ·rename_i n;exact q _ H' (ay.keep s) ((j.mono s).set (t.down n))
 ·exact q.elim
def r9(i:Nat)(hN:X.N.Nodup)(he:∀B,WM X (c.at' B) e fl)(hi:X.N[i]? =some x:=by rfl)(hx:Loc X.env.scope x:=by first|exact Or.inl rfl|exact Or.inr rfl)(hs:swapsWith e (some (.Name x pos')) pos.line X.env=pure false:=by rfl)(hf:X.fn x=true\/X.env.scope.names.lookup x=some .local:=by first|exact .inl rfl|exact .inr rfl):CL X c (.Assign [.Name x pos'] e pos) (uL i fl):=by
 have he:=λ B=>(he B).out;refine ⟨?_⟩;intro pins s σ H E I ⟨Γ,j,h⟩;refine KG hN hi hx (he H) hs hf pins s σ H E I ⟨Γ,j.lift,Fn.ok j h λ m _ q v H' S s o n k=>?_⟩;split at q
 ·rename_i nn;exact q _ H' (ay.keep s) (j.setM s rfl (o.down nn) n k)
 ·exact q.elim
end
section
variable{X:Cx}{ct:Ct}{tg:Expr}{H:Hp}{Γ:Sg}{σ:St}{pos:Pos}
def gOf(X:Cx)(ct:Ct)(t:Tg):TG:=λ v σ H Q=>∃Γ d Γ',Jx X ct Γ σ H/\Tl X.K ct H d v/\t d Γ=some Γ'/\∀σ',Jx X ct Γ' σ' H->Q σ' H
def alP(X:Cx)(ct:Ct)(t:Tgs):TGs:=λ vs σ H Q=>∃Γ ds Γ',Jx X ct Γ σ H/\aF X.K ct H ds vs/\t ds Γ=some Γ'/\∀σ',Jx X ct Γ' σ' H->Q σ' H
def PG.imp{t u:TG}(h:PG X tg t)(k:∀v σ H Q,u v σ H Q->t v σ H Q):PG X tg u:=λ pins s σ H v w Q I r q=>h pins s σ H v w Q I r (k v σ H Q q)
def PGs.imp{es:`Þ}{t u:TGs}(h:PGs X es t)(k:∀v σ H Q,u v σ H Q->t v σ H Q):PGs X es u:=λ pins s σ H v w Q I r q=>h pins s σ H v w Q I r (k v σ H Q q)
abbrev PGD(X:Cx)(ct:Ct)(tg:Expr)(t:Tg):Prop:=PG X tg (gOf X ct t)
abbrev atp(X:Cx)(ct:Ct)(tg:`Þ)(t:Tgs):Prop:=PGs X tg (alP X ct t)
structure WG(X:Cx)(tg:Expr)(t:TG):Prop where
 out:PG X tg t
structure WGs(X:Cx)(tg:`Þ)(t:TGs):Prop where
 out:PGs X tg t
abbrev WGD(X:Cx)(ct:Ct)(tg:Expr)(t:Tg):Prop:=WG X tg (gOf X ct t)
abbrev adD(X:Cx)(ct:Ct)(tg:`Þ)(t:Tgs):Prop:=WGs X tg (alP X ct t)
def aT(i:Nat)(hN:X.N.Nodup)(hi:X.N[i]? =some x:=by rfl)(hx:Loc X.env.scope x:=by first|exact Or.inl rfl|exact Or.inr rfl)(hf:X.fn x=true\/X.env.scope.names.lookup x=some .local:=by first|exact .inl rfl|exact .inr rfl):WGD X ct (.Name x pos) (aD i):=by
 refine ⟨?_⟩;refine PG.imp (ab1 hN hi hx hf) ?_
 rintro v σ H Q ⟨Γ,d,Γ',j,t,e,q⟩
 cases e;exact q _ (j.set t)
def qc:adD X ct [] kj:=by
 refine ⟨?_⟩;refine PGs.imp ab0 ?_
 rintro vs σ H Q ⟨Γ,ds,Γ',j,t,e,q⟩
 cases ds with
 |nil=>simp only[aF] at t;cases e;exact ⟨t,q _ j⟩
 |cons d r=>cases e
def eX{e:Expr}(h1:WGD X ct e t)(h2:adD X ct es u)(hs:(assignEach (e::es) X.env).map (·.2)=assign e X.env::(assignEach es X.env).map (·.2):=by rfl):adD X ct (e::es) (aY t u):=by
 have h1:=h1.out;have h2:=h2.out;refine ⟨?_⟩;refine PGs.imp (WB h1 h2 hs) ?_
 rintro vs σ H Q ⟨Γ,ds,Γ',j,tl,e,q⟩
 cases ds with
 |nil=>cases e
 |cons d r=>simp only[aF] at tl;obtain ⟨v,vr,rfl,t1,t2⟩:=tl;simp only[aY,Ām] at e;obtain ⟨Γ1,e1,e2⟩:=e;exact ⟨v,vr,rfl,Γ,d,Γ1,j,t1,e1,λ σ' j'=>⟨Γ1,r,Γ',j',t2,e2,q⟩⟩
def tW(hc:X.calm=true)(h:adD X ct es t)(hn:(assignEach es X.env).length=n:=by rfl)(hst:(assignEach es X.env).findIdx? (·.1)=none:=by rfl):WGD X ct (.Tuple es k pos) (jh n t):=by
 have h:=h.out;refine ⟨?_⟩;refine PG.imp (agM hc h hn hst) ?_
 rintro v σ H Q ⟨Γ,d,Γ',j,tl,e,q⟩
 cases d with
 |tup ds=>
  simp only[Tl] at tl;obtain ⟨a,vs,rfl,h1,h2⟩:=tl;simp only[jh] at e;split at e
  ·rename_i hl;exact ⟨a,vs,rfl,oh h1,by rw[<-h2.length];exact hl,Γ,ds,Γ',j,h2,e,q⟩
  ·cases e
 |_=>cases e
def VH{e:Expr}(he:∀B,WD X (c.at' B) e f)(hg:WGD X c.z tg t)(hs:swapsWithSole [tg] e pos.line X.env=pure false:=by rfl)(hw:swappedStores [tg] e X.env=pure none:=by rfl)(h1:(assignEach [tg] X.env).map (·.2)=[assign tg X.env]:=by rfl):CL X c (.Assign [tg] e pos) (Rv f t):=by
 have he:=λ B=>(he B).out;have hg:=hg.out;refine ⟨?_⟩;intro pins s σ H E I ⟨Γ,j,h⟩;refine Wu (he H) hg hs hw h1 pins s σ H E I ⟨Γ,j.lift,Fn.ok j h λ d _ q v H' s tl=>?_⟩;split at q
 ·rename_i n;cases e:t d Γ with
  |some Γ'=>rw[e] at q;exact ⟨Γ,d,Γ',j.mono s,tl.down n,e,λ σ' j'=>q σ' H' (ay.keep s) j'⟩
  |none=>rw[e] at q;exact q.elim
 ·exact q.elim
def abm{c:Cf}(i j:Nat){x y:Str}{a b:Expr}{r:`Æ}{px py pt:Pos}{kt k2 pt2}(hc:X.calm=true)(hN:X.N.Nodup)(ha:CM X c.z [a,b] r)(hi:X.N[i]? =some x:=by rfl)(hj:X.N[j]? =some y:=by rfl)(hij:i≠j:=by decide)(hx:X.env.scope.names.lookup x=some .local:=by rfl)(hy:X.env.scope.names.lookup y=some .local:=by rfl)(hw:swappedStores [.Tuple [.Name x px,.Name y py] kt pt] (.Tuple [a,b] k2 pt2) X.env=pure (some [x,y]):=by rfl)(hs:swapsWithSole [.Tuple [.Name x px,.Name y py] kt pt] (.Tuple [a,b] k2 pt2) pos.line X.env=pure false:=by rfl):CL X c (.Assign [.Tuple [.Name x px,.Name y py] kt pt] (.Tuple [a,b] k2 pt2) pos) (agx i j r):=by
 have ha:=ha.out;refine ⟨?_⟩;refine PS.imp (agI hc hN hi hj hij hx hy ha hw hs) λ E σ H ⟨Γ,j,h⟩=>⟨Γ,j,Fn.ok j h λ ds _ q vs H' s tl=>?_⟩;match ds,q,tl with
 |[d1,d2],q,tl=>simp only[aF] at tl;obtain ⟨v1,r1,rfl,t1,v2,r2,rfl,t2,rfl⟩:=tl;exact ⟨v1,v2,rfl,q _ H' (ay.keep s) (((j.mono s).set t1).set t2)⟩
 |[],q,_=>exact q.elim
 |[_],q,_=>exact q.elim
 |_::_::_::_,q,_=>exact q.elim
end
structure Good(X:Cx):Prop where
 po:PassesOwn `É X.A X.env X.xe
 calm:X.calm=true
 nd:X.N.Nodup
 own:X.stack=X.env::X.outer/\X.env.frame=some X.env.locals
section
variable{X:Cx}{c:Cf}{tg iter:Expr}{f:`Ñ}{t:Tg}{B:Sg->Out}{body:List Stmt}{pos:Pos}
def abu(k1:aW c.cb H' H1)(e1:t d Γ1=some Γ2)(hx:gf t B (d::xs) Γ1=o)(h:Fn X c H' o E)(hn:∀Γ3 σ3 H3,aW c.cb H' H3->Jx X c.z Γ3 σ3 H3->gf t B xs Γ3=o->Pn σ3 H3):Fn X c H1 (B Γ2) {E with nx:=Pn,ct:=Pn,bk:=E.nx}:=by
 simp only[gf,e1] at hx;cases q:B Γ2 with
 |nx Γ3=>rw[q] at hx;exact λ σ3 H3 k3 j3=>hn Γ3 σ3 H3 (k1.trans k3) j3 hx
 |ct Γ3=>rw[q] at hx;exact λ σ3 H3 k3 j3=>hn Γ3 σ3 H3 (k1.trans k3) j3 hx
 |bk Γ3=>rw[q] at hx;subst hx;exact λ σ3 H3 k3 j3=>h σ3 H3 (k1.trans k3) j3
 |rt d=>rw[q] at hx;subst hx;exact h
 |Rx d=>rw[q] at hx;subst hx;exact h
 |rtG d Γ3=>rw[q] at hx;subst hx;exact h
 |Im d Γ3=>rw[q] at hx;subst hx;exact h
 |err x Γ3=>rw[q] at hx;subst hx;exact λ σ3 H3 e s' k3 j3 r=>h σ3 H3 e s' (k1.trans k3) j3 r
 |bad=>rw[q] at hx;subst hx;exact h
def acn(e:t d Γ1=none)(hx:gf t B (d::xs) Γ1=o)(h:Fn X c H' o E):False:=by simp only[gf,e] at hx;subst hx;exact h
end
section
variable{X:Cx}{c:Cf}{e:Expr}{f:`Ñ}{fm:Sg->Res M}{p:Sg->Res Bool}
end
def spD(K:ă)(cb:Cb)(n:Nat)(F:`Ü):Sp:=λ vs H Q E=>vs.length=n/\∃(c:Cf) (as:`Û),c.cb=cb/\c.args=vs/\J K c.z H as (vs.map some) H/\match F as with
 | .ok d=>∀v H',(∀b o,H b=some o->¬c.io b->H' b=some o)->(∀b,H' b=none->H b=none)->Tl K c.z H' d v->Q v H'
 | .new m=>∀v H' S,(∀b o,H b=some o->¬c.io b->H' b=some o)->(∀b,H' b=none->H b=none)->Ow K c.z H' m v S->(∀b,S b->H b=none)->(∀b,S b->H' b≠none)->Q v H'
 | .RH d os=>∀v Γ' σ' H',J K c.z H Γ' σ' H'->fK 0 Γ'=os->Tl K c.z H' d v->Q v H'
 | .KU m os=>∀Γ' σ' H' (i:Nat) v,J K c.z H Γ' σ' H'->fK 0 Γ'=os->Γ'[i]? =some (Slot.par m)->σ'[i]? =some (some v)->Q v H'
 | .err x=>∀C H',cb.exc x=some C->(∀b o,H b=some o->¬c.io b->H' b=some o)->E (.ref C) none H'
 | .bad=>False
abbrev jA(P:Program)(w:World)(K:ă)(mg:`Ò)(base:Heap)(cb:Cb)(k:Nat)(f:Addr)(fd:FuncData)(ps:`Ú)(F:`Ü):Prop:=Q6 P w K mg base (HG P w) k f fd ps (spD K cb ps.length F)
noncomputable abbrev kX(cb:Cb)(L:Hp)(vs:List V):Cf:=⟨cb,L,λ _=>False,vs⟩
def Ym{K:ă}{cb:Cb}{L H:Hp}{ds:List D}{vs:List V}(l:ay L H)(t:aF K (kX cb L vs).z H ds vs):J K (kX cb L vs).z H (ds.map Slot.val) (vs.map some) H:=by
 refine ⟨λ _ _ q _=>q,λ _ q=>q,l,λ _ _ q=>(nomatch q),by simp[t.length],λ _ _=>False,λ i sl ov h1 h2=>?_,λ _ _ _ _ z=>z.elim,λ _ _ z=>z.elim⟩;rw[Ĝ] at h1 h2;cases q:ds[i]? with
 |none=>rw[q] at h1;cases h1
 |some d=>obtain ⟨v,e1,e2⟩:=t.get q;rw[q] at h1;rw[e1] at h2;cases h1;cases h2;exact ⟨⟨v,rfl,e2⟩,λ _ z=>z⟩
section
variable{X:Cx}{cb:Cb}{k:Nat}{f C:Addr}{fd:FuncData}{ps:`Ú}{F:`Ü}{x:Str}{p pos apos:Pos}{e o:Expr}{es:`Þ}{fa:`Æ}
def afy(X:Cx)(c:Cf)(σ:St)(H:Hp)(a:cR)(Q:VK):Prop:=match a with
 | .ok d=>∀v H',ay H H'->Tl X.K c.z H' d v->Q v H'
 | .new m=>∀v H' S,ay H H'->Ow X.K c.z H' m v S->(∀b,S b->H b=none)->(∀b,S b->H' b≠none)->Q v H'
 | .err x=>∀e s',kZ X c.cb σ H x e s'->X.xe e s'
 |_=>False
def FD{s:Shared}{Q:VK}(G:jA X.prog X.w X.K X.mg X.base cb k f fd ps F)(hr:gM k X.A)(hb:Binds X.K fd ps [])(I:`Ä)(r:Vals vs us)(l:ay L H)(t:aF X.K (kX cb L vs).z H ds vs)(hn:vs.length=ps.length)(h:afy X (kX cb L vs) σ H (F (ds.map .val)) Q):wpAny `É X.A (call (.ref f) us) (EP X pins σ Q) X.xe s:=by
 have hl:us.length=ps.length:=by rw[<-r.length];exact hn
 have hb':=hb s us I.zW (by rw[ŕ];exact hl);rw[ŕ] at hb';let E:XK:=λ cls od H'=>∃x C,F (ds.map .val)= .err x/\cb.exc x=some C/\cls= .ref C/\od=none/\ay H H'
 have JU:spD X.K cb ps.length F vs H Q E:=by
  refine ⟨hn,kX cb L vs,ds.map .val,rfl,rfl,Ym l t,?_⟩;cases q:F (ds.map .val) with
  |ok d=>rw[q] at h;exact λ v H' s _ t=>h v H' (λ b o z=>s b o z λ w=>w) t
  |new m=>rw[q] at h;exact λ v H' S s _ o n k=>h v H' S (λ b o z=>s b o z λ w=>w) o n k
  |RH d os=>rw[q] at h;exact h.elim
  |KU d os=>rw[q] at h;exact h.elim
  |err x=>exact λ C H' e s=>⟨x,C,q,e,rfl,rfl,λ b o z=>s b o z λ w=>w⟩
  |bad=>rw[q] at h;exact h
 refine wpAny_call (Ąj (G.run X.A X.stack s H ⟨us,[]⟩ us vs Q E hr I.alZ hb' r JU) λ r s' hq=>?_);cases r with
 |error e=>obtain ⟨a,C,H',B,a0,h1,⟨x,C',q1,q2,q3,q4,q5⟩,h3,h4,h5,h6,h6',h7⟩:=hq;rw[q1] at h;cases q3;exact h e s' ⟨pins,H,s,C,I,ay.refl H,q2,.inr ⟨a,C,H',B,a0,h1,⟨rfl,rfl,q5⟩,h3,h4,h5,h6,h6',h7⟩⟩
 |ok fl=>
  cases fl with
  |ret u=>exact I.after hq
  |next=>exact ű hq
  |brk=>exact ű hq
  |cont=>exact ű hq
structure CP(ct:Ct)(md:List D->Option (List D))(bk:D->Bool)(zh:M->Bool):Prop where
 go:∀K H ds vs ds',ay ct.f.L H->ay ct.B H->aF K ct H ds vs->md ds=some ds'->∃L,ay L H/\aF K (kX ct.f.cb L vs).z H ds' vs/\
  (∀H' d v,bk d=true->Tl K (kX ct.f.cb L vs).z H' d v->Tl K ct H' d v)/\∀H' m v S,zh m=true->Ow K (kX ct.f.cb L vs).z H' m v S->Ow K ct H' m v S
def Ag{K:ă}{ct jv:Ct}{H:Hp}(e:jv.f.cb=ct.f.cb)(l:∀t a o,ct.lo t a=some o->jv.lo t a=some o){d:D}{v:V}(h:Tl K ct H d v):Tl K jv H d v:=by have:=Tl.re (ct:=ct) (jv:=jv) (p:=λ _=>true) (g:=id) ⟨e,λ t a o _ q=>l t a o q⟩ (F0 d) h;rwa [A8] at this
def vQ{K:ă}{ct jv:Ct}{H:Hp}(e:jv.f.cb=ct.f.cb)(l:∀t a o,ct.lo t a=some o->jv.lo t a=some o){d:List D}{v:List V}(h:aF K ct H d v):aF K jv H d v:=by have:=aF.re (ct:=ct) (jv:=jv) (p:=λ _=>true) (g:=id) ⟨e,λ t a o _ q=>l t a o q⟩ (sN d) h;rwa [uc] at this
def RE{K:ă}{ct jv:Ct}{H:Hp}(e:jv.f.cb=ct.f.cb)(l:∀t a o,ct.lo t a=some o->jv.lo t a=some o){m:M}{v:V}{S:Fp}(h:Ow K ct H m v S):Ow K jv H m v S:=Ow.map (p:=λ _=>true) e (λ _ _ _=>Ag e l) (q:=λ _=>true) (λ _ _ _=>vQ e l) (pm:=λ _=>true) (JR:=λ _=>true) (λ _ _=>rfl) (λ _ _=>rfl) (λ _ _=>rfl) (λ _ _=>rfl) (λ _ _ _=>rfl) (λ _ _ _ _=>rfl) (λ _ _ _=>rfl) (λ _ _ _=>⟨rfl,rfl⟩) rfl h
def aJ(c:Cf):CP c.z some (λ _=>true) (λ _=>true):=⟨λ K H ds vs ds' l b t e=>by
 cases e;have q:∀t a o,c.z.lo t a=some o->(kX c.cb c.L vs).z.lo t a=some o:=λ t a o z=>by cases t<;>exact z
 have q':∀t a o,(kX c.cb c.L vs).z.lo t a=some o->c.z.lo t a=some o:=λ t a o z=>by cases t<;>exact z
 exact ⟨c.L,l,vQ (ct:=c.z) (jv:=(kX c.cb c.L vs).z) rfl q t,λ H' d v _ t=>Ag (ct:=(kX c.cb c.L vs).z) (jv:=c.z) rfl q' t,λ H' m v S _ t=>RE (ct:=(kX c.cb c.L vs).z) (jv:=c.z) rfl q' t⟩⟩
def Gw(ct:Ct):CP ct (λ ds=>if ly ds=true then some ds else none) (λ _=>true) (λ _=>true):=⟨λ K H ds vs ds' l b t e=>by
 split at e
 ·rename_i n;cases e;have q:∀t a o,ct.f.z.lo t a=some o->(kX ct.f.cb ct.f.L vs).z.lo t a=some o:=λ t a o z=>by cases t<;>exact z
  have q':∀t a o,(kX ct.f.cb ct.f.L vs).z.lo t a=some o->ct.lo t a=some o:=λ t a o z=>by
   cases t with
   |true=>cases z
   |false=>exact z
  obtain ⟨cf,B,tm⟩:=ct;exact ⟨cf.L,l,vQ (ct:=cf.z) (jv:=(kX cf.cb cf.L vs).z) rfl q (aF.down t n),λ H' d v _ t=>Ag (ct:=(kX cf.cb cf.L vs).z) (jv:=⟨cf,B,tm⟩) rfl q' t,λ H' m v S _ t=>RE (ct:=(kX cf.cb cf.L vs).z) (jv:=⟨cf,B,tm⟩) rfl q' t⟩
 ·cases e⟩
def RY(ct:Ct):CP ct (λ ds=>some (xP ds)) nb JS:=⟨λ K H ds vs ds' l b t e=>by cases e;exact ⟨H,ay.refl H,t.lent rfl rfl l b,λ H' d v n t=>Tl.bare (ct:=(kX ct.f.cb H vs).z) (jv:=ct) rfl t n,λ H' m v S n t=>Ow.bare (ct:=(kX ct.f.cb H vs).z) (jv:=ct) rfl t n⟩⟩
def Q8(X:Cx)(ct:Ct)(bk:D->Bool)(zh:M->Bool)(σ:St)(H:Hp)(a:cR)(Q:VK):Prop:=match a with
 | .ok d=>bk d=true/\Wd X ct H Q d
 | .new m=>zh m=true/\Wm X ct H Q m
 | .err x=>∀e s',kZ X ct.f.cb σ H x e s'->X.xe e s'
 |_=>False
def kOf(X:Cx)(ct:Ct)(md:List D->Option (List D))(bk:D->Bool)(zh:M->Bool)(n:Nat)(F:`Ü)(fa:`Æ):TE:=λ σ H Q=>∃Γ,Jx X ct Γ σ H/\Ok X ct σ H (fa Γ) λ ds=>ds.length=n/\∃ds',md ds=some ds'/\∀H',ay H H'->Q8 X ct bk zh σ H' (F (ds'.map .val)) Q
variable{ct:Ct}{md:List D->Option (List D)}{bk:D->Bool}{zh:M->Bool}
noncomputable def Ht{Q:VK}(h:Q8 X ct bk zh σ H a Q)(q1:∀H' d v,bk d=true->Tl X.K (kX ct.f.cb L vs).z H' d v->Tl X.K ct H' d v)(q2:∀H' m v S,zh m=true->Ow X.K (kX ct.f.cb L vs).z H' m v S->Ow X.K ct H' m v S):
  afy X (kX ct.f.cb L vs) σ H a Q:=by
 cases a with
 |ok d=>exact λ v H' s t=>h.2 v H' s (q1 H' d v h.1 t)
 |new m=>exact λ v H' S s o n k=>h.2 v H' S s (q2 H' m v S h.1 o) n k
 |err x=>exact h
 |RH d os=>exact h
 |KU d os=>exact h
 |bad=>exact h
def Bg(Z:CP ct md bk zh)(G:jA X.prog X.w X.K X.mg X.base ct.f.cb k f fd ps F)(hr:gM k X.A)(hm:X.mg x=some (.ref f))(hk:Ĕ X.K (.ref f)=true)(hb:Binds X.K fd ps [])(ha:PDA X ct (e::es) fa)(hg:Gl X x:=by rfl) (hdb:(x==("__debug__":Str))=false:=by decide) (he:`Ç:=by rfl) (hpl:(backTo pos (ć es X.env)).any (·.1)=false:=by rfl):
  PE X (.Call (.Name x p) (e::es) [] pos) (kOf X ct md bk zh ps.length F fa):=by
 intro pins s σ H Q I ⟨Γ,j,h⟩;refine Ār (wQ I hg hm ?_ hdb);have h':JW X ct fa σ H (λ vs H1=>∃ds ds',ay H H1/\aF X.K ct H1 ds vs/\ds.length=ps.length/\md ds=some ds'/\Q8 X ct bk zh σ H1 (F (ds'.map .val)) Q):=
  ⟨Γ,j,Ok.mono `Ù h λ ds ⟨q1,ds',q2,q3⟩ vs H1 s1 t1=>⟨ds,ds',s1,t1,q1,q2,q3 H1 s1⟩⟩
 refine ąl (h₀:=X.base) I.ok.mod.kin hk (fV (ha pos pins s σ H _ I h') λ us s1 ⟨vs,H1,I1,r,ds,ds',sm,t1,hl,hd,q⟩=>⟨I1.zW,?_⟩) he hpl;have j1:=j.mono sm;obtain ⟨L,l,t2,q1,q2⟩:=Z.go X.K H1 ds vs ds' j1.lL j1.lB t1 hd;exact FD G hr hb I1 r l t2 (by rw[<-t1.length];exact hl) (Ht q q1 q2)
def Wm.mono{Q:VK}(s:ay H H2)(h:Wm X ct H Q m):Wm X ct H2 Q m:=λ v H' S e o n k=>h v H' S (s.trans e) o (λ b z=>s.free (n b z)) k
def Wm.data{Q:VK}(h:Wm X ct H Q (.d d)):Wd X ct H Q d:=λ v H' e t=>h v H' (λ _=>False) e (by simpa only[Ow] using t) (λ _ z=>z.elim) λ _ z=>z.elim
def FH{g:Sg->Res M}(h:PE X e (kOf X ct md bk zh n F fa))(hg:∀Γ,g Γ=(fa Γ).bnd λ ds=>if ds.length=n then (match md ds with
   |some ds'=>(match F (ds'.map .val) with
    | .ok d=>if bk d=true then .ok (.d d) else .bad
    | .new m=>if zh m=true then .ok m else .bad
    | .err x=> .err x
    |_=> .bad)
   |none=> .bad) else .bad):PM X ct e g:=by
 refine PE.imp h λ σ H Q ⟨Γ,j,q⟩=>⟨Γ,j,?_⟩;rw[hg] at q;refine q.bnd λ ds _ q=>?_;split at q
 ·rename_i hl;split at q
  ·rename_i ds' hd;refine ⟨hl,ds',hd,λ H' s=>?_⟩;cases z:F (ds'.map .val) with
   |ok d=>
    rw[z] at q;dsimp only at q;split at q
    ·rename_i hb;exact ⟨hb,(Wm.data q).mono s⟩
    ·exact q.elim
   |new m=>
    rw[z] at q;dsimp only at q;split at q
    ·rename_i hb;exact ⟨hb,Wm.mono s q⟩
    ·exact q.elim
   |err x=>rw[z] at q;exact λ e s' r=>q e s' (r.mono s)
   |RH d os=>rw[z] at q;exact q.elim
   |KU d os=>rw[z] at q;exact q.elim
   |bad=>rw[z] at q;exact q.elim
  ·exact q.elim
 ·exact q.elim
section
variable{n:Nat}
def Ww{c:Cf}(h:PE X e (kOf X c.z some (λ _=>true) (λ _=>true) n F fa)):PM X c.z e (XM n F fa):=FH h λ Γ=>by
 unfold XM;cases fa Γ with
 |ok ds=>
  simp only[Res.bw];by_cases hl:ds.length=n
  ·simp only[hl,if_true];cases F (ds.map .val)<;>simp[rZ]
  ·simp[hl]
 |err x=>rfl
 |bad=>rfl
def Wy(h:PE X e (kOf X ct (λ ds=>if ly ds=true then some ds else none) (λ _=>true) (λ _=>true) n F fa)):PM X ct e (Lc n F fa):=FH h λ Γ=>by
 unfold Lc;congr 1;funext ds;by_cases hl:ds.length=n
 ·by_cases hn:ly ds=true
  ·simp only[hl,hn,and_self,if_true];cases F (ds.map .val)<;>simp[rZ]
  ·simp[hl,hn]
 ·simp[hl]
def Wx(h:PE X e (kOf X ct (λ ds=>some (xP ds)) nb JS n F fa)):PM X ct e (Lb n F fa):=FH h λ Γ=>by
 unfold Lb;congr 1;funext ds;split
 ·dsimp only;cases F ((xP ds).map .val) with
  |ok d=>by_cases h:nb d=true<;>simp[nbA,rZ,h]
  |new m=>by_cases h:JS m=true<;>simp[nbA,rZ,h]
  |_=>simp[nbA,rZ]
 ·rfl
def ahV(a:cR):CH a=(rZ a).bnd Vr:=by cases a<;>simp[CH,rZ,Vr,z7,Jz]
def CG(f:`Æ)(g:List D->cR)(P:List D->Prop) [DecidablePred P]:(λ Γ=>(f Γ).bnd λ ds=>if P ds then CH (g ds) else .bad)=lu (λ Γ=>(f Γ).bnd λ ds=>if P ds then rZ (g ds) else .bad):=by
 funext Γ;unfold lu;dsimp only;cases f Γ with
 |ok ds=>
  simp only[Res.bw];by_cases h:P ds
  ·simp only[h,if_true];exact ahV _
  ·simp[h]
 |err x=>rfl
 |bad=>rfl
def WY{c:Cf}(h:PE X e (kOf X c.z some (λ _=>true) (λ _=>true) n F fa)):PD X c.z e (bz n F fa):=by have:=sE (Ww h);rwa [show lu (XM n F fa)=bz n F fa from (CG fa (λ ds=>F (ds.map .val)) λ ds=>ds.length=n).symm] at this
def W0(h:PE X e (kOf X ct (λ ds=>if ly ds=true then some ds else none) (λ _=>true) (λ _=>true) n F fa)):PD X ct e (bK n F fa):=by have:=sE (Wy h);rwa [show lu (Lc n F fa)=bK n F fa from (CG fa (λ ds=>F (ds.map .val)) λ ds=>ds.length=n/\ly ds=true).symm] at this
def WZ(h:PE X e (kOf X ct (λ ds=>some (xP ds)) nb JS n F fa)):PD X ct e (pX n F fa):=by have:=sE (Wx h);rwa [show lu (Lb n F fa)=pX n F fa from (CG fa (λ ds=>nbA (F ((xP ds).map .val))) λ ds=>ds.length=n).symm] at this
end
end
section
variable{P:Program}{w:World}{K:ă}{mg:`Ò}{base:Heap}{cb:Cb}
def Ja{s:Shared}{e:Value}(r:kZ (pZ (HG P w) P w K mg base N qual scope f cd A outer s H E) cb σ' H' c e s')(he:∀C H2,cb.exc c=some C->ay H' H2->E (.ref C) none H2):
  (pZ (HG P w) P w K mg base N qual scope f cd A outer s H E).xe e s':=by
 obtain ⟨pins,H1,s1,C,I1,sm,hc,r⟩:=r;have hfr:=I1.ok.frames;have back:∀a,s1.heap.get? a=none->s.heap.get? a=none:=λ a q=>by
  cases z:s.heap.get? a with
  |none=>rfl
  |some o=>obtain ⟨o',w'⟩:=I1.base.there a o z (by simp[pZ]);rw[q] at w';cases w'
 rcases r with ⟨a,args,h',rfl,rfl,hx⟩|⟨a,C',H2,B,a0,rfl,⟨q1,q2,q3⟩,q4,q5,fl,na,nw,cl⟩
 ·-- made here
  let X:=pZ (HG P w) P w K mg base N qual scope f cd A outer s H E
  have hst:s1.heap.FunFrames X.base X.stack:=I1.stack;have hin:∀env∈X.stack,∀b,env.frame=some b->b∈frs X.stack:=λ env he b hb=>ăj.mpr ⟨env,he,hb⟩;have hkb:(W.hideAll s1.heap (frs X.stack)).StaysIn s1.heap:=λ b o q=>W.of_hideAll _ q;refine wpAny_leaves_madeW (s:={s1 with heap:=h'}) (L:=s.heap.objs.size) hfr rfl hkb (W.funFrames_hide hst hin) hx λ h2 t fl tu tn up=>?_;have na:H1 a=none:=by
   cases z:H1 a with
   |none=>rfl
   |some o=>obtain ⟨ob,hb⟩:=zx (I1.hok a o z);rw[hx.new] at hb;cases hb
  refine ⟨a,C,H1,W.hideAll s1.heap (frs X.stack),.ref t,rfl,he C H1 hc sm,I1.os,I1.bare,fl,na,back a hx.new,λ h3 st3 up3=>?_⟩;have keep:∀b o,s1.heap.get? b=some o->b∉frs X.stack->h3.get? b=some o:=λ b o q nb=>st3 b o (W.hideAll_get _ q nb);have slot:∀b o,s1.heap.get? b=some o->b∈frs X.stack->∃sl,h3.get? b=some {o with slots:=sl}:=λ b o q hb=>by obtain ⟨_,o',ho',hd⟩:=hst.mem hb;rw[q] at ho';cases ho';exact (up.trans up3) b o (hx.keeps b o q) hd
  have un:Un (frs X.stack) [] H1 H1 s1.heap h3:=⟨λ b o q n nb _=>keep b o q nb,λ b o q n hb _=>slot b o q hb,λ b o q n _=>n,λ b o q _=>by
   by_cases hb:b∈frs X.stack
   ·obtain ⟨sl,z⟩:=slot b o q hb;exact ⟨_,z⟩
   ·exact ⟨o,keep b o q hb⟩,λ b xs q=>q,λ b o u q=>q,λ b ps q=>⟨#[],by rw[q];simp⟩⟩
  have hok:uX P w H1 h3:=λ b o q=>(I1.hok b o q).stay (λ b' u hb' e'=>by
   have tr:H1 b'≠none:=by
    rcases hb' with rfl|hb'
    ·rw[q];exact λ z=>nomatch z
    ·rw[hb'];exact λ z=>nomatch z
   exact keep b' u e' λ z=>tr (I1.Fw b' z)) (λ _ q=>q) λ _ _ q=>q
  have I3:=I1.Zo (s':={s1 with heap:=h3}) (ch:=[]) rfl un hok I1.bare (λ b z=>absurd z `Ó);exact ⟨I3.base,hok⟩
 ·-- out of a call
  cases q1;refine wpAny_leaves_onW (L:=s.heap.objs.size) hfr rfl fl λ h2 fl2 up=>?_;refine ⟨a,C,H2,B,a0,rfl,he C H2 hc (sm.trans q3),q4.trans I1.os,q5,fl2,na,back a nw,λ h3 st3 up3=>?_⟩;obtain ⟨un,hok⟩:=cl h3 st3 (up.trans up3);have I3:=I1.Zo (s':={s' with heap:=h3}) (ch:=[]) q4 un hok q5 (λ b z=>absurd z `Ó);exact ⟨I3.base,hok⟩
def Sa{N:`Ú}{as:`Û}{vs:List V}{H:Hp}{c:Cf}(j:J K c.z H as (vs.map some) H):J K c.z H (cB N as) (L2.start N vs) H:=by
 have hl:as.length=vs.length:=by have:=j.len;simpa using this
 obtain ⟨S,h1,h2,h3⟩:=j.sl;refine ⟨j.same,j.free,j.lL,j.lB,by simp[cB,L2.start,hl],λ i b=>S i b/\i<as.length,λ i sl ov g1 g2=>?_,λ i k b e z z'=>h2 i k b e z.1 z'.1,λ i b z=>h3 i b z.1⟩;by_cases hi:i<as.length
 ·rw[cB,Ģ hi] at g1;rw[L2.start,Ģ (by simpa[<-hl] using hi)] at g2;have eS:(λ b=>S i b/\i<as.length)=S i:=funext λ b=>propext ⟨λ z=>z.1,λ z=>⟨z,hi⟩⟩;show p7 K c.z H H i (λ b=>S i b/\i<as.length) sl ov;rw[eS];exact h1 i sl ov g1 g2
 ·rw[cB,ē (Ō hi),ţ] at g1;split at g1
  ·cases g1;exact λ b z=>hi z.2
  ·cases g1
def ah1{x qual:Str}{st:Stmt}{f:Addr}{fd:FuncData}{N ps:`Ú}{k:Nat}{F:`Ü}{B:Nat->Sg->Out}(Vl:cY K x qual st f fd)(S:pL N ps (aP st)) (hbody:∀(c:Cf) (cdv:Value) (A:Around) (outer:List Env) (s:Shared) (H:Hp) (E:XK),c.cb=cb->gM k (A.deeper (envOfC qual (aP st) s.heap.objs.size f cdv))->Good (pZ (HG P w) P w K mg base N qual (aP st) f cdv A outer s H E)->∀n,amJ (pZ (HG P w) P w K mg base N qual (aP st) f cdv A outer s H E) c (mh st) (B n)) (hF:∀as,as.length=ps.length->F as≠.bad->∃n,nu (B n (cB N as))=F as):jA P w K mg base cb (k+1) f fd ps F:=by
 obtain ⟨oc,od,kV,doc,pm,an,cdv,jv,osl,rfl,lk,hcd⟩:=Vl.ex;refine aez lk hcd S (λ vs H Q E h=>h.1) λ A outer s H vs Q E hr JU=>?_;obtain ⟨hn,c,as,ecb,al1,j,h⟩:=JU;have hl:as.length=vs.length:=by have:=j.len;simpa using this
 have hb:F as≠.bad:=λ z=>by rw[z] at h;exact h
 obtain ⟨n,hF⟩:=hF as (by rw[hl];exact hn) hb;refine ⟨_,hbody c cdv A outer s H E ecb hr ⟨PassesOwn.leaving,rfl,S.nd,rfl,rfl⟩ n,cB N as,Sa j,?_⟩;rw[<-hF] at h;cases q:B n (cB N as) with
 |nx Γ=>rw[q] at h;exact λ σ' H' _ j=>h .cU H' j.same j.free (by simp[Tl])
 |bk Γ=>rw[q] at h;exact h.elim
 |ct Γ=>rw[q] at h;exact h.elim
 |rt d=>rw[q] at h;exact λ v H' b t=>h v H' b.same b.free t
 |Rx m=>rw[q] at h;exact λ v H' S b o n k=>h v H' S b.same b.free o n k
 |rtG d Γ=>rw[q] at h;exact λ v σ' H' j t=>h v Γ σ' H' j rfl t
 |Im d Γ=>rw[q] at h;exact λ σ' H' i v j g1 g2=>h Γ σ' H' i v j rfl g1 g2
 |err x Γ=>rw[q] at h;exact λ σ' H' e s' _ j r=>Ja (ecb▸r) λ C H2 hc s=>h C H2 hc λ b o z n=>s b o (j.same b o z n)
 |bad=>rw[q] at h;exact h.elim
def abl{x qual:Str}{st:Stmt}{f:Addr}{fd:FuncData}{N ps:`Ú}{k:Nat}{F:`Ü}{B:Nat->Sg->Out}(Vl:cY K x qual st f fd)(S:pL N ps (aP st))(hbody:∀(c:Cf) (cdv:Value) (A:Around) (outer:List Env) (s:Shared) (H:Hp) (E:XK),c.cb=cb->gM k (A.deeper (envOfC qual (aP st) s.heap.objs.size f cdv))->Good (pZ (HG P w) P w K mg base N qual (aP st) f cdv A outer s H E)->∀n,xV (pZ (HG P w) P w K mg base N qual (aP st) f cdv A outer s H E) c (mh st) (B n)) (hF:∀as,as.length=ps.length->F as≠.bad->∃n,nu (B n (cB N as))=F as):jA P w K mg base cb (k+1) f fd ps F:=ah1 (Vl:=Vl) (S:=S) (hbody:=(λ c cdv A outer s H E h_1 h_2 h_3 n=>(hbody c cdv A outer s H E h_1 h_2 h_3 n).out)) (hF:=hF)
end
section
variable{X:Cx}{ct:Ct}{a b e:Expr}{f g:`Ñ}{pos:Pos}
def lS(hc:∀i j,C i j=true->C' i j)(ht:∀i j K ct H,Tl K ct H (gd i j) (gv i j)):CV X ct (rI C' gv) (intD C gd):=by
 intro σ H x y d1 d2 Q lL lB t1 t2 h;cases d1 with
 |int i=>
  cases d2 with
  |int j=>
   simp only[Tl] at t1 t2;subst t1 t2;rw[Yt] at h;split at h
   ·rename_i hij;exact ⟨i,j,rfl,rfl,hc i j hij,h _ H `Ù (ht i j _ _ _)⟩
   ·exact h.elim
  |_=>exact h.elim
 |_=>cases d2<;>exact h.elim
def kH{F:Value->Value->Sem Value}(h:p8 X F (rI0 gv)):p8 X F (rI (λ _ _=>True) gv):=λ pins s σ H x y v u Q I rx ry ⟨i,j,h1,h2,_,q⟩=>h pins s σ H x y v u Q I rx ry ⟨i,j,h1,h2,q⟩
def Xx(h:sR i j=true):IntMulOk i j:=by
 simp only[sR,Ąr,ħ,decide_eq_true_eq] at h;rcases h with (h|h)|h
 ·exact .of_left h
 ·exact .of_right h
 ·exact .of_bits h.1 h.2
def ab6:p8 X (binaryOp .Mult) (rI (λ i j=>sR i j=true) λ i j=> .int (i*j)):=opI λ _ _ _ _ _ _ _ hc q=>mul_int q (Xx hc)
def W6:p8 X (binaryOp .FloorDiv) (rI (λ i j=>E4 i j=true) λ i j=> .int (i.fdiv j)):=opI λ _ _ _ _ _ _ _ hc q=>by simp only[E4,ħ,decide_eq_true_eq] at hc;exact floordiv_int hc.1 q (.inl (PyProof.noPylong_of_log2 hc.2))
def AM(ha:WD X ct a f)(hb:WD X ct b g):WD X ct (.BinOp a .Sub b pos) (aH Ic f g):=by have ha:=ha.out;have hb:=hb.out;exact ⟨Em (kH agZ) (lS (λ _ _ _=>trivial) λ _ _ _ _ _=>by simp[Tl]) ha hb⟩
def ki(ha:WD X ct a f)(hb:WD X ct b g):WD X ct (.BinOp a .Mult b pos) (aH ie f g):=by have ha:=ha.out;have hb:=hb.out;exact ⟨Em ab6 (lS (λ _ _ h=>h) λ _ _ _ _ _=>by simp[Tl]) ha hb⟩
def jE(ha:WD X ct a f)(hb:WD X ct b g):WD X ct (.BinOp a .FloorDiv b pos) (aH iC f g):=by have ha:=ha.out;have hb:=hb.out;exact ⟨Em W6 (lS (λ _ _ h=>h) λ _ _ _ _ _=>by simp[Tl]) ha hb⟩
def m5(ha:WD X ct a f)(hb:WD X ct b g):WD X ct (.BinOp a .Mod b pos) (aH nI f g):=by have ha:=ha.out;have hb:=hb.out;exact ⟨Em ab7 (lS (λ _ _ h=>of_decide_eq_true h) λ _ _ _ _ _=>by simp[Tl]) ha hb⟩
def J7(ha:WD X ct a f)(hb:WD X ct b g):WD X ct (.BinOp a .BitXor b pos) (aH Vz f g):=by have ha:=ha.out;have hb:=hb.out;exact ⟨Em (kH agY) (lS (λ _ _ _=>trivial) λ _ _ _ _ _=>by simp[Tl]) ha hb⟩
def akd(ha:WD X ct a f)(hb:WD X ct b g):WD X ct (.Compare a [.Lt] [b] pos) (aH ltI f g):=by have ha:=ha.out;have hb:=hb.out;exact ⟨FL (kH Eo) (lS (λ _ _ _=>trivial) λ _ _ _ _ _=>by simp[Tl]) ha hb (qY _)⟩
def AH(ha:WD X ct a f)(hb:WD X ct b g):DV X ct (.Compare a [.Lt] [b] pos) (dT (aH ltI f g)):=by have ha:=ha.out;have hb:=hb.out;exact ⟨o9 (kH Eo) (lS (λ _ _ _=>trivial) λ _ _ _ _ _=>by simp[Tl]) ha hb (qY _)⟩
def afY(ha:WD X ct a f)(hb:WD X ct b g):DV X ct (.Compare a [.Gt] [b] pos) (dT (aH gtI f g)):=by have ha:=ha.out;have hb:=hb.out;exact ⟨o9 (kH ak9) (lS (λ _ _ _=>trivial) λ _ _ _ _ _=>by simp[Tl]) ha hb (qY _)⟩
def af0(ha:WD X ct a f):WD X ct (.UnaryOp .USub a pos) (dUn ahf f):=by
 have ha:=ha.out;refine ⟨?_⟩;refine PE.imp (ak0 af9 ha) λ σ H Q ⟨Γ,j,h⟩=>?_;refine rL.bnd j h λ d v H' s t j' h'=>?_;cases d with
 |int i=>simp only[Tl] at t;exact ⟨i,t,h' _ H' s (by simp[Tl])⟩
 |_=>exact h'.elim
def E7{r:List D->Res D}{fa:`Æ}(k:∀(σ:St) (H:Hp) (vs:List V) (ds:List D) (Q:VK),ay ct.f.L H->ay ct.B H->aF X.K ct H ds vs->Ok X ct σ H (r ds) (Wd X ct H Q)->r2 vs H Q):
  ∀σ H Q,rL X ct (pY r fa) σ H Q->tCB r2 (JW X ct fa) σ H Q:=by
 rintro σ H Q ⟨Γ,j,h⟩
 exact JW.bnd j h λ ds vs H' s t j' h'=>k σ H' vs ds Q j'.lL j'.lB t (Ok.mono s h' λ d q=>q.mono s)
def zK{K:ă}{H:Hp}{d:D}{vs:List V}(h:aF K ct H [d] vs):∃v,vs=[v]/\Tl K ct H d v:=by simp only[aF] at h;obtain ⟨v,r,rfl,t,rfl⟩:=h;exact ⟨v,rfl,t⟩
def abv{K:ă}{H:Hp}{d d':D}{vs:List V}(h:aF K ct H [d,d'] vs):∃v v',vs=[v,v']/\Tl K ct H d v/\Tl K ct H d' v':=by simp only[aF] at h;obtain ⟨v,r,rfl,t,v',r',rfl,t',rfl⟩:=h;exact ⟨v,v',rfl,t,t'⟩
def VM{fa:`Æ}(hm:X.mg "abs"=none)(ha:CM X ct (e::es) fa)(hg:Gl X "abs":=by rfl)(he:`Ç:=by rfl)(hpl:(backTo pos (ć es X.env)).any (·.1)=false:=by rfl):WD X ct (.Call (.Name "abs" p) (e::es) [] pos) (pY Zy fa):=by
 have ha:=ha.out;refine ⟨?_⟩;refine PE.imp (jk Zn hg hm PyProof.Rows.boot_abs ha `Â `Â he hpl) (E7 λ σ H vs ds Q lL lB t h=>?_);unfold Zy at h;split at h
 ·rename_i i;obtain ⟨v,rfl,tv⟩:=zK t;simp only[Tl] at tv;subst tv;exact ⟨i,rfl,h _ H `Ù (by simp[Tl])⟩
 ·exact h.elim
def lA{fa:`Æ}(hm:X.mg "len"=none)(ha:CM X ct (e::es) fa)(hg:Gl X "len":=by rfl)(he:`Ç:=by rfl)(hpl:(backTo pos (ć es X.env)).any (·.1)=false:=by rfl):WD X ct (.Call (.Name "len" p) (e::es) [] pos) (pY ig fa):=by
 have ha:=ha.out;refine ⟨?_⟩;refine PE.imp (jk Zk hg hm PySem.boot_len ha `Â `Â he hpl) (E7 λ σ H vs ds Q lL lB t h=>?_);unfold ig at h;split at h
 ·rename_i es;obtain ⟨v,rfl,tv⟩:=zK t;simp only[Tl] at tv;obtain ⟨a,us,rfl,h1,h2⟩:=tv;refine ⟨_,us.length,rfl,?_,h _ H `Ù (by rw[h2.length];simp[Tl])⟩;exact .inl ⟨us,h1.sq,rfl⟩
 ·rename_i es;obtain ⟨v,rfl,tv⟩:=zK t;simp only[Tl] at tv;obtain ⟨a,us,rfl,h1,h2⟩:=tv;refine ⟨_,us.length,rfl,?_,h _ H `Ù (by rw[h2.length];simp[Tl])⟩;exact .inr ⟨us,oh h1,rfl⟩
 ·rename_i es;obtain ⟨v,rfl,tv⟩:=zK t;simp only[Tl] at tv;obtain ⟨a,us,rfl,h1,h2⟩:=tv;refine ⟨_,us.length,rfl,?_,h _ H `Ù (by rw[h2.length];simp[Tl])⟩;exact .inr ⟨us,h1.sq,rfl⟩
 ·rename_i tm es;obtain ⟨v,rfl,tv⟩:=zK t;obtain ⟨a,us,rfl,h1,h2⟩:=tv.oU lL lB rfl;refine ⟨_,us.length,rfl,?_,h _ H `Ù (by rw[h2.length];simp[Tl])⟩;exact .inl ⟨us,h1,rfl⟩
 ·rename_i x;split at h
  ·rename_i hx;obtain ⟨v,rfl,tv⟩:=zK t;simp only[Tl] at tv;subst tv;exact ⟨_,x.length,rfl,⟨hx,rfl⟩,h _ H `Ù (by simp[Tl])⟩
  ·exact h.elim
 ·exact h.elim
end
theorem jz:∀(ds:List D),(∀d∈ds,(py d).canLay0=true)->ăp (C6 ds)=true
 |[],_=>by simp[C6,ăp]
 |d::ds,h=>by simp only[C6,ăp,ħ];exact ⟨h d (.head _),jz ds λ x hx=>h x (.tail _ hx)⟩
theorem kW:∀(ds:List D),(∀d∈ds,(py d).depth<=n)->Ăv (C6 ds)<=n
 |[],_=>by simp[C6,Ăv]
 |d::ds,h=>by simp only[C6,Ăv];exact Nat.max_le.mpr ⟨h d (.head _),kW ds λ x hx=>h x (.tail _ hx)⟩
theorem kI:∀(n:Nat) (d:D),jb n d=true->(py d).canLay0=true/\(py d).depth<=n
 |n,.cU,_=>by simp[py,ş,Āt]
 |n,.bl b,_=>by simp[py,ş,Āt]
 |n,.int b,_=>by simp[py,ş,Āt]
 |n,.str b,h=>by cases n<;>simp_all[py,ş,Āt,jb]
 |0,.tup ds,h=>by simp[jb] at h
 |0,.gt ds,h=>by simp[jb] at h
 |0,.lst ds,h=>by simp[jb] at h
 |0,.bor _ ds,h=>by simp[jb] at h
 |n+1,.bor _ ds,h=>by simp only[jb,Ĳ] at h;simp only[py,ş,Āt];exact ⟨jz ds λ d hd=>(kI n d (h d hd)).1,Ăn (kW ds λ d hd=>(kI n d (h d hd)).2)⟩
 |n+1,.tup ds,h=>by simp only[jb,Ĳ] at h;simp only[py,ş,Āt];exact ⟨jz ds λ d hd=>(kI n d (h d hd)).1,Ăn (kW ds λ d hd=>(kI n d (h d hd)).2)⟩
 |n+1,.gt ds,h=>by simp only[jb,Ĳ] at h;simp only[py,ş,Āt];exact ⟨jz ds λ d hd=>(kI n d (h d hd)).1,Ăn (kW ds λ d hd=>(kI n d (h d hd)).2)⟩
 |n+1,.lst ds,h=>by simp only[jb,Ĳ] at h;simp only[py,ş,Āt];exact ⟨jz ds λ d hd=>(kI n d (h d hd)).1,Ăn (kW ds λ d hd=>(kI n d (h d hd)).2)⟩
 |0,.obj _ _ _,h=>by simp[jb] at h
 |0,.exc _,h=>by simp[jb] at h
 |n+1,.obj _ _ _,h=>by simp[jb] at h
 |n+1,.exc _,h=>by simp[jb] at h
 |0,.r6 _ _,h=>by simp[jb] at h
 |0,.uF _ _ _,h=>by simp[jb] at h
 |n+1,.r6 _ _,h=>by simp[jb] at h
 |n+1,.uF _ _ _,h=>by simp[jb] at h
 |0,.yb _ _ _ _,h=>by simp[jb] at h
 |n+1,.yb _ _ _ _,h=>by simp[jb] at h
def qX(h:jb 12 d=true):SeqAt.shaped (py d)=true:=by obtain ⟨h1,h2⟩:=kI 12 d h;unfold SeqAt.shaped;rw[h1,Bool.true_and];exact decide_eq_true (ģ h2 `Â)
section
variable{X:Cx}{ct:Ct}{pins:`Ê}{σ:St}{H:Hp}{s:Shared}
theorem mK{f:D->Prop}(hf:∀d v u,f d->Tl X.K ct H d v->RelV v u->∃as,Reads s.heap u (py d) as):∀(ds:List D) (vs:List V) (us:`Ð),(∀d∈ds,f d)->aF X.K ct H ds vs->Vals vs us->∃as,ReadsAll s.heap us (C6 ds) as
 |[],vs,us,_,h,r=>by simp only[aF] at h;subst h;cases r;exact ⟨[],.nil⟩
 |d::ds,vs,us,hd,h,r=>by
  simp only[aF] at h;obtain ⟨v,w,rfl,t1,t2⟩:=h;cases r with
  |cons r1 r2=>obtain ⟨as,h1⟩:=hf d v _ (hd d (.head _)) t1 r1;obtain ⟨bs,h2⟩:=mK hf ds w _ (λ x hx=>hd x (.tail _ hx)) t2 r2;exact ⟨as++bs,.cons h1 h2⟩
theorem jj(I:`Ä)(lL:ay ct.f.L H)(lB:ay ct.B H):∀(n:Nat) (d:D) (v:V) (u:Value),jb n d=true->Tl X.K ct H d v->RelV v u->∃as,Reads s.heap u (py d) as
 |n,.cU,v,u,_,t,r=>by simp only[Tl] at t;subst t;cases r;exact ⟨[],.none⟩
 |n,.bl b,v,u,_,t,r=>by simp only[Tl] at t;subst t;cases r;exact ⟨[],.bool b⟩
 |n,.int i,v,u,_,t,r=>by simp only[Tl] at t;subst t;obtain ⟨k,rfl⟩:=r;exact ⟨[],.int i k⟩
 |n,.str x,v,u,_,t,r=>by simp only[Tl] at t;subst t;obtain ⟨k,rfl⟩:=r;exact ⟨[],.str x k⟩
 |0,.tup ds,v,u,h,_,_=>by simp[jb] at h
 |0,.gt ds,v,u,h,_,_=>by simp[jb] at h
 |0,.lst ds,v,u,h,_,_=>by simp[jb] at h
 |0,.bor _ ds,v,u,h,_,_=>by simp[jb] at h
 |n+1,.bor tm ds,v,u,h,t,r=>by obtain ⟨a,vs,rfl,t1,t2⟩:=t.oU lL lB rfl;cases r;simp only[jb,Ĳ] at h;obtain ⟨its,rv,⟨o,m,h1,h2,_,h3⟩,_⟩:=I.list t1;obtain ⟨as,q⟩:=mK (f:=λ d=>jb n d=true) (λ d v u h t r=>jj I lL lB n d v u h t r) ds vs its h t2 rv;exact ⟨a::as,reads_list_at h1 h2 h3 (by simpa using q)⟩
 |n+1,.tup ds,v,u,h,t,r=>by simp only[Tl] at t;obtain ⟨a,vs,rfl,t1,t2⟩:=t;cases r;simp only[jb,Ĳ] at h;obtain ⟨its,rv,⟨o,h1,h2,m,h3⟩,_⟩:=I.tuple (oh t1);obtain ⟨as,q⟩:=mK (f:=λ d=>jb n d=true) (λ d v u h t r=>jj I lL lB n d v u h t r) ds vs its h t2 rv;exact ⟨as,reads_tuple_at h1 h2 h3 (by simpa using q)⟩
 |n+1,.gt ds,v,u,h,t,r=>by simp only[Tl] at t;obtain ⟨a,vs,rfl,t1,t2⟩:=t;cases r;simp only[jb,Ĳ] at h;obtain ⟨its,rv,⟨o,h1,h2,m,h3⟩,_⟩:=I.tuple t1.sq;obtain ⟨as,q⟩:=mK (f:=λ d=>jb n d=true) (λ d v u h t r=>jj I lL lB n d v u h t r) ds vs its h t2 rv;exact ⟨as,reads_tuple_at h1 h2 h3 (by simpa using q)⟩
 |n+1,.lst ds,v,u,h,t,r=>by simp only[Tl] at t;obtain ⟨a,vs,rfl,t1,t2⟩:=t;cases r;simp only[jb,Ĳ] at h;obtain ⟨its,rv,⟨o,m,h1,h2,_,h3⟩,_⟩:=I.list t1.sq;obtain ⟨as,q⟩:=mK (f:=λ d=>jb n d=true) (λ d v u h t r=>jj I lL lB n d v u h t r) ds vs its h t2 rv;exact ⟨a::as,reads_list_at h1 h2 h3 (by simpa using q)⟩
 |0,.obj _ _ _,v,u,h,_,_=>by simp[jb] at h
 |0,.exc _,v,u,h,_,_=>by simp[jb] at h
 |n+1,.obj _ _ _,v,u,h,_,_=>by simp[jb] at h
 |n+1,.exc _,v,u,h,_,_=>by simp[jb] at h
 |0,.r6 _ _,v,u,h,_,_=>by simp[jb] at h
 |0,.uF _ _ _,v,u,h,_,_=>by simp[jb] at h
 |n+1,.r6 _ _,v,u,h,_,_=>by simp[jb] at h
 |n+1,.uF _ _ _,v,u,h,_,_=>by simp[jb] at h
 |0,.yb _ _ _ _,v,u,h,_,_=>by simp[jb] at h
 |n+1,.yb _ _ _ _,v,u,h,_,_=>by simp[jb] at h
end
section
variable{X:Cx}{ct:Ct}{a b e:Expr}{f g:`Ñ}{pos:Pos}
def abP(K:ă)(ct:Ct)(neg:Bool):R2:=λ x y H Q=>ay ct.f.L H/\ay ct.B H/\∃d1 d2,Tl K ct H d1 x/\Tl K ct H d2 y/\jb 12 d1=true/\jb 12 d2=true/\Q (.bl (if neg then !LF d1 d2 else LF d1 d2)) H
def W7(hu:X.A.units+64<cLine):p8 X (compareOp .Eq) (abP X.K ct false):=by intro pins s σ H x y v u Q I rx ry ⟨lL,lB,d1,d2,t1,t2,o1,o2,q⟩;obtain ⟨as,r1⟩:=jj I lL lB 12 d1 x v o1 t1 rx;obtain ⟨bs,r2⟩:=jj I lL lB 12 d2 y u o2 t2 ry;exact eq_dataH r1 r2 (qX o1) (qX o2) hu ⟨.bl _,H,I,rfl,q⟩
def ag0(hu:X.A.units+64<cLine):p8 X (compareOp .NotEq) (abP X.K ct true):=by intro pins s σ H x y v u Q I rx ry ⟨lL,lB,d1,d2,t1,t2,o1,o2,q⟩;obtain ⟨as,r1⟩:=jj I lL lB 12 d1 x v o1 t1 rx;obtain ⟨bs,r2⟩:=jj I lL lB 12 d2 y u o2 t2 ry;exact ne_dataH r1 r2 (qX o1) (qX o2) hu ⟨.bl _,H,I,rfl,q⟩
def Xa:CV X ct (abP X.K ct false) Vs:=by
 intro σ H x y d1 d2 Q lL lB t1 t2 h;unfold Vs at h;split at h
 ·rename_i ho;exact ⟨lL,lB,d1,d2,t1,t2,ho.1,ho.2,h _ H `Ù (by simp[Tl])⟩
 ·exact h.elim
def ag4:CV X ct (abP X.K ct true) RN:=by
 intro σ H x y d1 d2 Q lL lB t1 t2 h;unfold RN at h;split at h
 ·rename_i ho;exact ⟨lL,lB,d1,d2,t1,t2,ho.1,ho.2,h _ H `Ù (by simp[Tl])⟩
 ·exact h.elim
def akf(hu:X.A.units+64<cLine)(ha:WD X ct a f)(hb:WD X ct b g):WD X ct (.Compare a [.Eq] [b] pos) (aH Vs f g):=by have ha:=ha.out;have hb:=hb.out;exact ⟨FL (W7 hu) Xa ha hb (qY _)⟩
def AI(hu:X.A.units+64<cLine)(ha:WD X ct a f)(hb:WD X ct b g):DV X ct (.Compare a [.Eq] [b] pos) (dT (aH Vs f g)):=by have ha:=ha.out;have hb:=hb.out;exact ⟨o9 (W7 hu) Xa ha hb (qY _)⟩
def vc(hu:X.A.units+64<cLine)(ha:WD X ct a f)(hb:WD X ct b g):DV X ct (.Compare a [.NotEq] [b] pos) (dT (aH RN f g)):=by have ha:=ha.out;have hb:=hb.out;exact ⟨o9 (ag0 hu) ag4 ha hb (qY _)⟩
def AB{K:ă}{H:Hp}{ds:List D}{vs:List V}{i:Int}{d:D}(t:aF K ct H ds vs)(h:vJ ds i=some d):∃v,vJ vs i=some v/\Tl K ct H d v:=by
 unfold vJ at h ⊢;rw[<-t.length];cases q:vA ds.length i with
 |none=>rw[q] at h;cases h
 |some k=>rw[q] at h;exact t.get h
def ag5:CV X ct (rIx X.K) cC:=by
 intro σ H x y d1 d2 Q lL lB t1 t2 h;unfold cC at h;split at h
 ·rename_i ds i;split at h
  ·rename_i d hd;simp only[Tl] at t1 t2;obtain ⟨a,vs,rfl,h1,h2⟩:=t1;subst t2;obtain ⟨v,hv,tv⟩:=AB h2 hd;exact .inl ⟨a,vs,i,v,rfl,rfl,h1.sq,hv,h v H `Ù tv⟩
  ·exact h.elim
 ·rename_i tm ds i;split at h
  ·rename_i d hd;obtain ⟨a,vs,rfl,h1,h2⟩:=t1.oU lL lB rfl;simp only[Tl] at t2;subst t2;obtain ⟨v,hv,tv⟩:=AB h2 hd;exact .inl ⟨a,vs,i,v,rfl,rfl,h1,hv,h v H `Ù tv⟩
  ·exact h.elim
 ·rename_i ds i;split at h
  ·rename_i d hd;simp only[Tl] at t1 t2;obtain ⟨a,vs,rfl,h1,h2⟩:=t1;subst t2;obtain ⟨v,hv,tv⟩:=AB h2 hd;exact .inr (.inl ⟨a,vs,i,v,rfl,rfl,oh h1,hv,h v H `Ù tv⟩)
  ·exact h.elim
 ·rename_i ds i;split at h
  ·rename_i d hd;simp only[Tl] at t1 t2;obtain ⟨a,vs,rfl,h1,h2⟩:=t1;subst t2;obtain ⟨v,hv,tv⟩:=AB h2 hd;exact .inr (.inl ⟨a,vs,i,v,rfl,rfl,h1.sq,hv,h v H `Ù tv⟩)
  ·exact h.elim
 ·rename_i z i;split at h
  ·rename_i hz;split at h
   ·rename_i c hc;simp only[Tl] at t1 t2;subst t1 t2;exact .inr (.inr ⟨z,i,c,rfl,rfl,hz,hc,h _ H `Ù (by simp[Tl])⟩)
   ·exact h.elim
  ·exact h.elim
 ·exact h.elim
def aN(ha:WD X ct a f)(hb:WD X ct b g)(hs:SO b:=by exact λ _ _=>rfl):WD X ct (.Subscript a b pos) (aH cC f g):=by have ha:=ha.out;have hb:=hb.out;exact ⟨PE.imp (ak2 ahC ha hb hs) (FW ag5)⟩
def nY(ha:WD X ct a f)(hb:WD X ct b g):WD X ct (.BinOp a .Add b pos) (aH oV f g):=by
 have ha:=ha.out;have hb:=hb.out;refine ⟨?_⟩;refine Em (p8.or ag1 KI) (λ σ H x y d1 d2 Q lL lB t1 t2 h=>?_) ha hb;unfold oV at h;split at h
 ·simp only[Tl] at t1 t2;subst t1 t2;exact .inl ⟨_,_,rfl,rfl,h _ H `Ù (by simp[Tl])⟩
 ·split at h
  ·rename_i hl;simp only[Tl] at t1 t2;subst t1 t2;exact .inr ⟨_,_,rfl,rfl,hl,h _ H `Ù (by simp[Tl])⟩
  ·exact h.elim
 ·exact h.elim
def akU(K:ă):R2:=λ x y H Q=>∃l b xs zs,x= .ref l/\y= .ref b/\qO K H l xs/\qO K H b zs/\xs.length+zs.length<=Đ/\∀p,H p=none->Q (.ref p) (upd H p (.lst (xs++zs)))
def ab8:p8 X (binaryOp .Add) (akU X.K):=by
 intro pins s σ H x y v u Q I rx ry h;obtain ⟨l,b,xs,zs,rfl,rfl,hH,hB,hz,q⟩:=h;cases rx;cases ry;obtain ⟨its,r,⟨⟨oc,od,odt,osl⟩,n,e,hc,_,hd⟩,_⟩:=I.list hH;obtain ⟨its2,r2,⟨⟨oc2,od2,asn,aoS⟩,n2,e2,hc2,_,hd2⟩,_⟩:=I.list hB;simp only at hc hd hc2 hd2;subst hc hd hc2 hd2;have hl:=r.length;have hl2:=r2.length;have ea:its.toArray++its2.toArray=(its++its2).toArray:=by simp
 refine concat_meets ⟨_,e,rfl⟩ ⟨_,e2,rfl⟩ noFill_list_add seq_list_add PySem.F.slot_list_add PySem.F.entry_list_add
  (PySem.F.args_list_add_2 _ _) (list_addW l b its.toArray its2.toArray n n2 od od2 osl aoS (by simp only[Ę];omega)) ⟨e,e2,?_⟩
 rw[ea];exact ⟨.ref _,_,I.ao7 (t':=s.toks) (r.append r2) (by rw[ĩ];omega),rfl,q _ I.fresh⟩
def afX(ha:WD X ct a f)(hb:WD X ct b g):WL X ct (.BinOp a .Add b pos) (lOp Zj f g):=by
 have ha:=ha.out;have hb:=hb.out;refine ⟨?_⟩;refine PE.imp (aei ab8 ha hb) ?_
 rintro σ H Q ⟨Γ,j,h⟩
 refine rL.bnd j h λ d1 v H1 s1 t1 j1 h1=>?_;refine rL.bnd (W:=Wl X ct H Q) j1 (Ok.mono s1 h1 λ _ z=>z) λ d2 u H2 s2 t2 j2 h2=>?_;have t1:=t1.keep (ay.keep s2);unfold Zj at h2;split at h2
 ·rename_i e1 e2;split at h2
  ·rename_i hl;obtain ⟨a,vs,rfl,q1,q2⟩:=t1.oU j2.lL j2.lB e1;obtain ⟨b,us,rfl,q3,q4⟩:=t2.oU j2.lL j2.lB e2;refine ⟨a,b,vs,us,rfl,rfl,q1,q3,by rw[<-q2.length, <-q4.length];exact hl,λ p hp=>?_⟩;have s3:=bf hp (.lst (vs++us));exact h2 p _ _ ((s1.trans s2).trans s3) ((s1.trans s2).free hp) aC ((q2.append q4).keep (ay.keep s3))
  ·exact h2.elim
 ·exact h2.elim
def oOf(X:Cx)(ct:Ct)(f:Sg->Res (Option Int)):TO:=λ σ H Q=>∃Γ,Jx X ct Γ σ H/\Ok X ct σ H (f Γ) λ i=>∀H',ay H H'->Q i H'
abbrev PDO(X:Cx)(ct:Ct)(e:Option Expr)(f:Sg->Res (Option Int)):Prop:=PO X e (oOf X ct f)
structure WO(X:Cx)(e:Option Expr)(t:TO):Prop where
 out:PO X e t
abbrev WDO(X:Cx)(ct:Ct)(e:Option Expr)(f:Sg->Res (Option Int)):Prop:=WO X e (oOf X ct f)
def PO.imp{e:Option Expr}{t u:TO}(h:PO X e t)(k:∀σ H Q,u σ H Q->t σ H Q):PO X e u:=λ pins s σ H Q I q=>h pins s σ H Q I (k σ H Q q)
def vN(he:WD X ct e f):WDO X ct (some e) (dP f):=by
 have he:=he.out;refine ⟨?_⟩;refine PO.imp (abV he) λ σ H Q ⟨Γ,j,h⟩=>?_;refine rL.bnd j h λ d v H' s t j' h'=>?_;cases d with
 |int i=>simp only[Tl] at t;exact ⟨i,t,h' H' s⟩
 |_=>exact h'.elim
def Zf{K:ă}{H:Hp}{ds:List D}{vs:List V}(t:aF K ct H ds vs)(lo hi:Option Int):aF K ct H (Hh ds lo hi) (LJ vs lo hi):=by unfold Hh LJ;rw[t.length];exact (t.drop _).take _
def VB{lo hi:Option Expr}{l u:Sg->Res (Option Int)}{p2:Pos}(he:WD X ct e f)(hl:WDO X ct lo l)(hu:WDO X ct hi u):WL X ct (.Subscript e (.Slice lo hi none p2) pos) (DJ f l u):=by
 have he:=he.out;have hl:=hl.out;have hu:=hu.out;refine ⟨?_⟩;refine PE.imp (WJ abA he hl hu) λ σ H Q ⟨Γ,j,h⟩=>?_;refine rL.bnd j h λ d v H1 s1 t1 j1 h1=>?_;refine ⟨Γ,j1,(Ok.mono s1 h1 λ _ z=>z).bnd (W:=Wl X ct H Q) λ lo _ h2 H2 s2=>?_⟩;refine ⟨Γ,j1.mono s2,(Ok.mono s2 h2 λ _ z=>z).bnd (W:=Wl X ct H Q) λ hi _ h3 H3 s3=>?_⟩;have t3:=t1.keep (ay.keep (s2.trans s3));cases q:Vh d with
 |some xs=>rw[q] at h3;have j3:=j1.mono (s2.trans s3);obtain ⟨a,vs,rfl,fz,tl⟩:=t3.oU j3.lL j3.lB q;refine ⟨a,vs,rfl,fz,λ p hp=>?_⟩;have s4:=bf hp (.lst (LJ vs lo hi));exact h3 p _ _ (((s1.trans s2).trans s3).trans s4) (((s1.trans s2).trans s3).free hp) aC ((Zf tl lo hi).keep (ay.keep s4))
 |none=>rw[q] at h3;exact h3.elim
end
section
variable{K:ă}{ct:Ct}{H H':Hp}
def Walk(H:Hp):M->V->List Nat->V->Prop
 |_,v,[],v'=>v'=v
 | .n ms,v,k::ks,v'=>∃a vs v1 m1,v= .ref a/\H a=some (.lst vs)/\vs[k]? =some v1/\ms[k]? =some m1/\Walk H m1 v1 ks v'
 | .t ms,v,k::ks,v'=>∃a vs v1 m1,v= .ref a/\H a=some (.tup vs)/\vs[k]? =some v1/\ms[k]? =some m1/\Walk H m1 v1 ks v'
 | .q kq ms,v,k::ks,v'=>∃a vs v1 m1,v= .ref a/\H a=some (kq.ho vs)/\kq.len=vs.length/\vs[k]? =some v1/\ms[k]? =some m1/\Walk H m1 v1 ks v'
 |_,_,_::_,_=>False
theorem Walk.same(e:ay H H'):∀{ks:`Ö} {m:M} {v v':V},Walk H m v ks v'->Walk H' m v ks v'
 |[],m,v,v',h=>by cases m<;>simpa only[Walk] using h
 |k::ks,.n ms,v,v',h=>by simp only[Walk] at h ⊢;obtain ⟨a,vs,v1,m1,h1,h2,h3,h4,h5⟩:=h;exact ⟨a,vs,v1,m1,h1,e _ _ h2,h3,h4,Walk.same e h5⟩
 |k::ks,.t ms,v,v',h=>by simp only[Walk] at h ⊢;obtain ⟨a,vs,v1,m1,h1,h2,h3,h4,h5⟩:=h;exact ⟨a,vs,v1,m1,h1,e _ _ h2,h3,h4,Walk.same e h5⟩
 |k::ks,.q kq ms,v,v',h=>by simp only[Walk] at h ⊢;obtain ⟨a,vs,v1,m1,h1,h2,h0,h3,h4,h5⟩:=h;exact ⟨a,vs,v1,m1,h1,e _ _ h2,h0,h3,h4,Walk.same e h5⟩
 |k::ks,.d x,v,v',h=>by simp only[Walk] at h
 |k::ks,.l x,v,v',h=>by simp only[Walk] at h
 |k::ks,.k x y,v,v',h=>by simp only[Walk] at h
 |k::ks,.o x y z,v,v',h=>by simp only[Walk] at h
theorem zip_inj{α β:Type}:∀{ks:List α} {vs us:List β},ks.length=vs.length->ks.length=us.length->ks.zip vs=ks.zip us->vs=us
 |[],[],[],_,_,_=>rfl
 |k::ks,v::vs,u::us,h1,h2,e=>by simp only[ĥ,Ŗ,ŭ,true_and] at e;rw[e.1,zip_inj (by simpa using h1) (by simpa using h2) e.2]
def YE{kq:Ks}{vs us:List V}(h1:kq.len=vs.length)(h2:kq.len=us.length)(e:kq.ho vs=kq.ho us):vs=us:=by
 cases kq with
 |s ks=>simp only[Ks.ho,HO.dK.injEq] at e;exact zip_inj h1 h2 e
 |t ks=>simp only[Ks.ho,HO.dT.injEq] at e;exact zip_inj h1 h2 e
theorem eU.length:∀{ms:List M} {vs:List V} {S:Fp},eU K ct H ms vs S->ms.length=vs.length
 |[],vs,S,h=>by simp only[eU] at h;subst h;rfl
 |m::ms,vs,S,h=>by simp only[eU] at h;obtain ⟨v,r,S1,S2,rfl,_,_,_,_,h6⟩:=h;simp[eU.length h6]
theorem eU.U7:∀{ms:List M} {vs:List V} {S:Fp} {k:Nat} {m1:M},eU K ct H ms vs S->ms[k]? =some m1->∃v1 S1,vs[k]? =some v1/\Ow K ct H m1 v1 S1/\(∀b,S1 b->S b)/\∀H' je Hv,aW ct.f.cb H H'->(∀b o,S b->¬S1 b->H b=some o->H' b=some o)->Ow K ct H' je v1 Hv->(∀b,Hv b->S b->S1 b)->eU K ct H' (ms.set k je) vs (λ b=>(S b/\¬S1 b)\/Hv b)
 |[],vs,S,k,m1,h,e=>by simp at e
 |m::ms,vs,S,0,m1,h,e=>by simp only[eU] at h;obtain ⟨v,r,S1,S2,rfl,h2,h3,h4,h5,h6⟩:=h;simp only[ō,Ľ] at e;subst e;refine ⟨v,S1,rfl,h5,h2,λ H' je Hv kp un o fr=>?_⟩;simp only[Āu,eU];refine ⟨v,r,Hv,S2,rfl,λ b z=> .inr z,λ b z=> .inl ⟨h3 b z,λ w=>h4 b w z⟩,λ b z w=>h4 b (fr b z (h3 b w)) w,o,h6.frame kp λ b o z=>un b o (h3 b z) λ w=>h4 b w z⟩
 |m::ms,vs,S,k+1,m1,h,e=>by
  simp only[eU] at h;obtain ⟨v,r,S1,S2,rfl,h2,h3,h4,h5,h6⟩:=h;simp only[Ķ] at e;obtain ⟨v1,T1,g1,g2,g3,g4⟩:=eU.U7 h6 e;refine ⟨v1,T1,by simpa using g1,g2,λ b z=>h3 b (g3 b z),λ H' je Hv kp un o fr=>?_⟩;have q:=g4 H' je Hv kp (λ b o z w=>un b o (h3 b z) w) o λ b z w=>fr b z (h3 b w);simp only[Ų,eU];refine ⟨v,r,S1,λ b=>(S2 b/\¬T1 b)\/Hv b,rfl,λ b z=> .inl ⟨h2 b z,λ w=>h4 b z (g3 b w)⟩,λ b z=>?_,λ b z w=>?_,h5.frame kp λ b o z=>un b o (h2 b z) λ w=>h4 b z (g3 b w),q⟩
  ·rcases z with z|z
   ·exact .inl ⟨h3 b z.1,z.2⟩
   ·exact .inr z
  ·rcases w with w|w
   ·exact h4 b z w.1
   ·exact h4 b z (g3 b (fr b w (h2 b z)))
theorem Ow.U7:∀{ks:`Ö} {m m':M} {v v':V} {S:Fp},Ow K ct H m v S->Walk H m v ks v'->HE m ks=some m'->∃S',Ow K ct H m' v' S'/\(∀b,S' b->S b)/\∀H' je Hv,aW ct.f.cb H H'->(∀b o,S b->¬S' b->H b=some o->H' b=some o)->Ow K ct H' je v' Hv->(∀b,Hv b->S b->S' b)->Ow K ct H' (nD m ks je) v (λ b=>(S b/\¬S' b)\/Hv b)
 |[],m,m',v,v',S,o,w,e=>by
  simp only[Walk] at w;simp only[HE,Ľ] at e;subst w e;refine ⟨S,o,λ _ z=>z,λ H' je Hv kp un o' fr=>?_⟩;have:nD m [] je=je:=by cases m<;>rfl
  rw[this];exact o'.wide λ b z=> .inr z
 |k::ks,.n ms,m',v,v',S,o,w,e=>by
  simp only[Walk] at w;obtain ⟨a,vs,v1,m1,rfl,w2,w3,w4,w5⟩:=w;simp only[HE,w4,Ġ] at e;simp only[Ow] at o;obtain ⟨a',us,e1,o2,o3,o4⟩:=o;cases e1;rw[w2] at o3;cases o3;obtain ⟨u1,T1,g1,g2,g3,g4⟩:=eU.U7 o4 w4;rw[w3] at g1;cases g1;obtain ⟨S',q1,q2,q3⟩:=Ow.U7 g2 w5 e;refine ⟨S',q1,λ b z=>(g3 b (q2 b z)).1,λ H' je Hv kp un o' fr=>?_⟩;have na:¬S' a:=λ z=>(g3 a (q2 a z)).2 rfl;have r1:=q3 H' je Hv kp (λ b o z=>un b o (g3 b z).1) o' λ b z z'=>fr b z (g3 b z').1;have r2:=g4 H' (nD m1 ks je) _ kp (λ b o z z'=>un b o z.1 λ y=>z' (q2 b y)) r1 λ b z z'=>by
   rcases z with z|z
   ·exact z.1
   ·exact q2 b (fr b z z'.1)
  simp only[nD,w4,Ow];refine ⟨a,vs,rfl,.inl ⟨o2,na⟩,un a _ o2 na w2,r2.wide λ b z=>?_⟩;rcases z with z|z|z
  ·exact ⟨.inl ⟨z.1.1,λ y=>z.2 (q2 b y)⟩,z.1.2⟩
  ·exact ⟨.inl ⟨(g3 b z.1).1,z.2⟩,(g3 b z.1).2⟩
  ·refine ⟨.inr z,?_⟩
   rintro rfl
   exact na (fr b z o2)
 |k::ks,.t ms,m',v,v',S,o,w,e=>by
  simp only[Walk] at w;obtain ⟨a,vs,v1,m1,rfl,w2,w3,w4,w5⟩:=w;simp only[HE,w4,Ġ] at e;simp only[Ow] at o;obtain ⟨a',us,e1,o3,o4⟩:=o;cases e1;rw[w2] at o3;cases o3;obtain ⟨u1,T1,g1,g2,g3,g4⟩:=eU.U7 o4 w4;rw[w3] at g1;cases g1;obtain ⟨S',q1,q2,q3⟩:=Ow.U7 g2 w5 e;refine ⟨S',q1,λ b z=>g3 b (q2 b z),λ H' je Hv kp un o' fr=>?_⟩;have r1:=q3 H' je Hv kp (λ b o z=>un b o (g3 b z)) o' λ b z z'=>fr b z (g3 b z');have r2:=g4 H' (nD m1 ks je) _ kp (λ b o z z'=>un b o z λ y=>z' (q2 b y)) r1 λ b z z'=>by
   rcases z with z|z
   ·exact z.1
   ·exact q2 b (fr b z z')
  simp only[nD,w4,Ow];refine ⟨a,vs,rfl,kp _ _ w2 trivial,r2.wide λ b z=>?_⟩;rcases z with z|z|z
  ·exact .inl ⟨z.1,λ y=>z.2 (q2 b y)⟩
  ·exact .inl ⟨g3 b z.1,z.2⟩
  ·exact .inr z
 |k::ks,.q kq ms,m',v,v',S,o,w,e=>by
  simp only[Walk] at w;obtain ⟨a,vs,v1,m1,rfl,w2,w0,w3,w4,w5⟩:=w;simp only[HE,w4,Ġ] at e;simp only[Ow] at o;obtain ⟨a',us,e1,o2,o3,o0,o4⟩:=o;cases e1;rw[w2] at o3;cases YE w0 o0 (ĝ o3);obtain ⟨u1,T1,g1,g2,g3,g4⟩:=eU.U7 o4 w4;rw[w3] at g1;cases g1;obtain ⟨S',q1,q2,q3⟩:=Ow.U7 g2 w5 e;refine ⟨S',q1,λ b z=>(g3 b (q2 b z)).1,λ H' je Hv kp un o' fr=>?_⟩;have na:¬S' a:=λ z=>(g3 a (q2 a z)).2 rfl;have r1:=q3 H' je Hv kp (λ b o z=>un b o (g3 b z).1) o' λ b z z'=>fr b z (g3 b z').1;have r2:=g4 H' (nD m1 ks je) _ kp (λ b o z z'=>un b o z.1 λ y=>z' (q2 b y)) r1 λ b z z'=>by
   rcases z with z|z
   ·exact z.1
   ·exact q2 b (fr b z z'.1)
  simp only[nD,w4,Ow];refine ⟨a,vs,rfl,.inl ⟨o2,na⟩,un a _ o2 na w2,w0,r2.wide λ b z=>?_⟩;rcases z with z|z|z
  ·exact ⟨.inl ⟨z.1.1,λ y=>z.2 (q2 b y)⟩,z.1.2⟩
  ·exact ⟨.inl ⟨(g3 b z.1).1,z.2⟩,(g3 b z.1).2⟩
  ·refine ⟨.inr z,?_⟩
   rintro rfl
   exact na (fr b z o2)
 |k::ks,.d x,m',v,v',S,o,w,e=>by simp only[Walk] at w
 |k::ks,.l x,m',v,v',S,o,w,e=>by simp only[Walk] at w
 |k::ks,.k x y,m',v,v',S,o,w,e=>by simp only[Walk] at w
 |k::ks,.o x y z,m',v,v',S,o,w,e=>by simp only[Walk] at w
def J.up{c:Cf}{H₀:Hp}{Γ:Sg}{σ:St}{i:Nat}{s:Slot}{m m' je:M}{v0:V}{a:Addr}{ks:`Ö}{o':HO}(j:J K c.z H₀ Γ σ H)(hi:Γ[i]? =some s)(hm:V8 s=some m)(hσ:σ[i]? =some (some v0))(w:Walk H m v0 ks (.ref a))(e:HE m ks=some m') (kp:aW c.cb H (upd H a o')) (new:∀S',Ow K c.z H m' (.ref a) S'->S' a/\Ow K c.z (upd H a o') je (.ref a) S'):J K c.z H₀ (Γ.set i (Wh s (nD m ks je))) σ (upd H a o'):=by
 obtain ⟨S,h1,h2⟩:=j.chg i;have sl:=h1 s _ hi hσ;have key:∀(v:V) (o:Ow K c.z H m v S) (hv:v=v0),∃S2:Fp,Ow K c.z (upd H a o') (nD m ks je) v0 S2/\(∀b,S2 b->S b)/\S a:=λ v o hv=>by
  subst hv;obtain ⟨S',q1,q2,q3⟩:=o.U7 w e;obtain ⟨n1,n2⟩:=new S' q1;refine ⟨_,q3 _ je S' kp (λ b u z z' q=>by rw[aE (by rintro rfl;exact z' n1)];exact q) n2 λ b z _=>z,λ b z=>?_,q2 a n1⟩;rcases z with z|z
  ·exact z.1
  ·exact q2 b z
 have fin:∀(sl':Slot) (S2:Fp),S a->(∀b,S2 b->S b)->p7 K c.z H₀ (upd H a o') i S2 sl' (some v0)->J K c.z H₀ (Γ.set i sl') σ (upd H a o'):=λ sl' S2 sa sub ok=>by
  have q:=h2 (upd H a o') sl' (some v0) S2 kp (λ b u z z'=>by rw[aE (by rintro rfl;exact z' sa)];exact z) (λ b z=>by
   by_cases eb:b=a
   ·subst eb;rw[aC] at z;cases z
   ·rwa [aE eb] at z) (λ b u z=>nomatch z) ok λ b z=> .inl (sub b z)
  have hil:i<σ.length:=(Ď.mp hσ).1;have:σ.set i (some v0)=σ:=by have e2:=(Ď.mp hσ).2;rw[<-e2,Ăl]
  rwa [this] at q
 have sok:∀S2:Fp,(∀b,S2 b->S b)->SOk c.z H₀ H S->SOk c.z H₀ (upd H a o') S2:=λ S2 sub so=>⟨λ b z=>so.new b (sub b z),λ b z q=>so.here b (sub b z) (by
   by_cases eb:b=a
   ·subst eb;rw[aC] at q;cases q
   ·rwa [aE eb] at q),λ b z=>so.IA b (sub b z),λ b z t=>nomatch t⟩
 cases s with
 |no=>cases hm
 |val d=>cases hm
 |own m0=>cases hm;obtain ⟨v,e1,o,so,n⟩:=sl;obtain ⟨S2,o2,sub,sa⟩:=key v o (by cases e1;rfl);exact fin (.own (nD m ks je)) S2 sa sub ⟨v0,rfl,o2,sok S2 sub so,λ b z=>n b (sub b z)⟩
 |par m0=>cases hm;obtain ⟨v,e1,o,so,n⟩:=sl;obtain ⟨S2,o2,sub,sa⟩:=key v o (by cases e1;rfl);exact fin (.par (nD m ks je)) S2 sa sub ⟨v0,rfl,o2,sok S2 sub so,by cases e1;exact n⟩
end
section
variable{X:Cx}{ct:Ct}{c:Cf}{r ix e:Expr}{i:Nat}{g:Sg->Res (List Nat)}{f fk:`Ñ}{pos:Pos}{Γ:Sg}{σ:St}{H:Hp}
noncomputable def tS(Γ:Sg)(σ:St)(H:Hp)(i:Nat)(ks:`Ö)(v:V):Prop:=∃s m v0 m',Γ[i]? =some s/\V8 s=some m/\σ[i]? =some (some v0)/\Walk H m v0 ks v/\HE m ks=some m'
theorem tS.same{H':Hp}{ks:`Ö}{v:V}(e:ay H H')(h:tS Γ σ H i ks v):tS Γ σ H' i ks v:=by obtain ⟨s,m,v0,m',h1,h2,h3,h4,h5⟩:=h;exact ⟨s,m,v0,m',h1,h2,h3,h4.same e,h5⟩
def pOf(X:Cx)(ct:Ct)(i:Nat)(g:Sg->Res (List Nat)):TE:=λ σ H Q=>∃Γ,Jx X ct Γ σ H/\Ok X ct σ H (g Γ) λ ks=>∀v H',ay H H'->tS Γ σ H' i ks v->Q v H'
abbrev PP(X:Cx)(ct:Ct)(e:Expr)(i:Nat)(g:Sg->Res (List Nat)):Prop:=PE X e (pOf X ct i g)
abbrev WP(X:Cx)(ct:Ct)(e:Expr)(i:Nat)(g:Sg->Res (List Nat)):Prop:=WE X e (pOf X ct i g)
def J.ofM{K:ă}{H₀:Hp}{s:Slot}{m:M}(j:J K ct H₀ Γ σ H)(h:Γ[i]? =some s)(hm:V8 s=some m):∃v S,σ[i]? =some (some v)/\Ow K ct H m v S:=by
 cases s with
 |no=>cases hm
 |val d=>cases hm
 |own m'=>cases hm;obtain ⟨v,S,h1,h2,_⟩:=j.own h;exact ⟨v,S,h1,h2⟩
 |par m'=>cases hm;obtain ⟨v,S,h1,h2,_⟩:=j.par h;exact ⟨v,S,h1,h2⟩
def RB(i:Nat){x:Str}{pos:Pos}(hN:X.N[i]? =some x:=by rfl)(hv:Vj X.env.scope x:=by first|exact Or.inl rfl|exact Or.inr (Or.inl rfl)|exact Or.inr (Or.inr rfl))(hd:(x==("__debug__":Str))=false:=by decide) (hcd:(x==("__classdict__":Str))=false:=by decide):PP X ct (.Name x pos) i (om i):=by
 refine PE.imp (Bf hN hv hd hcd) λ σ H Q ⟨Γ,j,h⟩=>?_;unfold om at h;split at h
 ·rename_i m hm;obtain ⟨s,h1,h2⟩:=Ām.mp hm;obtain ⟨v,S,h3,h4⟩:=j.ofM h1 h2;refine ⟨v,h3,h v H `Ù ⟨s,m,v,m,h1,h2,h3,?_,?_⟩⟩
  ·cases m<;>rfl
  ·cases m<;>rfl
 ·exact h.elim
def qQ(i:Nat)(hN:X.N[i]? =some x:=by rfl)(hv:Vj X.env.scope x:=by first|exact Or.inl rfl|exact Or.inr (Or.inl rfl)|exact Or.inr (Or.inr rfl))(hd:(x==("__debug__":Str))=false:=by decide)(hcd:(x==("__classdict__":Str))=false:=by decide):WP X ct (.Name x pos) i (om i):=⟨RB (i:=i) (hN:=hN) (hv:=hv) (hd:=hd) (hcd:=hcd)⟩
end
section
variable{X:Cx}{c:Cf}{r ix e:Expr}{i:Nat}{g:Sg->Res (List Nat)}{f fk:`Ñ}{pos:Pos}{Γ:Sg}{σ:St}{H:Hp}
def iU:1000000<Đ:=by rw[Ĵ];decide
theorem eU.snoc{K:ă}{ct:Ct}{d:D}{y:V}:∀{ms:List M} {vs:List V} {S:Fp},eU K ct H ms vs S->Tl K ct H d y->eU K ct H (ms++[.d d]) (vs++[y]) S
 |[],vs,S,h,t=>by simp only[eU] at h;subst h;simp only[Ŧ,eU,Ow];exact ⟨y,[],λ _=>False,λ _=>False,rfl,λ _ z=>z.elim,λ _ z=>z.elim,λ _ z=>z.elim,t,rfl⟩
 |m::ms,vs,S,h,t=>by simp only[eU] at h;obtain ⟨v,r,S1,S2,rfl,h2,h3,h4,h5,h6⟩:=h;simp only[Ş,eU];exact ⟨v,r++[y],S1,S2,rfl,h2,h3,h4,h5,eU.snoc h6 t⟩
theorem eU.akC{K:ă}{ct:Ct}{d:D}{y:V}:∀{ms:List M} {vs:List V} {S:Fp} (k:Nat),eU K ct H ms vs S->Tl K ct H d y->eU K ct H (ms.set k (.d d)) (vs.set k y) S
 |[],vs,S,k,h,t=>by simp only[eU] at h;subst h;simp[eU]
 |m::ms,vs,S,0,h,t=>by simp only[eU] at h;obtain ⟨v,r,S1,S2,rfl,h2,h3,h4,h5,h6⟩:=h;simp only[Āu,eU,Ow];exact ⟨y,r,λ _=>False,S2,rfl,λ _ z=>z.elim,h3,λ _ z=>z.elim,t,h6⟩
 |m::ms,vs,S,k+1,h,t=>by simp only[eU] at h;obtain ⟨v,r,S1,S2,rfl,h2,h3,h4,h5,h6⟩:=h;simp only[Ų,eU];exact ⟨v,r.set k y,S1,S2,rfl,h2,h3,h4,h5,eU.akC k h6 t⟩
def Es{ks:`Ö}{v:V}(j:Jx X c.z Γ σ H)(pa:tS Γ σ H i ks v)(hl:UN (zy i ks Γ)=true):∃a vs,v= .ref a/\H a=some (.lst vs):=by
 obtain ⟨s,m,v0,m',p1,p2,p3,p4,p5⟩:=pa;have e1:zy i ks Γ=some m':=by unfold zy;rw[p1,Ġ,p2,Ġ,p5]
 rw[e1] at hl;obtain ⟨vv,S,g1,o⟩:=j.ofM p1 p2;rw[p3] at g1;cases g1;obtain ⟨S',o',_⟩:=o.U7 p4 p5;cases m' with
 |l xs=>simp only[Ow] at o';obtain ⟨a,vs,h1,_,h2,_⟩:=o';exact ⟨a,vs,h1,h2⟩
 |n xs=>simp only[Ow] at o';obtain ⟨a,vs,h1,_,h2,_⟩:=o';exact ⟨a,vs,h1,h2⟩
 |_=>cases hl
def Fq{F:M->Option M}(j:Jx X c.z Γ σ H)(k0:aW c.cb H0 H)(pa:tS Γ σ H i ks (.ref a))(ha:H a=some (.lst vs))(q:Fn X c H0 (oUp (xY i ks F Γ)) E)(hF:∀m' je S',F m'=some je->Ow X.K c.z H m' (.ref a) S'->S' a/\Ow X.K c.z (upd H a (.lst vs')) je (.ref a) S'):E.nx σ (upd H a (.lst vs')):=by
 obtain ⟨s,m,v0,m',p1,p2,p3,p4,p5⟩:=pa;have e1:xY i ks F Γ=(F m').map λ je=>Γ.set i (Wh s (nD m ks je)):=by unfold xY;rw[p1,Ġ,p2,Ġ,p5,Ġ]
 rw[e1] at q;cases z:F m' with
 |none=>rw[z] at q;exact q.elim
 |some je=>rw[z] at q;have kp:aW c.cb H (upd H a (.lst vs')):=aW.lst ha;exact q σ _ (k0.trans kp) (j.up p1 p2 p3 p4 p5 kp λ S' o=>hF m' je S' z o)
def Fo{ks:`Ö}{v:V}{F:M->Option M}{E:Ends}{H0:Hp}(j:Jx X c.z Γ σ H)(pa:tS Γ σ H i ks v)(q:Fn X c H0 (oUp (xY i ks F Γ)) E):∃m' je S',F m'=some je/\Ow X.K c.z H m' v S':=by
 obtain ⟨s,m,v0,m',p1,p2,p3,p4,p5⟩:=pa;have e1:xY i ks F Γ=(F m').map λ je=>Γ.set i (Wh s (nD m ks je)):=by unfold xY;rw[p1,Ġ,p2,Ġ,p5,Ġ]
 rw[e1] at q;obtain ⟨vv,S,g1,o⟩:=j.ofM p1 p2;rw[p3] at g1;cases g1;obtain ⟨S',o',_⟩:=o.U7 p4 p5;cases z:F m' with
 |none=>rw[z] at q;exact q.elim
 |some je=>exact ⟨m',je,S',z,o'⟩
def Zv{K:ă}{d:D}{y:V}{a:Addr}{vs:List V}{B:Hp}{m' je:M}{S':Fp}(t:Tl K (c.at' B) H d y)(ha:H a=some (.lst vs))(e:Vi d m'=some je)(o:Ow K c.z H m' (.ref a) S'):
  vs.length<1000000/\S' a/\Ow K c.z (upd H a (.lst (vs++[y]))) je (.ref a) S':=by
 have kp:aW c.cb H (upd H a (.lst (vs++[y]))):=aW.lst ha;cases m' with
 |l xs=>
  simp only[Vi] at e;split at e
  ·rename_i hc;cases e;simp only[Ow] at o ⊢;obtain ⟨a',us,e1,o2,o3,o4⟩:=o;cases e1;rw[ha] at o3;cases o3;exact ⟨by rw[<-o4.length];exact hc.1,o2,a,_,rfl,o2,aC,(o4.append (aF.cons (Tl.down (B:=B) (tm:=true) t hc.2) aF.nil)).keep kp⟩
  ·cases e
 |n ms=>
  simp only[Vi] at e;split at e
  ·rename_i hc;cases e;simp only[Ow] at o ⊢;obtain ⟨a',us,e1,o2,o3,o4⟩:=o;cases e1;rw[ha] at o3;cases o3;refine ⟨by rw[<-o4.length];exact hc.1,o2,a,_,rfl,o2,aC,(o4.snoc (Tl.down (B:=B) (tm:=true) t hc.2)).frame kp λ b o z q=>?_⟩;rw[aE z.2];exact q
  ·cases e
 |_=>cases e
def apf(n:Nat)(z:Int):L4.vA n z=L2.vA n z:=rfl
def V9{K:ă}{d:D}{y:V}{z:Int}{a:Addr}{vs:List V}{B:Hp}{m' je:M}{S':Fp}(t:Tl K (c.at' B) H d y)(ha:H a=some (.lst vs))(e:setM z d m'=some je)(o:Ow K c.z H m' (.ref a) S'):
  ∃k,L2.vA vs.length z=some k/\S' a/\Ow K c.z (upd H a (.lst (vs.set k y))) je (.ref a) S':=by
 cases m' with
 |l xs=>
  simp only[setM] at e;split at e
  ·rename_i hc;simp only[Āv] at e;obtain ⟨k,hk,rfl⟩:=e;simp only[Ow] at o ⊢;obtain ⟨a',us,e1,o2,o3,o4⟩:=o;cases e1;rw[ha] at o3;cases o3;refine ⟨k,by rw[<-o4.length];exact hk,o2,a,_,rfl,o2,aC,(aF.set (Tl.down (B:=B) (tm:=true) t hc) k o4).keep (aW.lst ha)⟩
  ·cases e
 |n ms=>
  simp only[setM] at e;split at e
  ·rename_i hc;simp only[Āv] at e;obtain ⟨k,hk,rfl⟩:=e;simp only[Ow] at o ⊢;obtain ⟨a',us,e1,o2,o3,o4⟩:=o;cases e1;rw[ha] at o3;cases o3;refine ⟨k,by rw[<-o4.length];exact hk,o2,a,_,rfl,o2,aC,(eU.akC k o4 (Tl.down (B:=B) (tm:=true) t hc)).frame (aW.lst ha) λ b o z q=>?_⟩;rw[aE z.2];exact q
  ·cases e
 |_=>cases e
def yg{pt:Pos}(hr:∀B,WP X (c.at' B) r i g)(hk:∀B,WD X (c.at' B) ix fk)(he:∀B,WD X (c.at' B) e f)(hs:swapsWithSole [.Subscript r ix pt] e pos.line X.env=pure false:=by rfl)(hw:swappedStores [.Subscript r ix pt] e X.env=pure none:=by rfl)(h1:(assignEach [.Subscript r ix pt] X.env).map (·.2)=[assign (.Subscript r ix pt) X.env]:=by rfl)(ha:∀v,assign (.Subscript r ix pt) X.env v=(do
   let ov <-holding [v] (eval r X.env)
   let iv <-holding [v,ov] (eval ix X.env)
   standAt pt
   holding [v,ov,iv] (setItem ov iv v)
   release [v,ov,iv] []):=by intro _;rfl):CL X c (.Assign [.Subscript r ix pt] e pos) (yu i g fk f):=by
 have hr:=λ B=>(hr B).out
 have hk:=λ B=>(hk B).out
 have he:=λ B=>(he B).out
 refine ⟨?_⟩
 intro pins s σ H E I ⟨Γ,j,h⟩
 refine Wu (he H) (agN (hr H) (hk H) set_list ha) hs hw h1 pins s σ H E I ?_
 refine ⟨Γ,j.lift,Fn.ok j h λ d _ q y H1 s1 t=>?_⟩
 refine ⟨Γ,j.lift.mono s1,Ok.mono (H:=H) s1 (Fn.ok (tm:=true) (B:=H) j q λ ks _ q v H2 s2 pa=>?_) λ _ z=>z⟩
 refine ⟨Γ,(j.lift.mono s1).mono s2,Ok.mono (H:=H) (s1.trans s2) (Fn.ok (tm:=true) (B:=H) j q λ z _ q u H3 s3 t3=>?_) λ _ z=>z⟩
 cases z with
 |int z=>
  simp only[Tl] at t3
  subst t3
  have sm:=(s1.trans s2).trans s3
  have j3:=j.mono sm
  have pa3:=pa.same s3
  have ty:=t.keep (ay.keep (s2.trans s3))
  obtain ⟨m',je,S',e1,o1⟩:=Fo j3 pa3 q
  have hv:∃a vs,v= .ref a/\H3 a=some (.lst vs):=by
   cases m' with
   |l xs=>simp only[Ow] at o1;obtain ⟨a,vs,h1,_,h2,_⟩:=o1;exact ⟨a,vs,h1,h2⟩
   |n xs=>simp only[Ow] at o1;obtain ⟨a,vs,h1,_,h2,_⟩:=o1;exact ⟨a,vs,h1,h2⟩
   |_=>cases e1
  obtain ⟨a,vs,rfl,ha⟩:=hv
  obtain ⟨k,hk,_⟩:=V9 ty ha e1 o1
  refine ⟨a,vs,z,k,rfl,rfl,ha,hk,?_⟩
  exact Fq j3 (ay.keep sm) pa3 ha q λ m' je S' e o=>by
   obtain ⟨k',hk',q'⟩:=V9 ty ha e o
   rw[hk] at hk';cases hk'
   exact q'
 |_=>exact q.elim
end
def Hy(K:ă)(ct:Ct)(J:It)(xs:List D)(H:Hp):Prop:=∃P:Hp->Prop,P H/\(∀H1 H2,P H1->aW ct.f.cb H1 H2->ay ct.f.L H2->ay ct.B H2->P H2)/\(∀i d H1,P H1->xs[i]? =some d->J.go i H1/\∀x H2,J.yld i H1 x H2->ay H1 H2/\Tl K ct H2 d x)/\∀i H1,P H1->xs.length<=i->J.stop i H1
noncomputable def aiN(x:Str):It:=⟨λ i _=>i<x.cps.size,λ i H v H'=>H'=H/\∃c,x.cps[i]? =some c/\v= .str ⟨#[c]⟩,λ i _=>x.cps.size<=i⟩
def HW{P:Program}{w:World}{K:ă}{tg:Expr}(it:Addr)(x:Str)(u:Tok){T:String}(hT:T="str_ascii_iterator"\/T="str_iterator"):Turn P w K tg (aiN x) [it] it (λ i h=>h.IsStrIter it T x u i) where
 mem:=by simp
 obj:=λ i h st b hb=>by
  have e:b=it:=by simpa using hb
  subst e
  obtain ⟨o,e,c,d⟩:=st
  exact ⟨o,e,λ v z=>by rw[d] at z;cases z⟩
 keep:=λ i h h' st k=>let ⟨o,e,r⟩:=st;⟨o,k it `Ó o e,r⟩
 item:=by
  intro X hP hw hK hc i pins s σ H E I hf st hg
  subst hP hw hK
  obtain ⟨f0,f1,f2,f3,f4,f5⟩:=hf it `Ó
  rcases hT with rfl|rfl
  ·refine (Walks.strAscii (prog:=X.prog) (w:=X.w) (I.ok.hd hc) it x u).item i s _ _ hg st λ v h' tk hv st' kk=>?_
   obtain ⟨c,t,hx,rfl⟩:=hv
   have I1:Inv X pins σ H {s with heap:=h',toks:=tk}:=I.turned (λ b o hb e=>kk b o (by simpa using hb) e) f0 f1 f3 f4 f5
   obtain ⟨o,e,c1,d⟩:=id st'
   exact ⟨_,rfl,Js (s:={s with heap:=h',toks:=tk}) e c1 d `Â ⟨.str ⟨#[c]⟩,H,I1,⟨t,rfl⟩,⟨rfl,c,hx,rfl⟩,st',λ b hb=>(hf b hb).1⟩⟩
  ·refine (Walks.strWide (prog:=X.prog) (w:=X.w) (I.ok.hd hc) it x u).item i s _ _ hg st λ v h' tk hv st' kk=>?_
   obtain ⟨c,t,hx,rfl⟩:=hv
   have I1:Inv X pins σ H {s with heap:=h',toks:=tk}:=I.turned (λ b o hb e=>kk b o (by simpa using hb) e) f0 f1 f3 f4 f5
   obtain ⟨o,e,c1,d⟩:=id st'
   exact ⟨_,rfl,Js (s:={s with heap:=h',toks:=tk}) e c1 d `Â ⟨.str ⟨#[c]⟩,H,I1,⟨t,rfl⟩,⟨rfl,c,hx,rfl⟩,st',λ b hb=>(hf b hb).1⟩⟩
 done:=by
  intro X hP hw hK hc i pins s σ H E I hf st hg
  subst hP hw hK
  obtain ⟨f0,f1,f2,f3,f4,f5⟩:=hf it `Ó
  have hx:x.cps[i]? =none:=by
   have:x.cps.size<=i:=hg
   simp[this]
  rcases hT with rfl|rfl
  ·exact wpAny_pyNext_ascii_end (I.ok.hd hc) st hx λ h' eb=>⟨rfl,I.turned (t':=s.toks) (λ b o hb e=>eb b o hb e) f0 f1 f3 f4 f5⟩
  ·exact wpAny_pyNext_wide_end (I.ok.hd hc) st hx λ h' eb=>⟨rfl,I.turned (t':=s.toks) (λ b o hb e=>eb b o hb e) f0 f1 f3 f4 f5⟩
 self:=λ _ _ _ _ _ st h=>by
  rcases hT with rfl|rfl
  ·exact wpAny_pyIter_striter_ascii st h
  ·exact wpAny_pyIter_striter_wide st h
def agL{X:Cx}{tg l:Expr}{tl:TE}(hl:PE X l tl):PI X tg l (λ σ H R=>tl σ H λ x H1=>∃z,x= .str z/\R (aiN z) H1):=by
 intro pins s σ H R I h;refine fV (hl pins s σ H _ I h) λ v s1 ⟨x,H1,I1,r1,z,e,q⟩=>?_;subst e;obtain ⟨u,rfl⟩:=r1;have fp:∀b∈[s1.heap.objs.size],CS X pins H1 b:=λ b hb=>by
  have e:b=s1.heap.objs.size:=by simpa using hb
  subst e;exact I1.LC (Ĉ _) (I1.hok.fresh (Ĉ _))
 cases ha:z.cps.all (· <128)
 ·exact wpAny_pyIter_wide ha ⟨s1.heap.objs.size,[s1.heap.objs.size],_,_,H1,rfl,I1.kept (t':=s1.toks) λ b o e=>Ā _ e,HW _ z u (.inr rfl),⟨_,đ _ rfl,rfl,rfl⟩,fp,q⟩
 ·exact wpAny_pyIter_ascii ha ⟨s1.heap.objs.size,[s1.heap.objs.size],_,_,H1,rfl,I1.kept (t':=s1.toks) λ b o e=>Ā _ e,HW _ z u (.inl rfl),⟨_,đ _ rfl,rfl,rfl⟩,fp,q⟩
section
variable{X:Cx}{ct:Ct}{tg iter e:Expr}{f:`Ñ}{pos:Pos}
def D7(x:Str):(signs x).length=x.cps.size:=by simp[signs]
def acZ{K:ă}{H:Hp}{x:Str}:Hy K ct (aiN x) (signs x) H:=by
 refine ⟨λ _=>True,trivial,λ _ _ _ _ _ _=>trivial,λ i d H1 _ hd=>?_,λ i H1 _ hi=>by rw[D7] at hi;exact hi⟩;have hi:i<x.cps.size:=by have:=(Ď.mp hd).1;rwa [D7] at this
 simp only[signs,Ĝ,Array.getElem?_toList] at hd;refine ⟨hi,λ v H2 ⟨e,c,hc,y⟩=>⟨by rw[e];exact ay.refl _,?_⟩⟩;rw[hc] at hd;cases hd;simp[Tl,y]
def Jm{K:ă}{H:Hp}{a:Addr}{vs:List V}{xs:List D}(fz:FzL K H a vs)(t:aF K ct H xs vs):Hy K ct (Itl K a) xs H:=by refine ⟨λ H1=>aW ct.f.cb H H1,aW.refl H,λ H1 H2 k1 k2 _ _=>k1.trans k2,λ i d H1 k1 hd=>?_,λ i H1 k1 hi=>⟨vs,(k1.fzL fz).sq,by rw[<-t.length];exact hi⟩⟩;obtain ⟨v,hv,tv⟩:=t.get hd;refine ⟨⟨vs,v,(k1.fzL fz).sq,hv⟩,λ x H2 ⟨e,y⟩=>⟨by rw[e];exact ay.refl _,?_⟩⟩;subst e;have:=y vs (k1.fzL fz).sq;rw[hv] at this;cases this;exact tv.keep k1
def Sd{K:ă}{H:Hp}{tm:Bool}{v:V}{xs:List D}(l:ay ct.f.L H)(b:ay ct.B H)(t:Tl K ct H (.bor tm xs) v):∃a,v= .ref a/\(∃vs,qO K H a vs)/\Hy K ct (Itl K a) xs H:=by
 simp only[Tl] at t;obtain ⟨a,vs,rfl,h2,t⟩:=t;have sq:∀H1,ay ct.f.L H1->ay ct.B H1->qO K H1 a vs:=λ H1 l b=>by
  cases tm with
  |true=>exact .inl (.inl (b a _ h2))
  |false=>exact .inl (.inl (l a _ h2))
 refine ⟨a,rfl,⟨vs,sq H l b⟩,λ H1=>aW ct.f.cb H H1/\ay ct.f.L H1/\ay ct.B H1,⟨aW.refl H,l,b⟩,λ H1 H2 k1 k2 l2 b2=>⟨k1.1.trans k2,l2,b2⟩,λ i d H1 k1 hd=>?_,λ i H1 k1 hi=>⟨vs,sq H1 k1.2.1 k1.2.2,by rw[<-t.length];exact hi⟩⟩;obtain ⟨v,hv,tv⟩:=t.get hd;refine ⟨⟨vs,v,sq H1 k1.2.1 k1.2.2,hv⟩,λ x H2 ⟨e,y⟩=>⟨by rw[e];exact ay.refl _,?_⟩⟩;subst e;have:=y vs (sq _ k1.2.1 k1.2.2);rw[hv] at this;cases this;exact tv.keep k1.1
def As{K:ă}{H:Hp}{a:Addr}{vs:List V}{xs:List D}(fz:yc K H a vs)(t:aF K ct H xs vs):Hy K ct (Itt K a) xs H:=by refine ⟨λ H1=>aW ct.f.cb H H1,aW.refl H,λ H1 H2 k1 k2 _ _=>k1.trans k2,λ i d H1 k1 hd=>?_,λ i H1 k1 hi=>⟨vs,k1.sqT fz,by rw[<-t.length];exact hi⟩⟩;obtain ⟨v,hv,tv⟩:=t.get hd;refine ⟨⟨vs,v,k1.sqT fz,hv⟩,λ x H2 ⟨e,y⟩=>⟨by rw[e];exact ay.refl _,?_⟩⟩;subst e;have:=y vs (k1.sqT fz);rw[hv] at this;cases this;exact tv.keep k1
def ac1{K:ă}{H:Hp}{lo:Int}{n:Nat}:Hy K ct (Itr lo n) (f9 lo n) H:=by
 refine ⟨λ _=>True,trivial,λ _ _ _ _ _ _=>trivial,λ i d H1 _ hd=>?_,λ i H1 _ hi=>by rw[qu] at hi;exact hi⟩;have hi:i<n:=by have:=(Ď.mp hd).1;rwa [qu] at this
 rw[UQ hi] at hd;cases hd;exact ⟨hi,λ x H2 ⟨e,y⟩=>⟨by rw[e];exact ay.refl _,by simp[Tl,y]⟩⟩
def iOf(X:Cx)(ct:Ct)(f:`Æ):TI:=λ σ H R=>∃Γ,Jx X ct Γ σ H/\Ok X ct σ H (f Γ) λ xs=>∀J H',ay H H'->Hy X.K ct J xs H'->R J H'
abbrev PID(X:Cx)(ct:Ct)(tg iter:Expr)(f:`Æ):Prop:=PI X tg iter (iOf X ct f)
structure WI(X:Cx)(tg iter:Expr)(wi:TI):Prop where
 out:PI X tg iter wi
abbrev WID(X:Cx)(ct:Ct)(tg iter:Expr)(f:`Æ):Prop:=WI X tg iter (iOf X ct f)
def abj(he:WD X ct iter f):WID X ct tg iter (U0 f):=by
 have he:=he.out;refine ⟨?_⟩;intro pins s σ H R I ⟨Γ,j,h⟩;cases q:f Γ with
 |bad=>simp only[U0,q,Res.AA] at h;exact h.elim
 |err c=>simp only[U0,q,Res.Az] at h;exact ue he pins s σ H R I ⟨Γ,j,by rw[q];exact h⟩
 |ok d=>
  simp only[U0,q,Res.bw] at h;cases d with
  |lst xs=>replace h:∀J H',ay H H'->Hy X.K ct J xs H'->R J H':=h;refine ue he pins s σ H R I ⟨Γ,j,?_⟩;rw[q];intro v H' sm tl;simp only[Tl] at tl;obtain ⟨a,vs,rfl,fz,tl⟩:=tl;exact ⟨a,rfl,⟨vs,fz.sq⟩,h _ H' sm (Jm fz tl)⟩
  |bor tm xs=>replace h:∀J H',ay H H'->Hy X.K ct J xs H'->R J H':=h;refine ue he pins s σ H R I ⟨Γ,j,?_⟩;rw[q];intro v H' sm tl;have j':=j.mono sm;obtain ⟨a,rfl,sq,it⟩:=Sd j'.lL j'.lB tl;exact ⟨a,rfl,sq,h _ H' sm it⟩
  |tup xs=>replace h:∀J H',ay H H'->Hy X.K ct J xs H'->R J H':=h;refine FI he pins s σ H R I ⟨Γ,j,?_⟩;rw[q];intro v H' sm tl;simp only[Tl] at tl;obtain ⟨a,vs,rfl,fz,tl⟩:=tl;exact ⟨a,rfl,⟨vs,oh fz⟩,h _ H' sm (As (oh fz) tl)⟩
  |gt xs=>replace h:∀J H',ay H H'->Hy X.K ct J xs H'->R J H':=h;refine FI he pins s σ H R I ⟨Γ,j,?_⟩;rw[q];intro v H' sm tl;simp only[Tl] at tl;obtain ⟨a,vs,rfl,fz,tl⟩:=tl;exact ⟨a,rfl,⟨vs,fz.sq⟩,h _ H' sm (As fz.sq tl)⟩
  |str x=>replace h:∀J H',ay H H'->Hy X.K ct J (signs x) H'->R J H':=h;refine agL he pins s σ H R I ⟨Γ,j,?_⟩;rw[q];intro v H' sm tl;simp only[Tl] at tl;exact ⟨x,tl,h _ H' sm acZ⟩
  |_=>exact h.elim
def qb{r:`Æ}(hm:X.mg "range"=none)(ha:CM X ct [a] r)(hgl:Gl X "range":=by rfl)(hs:ć [a] X.env=[(false,eval a X.env)]:=by rfl):WID X ct tg (.Call (.Name "range" p) [a] [] pos') (gS r):=by
 have ha:=ha.out;refine ⟨?_⟩;intro pins s σ H R I ⟨Γ,j,h⟩;refine TR hgl hm ha hs pins s σ H R I ⟨Γ,j,h.bnd λ ds _ q vs H' s tl=>?_⟩;cases ex:C4 ds with
 |bad=>rw[ex] at q;exact q.elim
 |err c=>exact (abL ds c ex).elim
 |ok xs=>rw[ex] at q;obtain ⟨i,rfl,h1,h2,rfl⟩:=abK ex;simp only[aF,Tl] at tl;obtain ⟨v,r,rfl,rfl,rfl⟩:=tl;exact ⟨i,rfl,h1,h2,q _ H' s ac1⟩
end
noncomputable def CJ(cells:List (Str×Addr)):List (Str×NameKind)->List (Str×Addr)->Option (List (Str×Addr))
 |[],acc=>some acc
 |(n,k)::r,acc=>if k== .free then (match cells.lookup n with
   |some c=>CJ cells r ((n,c)::acc)
   |none=>none) else CJ cells r acc
theorem CI:∀{names:List (Str×NameKind)} {acc cl:List (Str×Addr)},CJ cells names acc=some cl->(∀y c,acc.lookup y=some c->cells.lookup y=some c)->∀y c,cl.lookup y=some c->cells.lookup y=some c
 |[],acc,cl,h,ha=>by cases h;exact ha
 |(n,k)::r,acc,cl,h,ha=>by
  unfold CJ at h;split at h
  ·split at h
   ·rename_i c hc;refine CI h λ y c' hy=>?_;rw[į] at hy;split at hy
    ·rename_i e;cases hy;rw[eq_of_beq e];exact hc
    ·exact ha y c' hy
   ·cases h
  ·exact CI h ha
def LO{cl:List (Str×Addr)}(h:CJ env.cells scope.names []=some cl):closureFor scope env=pure cl:=by
 unfold closureFor;generalize scope.names=names at h ⊢;generalize ([]:List (Str×Addr))=acc at h ⊢;dsimp only;induction names generalizing acc with
 |nil=>cases h;rfl
 |cons p r ih=>
  obtain ⟨n,k⟩:=p;unfold CJ at h;rw[List.forIn_cons];by_cases hk:(k==NameKind.free)=true
  ·rw[if_pos hk] at h;split at h
   ·rename_i c hc;have e:cellOf env n=pure c:=by unfold cellOf;rw[hc]
    simp only[hk,if_true,e,pure_bind];exact ih _ h
   ·cases h
  ·rw[if_neg hk] at h;simp only[hk,ğ,if_false,pure_bind];exact ih _ h
noncomputable def Vu(X:Cx)(scope:Scope)(cl:List (Str×Addr))(C:Addr)(s₀:Shared)(H₀:Hp)(ex:List Addr)(N':`Ú):Cx where
 prog:=X.prog
 w:=X.w
 K:=X.K
 mg:=X.mg
 base:=X.base
 A:=X.A
 N:=N'
 s₀:=s₀
 H₀:=H₀
 env:=compEnvC scope cl C X.env
 outer:=X.stack
 stack:=X.stack
 ex:=ex
 fn:=λ _=>false
 calm:=X.calm
 pn:=[]
 xe:=λ _ _=>False
noncomputable def LR(k:Nat)(caps:`Ö)(σ:St):St:=ļ k none++caps.map λ i=>(σ[i]?).join
def alF(j:Jx X ct Γ σ H)(ht:tm=true->ct.tm=true):J X.K ct H (uW tm k caps Γ) (LR k caps σ) H:=by
 refine ⟨λ _ _ q _=>q,λ _ q=>q,j.lL,j.lB,by simp[uW,LR],λ _ _=>False,λ i sl ov h1 h2=>?_,λ _ _ _ _ z=>z.elim,λ _ _ z=>z.elim⟩;rcases SH h1 with rfl|⟨c,sc,hc,hk,hd,rfl⟩
 ·exact λ _ z=>z
 ·have at2:∀v,σ[c]? =some (some v)->ov=some v:=λ v g1=>by unfold LR at h2;rw[ē (by simpa using hk),āb,Ĝ,hc] at h2;simp only[āq,Ľ] at h2;rw[g1] at h2;exact h2.symm
  cases sc with
  |no=>exact λ _ z=>z
  |val d=>obtain ⟨v,g1,g2⟩:=j.val hd;exact ⟨⟨v,at2 v g1,g2⟩,λ _ z=>z⟩
  |own m=>
   cases tm with
   |false=>exact λ _ z=>z
   |true=>obtain ⟨v,S,g1,g2,g3,_⟩:=j.own hd;exact ⟨⟨v,at2 v g1,g2.lend λ b z=>g3.lent b z (ht rfl)⟩,λ _ z=>z⟩
  |par m=>
   cases tm with
   |false=>exact λ _ z=>z
   |true=>obtain ⟨v,S,g1,g2,g3,_⟩:=j.par hd;exact ⟨⟨v,at2 v g1,g2.lend λ b z=>g3.lent b z (ht rfl)⟩,λ _ z=>z⟩
theorem zg:∀{names:List (Str×NameKind)} {acc cl:List (Str×Addr)},CJ cells names acc=some cl->∀y,(acc.lookup y).isSome=true->(cl.lookup y).isSome=true
 |[],acc,cl,h=>by cases h;exact λ _ z=>z
 |(n,k)::r,acc,cl,h=>by
  unfold CJ at h;split at h
  ·split at h
   ·rename_i c hc;intro y hy;refine zg h y ?_;rw[į];split
    ·rfl
    ·exact hy
   ·cases h
  ·exact zg h
theorem xT:∀{names:List (Str×NameKind)} {acc cl:List (Str×Addr)},CJ cells names acc=some cl->∀y,(y,NameKind.free)∈names->(cl.lookup y).isSome=true
 |[],acc,cl,h=>λ y hy=>by cases hy
 |(n,k)::r,acc,cl,h=>by
  unfold CJ at h;intro y hy;split at h
  ·split at h
   ·rename_i c hc;rcases Ć.mp hy with e|hy
    ·cases e;exact zg h _ (by simp[į])
    ·exact xT h y hy
   ·cases h
  ·rename_i hk;rcases Ć.mp hy with e|hy
   ·cases e;exact absurd rfl hk
   ·exact xT h y hy
theorem we{env:Env}:∀{names:List (Str×NameKind)} {y:Str},(∀z∈names,z.2≠.cell)->((names.map λ(n,k)=>if (k==NameKind.free&&env.scope.kind== .function&&env.kindOf n==some .cell) then (n,NameKind.cell) else (n,k)).lookup y=some .cell\/(names.map λ(n,k)=>if (k==NameKind.free&&env.scope.kind== .function&&env.kindOf n==some .cell) then (n,NameKind.cell) else (n,k)).lookup y=some .free)->(y,NameKind.free)∈names
 |[],y,_,h=>by simp at h
 |(n,k)::r,y,hc,h=>by
  have ih:= @we env r y λ z hz=>hc z (.tail _ hz);have hk:k≠.cell:=hc (n,k) (.head _);have e1:(((n,k)::r).map λ(n,k)=>if (k==NameKind.free&&env.scope.kind== .function&&env.kindOf n==some .cell) then (n,NameKind.cell) else (n,k))=
   (if (k==NameKind.free&&env.scope.kind== .function&&env.kindOf n==some .cell)=true then (n,NameKind.cell) else (n,k))::(r.map λ(n,k)=>if (k==NameKind.free&&env.scope.kind== .function&&env.kindOf n==some .cell) then (n,NameKind.cell) else (n,k)):=rfl
  rw[e1] at h;by_cases GX:(k==NameKind.free&&env.scope.kind== .function&&env.kindOf n==some .cell)=true
  ·rw[if_pos GX] at h;have hkf:k= .free:=by have:=(āf.mp (āf.mp GX).1).1;exact eq_of_beq this
   simp only[į] at h;split at h
   ·rename_i e;rw[eq_of_beq e,hkf];exact .head _
   ·exact .tail _ (ih h)
  ·rw[if_neg GX] at h;simp only[į] at h;split at h
   ·rename_i e;rcases h with h|h
    ·exact absurd (ĝ h) hk
    ·rw[eq_of_beq e,ĝ h];exact .head _
   ·exact .tail _ (ih h)
noncomputable def Hi{s:Shared}(I:Nat->Shared->Prop)(turn:∀n s,I n s->wpAny `È A (pyNext it) (λ r s₁=>match r with
   |none=>R (.ok .next) s₁
   |some v=>wpAny `È A (letOwnedTupleGo target it v) (λ _ s₁'=>wpAny `È A (assign target env v) (λ _ s₂=>
     wpAny `È A (forIn ifs true λ c r=>if r=true then do let ok <-isTrue c env (eval c env);pure (ForInStep.yield ok) else pure (ForInStep.yield r)) (λ ok s₃=>
      if ok=true then wpAny `È A (eval elt env) (λ x s₄=>
       wpAny `È A (call (.builtin "list.append") [acc,x]) (λ _ s₅=>∃m,m<n/\I m s₅) (λ _ _=>False) s₄) (λ _ _=>False) s₃
      else ∃m,m<n/\I m s₃) (λ _ _=>False) s₂) (λ _ _=>False) s₁') (λ _ _=>False) s₁) (λ _ _=>False) s) (n:Nat) (h:I n s):
  codeAny `È A (.compLoop (.ListComp elt [⟨target,iter,ifs,0⟩] scope pos) 0 it acc env) R s:=by
 refine codeAny_loop rfl I (λ n s hI=>?_) n h
 show wpAny _ A ((compTurn (.ListComp elt [⟨target,iter,ifs,0⟩] scope pos) 0 it acc env).onRaise (λ x=>do noteFrame x env;theTreesLotGoes x)) _ _ s
 refine wpAny_noted ?_
 rw[compTurn_list]
 refine Ă (Ąy (Ă (Ļ (turn n s hI) (λ r s₁ h₁=>?_) λ _ _ h'=>h'.elim)))
 cases r with
 |none=>exact Ě h₁
 |some v=>
  refine Ă (Ļ h₁ (λ _ s₁' h₁'=>?_) λ _ _ h'=>h'.elim)
  refine Ă (Ļ h₁' (λ _ s₂ h₂=>Ă (Ļ h₂ (λ ok s₃ h₃=>?_) λ _ _ h'=>h'.elim)) λ _ _ h'=>h'.elim)
  cases ok with
  |false=>exact Ě ⟨rfl,h₃⟩
  |true=>
   exact Ă (Ă (Ļ h₃ (λ x s₄ h₄=>Ă (Ļ h₄ (λ _ s₅ h₅=>Ě (Ě ⟨rfl,h₅⟩)) λ _ _ h'=>h'.elim)) λ _ _ h'=>h'.elim))
def PTs(X:Cx)(ct:Ct)(ifs:`Þ)(p:Sg->Res Bool):Prop:=
 ∀(pins:`Ê) (s:Shared) (σ:St) (H:Hp) (Q:Bool->Hp->Prop),Inv X pins σ H s->Zq X ct p σ H Q->
  wpAny `É X.A (forIn ifs true λ c r=>if r=true then do let ok <-isTrue c X.env (eval c X.env);pure (ForInStep.yield ok) else pure (ForInStep.yield r)) (TP X pins σ Q) X.xe s
structure WTs(X:Cx)(ct:Ct)(ifs:`Þ)(p:Sg->Res Bool):Prop where
 out:PTs X ct ifs p
def qP:WTs X ct [] mV:=by exact ⟨λ pins s σ H Q I ⟨Γ,j,h⟩=>wpAny_tests_nil ⟨H,I,h H `Ù⟩⟩
def abf(h:DV X ct c p):WTs X ct [c] p:=by have h:=h.out;exact ⟨λ pins s σ H Q I q=>wpAny_tests_one (h pins s σ H Q I q)⟩
def Zr:ali (uW tm k caps Γ):=λ i m=>by
 refine ⟨λ h=>?_,λ h=>?_⟩<;>
 ·rcases SH h with e|⟨c,sc,_,_,_,e⟩
  ·cases e
  ·cases sc<;>cases tm<;>cases e
theorem eU.V5{K:ă}{ct:Ct}{H:Hp}{m:M}{y:V}{T:Fp}:∀{ms:List M} {vs:List V} {S:Fp},eU K ct H ms vs S->Ow K ct H m y T->(∀b,S b->¬T b)->eU K ct H (ms++[m]) (vs++[y]) (λ b=>S b\/T b)
 |[],vs,S,h,t,_=>by simp only[eU] at h;subst h;simp only[Ŧ,eU];exact ⟨y,[],T,λ _=>False,rfl,λ _ z=> .inr z,λ _ z=>z.elim,λ _ _ z=>z,t,rfl⟩
 |m'::ms,vs,S,h,t,n=>by
  simp only[eU] at h;obtain ⟨v,r,S1,S2,rfl,h2,h3,h4,h5,h6⟩:=h;simp only[Ş,eU];refine ⟨v,r++[y],S1,λ b=>S2 b\/T b,rfl,λ b z=> .inl (h2 b z),λ b z=>z.elim (λ z=> .inl (h3 b z)) .inr,λ b z w=>?_,h5,eU.V5 h6 t λ b z=>n b (h3 b z)⟩;rcases w with w|w
  ·exact h4 b z w
  ·exact n b (h2 b z) w
theorem eU.aeE{K:ă}{ct:Ct}{H:Hp}:∀{ds:List D} {vs:List V} {S:Fp},eU K ct H (ds.map M.d) vs S->aF K ct H ds vs
 |[],vs,S,h=>by simpa[eU,aF] using h
 |d::ds,vs,S,h=>by simp only[ą,eU,Ow] at h;obtain ⟨v,r,S1,S2,rfl,_,_,_,h5,h6⟩:=h;exact aF.cons h5 (eU.aeE h6)
structure HA(X:Cx)(scope:Scope)(cl:List (Str×Addr))(k:Nat)(caps:`Ö)(N':`Ú):Prop where
 clos:CJ X.env.cells scope.names []=some cl
 cell:∀y∈scope.names,y.2≠.cell
 kind:scope.kind= .function
 names:∀y∈scope.names,y.2= .local->scope.names.lookup y.1=some .local
 len:N'.length=k+caps.length
 cap:∀(i c:Nat) (y:Str),caps[i]? =some c->N'[k+i]? =some y->X.N[c]? =some y/\Vj X.env.scope y/\X.env.kindOf y≠some .local/\(y,NameKind.free)∈scope.names
theorem wg{env:Env}:∀{names:List (Str×NameKind)} {y:Str},(∀z∈names,z.1=y->z.2= .free)->(y,NameKind.free)∈names->((names.map λ(n,k)=>if (k==NameKind.free&&env.scope.kind== .function&&env.kindOf n==some .cell) then (n,NameKind.cell) else (n,k)).lookup y=some .cell\/(names.map λ(n,k)=>if (k==NameKind.free&&env.scope.kind== .function&&env.kindOf n==some .cell) then (n,NameKind.cell) else (n,k)).lookup y=some .free)
 |[],y,_,h=>by cases h
 |(n,k)::r,y,hu,h=>by
  have e1:(((n,k)::r).map λ(n,k)=>if (k==NameKind.free&&env.scope.kind== .function&&env.kindOf n==some .cell) then (n,NameKind.cell) else (n,k))=(if (k==NameKind.free&&env.scope.kind== .function&&env.kindOf n==some .cell)=true then (n,NameKind.cell) else (n,k))::(r.map λ(n,k)=>if (k==NameKind.free&&env.scope.kind== .function&&env.kindOf n==some .cell) then (n,NameKind.cell) else (n,k)):=rfl;rw[e1];by_cases hy:y=n
  ·subst hy;have hk:k= .free:=hu (y,k) (.head _) rfl;subst hk;by_cases GX:(NameKind.free==NameKind.free&&env.scope.kind== .function&&env.kindOf y==some .cell)=true
   ·rw[if_pos GX];left;simp[į]
   ·rw[if_neg GX];right;simp[į]
  ·have hb:(y==n)=false:=by simpa using hy
   have hm:(y,NameKind.free)∈r:=by
    rcases Ć.mp h with e|h
    ·cases e;exact absurd rfl hy
    ·exact h
   have ih:= @wg env r y (λ z hz=>hu z (.tail _ hz)) hm;by_cases GX:(k==NameKind.free&&env.scope.kind== .function&&env.kindOf n==some .cell)=true
   ·rw[if_pos GX];simp only[į,hb];exact ih
   ·rw[if_neg GX];simp only[į,hb];exact ih
section
variable{X:Cx}{ct:Ct}{elt iter tg:Expr}{ifs:`Þ}{scope:Scope}{cl:List (Str×Addr)}{pos:Pos}{k:Nat}{caps:`Ö}{N':`Ú}{fi:`Æ}{t:Tg}{p:Sg->Res Bool}{fe:Sg->Res M}{tm:Bool}
def ac4{pins:`Ê}{σ:St}{H:Hp}{s:Shared}{fp:List Addr}{h₁:Heap}{tk:Nat}(I:`Ä)(co:HA X scope cl k caps N')(hfr:∀z∈scope.names,∀y,(y,NameKind.free)∈scope.names->z.1=y->z.2= .free) (hfp:∀b∈fp,CS X pins H b) (hfo:∀b∈fp,∃o,s.heap.get? b=some o) (hns:h₁.Ns `Ë (λ x=>(([]:List (Str×Value)).reverse).lookup x)) (hk:∀b o,s.heap.get? b=some o->h₁.get? b=some o) (hD:h₁.get? s.heap.objs.size=some {cls:= .type "list",data:= .seq #[]}):
  Inv (Vu X scope cl `Ë s H fp N') [] (LR k caps σ) (upd H s.heap.objs.size (.lst [])) {s with heap:=h₁,toks:=tk}:=by
 have hsub:=CI co.clos `Ó;have hfree:H s.heap.objs.size=none:=I.hok.fresh (Ĉ _);have amc:∀x c,cl.lookup x=some c->c<s.heap.objs.size:=λ x c e=>by obtain ⟨v,o,ho,_⟩:=I.cell x c (hsub x c e);exact č ho
 refine ⟨⟨I.ok.mod,co.kind,I.ok.glob,I.ok.blt,āg _,λ x y c e1 e2=>I.ok.inj x y c (hsub x c e1) (hsub y c e2),λ x hx=>?_,λ x c hf=>absurd hf (by exact Ĥ),I.ok.hd,I.ok.frames,.inl rfl,λ b hb=>?_,I.bs,ģ I.ok.bsz I.sz,λ b o e hb=>?_,λ b hb hs=>?_,I.stack,I.Fw⟩,rfl,I.bare,Un.laid hk (Ĉ _) hfree,⟨_,hns,λ i y v h1 h2 h3=>?_⟩,λ x c e=>?_,?_,λ x c e=>?_,λ p hp=>absurd (show p∈([]:List (Addr×Obj))++[] from hp) `Ó,I.hok.laid hk (Ĉ _) ⟨Ň _,[],0,.nil,hD⟩,?_⟩
 ·exact ān.mp (xT co.clos x (we co.cell hx))
 ·obtain ⟨o,ho⟩:=hfo b hb;refine ⟨ĕ (ő (č ho)),λ x c e=>(hfp b hb).2.2.2.2.1 x c (hsub x c e)⟩
 ·rcases (hfp b hb).2.2.2.1 with z|z
  ·exact I.ok.ahc b o e z
  ·exact absurd (č (I.ok.bs b o e).1) (Nat.not_lt.mpr z)
 ·rcases Ć.mp (I.Kr b hs) with z|z
  ·exact (hfp b hb).2.1 z
  ·exact (hfp b hb).2.2.1 z
 ·-- what it sees
  by_cases hi:i<k
  ·unfold LR at h2;rw[Ģ (by simpa using hi),ţ,if_pos hi] at h2;cases h2
  ·unfold LR at h2;rw[ē (by simpa using hi),āb,Ĝ] at h2;cases q:caps[i- k]? with
   |none=>rw[q] at h2;cases h2
   |some c=>
    rw[q] at h2;simp only[āq,Ľ] at h2;obtain ⟨g1,g2,g3,g4⟩:=co.cap (i- k) c y q (by rw[Nat.add_sub_cancel' (Ō hi)];exact h1);obtain ⟨m,hn,hl⟩:=I.loc;have hσ:σ[c]? =some (some v):=by
     cases z:σ[c]? with
     |none=>rw[z] at h2;cases h2
     |some w=>rw[z] at h2;simp only[Option.join_some] at h2;rw[h2]
    obtain ⟨u,r,lk⟩:=hl c y v g1 hσ g2;refine ⟨u,r,.inr ⟨wg (λ z hz e=>hfr z hz y g4 e) g4,?_⟩⟩;rcases lk with ⟨z,_⟩|⟨_,c',e,hc⟩
    ·exact absurd z g3
    ·obtain ⟨c2,e2⟩:=ān.mp (xT co.clos y g4);have:c2=c':=by have:=hsub y c2 e2;rw[e] at this;exact (ĝ this).symm
     subst this;obtain ⟨o,ho,hd⟩:=hc;exact ⟨c2,e2,o,hk _ _ ho,hd⟩
 ·obtain ⟨v,o,ho,hd⟩:=I.cell x c (hsub x c e);exact ⟨v,o,hk _ _ ho,hd⟩
 ·show upd H s.heap.objs.size (.lst []) `Ë=none;rw[aE (Nat.succ_ne_self _)];exact I.hok.fresh (āg _)
 ·rw[aE (ĕ (amc x c e))];exact I.uT x c (hsub x c e)
 ·simp[LR,Vu,co.len]
def Vb{pins:`Ê}{σ:St}{H:Hp}{s:Shared}{Γ:Sg}{cp:Pos}{use:Option (Value->Sem Unit)}{Q':`Ã}{Wk:List M->Prop}(ht:tm=true->ct.tm=true)(hc:X.calm=true)(hi:PID X ct tg iter fi)(co:HA X scope cl k caps N')(hfr:∀z∈scope.names,∀y,(y,NameKind.free)∈scope.names->z.1=y->z.2= .free) (hg:∀C s₀ H₀ ex,PGD (Vu X scope cl C s₀ H₀ ex N') ct tg t) (hp:∀C s₀ H₀ ex,PTs (Vu X scope cl C s₀ H₀ ex N') ct ifs p) (he:∀C s₀ H₀ ex,PM (Vu X scope cl C s₀ H₀ ex N') ct elt fe) (hf:∀Γ x Γ1 σ H H₀,t x (uW tm k caps Γ)=some Γ1->J X.K ct H₀ Γ1 σ H->J X.K ct H₀ (uW tm k caps Γ) σ H) (hs:∀x,foldedSetIterable iter X.env x=pure x) (I:`Ä) (j:Jx X ct Γ σ H) (h:Ok X ct σ H (RX tm fi k caps t p fe Γ) Wk) (fin:∀(acc C:Addr) (av:List V) (ys:List M) (T:Fp) (H1:Hp) (s4:Shared) (m:`Ò),Inv X pins σ H1 s4->ay H H1->H acc=none->H1 acc=some (.lst av)->eU X.K ct H1 ys av T->(∀b,T b->H b=none/\b≠acc/\H1 b≠none)->Wk ys->s4.heap.Ns C m->H1 C=none->C≠X.env.locals->X.s₀.heap.objs.size<=C->(∀x c,X.env.cells.lookup x=some c->c≠C)->(∀p∈X.pn++pins,p.1≠C)->compPost `É X.A X.xe use Q' (.ref acc) C (.ok .next) s4):
  wpAny `É X.A (comprehension (.ListComp elt [⟨tg,iter,ifs,0⟩] scope pos) scope X.env cp (newList []) false (eval iter X.env) use) Q' X.xe s:=by
 refine wpAny_comprehension_free (use:=use) rfl hs (LO co.clos) co.kind co.names ?_;have hw:iOf X ct fi σ H (λ J H2=>∃xs ys,ay H H2/\Hy X.K ct J xs H2/\xs.length<1000000/\pI (elM t p fe (uW tm k caps Γ)) xs= .ok ys/\Wk ys):=by
  refine ⟨Γ,j,h.bnd λ xs _ q J H2 s2 it=>?_⟩;split at q
  ·rename_i hl;cases z:pI (elM t p fe (uW tm k caps Γ)) xs with
   |ok ys=>rw[z] at q;exact ⟨xs,ys,s2,it,hl,z,q⟩
   |err c=>exact (JI (λ _ _=>aia) xs c z).elim
   |bad=>rw[z] at q;exact q.elim
  ·exact q.elim
 refine Ļ (hi pins s σ H _ I hw) (λ v s1 h1=>Ļ h1 (λ itv s2 h2=>?_) λ _ _ e=>e) λ _ _ e=>e;obtain ⟨it,fp,tn,J,H2,rfl,I2,T,st,fok,xs,ys,sm,⟨Pd,pd0,pdk,aoR,aoQ⟩,hlx,hys,W⟩:=h2;refine Āc (wpAny_newFunctionEnv co.cell (by intro y hy;simp at hy) (λ h₁ ahS ac8=>?_) co.kind);dsimp only at ahS ac8 ⊢;have hC:(s2.heap.push {cls:= .type "list",dict:=none,data:= .seq ([]:List Value).toArray}).objs.size=s2.heap.objs.size+1:=Āk ..;rw[hC] at ahS ac8 ⊢;have hk:∀b o,s2.heap.get? b=some o->h₁.get? b=some o:=λ b o e=>ac8.extBut b o (ĕ (ő (č e))) (Ā _ (Ā _ e));have hD:h₁.get? s2.heap.objs.size=some {cls:= .type "list",data:= .seq #[]}:=ac8.extBut _ _ (ĕ (āk _)) (Ā _ (đ _ rfl));have hfo:∀b∈fp,∃o,s2.heap.get? b=some o:=λ b hb=>let ⟨o,ho,_⟩:=T.obj 0 _ st b hb;⟨o,ho⟩
 have I4:=ac4 (tk:=s2.toks+([]:List (Str×Value)).length) I2 co hfr fok hfo ahS hk hD;have j2:=j.mono sm;let Xb:=Vu X scope cl (s2.heap.objs.size+1) s2 H2 fp N'
 have LB:H2 s2.heap.objs.size=none:=I2.hok.fresh (Ĉ _);have Yk:ay H2 (upd H2 s2.heap.objs.size (.lst [])):=bf LB _;have tch:∀{σ1:St} {Ha Hb:Hp},L4.J X.K ct H2 (uW tm k caps Γ) σ1 Ha->aW ct.f.cb Ha Hb->ay H2 Hb->L4.J X.K ct H2 (uW tm k caps Γ) σ1 Hb:=λ j kp sm=>j.akj Zr kp (λ b o q _=>sm b o q) (λ b q=>sm.free q) (j2.lL.trans sm) (j2.lB.trans sm);have st4:tn 0 h₁:=T.keep 0 _ _ st λ b hb o e=>hk b o e;have apS:∀b∈fp,b≠s2.heap.objs.size:=λ b hb=>let ⟨o,ho⟩:=hfo b hb;ĕ (č ho)
 have fpb:∀{H':Hp},(∀b∈fp,H' b=none)->∀b∈fp,CS Xb [] H' b:=λ hn b hb=>by obtain ⟨o,ho⟩:=hfo b hb;refine ⟨hn b hb,ĕ (ő (č ho)),I4.ok.ah4 b hb,.inl hb,λ x c e=>(I4.ok.exf b hb).2 x c e,λ p hp=>absurd (show p∈([]:List (Addr×Obj))++[] from hp) `Ó⟩
 have loop:codeAny `É X.A (.compLoop (.ListComp elt [⟨tg,iter,ifs,0⟩] scope pos) 0 (.ref it) (.ref s2.heap.objs.size) (compEnvC scope cl (s2.heap.objs.size+1) X.env))
   (compPost `É X.A X.xe use Q' (.ref s2.heap.objs.size) (s2.heap.objs.size+1)) {s2 with heap:=h₁,toks:=s2.toks+([]:List (Str×Value)).length}:=by
  refine Hi (λ n s'=>∃(i:Nat) (σ1:St) (H1:Hp) (av:List V) (ad rest:List M) (T:Fp),n=xs.length- i/\i<=xs.length/\Inv Xb [] σ1 H1 s'/\L4.J X.K ct H2 (uW tm k caps Γ) σ1 H1/\tn i s'.heap/\(∀b∈fp,H1 b=none)/\ay H2 H1/\H1 s2.heap.objs.size=some (.lst av)/\eU X.K ct H1 ad av T/\(∀b,T b->H2 b=none/\b≠s2.heap.objs.size/\H1 b≠none)/\av.length<=i/\pI (elM t p fe (uW tm k caps Γ)) (xs.drop i)= .ok rest/\ad++rest=ys) ?_ xs.length ⟨0,_,_,[],[],ys,λ _=>False,rfl,Ň _,I4,tch (alF j2 ht) (ay.keep Yk) Yk,st4,λ b hb=>by rw[aE (apS b hb)];exact (fok b hb).1,Yk,aC,by simp only[eU],λ _ z=>z.elim,Ĉ _,hys,rfl⟩
  rintro n s3 ⟨i,σ1,H1,av,ad,rest,Tf,hn,hil,I3,j3,st3,fr3,k3,hacc,VV,hT,hal,hrest,hall⟩
  have pd1:=pdk _ _ pd0 (ay.keep k3) j3.lL j3.lB;by_cases hlt:i<xs.length
  ·-- one more item
   have hd:xs[i]? =some xs[i]:=ā hlt;obtain ⟨go,yld⟩:=aoR i _ H1 pd1 hd;rw[drop_one hd] at hrest;obtain ⟨o,rest',ho,hr',hro⟩:=LN hrest;refine Ļ (T.item Xb rfl rfl rfl hc i [] s3 σ1 H1 (λ _ _=>False) I3 (fpb fr3) st3 go) (λ r s4 ⟨u,hr,h4⟩=>?_) λ _ _ e=>e;subst hr;refine Ļ h4 (λ _ s5 ⟨x,H5,I5,r5,y5,st5,fr5⟩=>?_) λ _ _ e=>e;obtain ⟨sm5,tx⟩:=yld x H5 y5;replace j3:=j3.mono sm5;replace hacc:=sm5 _ _ hacc;replace VV:=VV.frame (ay.keep sm5) (λ b o _ q=>sm5 b o q);replace hT:∀b,Tf b->H2 b=none/\b≠s2.heap.objs.size/\H5 b≠none:=λ b z=>⟨(hT b z).1,(hT b z).2.1,λ q=>(hT b z).2.2 (sm5.free q)⟩;replace k3:=k3.trans sm5;have I5':=I5.pinned (fpb fr5) (T.obj _ _ st5);unfold elM at ho;cases e1:t xs[i] (uW tm k caps Γ) with
   |none=>rw[e1] at ho;cases ho
   |some Γ1=>
    rw[e1] at ho;dsimp only at ho;refine Ļ (hg _ s2 H2 fp _ s5 σ1 H5 x u (λ σ2 H'=>H'=H5/\L4.J X.K ct H2 Γ1 σ2 H5) I5' r5 ⟨_,_,Γ1,j3,tx,e1,λ σ2 j6=>⟨rfl,j6⟩⟩) (λ _ s6 ⟨σ2,H6,I6,e6,j6⟩=>?_) λ _ _ e=>e;subst e6;have tnk:∀{σ7:St} {H7:Hp} {s7:Shared},Inv Xb ([]++Be fp s5.heap) σ7 H7 s7->tn (i+1) s7.heap/\∀b∈fp,H7 b=none:=λ{σ7 H7 s7} I7=>by refine ⟨T.keep _ _ _ st5 λ b hb o e=>(I7.pin (b,o) (ĵ _ (ĵ _ (qZ hb e)))).1,λ b hb=>?_⟩;obtain ⟨o,e,d⟩:=T.obj _ _ st5 b hb;exact (I7.pin (b,o) (ĵ _ (ĵ _ (qZ hb e)))).2.1
    cases ep:p Γ1 with
    |bad=>rw[ep] at ho;cases ho
    |err c=>rw[ep] at ho;cases ho
    |ok c=>
     refine Ļ (hp _ s2 H2 fp _ s6 σ2 H6 (λ b H'=>b=c/\ay H6 H') I6 ⟨Γ1,j6,by rw[ep];exact λ H' s=>⟨rfl,s⟩⟩) (λ b s7 ⟨H7,I7,eb,JQ⟩=>?_) λ _ _ e=>e;subst eb;have j7:=j6.mono JQ;cases b with
     |false=>rw[ep] at ho;dsimp only at ho;cases ho;have apn:rest=rest':=hro;rw[apn] at hall;obtain ⟨tn7,fr7⟩:=tnk I7;rw[if_neg Ĥ];exact ⟨xs.length-(i+1),by omega,i+1,σ2,H7,av,ad,rest',Tf,rfl,hlt,I7.se,hf Γ _ Γ1 σ2 H7 H2 e1 j7,tn7,fr7,k3.trans JQ,JQ _ _ hacc,VV.frame (ay.keep JQ) (λ b o _ q=>JQ b o q),λ b z=>⟨(hT b z).1,(hT b z).2.1,λ q=>(hT b z).2.2 (JQ.free q)⟩,Nat.le_succ_of_le hal,hr',hall⟩
     |true=>
      rw[ep] at ho;dsimp only at ho;rw[if_pos rfl];cases ee:fe Γ1 with
      |bad=>rw[ee] at ho;cases ho
      |err c=>rw[ee] at ho;cases ho
      |ok d=>
       rw[ee] at ho;dsimp only at ho;cases ho;subst hro;refine Ļ (he _ s2 H2 fp _ s7 σ2 H7 (λ v H'=>∃S,ay H7 H'/\Ow X.K ct H' d v S/\(∀b,S b->H7 b=none)/\∀b,S b->H' b≠none) I7 ⟨Γ1,j7,by rw[ee];exact λ v H' S s t n k=>⟨S,s,t,n,k⟩⟩) (λ yv s8 ⟨y,H8,I8,r8,S8,s8',t8,n8,h8⟩=>?_) λ _ _ e=>e;have aew:H8 s2.heap.objs.size=some (.lst av):=s8' _ _ (JQ _ _ hacc);refine Ļ (Ex (X:=Xb) _ s8 σ2 H8 (.ref s2.heap.objs.size) [y] (.ref s2.heap.objs.size) [yv] (λ _ H'=>H'=upd H8 s2.heap.objs.size (.lst (av++[y]))) I8 rfl (.cons r8 .nil) ⟨_,av,y,rfl,rfl,aew,āl `À iU,rfl⟩) (λ _ s9 ⟨_,H9,I9,_,e9⟩=>?_) λ _ _ e=>e;subst e9;obtain ⟨tn9,fr9⟩:=tnk I9;have kp:aW ct.f.cb H8 (upd H8 s2.heap.objs.size (.lst (av++[y]))):=aW.lst aew;have k8:ay H2 H8:=(k3.trans JQ).trans s8';have j8:=hf Γ _ Γ1 σ2 H8 H2 e1 (j7.mono s8');have sm9:ay H2 (upd H8 s2.heap.objs.size (.lst (av++[y]))):=λ b o hb=>by have:b≠s2.heap.objs.size:=jN hb LB;rw[aE this];exact k8 b o hb
       have sne:∀b,S8 b->b≠s2.heap.objs.size:=λ b z=>by
        rintro rfl
        have:=n8 _ z;rw[JQ _ _ hacc] at this;cases this
       have T8:∀b,Tf b->H8 b≠none:=λ b z q=>(hT b z).2.2 (JQ.free (s8'.free q));have dis:∀b,Tf b->¬S8 b:=λ b z w=>(hT b z).2.2 (JQ.free (n8 b w));have up8:∀b,b≠s2.heap.objs.size->upd H8 s2.heap.objs.size (.lst (av++[y])) b=H8 b:=λ b z=>aE z;refine ⟨xs.length-(i+1),by omega,i+1,σ2,_,av++[y],ad++[d],rest',λ b=>Tf b\/S8 b,rfl,hlt,I9.se,tch j8 kp sm9,tn9,fr9,sm9,aC,?_,λ b z=>?_,?_,hr',?_⟩
       ·have o1:=VV.frame (ay.keep (JQ.trans s8')) (λ b o _ q=>(JQ.trans s8') b o q);exact (o1.V5 t8 dis).frame kp λ b o z q=>by rw[up8 b (z.elim (λ z=>(hT b z).2.1) (sne b))];exact q
       ·rcases z with z|z
        ·exact ⟨(hT b z).1,(hT b z).2.1,by rw[up8 b (hT b z).2.1];exact T8 b z⟩
        ·exact ⟨k3.free (JQ.free (n8 b z)),sne b z,by rw[up8 b (sne b z)];exact h8 b z⟩
       ·rw[ĩ,List.length_singleton];omega
       ·rw[<-hall];simp
  ·-- through
   have hie:xs.length<=i:=Ō hlt;refine Ļ (T.done Xb rfl rfl rfl hc i [] s3 σ1 H1 (λ _ _=>False) I3 (fpb fr3) st3 (aoQ i H1 pd1 hie)) (λ r s4 ⟨hr,I4'⟩=>?_) λ _ _ e=>e;subst hr;rw[Ăc hie] at hrest;cases hrest;rw[ŕ] at hall;subst hall;obtain ⟨m,hm,_⟩:=I4'.loc;have nC:H1 (s2.heap.objs.size+1)=none:=I4'.free;have un:Un (frs X.stack) fp H2 H1 s2.heap s4.heap:=by have u:=I4'.base;exact ⟨u.keep,u.slot,u.free,u.there,u.tups,u.z8,u.AW⟩
   have IE:Inv X pins σ H1 s4:=I2.Zo (s':=s4) (ch:=fp) I4'.os un I4'.hok I4'.bare λ b hb=>⟨(fok b hb).2.2.2.1,(fok b hb).2.1,(fok b hb).2.2.2.2.1,(fok b hb).2.2.2.2.2⟩;have old:∀{b:Addr} {o:Obj},s2.heap.get? b=some o->b≠s2.heap.objs.size+1:=λ e=>ĕ (ő (č e));refine fin _ _ av _ Tf H1 s4 m IE (sm.trans k3) (sm.free LB) hacc VV (λ b z=>⟨sm.free (hT b z).1,(hT b z).2.1,(hT b z).2.2⟩) W hm nC (Ŋ (ĕ (ő I2.lt))) (Nat.le_succ_of_le I2.sz) (λ x c e=>?_) λ p hp=>old (I2.pin p hp).1;obtain ⟨v,o,ho,_⟩:=I2.cell x c e;exact old ho
 exact codeAny_compStart_list loop (T.self _ 0 _ _ _ st4 loop)
variable{fd:`Ñ}
def acR(Γ:Sg):RX tm fi k caps t p (mD fd) Γ=(gi tm fi k caps t p fd Γ).bnd λ ds=> .ok (ds.map M.d):=by
 unfold RX gi;cases fi Γ with
 |ok xs=>
  simp only[Res.bw];split
  ·exact zH xs
  ·rfl
 |err x=>rfl
 |bad=>rfl
def abY(ht:tm=true->ct.tm=true)(hc:X.calm=true)(hi:PID X ct tg iter fi)(co:HA X scope cl k caps N')(hfr:∀z∈scope.names,∀y,(y,NameKind.free)∈scope.names->z.1=y->z.2= .free) (hg:∀C s₀ H₀ ex,PGD (Vu X scope cl C s₀ H₀ ex N') ct tg t) (hp:∀C s₀ H₀ ex,PTs (Vu X scope cl C s₀ H₀ ex N') ct ifs p) (he:∀C s₀ H₀ ex,PD (Vu X scope cl C s₀ H₀ ex N') ct elt fd) (hf:∀Γ x Γ1 σ H H₀,t x (uW tm k caps Γ)=some Γ1->J X.K ct H₀ Γ1 σ H->J X.K ct H₀ (uW tm k caps Γ) σ H) (hs:∀x,foldedSetIterable iter X.env x=pure x:=by intro _;rfl):PL X ct (.ListComp elt [⟨tg,iter,ifs,0⟩] scope pos) (gi tm fi k caps t p fd):=by
 intro pins s σ H Q I ⟨Γ,j,h⟩;rw[eval_ListComp];have h':Ok X ct σ H (RX tm fi k caps t p (mD fd) Γ) λ ms=>∃ds:List D,ms=ds.map M.d/\Wl X ct H Q ds:=by
  rw[acR];cases z:gi tm fi k caps t p fd Γ with
  |ok ms=>rw[z] at h;exact ⟨ms,rfl,h⟩
  |err x=>rw[z] at h;exact h
  |bad=>rw[z] at h;exact h
 refine Vb ht hc hi co hfr hg hp (λ C s₀ H₀ ex=>Wv (he C s₀ H₀ ex)) hf hs I j h' λ acc C av ys T H1 s4 m IE sm na ha ta hT W hm nC nl hz ncl npn=>?_;obtain ⟨ds,rfl,W⟩:=W;refine ⟨m,hm,λ h' hsb=>?_⟩;have I5:Inv X pins σ H1 {s4 with heap:=h',toks:=s4.toks}:=IE.turned (h':=h') (t':=s4.toks) (it:=C) (λ b o hb e=>(hsb.2 b hb).trans e) nC nl (.inr hz) ncl npn;exact ⟨.ref acc,H1,I5,rfl,W acc av H1 sm na ha ta.aeE⟩
end
section
variable{X:Cx}{ct:Ct}{c:Cf}{elt iter tg:Expr}{ifs:`Þ}{scope:Scope}{cl:List (Str×Addr)}{pos:Pos}{k:Nat}{caps:`Ö}{N':`Ú}{fi:`Æ}{t:Tg}{p:Sg->Res Bool}{fe:Sg->Res M}{fd:`Ñ}{tm:Bool}
def TgK(k:Nat)(t:Tg):Prop:=∀x Γ Γ1,t x Γ=some Γ1->Γ1.length=Γ.length/\∀i,k<=i->Γ1[i]? =Γ[i]?
def adG(k:Nat)(t:Tgs):Prop:=∀x Γ Γ1,t x Γ=some Γ1->Γ1.length=Γ.length/\∀i,k<=i->Γ1[i]? =Γ[i]?
def nB(h:i<k):TgK k (aD i):=λ x Γ Γ1 e=>by cases e;exact ⟨by simp,λ j hj=>by rw[āe `À]⟩
def agg:adG k kj:=λ x Γ Γ1 e=>by
 cases x with
 |nil=>cases e;exact ⟨rfl,λ _ _=>rfl⟩
 |cons a r=>cases e
def Ro(h1:TgK k t)(h2:adG k u):adG k (aY t u):=λ x Γ Γ1 e=>by
 cases x with
 |nil=>cases e
 |cons d r=>simp only[aY,Ām] at e;obtain ⟨Γ2,e1,e2⟩:=e;obtain ⟨a1,a2⟩:=h1 _ _ _ e1;obtain ⟨b1,b2⟩:=h2 _ _ _ e2;exact ⟨b1.trans a1,λ i hi=>(b2 i hi).trans (a2 i hi)⟩
def agf{k n:Nat}{t:Tgs}(h:adG k t):TgK k (jh n t):=λ x Γ Γ1 e=>by
 cases x with
 |tup ds=>
  simp only[jh] at e;split at e
  ·exact h _ _ _ e
  ·cases e
 |_=>cases e
def Tv{K:ă}(hk:TgK k t):∀Γ x Γ1 σ H H₀,t x (uW tm k caps Γ)=some Γ1->J K ct H₀ Γ1 σ H->J K ct H₀ (uW tm k caps Γ) σ H:=λ Γ x Γ1 σ H H₀ e j=>by
 obtain ⟨h1,h2⟩:=hk _ _ _ e;refine j.weak h1 λ i=>?_;by_cases hik:i<k
 ·left;unfold uW;rw[Ģ (by simpa using hik),ţ,if_pos hik]
 ·exact .inr (h2 i (Ō hik)).symm
def adn(hfb:(scope.names.all λ z=>scope.names.all λ y=>!(y.2== .free&&z.1==y.1)||z.2== .free)=true):∀z∈scope.names,∀y,(y,NameKind.free)∈scope.names->z.1=y->z.2= .free:=λ z hz y hy e=>by have q:=Ĳ.mp (Ĳ.mp hfb z hz) _ hy;simp only[e,BEq.rfl,Bool.and_self,āp,ăv] at q;exact eq_of_beq q
def mH(ht:tm=true->ct.tm=true)(hc:X.calm=true)(hi:WID X ct tg iter fi)(co:HA X scope cl k caps N')(hfb:(scope.names.all λ z=>scope.names.all λ y=>!(y.2== .free&&z.1==y.1)||z.2== .free)=true)(hg:∀C s₀ H₀ ex,WGD (Vu X scope cl C s₀ H₀ ex N') ct tg t)(hp:∀C s₀ H₀ ex,WTs (Vu X scope cl C s₀ H₀ ex N') ct ifs p)(he:∀C s₀ H₀ ex,WD (Vu X scope cl C s₀ H₀ ex N') ct elt fd)(hk:TgK k t)(hs:∀x,foldedSetIterable iter X.env x=pure x:=by intro _;rfl):WL X ct (.ListComp elt [⟨tg,iter,ifs,0⟩] scope pos) (gi tm fi k caps t p fd):=by have hi:=hi.out;have hg:=λ C s₀ H₀ ex=>(hg C s₀ H₀ ex).out;have hp:=λ C s₀ H₀ ex=>(hp C s₀ H₀ ex).out;have he:=λ C s₀ H₀ ex=>(he C s₀ H₀ ex).out;exact ⟨abY ht hc hi co (adn hfb) hg hp he (Tv hk) hs⟩
end
noncomputable abbrev JM:List Value:=[.type "ValueError",.type "Exception",.type "BaseException",.type "object"]
structure XC(K:ă)(mg:`Ò)(cb:Cb)(x:Str)(n:String)(C:Addr):Prop where
 bnd:mg x=some (.ref C)
 exc:Ąl K C JM "ValueError.__new__"=true
 at':cb.exc n=some C
def ah5{K:ă}{h:Heap}{C:Addr}{newId:String}(X:K.In h)(q:Ąl K C JM newId=true):
  ∃bm N nm qn bs hdct sn sub ab col dd k0 k1 k2 k3 k5 mN,h.get? C=some (excClassObj nm qn C N bs bm hdct sn sub ab col dd k0 k1 k2 k3 k5 newId)/\h.Ns N mN/\mN "__init__"=none/\OwnTail h JM bm:=by
 unfold Ąl at q;split at q;case h_2=>cases q
 case h_1 dd cd sl lk=>
  split at q;case h_2=>cases q
  case h_1 C' bm k0 k1 k2 k3 n k5 em es=>simp only[ħ,beq_iff_eq,Bool.not_eq_true'] at q;obtain ⟨⟨⟨⟨⟨e1,e2⟩,e3⟩,e4⟩,e5⟩,e6⟩:=q;subst e1 e2;obtain ⟨nm,bs,mr,ns,qn,hd,sn,sub,ab,col,dl⟩:=cd;simp only at em e3 e5 e6;subst em e3;obtain ⟨sl⟩:=sl;simp only at es;subst es;exact ⟨bm,ns,nm,qn,bs,hd,sn,sub,ab,col,dd,k0,k1,k2,k3,k5,_,X _ _ lk,.of_isNs (W.isNs_of_in X e5),W.nsMap_none_of_in X e5 e6,W.tail_of_in X e4⟩
section
variable{X:Cx}{cf:Cf}{e₀:Expr}{rest:`Þ}{fa:`Æ}{x:Str}{c:String}{C:Addr}{np cpos pos:Pos}
def gX(g:Good X)(M:XC X.K X.mg cf.cb x c C)(ha:CM X cf.z (e₀::rest) fa)(hg:Gl X x:=by rfl)(hd:(x==("__debug__":Str))=false:=by decide)(he:ć (e₀::rest) X.env=(false,eval e₀ X.env)::ć rest X.env:=by rfl)(hpl:(backTo cpos (ć rest X.env)).any (·.1)=false:=by rfl):CL X cf (.Raise (some (.Call (.Name x np) (e₀::rest) [] cpos)) none pos) (lD c fa):=by
 have ha:=ha.out;refine ⟨?_⟩;intro pins s σ H E I ⟨Γ,j,h⟩;obtain ⟨tl,N,nm,q,bs,hdct,sn,sub,ab,col,dd,k0,k1,k2,k3,k5,mN,hC,hN,hni,T⟩:=ah5 I.ok.mod.kin M.exc;refine wpAny_Raise_call_subT (C:=C) (nm:=nm) (q:=q) (N:=N) (bs:=bs) (bm:=tl) (hdct:=hdct) (sn:=sn) (sub:=sub) (ab:=ab) (col:=col) (dd:=dd) (k0:=k0) (k1:=k1) (k2:=k2) (k3:=k3) (k5:=k5)
  PySem.F.excBase_ValueError (mN:=mN) (T.hasType PySem.F.excBase_ValueError.hasBase) (I.ok.hd g.calm) (by rw[he];show (false||(backTo cpos (ć rest X.env)).any (·.1))=false;rw[hpl];rfl) hni (wQ I hg M.bnd ⟨rfl,?_⟩ hd)
 have h':JW X cf.z fa σ H (λ vs H1=>ay H H1/\vs.length<=1000/\Fn X cf H (.err c Γ) E):=⟨Γ,j,Fn.ok j h λ ds _ q vs H1 s1 t1=>by
   split at q
   ·rename_i hl;exact ⟨s1,by rw[<-t1.length];exact hl,q⟩
   ·exact q.elim⟩
 have hp:=ha cpos pins s σ H _ I h';rw[he] at hp ⊢;refine Āe (Ļ hp (λ us s1 ⟨vs,H1,I1,r,sm,hl,q⟩=>⟨rfl,?_,I1.bk _ _ hC,hN.keeps I1.bk,T.keeps I1.bk,λ h2 e hm=>?_⟩) λ _ _ y=>y)
 ·show us.length<=Đ;rw[<-r.length];exact ũ (tZ hl)
 ·exact q σ H1 _ _ (ay.keep sm) (j.mono sm) ⟨pins,H1,s1,C,I1,ay.refl H1,M.at',.inl ⟨e,us,h2,rfl,rfl,hm⟩⟩
end
section
variable{X:Cx}{ct:Ct}{pins:`Ê}{σ:St}{H:Hp}{s:Shared}
end
section
variable{X:Cx}{cf:Cf}
variable{pins:`Ê}{σ:St}{H:Hp}{s:Shared}
end
section
variable{X:Cx}{cf:Cf}{body suite:List Stmt}{b₀:Stmt}{F G:Sg->Out}{t n:Str}{hit:String->Option Bool}{T:Value}{np hpos pos:Pos}
end
structure XT(K:ă)(C:Addr):Prop where
 ga:ĉ K (.ref C) "__getattribute__"=some (some (.builtin "BaseException.__getattribute__"))
 gt:ĉ K (.ref C) "__getattr__"=some none
 ca:ĉ K (.ref C) "__class__"=some (some `Ô)
 mo:ăc K C (.type "object")=some true
 mb:W.subIn K (.ref C) (.type "BaseException")=some true
 cl:(W.clsIn K C).isSome=true
section
open PySem.W Builtin Builtin.ObjectAttr Builtin.Getset_descriptor
variable{prog:Program}{w:World}{A:Around}{E:`Ã}{h:Heap}{g:Array GenState}{d:Drawn}{t:Nat}{os:OsState}{a C:Addr}{K:Frag}
def Rb{M:Model}(p:zJ a C h):Looks M h (typeOf (.ref a)) (.ref C):=by obtain ⟨o,h1,h2⟩:=p;exact h2▸(Looks.ld h1).andThen .now
def afA{R:Result->Shared->Prop}(X:K.In h)(T:XT K C)(p:zJ a C h)(hq:R (.ok (.ret (.ref C))) ⟨h,g,d,t,os⟩):
  codeAny `È A (.call (.builtin "getset_descriptor.__get__") ⟨[.builtin "object.__class__",.ref a,.ref C],[]⟩) R ⟨h,g,d,t,os⟩:=by
 have la:=Rb (M:=model prog w) p;have lb:=looks_mroIn (M:=model prog w) X T.mo;refine Ăr KF.slot_gs.plain KF.entry_gs
  (KF.slot_gs.check _ _ _ _ _ _ _ _ KF.type_class (KF.args_gs _ _ _) ?_)
 unfold Builtin.«getset_descriptor.__get__» descrGet;rw[dga_obj];refine Ă (Ě ?_);unfold descrGetter descrCheckInstance descrNameAndClass isInstance;simp only[KF.owner_class];repeat lk
 refine ⟨Code.quiet_builtin _ (by decide+kernel),codeAny_builtin KF.entry_class ?_⟩;unfold Builtin.«object.__class__» shownTypeOf;repeat lk
 exact hq
def Vx{tk:Tok}{Q:Fin->Shared->Prop}(X:K.In h)(T:XT K C)(p:zJ a C h)(hq:Q (.done (.ret (.ref C))) ⟨h,g,d,t,os⟩):
  wpAny `È A (Builtin.«object.__getattribute__» ⟨[.ref a,.str "__class__" tk],[]⟩) Q E ⟨h,g,d,t,os⟩:=by
 have hT5:(⟨h,g,d,t,os⟩:Shared).TypeIs `Ô "getset_descriptor":=F.typeOf_object_class;have f5:=F.typeOf_object_class;have f6:=F.slot_gs_get.lookup;have f7:=F.slot_gs_set.lookup;have la:=Rb (M:=model prog w) p;have lb:=ąm (M:=model prog w) X T.ca;obtain ⟨o,h1,h2⟩:=p;repeat (any_goals (first|assumption|(with_reducible refine ăq h1 ?_;rw[h2])|with_reducible refine Looks.at lb ?_|wp_step))
 refine afA X T ⟨o,h1,h2⟩ ?_;repeat (any_goals (first|assumption|wp_step))
def Vy{nameV:Value}{Q:Unit->Shared->Prop}(X:K.In h)(T:XT K C)(p:zJ a C h)(hq:Q () ⟨h,g,d,t,os⟩):
  wpAny `È A (checkBuiltinCall "BaseException.__getattribute__" ⟨[.ref a,nameV],[]⟩) Q E ⟨h,g,d,t,os⟩:=by
 have hk:builtinKind "BaseException.__getattribute__"=some .slot:=by decide+kernel
 have JU:splitId "BaseException.__getattribute__"=some ("BaseException","__getattribute__"):=by decide+kernel
 have hargs:=F.args_bexc_ga (.ref a) nameV;have la:=Rb (M:=model prog w) p;have lb:=looks_subIn (M:=model prog w) X T.mb;simp only[checkBuiltinCall,hk,JU];refine Ă ?_;unfold isInstance;obtain ⟨o,h1,h2⟩:=p;repeat (first|(with_reducible refine ăq h1 ?_;rw[h2])|with_reducible refine Looks.at lb ?_|wp_step)
 exact hq
def aa8(X:K.In h)(T:XT K C)(p:zJ a C h)(hq:R (.ok (.ret (.ref C))) ⟨h,g,d,t,os⟩):
  codeAny `È A (.call (.builtin "BaseException.__getattribute__") ⟨[.ref a,.str "__class__" tk],[]⟩) R ⟨h,g,d,t,os⟩:=
 Ăr F.attr_ValueError.ga.plain F.entry_bexc_ga (Vy X T p (Vx X T p hq))
def ajX{Q:`Ã}(X:K.In h)(T:XT K C)(p:zJ a C h)(hq:Q (.ref C) ⟨h,g,d,t,os⟩):
  wpAny `È A (getAttrBy (.ref a) (.str "__class__" tk) false) Q E ⟨h,g,d,t,os⟩:=by
 have f3:=F.attr_ValueError.ga.bind (.ref a);have hx2:(Value.builtin "BaseException.__getattribute__"==Value.builtin "object.__getattribute__")=false:=by decide+kernel
 have hx1:(onTheHeap (Value.ref C)&&Value.builtin "BaseException.__getattribute__"==Value.builtin "object.__getattribute__")=false:=by rw[hx2];rfl
 have lb:=ąm (M:=model prog w) X T.ga;have lc:=ąm (M:=model prog w) X T.gt;obtain ⟨o,h1,h2⟩:=p;repeat (any_goals (first|assumption|(with_reducible refine ăq h1 ?_;rw[h2])|with_reducible refine Looks.at lb ?_|with_reducible refine Looks.at lc ?_|wp_step))
 refine aa8 X T ⟨o,h1,h2⟩ ?_;repeat (any_goals (first|assumption|wp_step))
def Yj(T:XT K C):KitX K (.ref a) (.ref C) (zJ a C) where
 ty:=λ _ _ _ p=>Rb p
 it:=λ _ _ X _=>by
  have z:=T.cl
  unfold clsIn at z
  split at z
  ·rename_i c' d' cd' sl' ho
   intro A' Q' E' s' k q
   unfold isType loadHead
   exact Ă (wpAny_loadPart (k _ _ (X _ _ ho))
    (Ě q))
  ·cases z
 ne:=λ h tp dd its n sl X htp=>by
  have z:=T.cl
  refine Bool.eq_false_iff.mpr λ q=>?_
  have e:C=tp:=Value.ref.inj (beq_iff_eq.mp q)
  subst e
  unfold clsIn at z
  split at z
  ·rename_i ho
   have z:=(X _ _ ho).symm.trans htp
   cases z
  ·cases z
 ca:=λ{_ _ _ _ _ s} X p k=>by
  obtain ⟨h,g,d,t,os⟩:=s
  unfold getAttr? getAttrBy?
  repeat (any_goals (first|assumption|with_reducible apply ajX X T p|wp_step))
end
structure IC(K:ă)(C:Addr):Prop where
 cl:zk K C
 ha:ĉ K (.ref C) "__class__"=some (some `Ô)
 hn:Ąt K `Ô "__get__"=some (some (.builtin "getset_descriptor.__get__"))
 tk:W.takesIn K `Ô=some true
 hm:ăc K C (.type "object")=some true
structure XTs(K:ă)(cb:Cb)(mt:List (String×List String)):Prop where
 xt:∀c C,cb.exc c=some C->(mt.lookup c).isSome=true->XT K C
 ic:∀c C ns,cb.cls c=some (C,ns)->IC K C
structure IsK(K:ă)(cb:Cb)(mt:List (String×List String))(cv:Value)(n:String):Prop where
 nn:Āy K (.type "NoneType") cv=some (["NoneType"].contains n)
 bb:Āy K (.type "bool") cv=some (["bool","int"].contains n)
 ii:Āy K (.type "int") cv=some (["int"].contains n)
 ss:Āy K (.type "str") cv=some (["str"].contains n)
 tt:Āy K (.type "tuple") cv=some (["tuple"].contains n)
 ll:Āy K (.type "list") cv=some (["list"].contains n)
 dd:Āy K (.type "dict") cv=some (["dict"].contains n)
 own:∀c C ks,cb.exc c=some C->mt.lookup c=some ks->Āy K (.ref C) cv=some (ks.contains n)
 ins:∀c C ns ks,cb.cls c=some (C,ns)->mt.lookup c=some ks->Āy K (.ref C) cv=some (ks.contains n)
def EG{X:Cx}{ct:Ct}{mt:List (String×List String)}{pins:`Ê}{σ:St}{H:Hp}{s:Shared}{d:D}{v:V}{u:Value}{ks:List String}(I:`Ä)(lL:ay ct.f.L H)(lB:ay ct.B H)(t:Tl X.K ct H d v)(r:RelV v u)(hk:kinds mt d=some ks) (hx:XTs X.K ct.f.cb mt):
  u≠.builtin "__main__.__loader__#opaque"/\∃(ty:Value) (P:Heap->Prop),W.KitX X.K u ty P/\P s.heap/\∀cv n,IsK X.K ct.f.cb mt cv n->Āy X.K ty cv=some (ks.contains n):=by
 cases d with
 |cU=>simp only[Tl] at t;subst t;cases r;cases hk;exact ⟨(λ z=>nomatch z),_,_,W.kitx_none,trivial,λ cv n k=>k.nn⟩
 |bl b=>simp only[Tl] at t;subst t;cases r;cases hk;exact ⟨(λ z=>nomatch z),_,_,W.kitx_bool,trivial,λ cv n k=>k.bb⟩
 |int i=>simp only[Tl] at t;subst t;obtain ⟨tk,rfl⟩:=r;cases hk;exact ⟨(λ z=>nomatch z),_,_,W.kitx_int,trivial,λ cv n k=>k.ii⟩
 |str x=>simp only[Tl] at t;subst t;obtain ⟨tk,rfl⟩:=r;cases hk;exact ⟨(λ z=>nomatch z),_,_,W.kitx_str,trivial,λ cv n k=>k.ss⟩
 |tup ds=>simp only[Tl] at t;obtain ⟨a,vs,rfl,t1,_⟩:=t;cases r;cases hk;obtain ⟨its,_,⟨o,h1,h2,_⟩,_⟩:=I.tuple (oh t1);exact ⟨(λ z=>nomatch z),_,_,W.kitx_tuple,⟨o,h1,h2⟩,λ cv n k=>k.tt⟩
 |gt ds=>simp only[Tl] at t;obtain ⟨a,vs,rfl,t1,_⟩:=t;cases r;cases hk;obtain ⟨its,_,⟨o,h1,h2,_⟩,_⟩:=I.tuple t1.sq;exact ⟨(λ z=>nomatch z),_,_,W.kitx_tuple,⟨o,h1,h2⟩,λ cv n k=>k.tt⟩
 |lst ds=>simp only[Tl] at t;obtain ⟨a,vs,rfl,t1,_⟩:=t;cases r;cases hk;obtain ⟨its,_,⟨o,_,h1,h2,_⟩,_⟩:=I.list t1.sq;exact ⟨(λ z=>nomatch z),_,_,W.kitx_list,⟨o,h1,h2⟩,λ cv n k=>k.ll⟩
 |bor tm ds=>obtain ⟨a,vs,rfl,t1,_⟩:=t.oU lL lB rfl;cases r;cases hk;obtain ⟨its,_,⟨o,_,h1,h2,_⟩,_⟩:=I.list t1;exact ⟨(λ z=>nomatch z),_,_,W.kitx_list,⟨o,h1,h2⟩,λ cv n k=>k.ll⟩
 |r6 ks' xs=>
  simp only[Tl] at t;obtain ⟨a,vs,rfl,⟨o,t1⟩,_⟩:=t;cases r;cases hk;cases ks' with
  |s _=>obtain ⟨_,_,_,vs',_,o',es,ep,h1,h2,_⟩:=I.hok a _ t1;exact ⟨(λ z=>nomatch z),_,_,Ąu,⟨o',h1,h2.1⟩,λ cv n k=>k.dd⟩
  |t _=>obtain ⟨_,_,_,vs',_,o',es,ep,h1,h2,_⟩:=I.hok a _ t1;exact ⟨(λ z=>nomatch z),_,_,Ąu,⟨o',h1,h2.1⟩,λ cv n k=>k.dd⟩
 |uF tm ks' xs=>
  simp only[Tl] at t;obtain ⟨a,vs,rfl,t1,_⟩:=t;cases r;cases hk;have t2:H a=some (ks'.ho vs):=by
   cases tm with
   |true=>exact lB a _ t1
   |false=>exact lL a _ t1
  cases ks' with
  |s _=>obtain ⟨_,_,vs',_,o',es,ep,h1,h2,_⟩:=I.hok a _ t2;exact ⟨(λ z=>nomatch z),_,_,Ąu,⟨o',h1,h2.1⟩,λ cv n k=>k.dd⟩
  |t _=>obtain ⟨_,_,vs',_,o',es,ep,h1,h2,_⟩:=I.hok a _ t2;exact ⟨(λ z=>nomatch z),_,_,Ąu,⟨o',h1,h2.1⟩,λ cv n k=>k.dd⟩
 |yb tm c ns xs=>cases hk
 |obj c ns xs=>simp only[Tl] at t;obtain ⟨a,C,dx,vs,rfl,hc,ha,_⟩:=t;cases r;have hk:mt.lookup c=some ks:=hk;obtain ⟨mA,O,_⟩:=Au I.hok ha;obtain ⟨od,J,_⟩:=O.look;have ic:=hx.ic c C ns hc;exact ⟨(λ z=>nomatch z),_,_,W.kitx_own (ic.cl.get _) ic.cl.hd ic.ha ic.hn ic.tk ic.hm,J,λ cv n k=>k.ins c C ns ks hc hk⟩
 |exc c=>simp only[Tl] at t;obtain ⟨a,C,rfl,hc,ha⟩:=t;cases r;obtain ⟨p,_⟩:=I.hok a _ ha;have hk:mt.lookup c=some ks:=hk;exact ⟨(λ z=>nomatch z),_,_,Yj (hx.xt c C hc (by rw[hk];rfl)),p,λ cv n k=>k.own c C ks hc hk⟩
section
variable{X:Cx}{ct:Ct}{mt:List (String×List String)}{a b e:Expr}{f g:`Ñ}{c:Str}{n:String}{cv:Value}{p p2 pos:Pos}
structure adQ(X:Cx)(c:Str)(v:V)(u:Value):Prop where
 rel:RelV v u
 one:∀u',RelV v u'->u'=u
 ld:(X.mg c=some u)\/(X.mg c=none/\bootBuiltins c=some u/\c≠"__name__")
def qG(h:X.mg c=some (.ref C)):adQ X c (.ref C) (.ref C):=⟨rfl,λ _ z=>z,.inl h⟩
def WV{v:V}(h:adQ X c v u)(hg:Gl X c:=by rfl)(hd:(c==("__debug__":Str))=false:=by decide):PE X (.Name c pos) (tC v):=by
 rcases h.ld with q|⟨q1,q2,q3⟩
 ·exact RD hg q h.rel hd
 ·exact ab4 hg q1 q2 h.rel q3 hd
def VC{v:V}(h:adQ X c v u)(hg:Gl X c:=by rfl)(hd:(c==("__debug__":Str))=false:=by decide):WE X (.Name c pos) (tC v):=⟨WV (h:=h) (hg:=hg) (hd:=hd)⟩
def Zl{y:V}(hx:XTs X.K ct.f.cb mt)(hk:IsK X.K ct.f.cb mt cv n)(hy:∀u,RelV y u->u=cv):qN X (.builtin "isinstance") (λ xs H Q=>ay ct.f.L H/\ay ct.B H/\∃d v ks,xs=[v,y]/\Tl X.K ct H d v/\kinds mt d=some ks/\Q (.bl (ks.contains n)) H):=by
 intro pins s σ H xs us Q I r ⟨lL,lB,d,v,ks,ex,t,hd,q⟩;subst ex;cases r with
 |cons r1 r2=>
  cases r2 with
  |cons r2 r3=>cases r3;obtain ⟨nb,ty,P,Z,pp,k⟩:=EG I lL lB t r1 hd hx;rw[hy _ r2];exact W.kia_one Z I.zW pp (k cv n hk) nb λ tk=>⟨.bl _,H,I.tok tk,rfl,q⟩
def Sf(h:zX mt cs d= .ok x):∃ks,kinds mt d=some ks/\x= .bl (cs.any λ c=>ks.contains c):=by
 unfold zX at h;split at h
 ·rename_i ks hk;cases h;exact ⟨ks,hk,rfl⟩
 ·cases h
def Si{cs:List String}{d:D}{c:String}:zX mt cs d≠.err c:=by unfold zX;split<;>exact λ z=>nomatch z
def Fj{y:V}(hm:X.mg "isinstance"=none)(hx:XTs X.K ct.f.cb mt)(hk:IsK X.K ct.f.cb mt cv n)(hc:adQ X c y cv)(he:WD X ct e f)(hg:Gl X "isinstance":=by rfl)(hgc:Gl X c:=by rfl)(hdc:(c==("__debug__":Str))=false:=by decide)(hs:ć [e,.Name c p2] X.env=(false,eval e X.env)::ć [.Name c p2] X.env:=by rfl)(hs2:ć [.Name c p2] X.env=(false,eval (.Name c p2) X.env)::ć [] X.env:=by rfl)(hpl:(backTo pos (ć [.Name c p2] X.env)).any (·.1)=false:=by rfl):WD X ct (.Call (.Name "isinstance" p) [e,.Name c p2] [] pos) (DR mt [n] f):=by
 have he:=he.out;refine ⟨?_⟩;refine PE.imp (jk (Zl hx hk hc.one) hg hm PyProof.Rows.boot_isinstance (pA he (pA (WV hc hgc hdc) yx hs2) hs) `Â `Â hs hpl) λ σ H Q ⟨Γ,j,h⟩=>?_;refine rL.bnd j h λ d v H' s t j' h'=>?_;cases q:zX mt [n] d with
 |bad=>rw[q] at h';exact h'.elim
 |err c=>exact (Si q).elim
 |ok x=>rw[q] at h';obtain ⟨ks,hks,rfl⟩:=Sf q;exact ⟨j'.lL,j'.lB,d,v,ks,rfl,t,hks,by simpa using h' (.bl _) H' s (by simp[Tl])⟩
theorem Ca{K:ă}{ty:Value}{ks:List String}:∀{cvs:`Ð} {ns:List String},Paired (λ cv n=>Āy K ty cv=some (ks.contains n)) cvs ns->W.kitAny K ty cvs=some (ns.any λ c=>ks.contains c)
 |_,_,.nil=>rfl
 |_,_,.cons r t=>by
  unfold W.kitAny;rw[r,ŏ];cases ks.contains _ with
  |true=>rfl
  |false=>simpa using Ca t
def Vf{ys:List V}{cvs:`Ð}{ns:List String}(hx:XTs X.K ct.f.cb mt)(hk:Paired (IsK X.K ct.f.cb mt) cvs ns)(hy:∀us,Vals ys us->us=cvs):
  qN X (.builtin "isinstance") (λ xs H Q=>ay ct.f.L H/\ay ct.B H/\∃d v ks a,xs=[v,.ref a]/\H a=some (.tup ys)/\Tl X.K ct H d v/\kinds mt d=some ks/\Q (.bl (ns.any λ c=>ks.contains c)) H):=by
 intro pins s σ H xs us Q I r ⟨lL,lB,d,v,ks,a,ex,ha,t,hd,q⟩;subst ex;cases r with
 |cons r1 r2=>
  cases r2 with
  |cons r2 r3=>cases r3;cases r2;obtain ⟨nb,ty,P,Z,pp,k⟩:=EG I lL lB t r1 hd hx;obtain ⟨_,its,ri,o,h1,h2,m,h3⟩:=I.hok a _ ha;have e:=hy _ ri;subst e;obtain ⟨oc,od,odt,osl⟩:=o;simp only at h2 h3;subst h2 h3;exact W.kia_tup Z I.zW pp h1 (Ca (Paired.acF hk λ cv n z=>k cv n z)) nb λ tk=>⟨.bl _,H,I.tok tk,rfl,q⟩
def abo{x1}(hm:X.mg "isinstance"=none)(hx:XTs X.K ct.f.cb mt)(hk:Paired (IsK X.K ct.f.cb mt) cvs ns)(hy:∀us,Vals ys us->us=cvs)(he:WD X ct e f)(hc:WA X cs t)(ht:∀σ H Q,Q ys H->t σ H Q)(hl:ys.length<=100)(hg:Gl X "isinstance":=by rfl)(hs:ć [e,.Tuple cs x1 p2] X.env=(false,eval e X.env)::ć [.Tuple cs x1 p2] X.env:=by rfl)(hs2:ć [.Tuple cs x1 p2] X.env=(false,eval (.Tuple cs x1 p2) X.env)::ć [] X.env:=by rfl)(hpl:(backTo pos (ć [.Tuple cs x1 p2] X.env)).any (·.1)=false:=by rfl):WD X ct (.Call (.Name "isinstance" p) [e,.Tuple cs x1 p2] [] pos) (DR mt ns f):=by
 have he:=he.out;have hc:=hc.out;refine ⟨?_⟩;refine PE.imp (jk (Vf hx hk hy) hg hm PyProof.Rows.boot_isinstance (pA he (pA (WH hc) yx hs2) hs) `Â `Â hs hpl) λ σ H Q ⟨Γ,j,h⟩=>?_;refine rL.bnd j h λ d v H' s t' j' h'=>?_;cases q:zX mt ns d with
 |bad=>rw[q] at h';exact h'.elim
 |err c=>exact (Si q).elim
 |ok x=>rw[q] at h';obtain ⟨ks,hks,rfl⟩:=Sf q;refine ht σ H' _ ⟨ũ (tZ `À),λ a ha=>?_⟩;have s2:=bf ha (.tup ys);exact ⟨j'.lL.trans s2,j'.lB.trans s2,d,v,ks,a,rfl,aC,t'.keep (ay.keep s2),hks,h' (.bl _) _ (s.trans s2) (by simp[Tl])⟩
def vO(x y:Bool):(Value.bool x==Value.bool y)=decide (x=y):=by cases x<;>cases y<;>rfl
def W5:p8 X (compareOp .Is) (λ x y H Q=>∃b:Bool,(y= .cU\/∃c,y= .bl c)/\b=decide (x=y)/\Q (.bl b) H):=by
 intro pins s σ H x y v u Q I rx ry ⟨b,hy,hb,q⟩;have hp:plainIs v u=true/\(v==u)=b:=by
  subst hb;rcases hy with rfl|⟨c,rfl⟩<;>cases ry<;>cases x<;>first
   |(cases rx;refine ⟨rfl,?_⟩;first|(rw[vO];simp;done)|(simp;done))
   |(obtain ⟨t,rfl⟩:=rx;refine ⟨rfl,?_⟩;simp;done)
 exact wpAny_is_plain hp.1 (by rw[hp.2];exact ⟨.bl b,H,I,rfl,q⟩)
def W3:p8 X (compareOp .IsNot) (λ x y H Q=>∃b:Bool,(y= .cU\/∃c,y= .bl c)/\b=decide (x=y)/\Q (.bl (!b)) H):=by
 intro pins s σ H x y v u Q I rx ry ⟨b,hy,hb,q⟩;have hp:plainIs v u=true/\(v==u)=b:=by
  subst hb;rcases hy with rfl|⟨c,rfl⟩<;>cases ry<;>cases x<;>first
   |(cases rx;refine ⟨rfl,?_⟩;first|(rw[vO];simp;done)|(simp;done))
   |(obtain ⟨t,rfl⟩:=rx;refine ⟨rfl,?_⟩;simp;done)
 exact wpAny_isNot_plain hp.1 (by rw[hp.2];exact ⟨.bl (!b),H,I,rfl,q⟩)
def ad5{K:ă}{H:Hp}{d y:D}{v u:V}{r:D}(t1:Tl K ct H d v)(t2:Tl K ct H y u)(h:HD d y= .ok r):(u= .cU\/∃c,u= .bl c)/\r= .bl (decide (v=u)):=by
 cases y with
 |cU=>
  simp only[Tl] at t2;subst t2;refine ⟨.inl rfl,?_⟩;cases d<;>simp only[HD,Res.ok.injEq] at h<;>subst h<;>simp only[Tl] at t1<;>first
   |(subst t1;simp)
   |(obtain ⟨a,z⟩:=t1;obtain ⟨b,z⟩:=z;obtain ⟨z,_⟩:=z;subst z;simp)
   |(obtain ⟨a,b,c,e,z,_⟩:=t1;subst z;simp)
 |bl b=>
  simp only[Tl] at t2;subst t2;refine ⟨.inr ⟨b,rfl⟩,?_⟩;cases d<;>simp only[HD,Res.ok.injEq] at h<;>subst h<;>simp only[Tl] at t1<;>first
   |(subst t1;simp;done)
   |(subst t1;rename_i c;cases c<;>cases b<;>rfl)
   |(obtain ⟨a,z⟩:=t1;obtain ⟨b,z⟩:=z;obtain ⟨z,_⟩:=z;subst z;simp)
   |(obtain ⟨a,b,c,e,z,_⟩:=t1;subst z;simp)
 |_=>cases h
def W9:CV X ct (λ x y H Q=>∃b:Bool,(y= .cU\/∃c,y= .bl c)/\b=decide (x=y)/\Q (.bl b) H) HD:=by
 intro σ H x y d1 d2 Q lL lB t1 t2 h;cases q:HD d1 d2 with
 |bad=>rw[q] at h;exact h.elim
 |err c=>cases d2<;>cases q
 |ok r=>rw[q] at h;obtain ⟨h1,rfl⟩:=ad5 t1 t2 q;exact ⟨_,h1,rfl,h _ H `Ù (by simp[Tl])⟩
def ac3(d y:D):ER d y=(HD d y).bnd λ r=>match r with
  | .bl b=> .ok (.bl (!b))
  |_=> .bad:=by
 cases y<;>first|rfl|(cases d<;>rfl)
def W8:CV X ct (λ x y H Q=>∃b:Bool,(y= .cU\/∃c,y= .bl c)/\b=decide (x=y)/\Q (.bl (!b)) H) ER:=by
 intro σ H x y d1 d2 Q lL lB t1 t2 h;rw[ac3] at h;cases q:HD d1 d2 with
 |bad=>rw[q] at h;exact h.elim
 |err c=>cases d2<;>cases q
 |ok r=>rw[q] at h;obtain ⟨h1,rfl⟩:=ad5 t1 t2 q;exact ⟨_,h1,rfl,h _ H `Ù (by simp[Tl])⟩
def ake(ha:WD X ct a f)(hb:WD X ct b g):WD X ct (.Compare a [.Is] [b] pos) (aH HD f g):=by have ha:=ha.out;have hb:=hb.out;exact ⟨FL W5 W9 ha hb (qY _)⟩
def VE(ha:WD X ct a f)(hb:WD X ct b g):DV X ct (.Compare a [.Is] [b] pos) (dT (aH HD f g)):=by have ha:=ha.out;have hb:=hb.out;exact ⟨o9 W5 W9 ha hb (qY _)⟩
def VD(ha:WD X ct a f)(hb:WD X ct b g):DV X ct (.Compare a [.IsNot] [b] pos) (dT (aH ER f g)):=by have ha:=ha.out;have hb:=hb.out;exact ⟨o9 W3 W8 ha hb (qY _)⟩
theorem E8{K:ă}{H:Hp}:∀{ds:List D} {bs:List Bool} {vs:List V},bools ds=some bs->aF K ct H ds vs->vs=bs.map V.bl
 |[],_,vs,h,t=>by cases h;simpa[aF] using t
 | .bl b::r,bs,vs,h,t=>by simp only[bools,Āv] at h;obtain ⟨rs,h1,rfl⟩:=h;simp only[aF,Tl] at t;obtain ⟨v,vr,rfl,rfl,t2⟩:=t;rw[E8 h1 t2];rfl
 | .cU::_,_,_,h,_=>by cases h
 | .int _::_,_,_,h,_=>by cases h
 | .str _::_,_,_,h,_=>by cases h
 | .tup _::_,_,_,h,_=>by cases h
 | .gt _::_,_,_,h,_=>by cases h
 | .lst _::_,_,_,h,_=>by cases h
 | .obj _ _ _::_,_,_,h,_=>by cases h
 | .exc _::_,_,_,h,_=>by cases h
 | .bor _ _::_,_,_,h,_=>by cases h
 | .r6 _ _::_,_,_,h,_=>by cases h
 | .uF _ _ _::_,_,_,h,_=>by cases h
 | .yb _ _ _ _::_,_,_,h,_=>by cases h
def range_all(bs:List Bool):(ĭ bs.length).all (λ i=>bs.getD i false)=bs.all id:=by
 rw[Bool.eq_iff_iff,Ĳ,Ĳ];constructor
 ·intro h b hb;obtain ⟨i,hi,rfl⟩:=List.getElem_of_mem hb;have:=h i (Āj.mpr hi);simpa[Č,hi] using this
 ·intro h i hi;have hi:=Āj.mp hi;simpa[Č,hi] using h bs[i] (ġ hi)
def J9{pins:`Ê}{σ:St}{H:Hp}{s:Shared}{A:Around}{l:Addr}{bs:List Bool}{R:`Ã}{E:`Ã}(I:`Ä)(hA:A.handled=none)(hs:qO X.K H l (bs.map V.bl)) (k:∀I' fp wr n P St tr it s₂,it= .ref I'->Walks X.prog X.w A I' fp wr n P St->St 0 s₂.heap->TruthOf X.prog X.w A P tr->n=bs.length->tr=(λ i=>bs.getD i false)->(∀h' tk,(∀b o,b∉wr->s₂.heap.get? b=some o->h'.get? b=some o)->Inv X pins σ H {s₂ with heap:=h',toks:=tk})->R it s₂):wpAny `É A (pyIter (.ref l)) R E s:=by
 obtain ⟨its,ri,⟨o,n,h1,h2,h2',h3⟩,_⟩:=I.list hs;have hl:s.heap.IsList l its.toArray:=⟨o,h1,h2,n,h3⟩;have hlen:its.length=bs.length:=by rw[<-ri.length,ė]
 refine wpAny_pyIter_list hl ?_;have hne:l≠s.heap.objs.size:=ĕ (č h1);refine k _ _ _ _ _ _ (λ i=>bs.getD i false) _ _ rfl (Walks.list hA s.heap.objs.size l hne its.toArray) ⟨⟨_,đ _ rfl,rfl,rfl⟩,⟨o,Ā _ h1,h2,n,h3⟩⟩ ?_ (by simpa using hlen) rfl λ h' tk kp=>?_
 ·intro i v s' Q' E' hP hq;have hP:its.toArray[i]? =some v:=hP;rw[Ŵ] at hP;have hi:i<bs.length:=by rw[<-hlen];exact (Ď.mp hP).1
  obtain ⟨u,e1,e2⟩:=ri.get (i:=i) (x:= .bl bs[i]) (by rw[Ĝ,ā hi];rfl);rw[hP] at e1;cases e1;cases e2;have:bs.getD i false=bs[i]:=by simp[Č,hi]
  have hq:Q' (bs.getD i false) s':=hq;rw[this] at hq;exact Ě hq
 ·refine I.kept (h':=h') (t':=tk) λ b ob e=>kp b ob ?_ (Ā _ e);simp only[āu];exact ĕ (č e)
def Zm(hc:X.calm=true):qN X (.builtin "all") (λ xs H Q=>∃(l:Addr) (bs:List Bool),xs=[.ref l]/\qO X.K H l (bs.map V.bl)/\Q (.bl (bs.all id)) H):=by intro pins s σ H xs us Q I r ⟨l,bs,ex,hs,q⟩;subst ex;obtain ⟨u,rfl,ru⟩:=vals1 r;cases ru;refine call_all_walk (J9 I (I.ok.hd hc) hs λ I' fp wr n P St tr it s₂ e W st tt en et kp=>?_);subst en et;exact ⟨I',fp,wr,_,P,St,_,e,W,st,tt,λ h' tk k=>by rw[range_all];exact ⟨.bl _,H,kp h' tk k,rfl,q⟩⟩
def af3{fa:`Æ}(hc:X.calm=true)(hm:X.mg "all"=none)(ha:CM X ct [e] fa)(hg:Gl X "all":=by rfl)(he:ć [e] X.env=(false,eval e X.env)::ć [] X.env:=by rfl):WD X ct (.Call (.Name "all" p) [e] [] pos) (pY Zw fa):=by
 have ha:=ha.out;refine ⟨?_⟩;refine PE.imp (jk (Zm hc) hg hm PyProof.Rows.boot_all ha `Â `Â he rfl) (E7 λ σ H vs ds Q lL lB t h=>?_);unfold Zw at h;split at h
 ·split at h
  ·rename_i es he';split at h
   ·rename_i bs hb;obtain ⟨v,rfl,tv⟩:=zK t;obtain ⟨l,us,rfl,h1,h2⟩:=tv.oU lL lB he';rw[E8 hb h2] at h1;exact ⟨l,bs,rfl,h1,h _ H `Ù (by simp[Tl])⟩
   ·exact h.elim
  ·exact h.elim
 ·exact h.elim
end
def af5:∀us,Vals [] us->us=[]:=λ us h=>by cases h;rfl
def VN(t:∀us,Vals ys us->us=cvs):∀us,Vals (.ref C::ys) us->us= .ref C::cvs:=λ us r=>by
 cases r with
 |cons r1 r2=>cases r1;rw[t _ r2]
section
variable{X:Cx}{ct:Ct}{c:Cf}{k n:Nat}{f:Addr}{fd:FuncData}{ps:`Ú}{F:`Ü}{x:Str}{p pos:Pos}{e:Expr}{es:`Þ}{fa:`Æ}
def cS(G:jA X.prog X.w X.K X.mg X.base c.z.f.cb k f fd ps F)(hr:gM k X.A)(hm:X.mg x=some (.ref f))(hk:Ĕ X.K (.ref f)=true)(hb:Binds X.K fd ps [])(ha:CM X c.z (e::es) fa)(hn:ps.length=n:=by rfl)(hg:Gl X x:=by rfl)(hdb:(x==("__debug__":Str))=false:=by decide)(he:`Ç:=by rfl)(hpl:(backTo pos (ć es X.env)).any (·.1)=false:=by rfl):WD X c.z (.Call (.Name x p) (e::es) [] pos) (bz n F fa):=by have ha:=ha.out;refine ⟨?_⟩;subst hn;exact WY (Bg (aJ c) G hr hm hk hb ha hg hdb he hpl)
def nX(G:jA X.prog X.w X.K X.mg X.base ct.f.cb k f fd ps F)(hr:gM k X.A)(hm:X.mg x=some (.ref f))(hk:Ĕ X.K (.ref f)=true)(hb:Binds X.K fd ps [])(ha:CM X ct (e::es) fa)(hn:ps.length=n:=by rfl)(hg:Gl X x:=by rfl)(hdb:(x==("__debug__":Str))=false:=by decide)(he:`Ç:=by rfl)(hpl:(backTo pos (ć es X.env)).any (·.1)=false:=by rfl):WD X ct (.Call (.Name x p) (e::es) [] pos) (bK n F fa):=by have ha:=ha.out;refine ⟨?_⟩;subst hn;exact W0 (Bg (Gw ct) G hr hm hk hb ha hg hdb he hpl)
def J8(G:jA X.prog X.w X.K X.mg X.base ct.f.cb k f fd ps F)(hr:gM k X.A)(hm:X.mg x=some (.ref f))(hk:Ĕ X.K (.ref f)=true)(hb:Binds X.K fd ps [])(ha:CM X ct (e::es) fa)(hn:ps.length=n:=by rfl)(hg:Gl X x:=by rfl)(hdb:(x==("__debug__":Str))=false:=by decide)(he:`Ç:=by rfl)(hpl:(backTo pos (ć es X.env)).any (·.1)=false:=by rfl):WD X ct (.Call (.Name x p) (e::es) [] pos) (pX n F fa):=by have ha:=ha.out;refine ⟨?_⟩;subst hn;exact WZ (Bg (RY ct) G hr hm hk hb ha hg hdb he hpl)
end
def spL(K:ă):Sp:=λ vs H Q _=>∃(a:Addr) (ns:`Î),vs=[.ref a]/\FzL K H a (ns.map V.int)/\ns.length<=63/\∀H',Q (.bl true) H'
theorem HY{K:ă}{ct:Ct}{H:Hp}:∀ns:List Int,aF K ct H (ns.map D.int) (ns.map V.int)
 |[]=>by simp[aF]
 |n::ns=>aF.cons (by simp[Tl]) (HY ns)
def akg{l:W.OpenLaw}{q:Program}{loose:`Ú}{XP:(Str->Option Value)->Heap->Prop}{YP:World->Heap->Prop}{d:DefRec}{K:Params->ă}{k:Nat}{F:`Ü}(hn:l.most=some 63)(hdf:d.params.defaults=[]) (h1:callerA.depth+3*k+5<recursionLimit) (h2:callerA.units+16*k+200<cLine) (hY:∀(w:World) (h:Heap),YP w h->(K w.params).In h) (hF:∀(w:World) (mg:`Ò) (fa:Addr) (h:Heap),(K w.params).In h->h.Ns Ą mg->mg d.name=some (.ref fa)->∃(cb:Cb) (fd:FuncData),(∀(s:Shared) (u:Value),BindsTo s fd ⟨[u],[]⟩ [("_law_script",u)])/\∀base:Heap,jA l.prog w (K w.params) mg base cb k fa fd ["_law_script"] F) (ht:∀ns:List Int,ns.length<=63->F [.val (.lst (ns.map D.int))]= .ok (.bl true)):W.WalkO q loose XP YP l.row.toRowW d [] (λ f vs=>ąf f vs):=by
 refine L2.abq (n:=63) (k:=k) (x:="_law_script") (K:=K) (CX:=λ w=>HG l.prog w) (sp:=λ w=>spL (K w.params)) hn `Â hdf ⟨rfl,h1,h2⟩ hY (λ w mg fa h X G hm=>?_) (λ w H a ns hl hO hS=>⟨a,ns,rfl,?_,hl,λ _=>rfl⟩) (λ w H s e s' z=>?_)
 ·obtain ⟨cb,fd,hb,hf⟩:=hF w mg fa h X G hm;refine ⟨fd,hb,λ base _ _=>(hf base).imp λ vs H Q E ⟨a,ns,e1,fz,hl,hq⟩=>?_⟩;subst e1;refine ⟨rfl,kX cb (λ _=>none) [.ref a],[.val (.lst (ns.map D.int))],rfl,rfl,Ym (ds:=[.lst (ns.map D.int)]) (λ _ _ q=>nomatch q) (aF.cons ?_ aF.nil),?_⟩
  ·simp only[Tl];exact ⟨a,_,rfl,fz,HY ns⟩
  ·rw[ht ns hl];intro v H' _ _ tv;simp only[Tl] at tv;subst tv;exact hq H'
 ·rcases hS with (h|⟨o,h⟩)|h
  ·rcases hO a with z|⟨o,xs,z⟩
   ·rw[z] at h;cases h
   ·rw[z] at h;cases h
  ·exact .inl ⟨o,h⟩
  ·exact .inr h
 ·obtain ⟨_,_,_,_,_,_,z,_⟩:=z;exact z.elim
def walkZ{l:W.OpenLaw}{q:Program}{loose:`Ú}{XP:(Str->Option Value)->Heap->Prop}{d:DefRec}{K:Params->ă}{as:List Addr}{nz tz:Nat}{k:Nat}{F:`Ü}(hn:l.most=some 63)(hdf:d.params.defaults=[]) (h1:callerA.depth+3*k+5<recursionLimit) (h2:callerA.units+16*k+200<cLine) (hK:∀P,as=(K P).map (·.1)) (hF:∀(w:World) (mg:`Ò) (fa:Addr) (h:Heap),(K w.params).In h->h.Ns Ą mg->mg d.name=some (.ref fa)->∃(cb:Cb) (fd:FuncData),(∀(s:Shared) (u:Value),BindsTo s fd ⟨[u],[]⟩ [("_law_script",u)])/\∀base:Heap,jA l.prog w (K w.params) mg base cb k fa fd ["_law_script"] F) (ht:∀ns:List Int,ns.length<=63->F [.val (.lst (ns.map D.int))]= .ok (.bl true)):W.WalkX q loose XP (W.X.obsZ as) (W.X.valZ K nz tz) l.row.toRowW d [] (λ f vs=>ąf f vs):=λ w s₀ s₁ mg mb G y a o pm cd doc dV kV ho hd hcd hD hmg hg args vals as' L hpre hlay hrd hwl hlo=>akg (YP:=λ w h=>(K w.params).In h) hn hdf h1 h2 (λ _ _ Y=>Y) hF ht w s₀ s₁ mg mb G (W.InK.keeps w s₀.heap s₁.heap (W.X.z_facts hK y).2.1 (W.Laid.keeps L)) a o pm cd doc dV kV ho hd hcd hD hmg hg args vals as' hpre hlay hrd hwl hlo
section
variable{X:Cx}{ct:Ct}{c:Cf}{o e:Expr}{es:`Þ}{f m:Str}{fo g:`Ñ}{fa:`Æ}{pos apos:Pos}
def FA(K:ă)(cb:Cb)(f:Str):Prop:=∀C,((∃c,cb.ins c=some C)\/∃c ns,cb.cls c=some (C,ns))->zk K C/\tT K C f
theorem AD{K:ă}{H:Hp}:∀{ns:`Ú} {xs:List D} {vs:List V} {d:D},aF K ct H xs vs->(ns.zip xs).lookup f=some d->∃v,(ns.zip vs).lookup f=some v/\Tl K ct H d v
 |[],xs,vs,d,t,h=>by simp at h
 |n::ns,[],vs,d,t,h=>by simp at h
 |n::ns,x::xs,vs,d,t,h=>by
  simp only[aF] at t;obtain ⟨v,r,rfl,t1,t2⟩:=t;simp only[ĥ,į] at h ⊢;split at h
  ·cases h;exact ⟨v,rfl,t1⟩
  ·exact AD t2 h
def m6(hf:FA X.K ct.f.cb f)(ho:WD X ct o fo)(hb:attributeBase o f X.env (eval o X.env)=eval o X.env:=by rfl):WD X ct (.Attribute o f pos) (tR f fo):=by
 have ho:=ho.out;refine ⟨?_⟩;refine PE.imp (agT ho hb) λ σ H Q ⟨Γ,j,h⟩=>?_;refine rL.bnd j h λ d v H' s t j' h'=>?_;cases d with
 |obj c ns xs=>
  simp only[Tl] at t;obtain ⟨a,C,dx,vs,rfl,h1,h2,h3,h4⟩:=t;simp only[rB] at h';split at h'
  ·rename_i d hd;obtain ⟨v,q1,q2⟩:=AD h4 hd;obtain ⟨z1,z2⟩:=hf C (.inr ⟨c,ns,h1⟩);exact ⟨a,C,dx,_,v,rfl,h2,z1,z2,q1,h' v H' s q2⟩
  ·exact h'.elim
 |yb tm c ns xs=>
  simp only[Tl] at t;obtain ⟨a,C,dx,vs,rfl,h1,h2,h3,h4⟩:=t;have h2':H' a=some (.ins C dx (ns.zip vs)):=by
   cases tm with
   |true=>exact j'.lB a _ h2
   |false=>exact j'.lL a _ h2
  simp only[rB] at h';split at h'
  ·rename_i d hd;obtain ⟨v,q1,q2⟩:=AD h4 hd;obtain ⟨z1,z2⟩:=hf C (.inl ⟨c,h1⟩);exact ⟨a,C,dx,_,v,rfl,h2',z1,z2,q1,h' v H' s q2⟩
  ·exact h'.elim
 |_=>exact h'.elim
def DW(X:Cx)(cb:Cb)(m:Str)(n:Nat)(sf:List (String×(List Slot->cR))):Prop:=∀c C ns F,cb.cls c=some (C,ns)->sf.lookup c=some F->∃(k:Nat) (f:Addr) (fd:FuncData) (ps:`Ú),zk X.K C/\Meth X.K C m f/\jA X.prog X.w X.K X.mg X.base cb k f fd ps F/\gM k X.A/\Binds X.K fd ps []/\ps.length=n+1/\m∉ns
theorem yP:∀{ns:`Ú} {vs:List α},m∉ns->(ns.zip vs).lookup m=none
 |[],vs,_=>by simp
 |n::ns,[],_=>by simp
 |n::ns,v::vs,h=>by
  simp only[ĥ,į];have:(m==n)=false:=by simp only[Ć,not_or] at h;simpa using h.1
  rw[this];exact yP λ z=>h (.tail _ z)
variable{md:List D->Option (List D)}{bk:D->Bool}{zh:M->Bool}{sf:List (String×(List Slot->cR))}{n:Nat}
def acC(X:Cx)(ct:Ct)(md:List D->Option (List D))(bk:D->Bool)(zh:M->Bool)(n:Nat)(sf:List (String×(List Slot->cR)))(fo:`Ñ)(fa:`Æ):TE:=λ σ H Q=>∃Γ,Jx X ct Γ σ H/\Ok X ct σ H (fo Γ) λ d=>∃F,nh sf d=some F/\Ok X ct σ H (fa Γ) λ ds=>ds.length=n/\∃ds',md (d::ds)=some ds'/\∀H',ay H H'->Q8 X ct bk zh σ H' (F (ds'.map .val)) Q
def jf(Z:CP ct md bk zh)(hm:DW X ct.f.cb m n sf)(ho:WD X ct o fo)(ha:CM X ct (e::es) fa)(hst:`Ç:=by rfl)(hpl:(backTo pos (ć es X.env)).any (·.1)=false:=by rfl)(ht:eval (.Call (.Attribute o m apos) (e::es) [] pos) X.env=(do
   let ov <-eval o X.env
   standAt apos.atName
   let (f,first) <-holding [ov] (getMethod ov m pl)
   callWith pos f first (backTo pos (ć (e::es) X.env)) (backToKw pos (keywordEach [] X.env))):=by rfl):WE X (.Call (.Attribute o m apos) (e::es) [] pos) (acC X ct md bk zh n sf fo fa):=by
 have ho:=ho.out
 have ha:=ha.out
 refine ⟨?_⟩
 intro pins s σ H Q I ⟨Γ,j,h⟩
 have h1:rL X ct fo σ H (λ x H1=>∃d F,ay H H1/\Tl X.K ct H1 d x/\nh sf d=some F/\Ok X ct σ H (fa Γ) λ ds=>ds.length=n/\∃ds',md (d::ds)=some ds'/\∀H',ay H H'->Q8 X ct bk zh σ H' (F (ds'.map .val)) Q):=
  ⟨Γ,j,Ok.mono `Ù h λ d ⟨F,hF,q⟩ v H1 s1 t1=>⟨d,F,s1,t1,hF,q⟩⟩
 refine W.methodCall_KW (pl:=pl) (fV (ho pins s σ H _ I h1) λ u s1 ⟨x,H1,I1,rx,d,F,sm,t,hF,q⟩=>?_) ht
 cases d with
 |obj c ns xs=>
  have t0:=t
  simp only[Tl] at t
  obtain ⟨a,C,dx,vs0,rfl,g1,g2,g3,g4⟩:=t
  cases rx
  obtain ⟨kk,f,fd,ps,c1,c2,c3,c4,c5,c6,c7⟩:=hm c C ns F g1 hF
  refine Cp I1 g2 c1 c2 (yP c7) ?_
  have h2:JW X ct fa σ H1 (λ vs H2=>∃ds ds',ay H1 H2/\aF X.K ct H2 ds vs/\ds.length=n/\md (.obj c ns xs::ds)=some ds'/\Q8 X ct bk zh σ H2 (F (ds'.map .val)) Q):=
   ⟨Γ,j.mono sm,Ok.mono sm q λ ds ⟨q1,ds',q2,q3⟩ vs H2 s2 t2=>⟨ds,ds',s2,t2,q1,q2,q3 H2 (sm.trans s2)⟩⟩
  refine ąl (first:=[.ref a]) (h₀:=X.base) I.ok.mod.kin c2.kp (fV (ha pos pins s1 σ H1 _ I1 h2) λ us s2 ⟨vs,H2,I2,r,ds,ds',s12,tl,hl,hd,q⟩=>⟨I2.zW,?_⟩) hst hpl
  have j2:=j.mono (sm.trans s12)
  obtain ⟨L,l,t2,q1,q2⟩:=Z.go X.K H2 (.obj c ns xs::ds) (.ref a::vs) ds' j2.lL j2.lB (aF.cons (t0.keep (ay.keep s12)) tl) hd
  exact FD (us:= .ref a::us) (vs:= .ref a::vs) c3 c4 c5 I2 (.cons rfl r) l t2 (by simp[<-tl.length,hl,c6]) (Ht q q1 q2)
 |_=>cases hF
def nR(Z:CP ct md bk zh)(hm:DW X ct.f.cb m n sf)(ho:WD X ct o fo)(ht:eval (.Call (.Attribute o m apos) [] [] pos) X.env=(do
   let ov <-eval o X.env
   standAt apos.atName
   let (f,first) <-holding [ov] (getMethod ov m pl)
   callWith pos f first (backTo pos (ć [] X.env)) (backToKw pos (keywordEach [] X.env))):=by rfl):WE X (.Call (.Attribute o m apos) [] [] pos) (acC X ct md bk zh n sf fo az):=by
 have ho:=ho.out
 refine ⟨?_⟩
 intro pins s σ H Q I ⟨Γ,j,h⟩
 have h1:rL X ct fo σ H (λ x H1=>∃d F,ay H H1/\Tl X.K ct H1 d x/\nh sf d=some F/\0=n/\∃ds',md [d]=some ds'/\∀H',ay H H'->Q8 X ct bk zh σ H' (F (ds'.map .val)) Q):=
  ⟨Γ,j,Ok.mono `Ù h λ d ⟨F,hF,q⟩ v H1 s1 t1=>⟨d,F,s1,t1,hF,q⟩⟩
 refine W.methodCall_KW (pl:=pl) (fV (ho pins s σ H _ I h1) λ u s1 ⟨x,H1,I1,rx,d,F,sm,t,hF,hl,ds',hd,q⟩=>?_) ht
 cases d with
 |obj c ns xs=>
  have t0:=t
  simp only[Tl] at t
  obtain ⟨a,C,dx,vs0,rfl,g1,g2,g3,g4⟩:=t
  cases rx
  obtain ⟨kk,f,fd,ps,c1,c2,c3,c4,c5,c6,c7⟩:=hm c C ns F g1 hF
  refine Cp I1 g2 c1 c2 (yP c7) ?_
  have j2:=j.mono sm
  obtain ⟨L,l,t2,q1,q2⟩:=Z.go X.K H1 [.obj c ns xs] [.ref a] ds' j2.lL j2.lB (aF.cons t0 aF.nil) hd
  exact W.callWith_K0 (first:=[.ref a]) I1.zW c2.kp (FD (us:=[.ref a]) (vs:=[.ref a]) c3 c4 c5 I1 (.cons rfl .nil) l t2 (by simp[c6, <-hl]) (Ht (q H1 sm) q1 q2))
 |_=>cases hF
def abW(h:PE X e (acC X ct md bk zh n sf fo fa))(hg:∀Γ,gm Γ=(fo Γ).bnd λ o=>match nh sf o with
  |some F=>(fa Γ).bnd λ ds=>if ds.length=n then (match md (o::ds) with
   |some ds'=>(match F (ds'.map .val) with
    | .ok d=>if bk d=true then .ok (.d d) else .bad
    | .new m=>if zh m=true then .ok m else .bad
    | .err x=> .err x
    |_=> .bad)
   |none=> .bad) else .bad
  |none=> .bad):PM X ct e gm:=by
 refine PE.imp h λ σ H Q ⟨Γ,j,q⟩=>⟨Γ,j,?_⟩;rw[hg] at q;refine q.bnd λ o _ q=>?_;split at q
 ·rename_i F hF;refine ⟨F,hF,q.bnd λ ds _ q=>?_⟩;split at q
  ·rename_i hl;split at q
   ·rename_i ds' hd;refine ⟨hl,ds',hd,λ H' s=>?_⟩;cases z:F (ds'.map .val) with
    |ok d=>
     rw[z] at q;dsimp only at q;split at q
     ·rename_i hb;exact ⟨hb,(Wm.data q).mono s⟩
     ·exact q.elim
    |new m=>
     rw[z] at q;dsimp only at q;split at q
     ·rename_i hb;exact ⟨hb,Wm.mono s q⟩
     ·exact q.elim
    |err x=>rw[z] at q;exact λ e s' r=>q e s' (r.mono s)
    |RH d os=>rw[z] at q;exact q.elim
    |KU d os=>rw[z] at q;exact q.elim
    |bad=>rw[z] at q;exact q.elim
   ·exact q.elim
  ·exact q.elim
 ·exact q.elim
noncomputable def XN(a:cR):rZ a=(match a with
    | .ok d=>if true=true then .ok (.d d) else .bad
    | .new m=>if true=true then .ok m else .bad
    | .err x=> .err x
    |_=> .bad):=by cases a<;>simp[rZ]
def cZ(h:WE X e (acC X c.z some (λ _=>true) (λ _=>true) n sf fo fa)):WM X c.z e (jl n sf fo fa):=by
 have h:=h.out;exact ⟨abW h λ Γ=>by
 unfold jl;cases fo Γ with
 |ok o=>
  simp only[Res.bw];cases nh sf o with
  |none=>rfl
  |some F=>
   simp only;cases fa Γ with
   |ok ds=>
    simp only[Res.bw];by_cases hl:ds.length=n
    ·simp only[hl,if_true];exact XN _
    ·simp[hl]
   |err x=>rfl
   |bad=>rfl
 |err x=>rfl
 |bad=>rfl⟩
theorem Ip{α:Type}{y:V}:∀{ns:`Ú} {vs:List V},ns.length=vs.length->f∉ns->qS f y (ns.zip vs)=(ns++[f]).zip (vs++[y])
 |[],[],_,_=>rfl
 |[],_::_,h,_=>by simp at h
 |n::ns,[],h,_=>by simp at h
 |n::ns,v::vs,h,hn=>by simp only[Ć,not_or] at hn;have:¬n=f:=λ z=>hn.1 z.symm;simp only[ĥ,qS,this,if_false,Ş];rw[Ip (α:=α) (by simpa using h) hn.2]
noncomputable def aiS(cb:Cb)(ft:List (String×List Str)):Prop:=∀c C full,cb.ins c=some C->ft.lookup c=some full->∀c' ns',cb.cls c'=some (C,ns')->ns'=full
def nW(i:Nat){px pa:Pos}(hf:FA X.K c.cb f)(ht:aiS c.cb ft)(he:∀B,WD X (c.at' B) e g)(hN:X.N[i]? =some x:=by rfl)(hv:Vj X.env.scope x:=by first|exact Or.inl rfl|exact Or.inr (Or.inl rfl)|exact Or.inr (Or.inr rfl))(hd:(x==("__debug__":Str))=false:=by decide)(hcd:(x==("__classdict__":Str))=false:=by decide)(hs:swapsWith e (some (.Attribute (.Name x px) f pa)) pos.line X.env=pure false:=by rfl):CL X c (.Assign [.Attribute (.Name x px) f pa] e pos) (qh i ft f g):=by
 have he:=λ B=>(he B).out;refine ⟨?_⟩;intro pins s σ H E I ⟨Γ,j,h⟩;refine agK (RB (ct:=c.at' H) i hN hv hd hcd) (he H) hs pins s σ H E I ?_;refine ⟨Γ,j.lift,Fn.ok j h λ d _ q y H1 s1 t=>?_⟩;refine ⟨Γ,j.lift.mono s1,Ok.mono (H:=H) s1 (Fn.ok (tm:=true) (B:=H) j q λ ks _ q v H2 s2 pa=>?_) λ _ z=>z⟩;have sm:=s1.trans s2;have j2:=j.mono sm;have ty:=t.keep (ay.keep s2);obtain ⟨sl,m,v0,m',p1,p2,p3,p4,p5⟩:=pa;have e1:xY i ks (Bb ft f d) Γ=(Bb ft f d m').map λ je=>Γ.set i (Wh sl (nD m ks je)):=by unfold xY;rw[p1,Ġ,p2,Ġ,p5,Ġ]
 rw[e1] at q;cases z:Bb ft f d m' with
 |none=>rw[z] at q;exact q.elim
 |some je=>
  rw[z] at q;cases m' with
  |o cn ns xs=>
   simp only[Bb,Ām] at z;obtain ⟨full,zf,z⟩:=z;split at z
   ·rename_i hc;cases z;obtain ⟨vv,S,g1,o1⟩:=j2.ofM p1 p2;rw[p3] at g1;cases g1;obtain ⟨S',o',_⟩:=o1.U7 p4 p5;simp only[Ow] at o';obtain ⟨a,C,dx,vs,rfl,q2,q3,q4,q5,q6⟩:=o';obtain ⟨c1,c2⟩:=hf C (.inl ⟨cn,q3⟩);have kp:aW c.cb H2 (upd H2 a (.ins C dx (qS f y (ns.zip vs)))):=λ b o hb st=>by
     have:b≠a:=by
      rintro rfl
      rw[q4] at hb;cases hb;obtain ⟨c',ns',w1,w2⟩:=st;have w3:=ht cn C full q3 zf c' ns' w1;rw[AE q5] at w2;rw[w2,w3] at hc;omega
     rw[aE this];exact hb
    refine ⟨a,C,dx,_,rfl,q4,c1,c2,by rw[ār];omega,?_⟩;refine q σ _ ((ay.keep sm).trans kp) (j2.up p1 p2 p3 p4 p5 kp λ S' o=>?_);simp only[Ow] at o ⊢;obtain ⟨a',C',dx',us,w1,w2,w3,w4,w5,w6⟩:=o;cases w1;rw[q4] at w4;simp only[Ľ,HO.ins.injEq] at w4;obtain ⟨rfl,rfl,w4⟩:=w4;have euv:us=vs:=by have:=congrArg (List.map Prod.snd) w4;rw[Ăo `À,Ăo `À] at this;exact this.symm
    subst euv;refine ⟨w2,a,C,dx,us++[y],rfl,w2,w3,?_,by simp[q5],(w6.append (aF.cons (Tl.down (B:=H) (tm:=true) ty hc.1) aF.nil)).keep kp⟩;rw[aC,Ip (α:=V) q5 hc.2.2.2]
   ·cases z
  |_=>cases z
end
section
variable{X:Cx}{ct:Ct}{c:Cf}{o e:Expr}{es:`Þ}{x:Str}{fa:`Æ}{p pos:Pos}{md:List D->Option (List D)}{bk:D->Bool}{zh:M->Bool}{n k:Nat}{F:`Ü}{cn:String}{ns:`Ú}{C f:Addr}{fd:FuncData}{ps:`Ú}
def Vk(X:Cx)(ct:Ct)(bk:D->Bool)(cn:String)(ns:`Ú)(σ:St)(H:Hp)(a:cR)(Q:VK):Prop:=match ng cn ns a with
 | .ok d=>bk d=true/\Wd X ct H Q d
 | .err x=>∀e s',kZ X ct.f.cb σ H x e s'->X.xe e s'
 | .bad=>False
def TV:∀{Γ:Sg},fK 0 Γ=[(0,m)]->Γ[0]? =some (.par m)
 |[],h=>by cases h
 | .par m'::r,h=>by simp only[fK,Ŗ,ŭ] at h;obtain ⟨⟨_,rfl⟩,_⟩:=h;rfl
 | .no::r,h=>by simp only[fK] at h;exact absurd h (qk r 0)
 | .val d::r,h=>by simp only[fK] at h;exact absurd h (qk r 0)
 | .own d::r,h=>by simp only[fK] at h;exact absurd h (qk r 0)
where qk {m:M}:∀(Γ:Sg) (i:Nat),fK (i+1) Γ≠[(0,m)]
 |[],i,h=>by cases h
 | .par m'::r,i,h=>by
  simp only[fK,Ŗ,ŭ] at h
  omega
 | .no::r,i,h=>by simp only[fK] at h;exact qk r (i+1) h
 | .val _::r,i,h=>by simp only[fK] at h;exact qk r (i+1) h
 | .own _::r,i,h=>by simp only[fK] at h;exact qk r (i+1) h
def ahz{K:ă}{cb:Cb}{L H:Hp}{ds:List D}{vs:List V}{a dx:Addr}(l:ay L H)(t:aF K (kX cb L vs).z H ds vs)(ha:H a=none)(hd:H dx=none)(ne:dx≠a)(hc:cb.ins cn=some C):
  J K (Cf.z ⟨cb,L,λ b=>b=a,.ref a::vs⟩) (upd (upd H dx (.own a)) a (.ins C dx [])) (.par (.o cn [] [])::ds.map .val) ((V.ref a::vs).map some) (upd (upd H dx (.own a)) a (.ins C dx [])):=by
 have sm:ay H (upd (upd H dx (.own a)) a (.ins C dx [])):=(bf hd _).trans (bf (by rw[aE (Ŋ ne)];exact ha) _);refine ⟨λ _ _ q _=>q,λ _ q=>q,l.trans sm,λ _ _ q=>(nomatch q),by simp[t.length],λ i b=>i=0/\b=a,λ i sl ov h1 h2=>?_,λ i j b hij z z'=>hij (z.1.trans z'.1.symm),λ i b z q=>?_⟩
 ·cases i with
  |zero=>
   cases h1;cases h2;refine ⟨.ref a,rfl,?_,⟨λ b z=> .inr z.2,λ b z q=>?_,λ b z=>?_,λ b z t=>nomatch t⟩,rfl⟩
   ·simp only[Ow];exact ⟨a,C,dx,[],rfl,by simp,hc,aC,rfl,aF.nil⟩
   ·rw[z.2,aC] at q;cases q
   ·cases w:L b with
    |none=>exact w
    |some o=>have:=l b o w;rw[z.2,ha] at this;cases this
  |succ i=>
   simp only[Ķ,Ĝ,ą] at h1 h2;cases q:ds[i]? with
   |none=>rw[q] at h1;cases h1
   |some d=>obtain ⟨v,e1,e2⟩:=t.get q;rw[q] at h1;rw[e1] at h2;cases h1;cases h2;refine ⟨⟨v,rfl,Ag (ct:=(kX cb L vs).z) (jv:=Cf.z ⟨cb,L,λ b=>b=a,.ref a::vs⟩) rfl (λ t a o z=>by cases t<;>exact z) (e2.keep (ay.keep sm))⟩,λ b z=>absurd z.1 `Ó⟩
 ·rw[z.2,aC] at q;cases q
def TM{pins:`Ê}{σ:St}{H L:Hp}{s:Shared}{Q:VK}{us:`Ð}{vs:List V}{ds:List D}(Mc:Mk X.K C f)(G:jA X.prog X.w X.K X.mg X.base ct.f.cb k f fd ps F)(hr:gM (k+1) X.A)(hb:Binds X.K fd ps [])(hci:ct.f.cb.ins cn=some C)(hcc:ct.f.cb.cls cn=some (C,ns)) (I:`Ä) (r:Vals vs us) (l:ay L H) (t:aF X.K (kX ct.f.cb L vs).z H ds vs) (hn:vs.length+1=ps.length) (q1:∀H' d v,bk d=true->Tl X.K (kX ct.f.cb L vs).z H' d v->Tl X.K ct H' d v) (h:Vk X ct bk cn ns σ H (F (.par (.o cn [] [])::ds.map .val)) Q):wpAny `É X.A (call (.ref C) us) (EP X pins σ Q) X.xe s:=by
 have hx0:H `Ë=none:=I.hok.fresh (āg _);have hd0:H s.heap.objs.size=none:=I.hok.fresh (Ĉ _);have hne:s.heap.objs.size≠s.heap.objs.size+1:=ĕ (āk _);have I2:=Inv.made (C:=C) I;have smm:ay H (upd (upd H s.heap.objs.size (.own `Ë)) `Ë (.ins C s.heap.objs.size [])):=(bf hd0 _).trans (bf (by rw[aE (Ŋ hne)];exact hx0) _);have r2:Vals (V.ref `Ë::vs) (Value.ref `Ë::us):= .cons rfl r;have hl:(Value.ref `Ë::us).length=ps.length:=by rw[<-r2.length];exact hn
 have hb':=hb {s with heap:=(s.heap.push ł).push (Ŕ C s.heap.objs.size)} (Value.ref `Ë::us) I2.zW (by rw[ŕ];exact hl);rw[ŕ] at hb';let E:XK:=λ cls od H'=>∃x C',F (.par (.o cn [] [])::ds.map .val)= .err x/\ct.f.cb.exc x=some C'/\cls= .ref C'/\od=none/\ay H H'
 have JU:spD X.K ct.f.cb ps.length F (V.ref `Ë::vs) (upd (upd H s.heap.objs.size (.own `Ë)) `Ë (.ins C s.heap.objs.size [])) (λ v H2=>v= .cU/\Q (.ref `Ë) H2) E:=by
  refine ⟨hn,⟨ct.f.cb,L,λ b=>b=s.heap.objs.size+1,_⟩,_,rfl,rfl,ahz l t hx0 hd0 hne hci,?_⟩;unfold Vk at h;cases z:F (.par (.o cn [] [])::ds.map .val) with
  |ok d=>rw[z] at h;exact h.elim
  |new d=>rw[z] at h;exact h.elim
  |KU d os=>rw[z] at h;exact h.elim
  |bad=>rw[z] at h;exact h.elim
  |err x=>refine λ C' H' e sm=>⟨x,C',z,e,rfl,rfl,λ b o w=>sm b o (smm b o w) ?_⟩;intro w2;have w2:b=s.heap.objs.size+1:=w2;rw[w2,hx0] at w;cases w
  |RH d os=>
   rw[z] at h;unfold ng at h;split at h
   ·rename_i d' hm;split at hm
    ·rename_i c' ns' xs e1;split at hm
     ·rename_i hc;obtain ⟨rfl,rfl⟩:=hc;cases hm;cases e1;intro v Γ' σ' H' j' ho tv;simp only[Tl] at tv;refine ⟨tv,?_⟩;have hz:=TV ho;obtain ⟨v',S,g1,g2,g3,g4⟩:=j'.par hz;simp only[Ow] at g2;obtain ⟨a,C',dx,us',e1,w2,w3,w4,w5,w6⟩:=g2;subst e1;have:a=s.heap.objs.size+1:=by have:=g4;simp only[Cf.z,ō,Ľ,V.ref.injEq] at this;exact this.symm
      subst this;have hCC:C'=C:=by have w3:ct.f.cb.ins c'=some C':=w3;rw[hci] at w3;exact (ĝ w3).symm
      subst hCC;refine h.2 _ H' (λ b o w=>j'.same b o (smm b o w) ?_) (q1 H' _ _ h.1 ?_)
      ·intro w2';have w2':b=s.heap.objs.size+1:=w2';rw[w2',hx0] at w;cases w
      ·simp only[Tl];refine ⟨_,C',dx,us',rfl,hcc,w4,w5,?_⟩;exact vQ (ct:=Cf.z ⟨ct.f.cb,L,λ b=>b=s.heap.objs.size+1,.ref `Ë::vs⟩) (jv:=(kX ct.f.cb L vs).z) rfl (λ t a o z=>by cases t<;>exact z) w6
     ·cases hm
    ·cases hm
    ·cases hm
   ·rename_i x hm;split at hm
    ·split at hm<;>cases hm
    ·rename_i y e1;cases e1
    ·cases hm
   ·exact h.elim
 refine wpAny_call (XI (f:=f) I.zW Mc.makes Mc.init (beq_iff_eq.mp Mc.fn) (Ąj (G.run _ X.stack _ _ ⟨Value.ref `Ë::us,[]⟩ (Value.ref `Ë::us) _ _ E (hr.make C us [])
  (I2.alZ.make C us []) hb' r2 JU) λ r s' hq=>?_))
 cases r with
 |error e=>
  obtain ⟨a,C',H',B,a0,h1,⟨x,C2,w1,w2,w3,w4,w5⟩,h3,h4,h5,h6,h6',h7⟩:=hq;unfold Vk at h;rw[w1] at h;cases w3;have nw:s.heap.get? a=none:=by
   cases z:s.heap.get? a with
   |none=>rfl
   |some ob=>have:((s.heap.push ł).push (Ŕ C s.heap.objs.size)).get? a=some ob:=Ā _ (Ā _ z);rw[this] at h6';cases h6'
  refine h e s' ⟨pins,H,s,C',I,ay.refl H,w2,.inr ⟨a,C',H',B,a0,h1,⟨rfl,rfl,w5⟩,h3,h4,h5,h6,nw,λ h' st up=>?_⟩⟩;obtain ⟨un,hok⟩:=h7 h' st up;have push:∀b o,s.heap.get? b=some o->((s.heap.push ł).push (Ŕ C s.heap.objs.size)).get? b=some o:=λ b o q=>Ā _ (Ā _ q);have nn:∀b o,s.heap.get? b=some o->H b=none->upd (upd H s.heap.objs.size (.own `Ë)) `Ë (.ins C s.heap.objs.size []) b=none:=λ b o q n=>by have lt:=č q;rw[aE (ĕ (ő lt)),aE (ĕ lt)];exact n
  exact ⟨⟨λ b o q n hb hx=>un.keep b o (push b o q) (nn b o q n) hb hx,λ b o q n hb hx=>un.slot b o (push b o q) (nn b o q n) hb hx,λ b o q n hx=>un.free b o (push b o q) (nn b o q n) hx,λ b o q hx=>un.there b o (push b o q) hx,λ b xs q=>un.tups b xs (smm b _ q),λ b o u q=>un.z8 b o u (smm b _ q),λ b ps q=>un.AW b ps (smm b _ q)⟩,hok⟩
 |ok fl=>
  cases fl with
  |ret u=>obtain ⟨v,H',I3,rv,ev,q3⟩:=I2.after hq;subst ev;exact ⟨rv,⟨V.ref `Ë,H',I3,rfl,q3⟩⟩
  |next=>exact ű hq
  |brk=>exact ű hq
  |cont=>exact ű hq
def Xo(X:Cx)(ct:Ct)(md:List D->Option (List D))(bk:D->Bool)(cn:String)(ns:`Ú)(n:Nat)(F:`Ü)(fa:`Æ):TE:=λ σ H Q=>∃Γ,Jx X ct Γ σ H/\Ok X ct σ H (fa Γ) λ ds=>ds.length=n/\∃ds',md ds=some ds'/\∀H',ay H H'->Vk X ct bk cn ns σ H' (F (.par (.o cn [] [])::ds'.map .val)) Q
def qd(Z:CP ct md bk zh)(Mc:Mk X.K C f)(G:jA X.prog X.w X.K X.mg X.base ct.f.cb k f fd ps F)(hr:gM (k+1) X.A)(hb:Binds X.K fd ps [])(hci:ct.f.cb.ins cn=some C)(hcc:ct.f.cb.cls cn=some (C,ns))(hm:X.mg x=some (.ref C))(ha:CM X ct (e::es) fa)(hn:ps.length=n+1)(hg:Gl X x:=by rfl)(hdb:(x==("__debug__":Str))=false:=by decide)(he:`Ç:=by rfl)(hpl:(backTo pos (ć es X.env)).any (·.1)=false:=by rfl):WE X (.Call (.Name x p) (e::es) [] pos) (Xo X ct md bk cn ns n F fa):=by
 have ha:=ha.out;refine ⟨?_⟩;intro pins s σ H Q I ⟨Γ,j,h⟩;refine Ār (wQ I hg hm ?_ hdb);have h':JW X ct fa σ H (λ vs H1=>∃ds ds',ay H H1/\aF X.K ct H1 ds vs/\ds.length=n/\md ds=some ds'/\Vk X ct bk cn ns σ H1 (F (.par (.o cn [] [])::ds'.map .val)) Q):=
  ⟨Γ,j,Ok.mono `Ù h λ ds ⟨q1,ds',q2,q3⟩ vs H1 s1 t1=>⟨ds,ds',s1,t1,q1,q2,q3 H1 s1⟩⟩
 refine ąl (h₀:=X.base) I.ok.mod.kin Mc.kp (fV (ha pos pins s σ H _ I h') λ us s1 ⟨vs,H1,I1,r,ds,ds',sm,t1,hl,hd,q⟩=>⟨I1.zW,?_⟩) he hpl;have j1:=j.mono sm;obtain ⟨L,l,t2,q1,_⟩:=Z.go X.K H1 ds vs ds' j1.lL j1.lB t1 hd;exact TM Mc G hr hb hci hcc I1 r l t2 (by rw[<-t1.length,hl,hn]) q1 q
def FJ(h:PE X e (Xo X ct md bk cn ns n F fa))(hg:∀Γ,gd Γ=(fa Γ).bnd λ ds=>if ds.length=n then (match md ds with
   |some ds'=>(match ng cn ns (F (.par (.o cn [] [])::ds'.map .val)) with
    | .ok d=>if bk d=true then .ok d else .bad
    | .err x=> .err x
    | .bad=> .bad)
   |none=> .bad) else .bad):PD X ct e gd:=by
 refine PE.imp h λ σ H Q ⟨Γ,j,q⟩=>⟨Γ,j,?_⟩;rw[hg] at q;refine q.bnd λ ds _ q=>?_;split at q
 ·rename_i hl;split at q
  ·rename_i ds' hd;refine ⟨hl,ds',hd,λ H' s=>?_⟩;unfold Vk;cases z:ng cn ns (F (.par (.o cn [] [])::ds'.map .val)) with
   |ok d=>
    rw[z] at q;dsimp only at q ⊢;split at q
    ·rename_i hb;exact ⟨hb,Wd.mono s q⟩
    ·exact q.elim
   |err x=>rw[z] at q;exact λ e s' r=>q e s' (r.mono s)
   |bad=>rw[z] at q;exact q.elim
  ·exact q.elim
 ·exact q.elim
def Ry(r:Res D):r=(match r with
    | .ok d=>if true=true then .ok d else .bad
    | .err x=> .err x
    | .bad=> .bad):=by cases r<;>simp
noncomputable def agy(r:Res D):nbX cn ns r=(match r with
    | .ok d=>if nb d=true then .ok d else .bad
    | .err x=> .err x
    | .bad=> .bad):=by cases r<;>simp[nbX]
def AO(h:WE X e (Xo X c.z some (λ _=>true) cn ns n F fa)):WD X c.z e (E5 n cn ns F fa):=by
 have h:=h.out;exact ⟨FJ h λ Γ=>by
 unfold E5;cases fa Γ with
 |ok ds=>
  simp only[Res.bw];by_cases hl:ds.length=n
  ·simp only[hl,if_true];exact Ry _
  ·simp[hl]
 |err x=>rfl
 |bad=>rfl⟩
def HQ(h:WE X e (Xo X ct (λ ds=>if ly ds=true then some ds else none) (λ _=>true) cn ns n F fa)):WD X ct e (zd n cn ns F fa):=by
 have h:=h.out;exact ⟨FJ h λ Γ=>by
 unfold zd;cases fa Γ with
 |ok ds=>
  simp only[Res.bw];by_cases hl:ds.length=n
  ·by_cases hn:ly ds=true
   ·simp only[hl,hn,and_self,if_true];exact Ry _
   ·simp[hl,hn]
  ·simp[hl]
 |err x=>rfl
 |bad=>rfl⟩
def VJ(h:WE X e (Xo X ct (λ ds=>some (xP ds)) nb cn ns n F fa)):WD X ct e (CF n cn ns F fa):=by
 have h:=h.out;exact ⟨FJ h λ Γ=>by
 unfold CF;cases fa Γ with
 |ok ds=>
  simp only[Res.bw];by_cases hl:ds.length=n
  ·simp only[hl,if_true];exact agy _
  ·simp[hl]
 |err x=>rfl
 |bad=>rfl⟩
end
section
variable{P:Program}{w:World}{K:ă}{mg:`Ò}{base:Heap}{cb:Cb}
def ah0{x qual:Str}{st:Stmt}{f:Addr}{fd:FuncData}{N ps:`Ú}{k:Nat}{F:`Ü}{B:Nat->Sg->Out}(Vl:cY K x qual st f fd)(S:pL N ps (aP st)) (hbody:∀(c:Cf) (cdv:Value) (A:Around) (outer:List Env) (s:Shared) (H:Hp) (E:XK),c.cb=cb->gM k (A.deeper (envOfC qual (aP st) s.heap.objs.size f cdv))->Good (pZ (HG P w) P w K mg base N qual (aP st) f cdv A outer s H E)->∀n,amJ (pZ (HG P w) P w K mg base N qual (aP st) f cdv A outer s H E) c (mh st) (B n)) (hF:∀as,as.length=ps.length->F as≠.bad->∃n,Hs (B n (cB N as))=F as):jA P w K mg base cb (k+1) f fd ps F:=by
 obtain ⟨oc,od,kV,doc,pm,an,cdv,jv,osl,rfl,lk,hcd⟩:=Vl.ex;refine aez lk hcd S (λ vs H Q E h=>h.1) λ A outer s H vs Q E hr JU=>?_;obtain ⟨hn,c,as,ecb,al1,j,h⟩:=JU;have hl:as.length=vs.length:=by have:=j.len;simpa using this
 have hb:F as≠.bad:=λ z=>by rw[z] at h;exact h
 obtain ⟨n,hF⟩:=hF as (by rw[hl];exact hn) hb;refine ⟨_,hbody c cdv A outer s H E ecb hr ⟨PassesOwn.leaving,rfl,S.nd,rfl,rfl⟩ n,cB N as,Sa j,?_⟩;rw[<-hF] at h;cases q:B n (cB N as) with
 |nx Γ=>rw[q] at h;exact λ σ' H' _ j=>h .cU Γ σ' H' j rfl (by simp[Tl])
 |bk Γ=>rw[q] at h;exact h.elim
 |ct Γ=>rw[q] at h;exact h.elim
 |rt d=>rw[q] at h;exact λ v H' b t=>h v H' b.same b.free t
 |Rx m=>rw[q] at h;exact λ v H' S b o n k=>h v H' S b.same b.free o n k
 |rtG d Γ=>rw[q] at h;exact λ v σ' H' j t=>h v Γ σ' H' j rfl t
 |Im d Γ=>rw[q] at h;exact λ σ' H' i v j g1 g2=>h Γ σ' H' i v j rfl g1 g2
 |err x Γ=>rw[q] at h;exact λ σ' H' e s' _ j r=>Ja (ecb▸r) λ C H2 hc s=>h C H2 hc λ b o z n=>s b o (j.same b o z n)
 |bad=>rw[q] at h;exact h.elim
def abk{x qual:Str}{st:Stmt}{f:Addr}{fd:FuncData}{N ps:`Ú}{k:Nat}{F:`Ü}{B:Nat->Sg->Out}(Vl:cY K x qual st f fd)(S:pL N ps (aP st))(hbody:∀(c:Cf) (cdv:Value) (A:Around) (outer:List Env) (s:Shared) (H:Hp) (E:XK),c.cb=cb->gM k (A.deeper (envOfC qual (aP st) s.heap.objs.size f cdv))->Good (pZ (HG P w) P w K mg base N qual (aP st) f cdv A outer s H E)->∀n,xV (pZ (HG P w) P w K mg base N qual (aP st) f cdv A outer s H E) c (mh st) (B n)) (hF:∀as,as.length=ps.length->F as≠.bad->∃n,Hs (B n (cB N as))=F as):jA P w K mg base cb (k+1) f fd ps F:=ah0 (Vl:=Vl) (S:=S) (hbody:=(λ c cdv A outer s H E h_1 h_2 h_3 n=>(hbody c cdv A outer s H E h_1 h_2 h_3 n).out)) (hF:=hF)
end
section
variable{K:ă}{ct:Ct}{H:Hp}
end
section
variable{X:Cx}{c:Cf}{x:Str}{e:Expr}{es:`Þ}{i q n k:Nat}{f:`Ñ}{r fa:`Æ}{p pos:Pos}{F:`Ü}{fn:Addr}{fd:FuncData}{ps:`Ú}
variable{g:Sg->Res (D×Sg)}{Γ:Sg}{σ:St}{H:Hp}
end
section
variable{X:Cx}{ct:Ct}{a b e:Expr}{f g:`Ñ}{fa:`Æ}{p pos:Pos}
theorem Tl.vV{K:ă}{H:Hp}{d:D}{v:V}{ds:List D}(l:ay ct.f.L H)(b:ay ct.B H)(h:Tl K ct H d v)(e:L4.vV d=some ds):∃a vs,v= .ref a/\(qO K H a vs\/yc K H a vs)/\aF K ct H ds vs:=by
 cases d with
 |lst xs=>cases e;obtain ⟨a,vs,h1,h2,h3⟩:=h.oU l b rfl;exact ⟨a,vs,h1,.inl h2,h3⟩
 |bor t xs=>cases e;obtain ⟨a,vs,h1,h2,h3⟩:=h.oU l b rfl;exact ⟨a,vs,h1,.inl h2,h3⟩
 |tup xs=>cases e;simp only[Tl] at h;obtain ⟨a,vs,h1,h2,h3⟩:=h;exact ⟨a,vs,h1,.inr (oh h2),h3⟩
 |gt xs=>cases e;simp only[Tl] at h;obtain ⟨a,vs,h1,h2,h3⟩:=h;exact ⟨a,vs,h1,.inr h2.sq,h3⟩
 |_=>cases e
def G5{K:ă}{H:Hp}{d:D}{v:V}(h:Tl K ct H d v)(e:tK d=true):uV v=true:=by cases d<;>first|(simp only[Tl] at h;subst h;rfl)|cases e
def ah7{K:ă}{H:Hp}{d d':D}{v v':V}(h:Tl K ct H d v)(h':Tl K ct H d' v')(e:tK d=true)(e':tK d'=true):eqF d d'=eqV v v':=by cases d<;>cases d'<;>first|cases e;done|cases e';done|(simp only[Tl] at h h';subst h h';rfl)
theorem Cw{K:ă}{H:Hp}:∀{ds:List D} {vs:List V},aF K ct H ds vs->ds.all tK=true->vs.all uV=true
 |[],vs,h,_=>by simp only[aF] at h;subst h;rfl
 |d::ds,vs,h,e=>by simp only[aF] at h;obtain ⟨v,r,rfl,t1,t2⟩:=h;simp only[ău,ħ] at e ⊢;exact ⟨G5 t1 e.1,Cw t2 e.2⟩
theorem Lp{K:ă}{H:Hp}{x:D}{y:V}(h:Tl K ct H x y)(e:tK x=true):∀{ds:List D} {vs:List V},aF K ct H ds vs->ds.all tK=true->inF x ds=inV y vs
 |[],vs,t,_=>by simp only[aF] at t;subst t;rfl
 |d::ds,vs,t,q=>by simp only[aF] at t;obtain ⟨v,r,rfl,t1,t2⟩:=t;simp only[ău,ħ] at q;have ih:=Lp h e t2 q.2;simp only[inF,inV,ŏ] at ih ⊢;rw[ih,ah7 t1 h q.1 e]
def ag6:CV X ct (rIn X.K false) inD:=by
 intro σ H x y d1 d2 Q lL lB t1 t2 h;unfold inD at h;split at h
 ·rename_i xs hs;split at h
  ·rename_i hc;obtain ⟨a,vs,rfl,q1,q2⟩:=t2.vV lL lB hs;refine ⟨a,vs,rfl,q1,G5 t1 hc.1,Cw q2 hc.2,?_⟩;have:=h (.bl (inF d1 xs)) H `Ù (by simp[Tl]);rw[Lp t1 hc.1 q2 hc.2] at this;simpa using this
  ·exact h.elim
 ·exact h.elim
def Ua:CV X ct (rIn X.K true) sQ:=by
 intro σ H x y d1 d2 Q lL lB t1 t2 h;unfold sQ at h;split at h
 ·rename_i xs hs;split at h
  ·rename_i hc;obtain ⟨a,vs,rfl,q1,q2⟩:=t2.vV lL lB hs;refine ⟨a,vs,rfl,q1,G5 t1 hc.1,Cw q2 hc.2,?_⟩;have:=h (.bl (!inF d1 xs)) H `Ù (by simp[Tl]);rw[Lp t1 hc.1 q2 hc.2] at this;simpa using this
  ·exact h.elim
 ·exact h.elim
def DX(ha:WD X ct a f)(hb:WD X ct b g)(hm:behindInMarks .NotIn b=false:=by rfl):DV X ct (.Compare a [.NotIn] [b] pos) (dT (aH sQ f g)):=by have ha:=ha.out;have hb:=hb.out;exact ⟨o9 FU Ua ha hb hm⟩
variable{cc:Expr}{h:`Ñ}
def JJ{r r':D->D->Res D}(ho:CV X ct r2 r)(ho':CV X ct r2' r'):∀σ H Q,rL X ct (fM r r' f g h) σ H Q->Kp r2 r2' (rL X ct f) (rL X ct g) (rL X ct h) σ H Q:=by
 rintro σ H Q ⟨Γ,j,q⟩
 refine rL.bnd j q λ x v H1 s1 t1 j1 q1=>?_;refine rL.bnd (W:=Wd X ct H Q) j1 (Ok.mono s1 q1 λ _ z=>z) λ y u H2 s2 t2 j2 q2=>?_;have t1':=t1.keep (ay.keep s2);refine ho σ H2 v u x y _ j2.lL j2.lB t1' t2 ?_;have q3:Ok X ct σ H2 ((r x y).bnd λ z=>match z with
  | .bl true=>(h Γ).bnd λ w=>r' y w
  | .bl false=> .ok (.bl false)
  |_=> .bad) (Wd X ct H Q):=Ok.mono s2 q2 λ _ z=>z
 refine q3.bnd λ z _ q4 zv H3 s3 tz=>?_;cases z with
 |bl k=>
  simp only[Tl] at tz;refine ⟨k,tz,?_⟩;have j3:=j2.mono s3;cases k with
  |false=>exact Jl (q4 (.bl false) H3 ((s1.trans s2).trans s3) (by simp[Tl]))
  |true=>refine Jk ?_;refine rL.bnd (f:=h) (r:=λ w=>r' y w) (W:=Wd X ct H Q) j3 (Ok.mono s3 q4 λ _ z=>z) λ w wv H4 s4 t4 j4 q5=>?_;exact ho' σ H4 u wv y w Q j4.lL j4.lB (t2.keep (ay.keep (s3.trans s4))) t4 (Ok.mono s4 q5 λ d z=>z.mono (((s1.trans s2).trans s3).trans s4))
 |_=>exact q4.elim
def HS{r r':D->D->Res D}(hr:p8 X (compareOp op) r2)(hr':p8 X (compareOp op') r2')(ho:CV X ct r2 r)(ho':CV X ct r2' r')(ha:WD X ct a f)(hb:WD X ct b g)(hc:WD X ct cc h)(hm:lastMarks [op,op'] [b,cc]=false:=by with_unfolding_all rfl):WD X ct (.Compare a [op,op'] [b,cc] pos) (fM r r' f g h):=by have ha:=ha.out;have hb:=hb.out;have hc:=hc.out;exact ⟨PE.imp (WX hr hr' ha hb hc hm) (JJ ho ho')⟩
def qe{r r':D->D->Res D}(hr:p8 X (compareOp op) r2)(hr':p8 X (compareOp op') r2')(ho:CV X ct r2 r)(ho':CV X ct r2' r')(ha:WD X ct a f)(hb:WD X ct b g)(hc:WD X ct cc h)(hm:lastMarks [op,op'] [b,cc]=false:=by with_unfolding_all rfl):DV X ct (.Compare a [op,op'] [b,cc] pos) (dT (fM r r' f g h)):=by have ha:=ha.out;have hb:=hb.out;have hc:=hc.out;exact ⟨PT.imp (Wq hr hr' ha hb hc hm) (Kn (JJ ho ho'))⟩
variable{es:`Þ}
def abn(hcm:X.calm=true)(hm:X.mg "max"=none)(ha:CM X ct (e::es) fa)(hg:Gl X "max":=by rfl)(he:`Ç:=by rfl)(hpl:(backTo pos (ć es X.env)).any (·.1)=false:=by rfl):WD X ct (.Call (.Name "max" p) (e::es) [] pos) (pY EA fa):=by
 have ha:=ha.out;refine ⟨?_⟩;refine PE.imp (jk (Ve hcm) hg hm (by decide+kernel) ha `Â `Â he hpl) (E7 λ σ H vs ds Q lL lB t h=>?_);unfold EA at h;split at h
 ·rename_i i j;obtain ⟨v,v',rfl,t1,t2⟩:=abv t;simp only[Tl] at t1 t2;subst t1 t2;exact ⟨i,j,rfl,h _ H `Ù (by simp[Tl])⟩
 ·exact h.elim
def Rh(hcm:X.calm=true)(hm:X.mg "min"=none)(ha:CM X ct (e::es) fa)(hg:Gl X "min":=by rfl)(he:`Ç:=by rfl)(hpl:(backTo pos (ć es X.env)).any (·.1)=false:=by rfl):WD X ct (.Call (.Name "min" p) (e::es) [] pos) (pY rW fa):=by
 have ha:=ha.out;refine ⟨?_⟩;refine PE.imp (jk (Vd hcm) hg hm (by decide+kernel) ha `Â `Â he hpl) (E7 λ σ H vs ds Q lL lB t h=>?_);unfold rW at h;split at h
 ·rename_i i j;obtain ⟨v,v',rfl,t1,t2⟩:=abv t;simp only[Tl] at t1 t2;subst t1 t2;exact ⟨i,j,rfl,h _ H `Ù (by simp[Tl])⟩
 ·exact h.elim
def HP(hm:X.mg "tuple"=none)(ha:CM X ct (e::es) fa)(hg:Gl X "tuple":=by rfl)(he:`Ç:=by rfl)(hpl:(backTo pos (ć es X.env)).any (·.1)=false:=by rfl):WD X ct (.Call (.Name "tuple" p) (e::es) [] pos) (pY m7 fa):=by
 have ha:=ha.out;refine ⟨?_⟩;refine PE.imp (TU DT hg hm (by decide+kernel) ha `Â `Â he hpl) (E7 λ σ H vs ds Q lL lB t h=>?_);unfold m7 at h;split at h
 ·rename_i x;split at h
  ·rename_i xs hs;obtain ⟨v,rfl,t1⟩:=zK t;have lst:∀{ys:List D} {a:Addr} {us:List V},qO X.K H a us->aF X.K ct H ys us->Wd X ct H Q (.tup ys)->∀l,H l=none->Q (.ref l) (upd H l (.tup us)):=λ q1 q2 h l hl=>by rename_i ys a us;have s2:=bf hl (.tup us);refine h _ _ s2 ?_;simp only[Tl];exact ⟨l,us,rfl,aC,q2.keep (ay.keep s2)⟩
   cases x with
   |tup ys=>cases hs;simp only[Tl] at t1;obtain ⟨a,us,rfl,q1,q2⟩:=t1;refine ⟨a,us,rfl,.inr ⟨oh q1,h _ H `Ù ?_⟩⟩;simp only[Tl];exact ⟨a,us,rfl,q1,q2⟩
   |gt ys=>cases hs;simp only[Tl] at t1;obtain ⟨a,us,rfl,q1,q2⟩:=t1;refine ⟨a,us,rfl,.inr ⟨q1.sq,h _ H `Ù ?_⟩⟩;simp only[Tl];exact ⟨a,us,rfl,q1,q2⟩
   |lst ys=>cases hs;obtain ⟨a,us,rfl,q1,q2⟩:=t1.oU lL lB rfl;exact ⟨a,us,rfl,.inl ⟨q1,lst q1 q2 h⟩⟩
   |bor _ ys=>cases hs;obtain ⟨a,us,rfl,q1,q2⟩:=t1.oU lL lB rfl;exact ⟨a,us,rfl,.inl ⟨q1,lst q1 q2 h⟩⟩
   |_=>cases hs
  ·exact h.elim
 ·exact h.elim
end
section
variable{X:Cx}{ct:Ct}{a b e:Expr}{f g:`Ñ}{pos:Pos}
def R5{K:ă}{H:Hp}{d:D}{v:V}{k:Key}(h:Tl K ct H d v)(e:Ln d=some k):v=kV k:=by
 cases d with
 |int i=>cases e;simp only[Tl] at h;exact h
 |str x=>cases e;simp only[Tl] at h;exact h
 |_=>cases e
end
section
variable{X:Cx}{c:Cf}{r ix e:Expr}{i:Nat}{g:Sg->Res (List Nat)}{f fk:`Ñ}{pos:Pos}{Γ:Sg}{σ:St}{H:Hp}
end
section
variable{X:Cx}{ct:Ct}{pos:Pos}{e:Expr}{f:`Ñ}{fa:`Æ}{keys:List (Option Expr)}{values:`Þ}{ks:List Key}
end
section
variable{X:Cx}{c:Cf}{tg iter:Expr}{fi:`Æ}{t:Tg}{B:Sg->Out}{body:List Stmt}{pos:Pos}
def iK(g:Good X)(hi:WID X c.z tg iter fi)(hg:WGD X c.z tg t)(hb:xV X c body B)(hs:∀x,foldedSetIterable iter X.env x=pure x:=by intro _;rfl):CL X c (.For tg iter body [] pos) (iL fi t B):=by
 have hi:=hi.out;have hg:=hg.out;have hb:=hb.out;refine ⟨?_⟩;refine PS.imp (agJ g.po g.calm hi hg hb hs) λ E σ H ⟨Γ,j,h⟩=>⟨Γ,j,Fn.ok j h λ xs _ q J H' s it=>?_⟩;obtain ⟨P,p0,pk,pg,pst⟩:=it;have h':Fn X c H' (gf t B xs Γ) E:=q.mono (ay.keep s);refine ⟨λ i m σ1 H1=>i+m=xs.length/\P H1/\∃Γ1,Jx X c.z Γ1 σ1 H1/\aW c.cb H' H1/\gf t B (xs.drop i) Γ1=gf t B xs Γ,⟨xs.length,by simp,p0,Γ,j.mono s,aW.refl H',rfl⟩,?_⟩
 rintro i m σ1 H1 ⟨hm,p1,Γ1,j1,k1,e1⟩
 cases hd:xs[i]? with
 |none=>
  have hl:xs.length<=i:=by simpa using hd
  refine .inl ⟨pst i H1 p1 hl,?_⟩;rw[Ăc hl] at e1;rw[<-e1] at h';exact h' σ1 H1 k1 j1
 |some d=>
  obtain ⟨g1,g2⟩:=pg i d H1 p1 hd;have hl:i<xs.length:=(Ď.mp hd).1;refine .inr ⟨g1,λ σ3 H3=>P H3/\∃Γ3,Jx X c.z Γ3 σ3 H3/\aW c.cb H' H3/\gf t B (xs.drop (i+1)) Γ3=gf t B xs Γ,λ σ3 H3 ⟨p3,z⟩=>⟨m- 1,by omega,by omega,p3,z⟩,λ x H2 y=>?_⟩;obtain ⟨sm2,td⟩:=g2 x H2 y;have k2:aW c.cb H' H2:=k1.trans (ay.keep sm2);rw[drop_one hd] at e1;cases e2:t d Γ1 with
  |none=>exact (acn e2 e1 h').elim
  |some Γ2=>exact ⟨Γ1,d,Γ2,j1.mono sm2,td,e2,λ σ2 j2=>⟨Γ2,j2,abu k2 e2 e1 h' λ Γ3 σ3 H3 k3 j3 e3=>⟨pk H' H3 p0 k3 j3.lL j3.lB,Γ3,j3,k3,e3⟩⟩⟩
end
section
variable{X:Cx}{ct:Ct}{a b e:Expr}{f g:`Ñ}{fa:`Æ}{p pos:Pos}
def ahL(x y:D):(∃i j,x= .str i/\y= .str j)\/inA x y= .bad\/inA x y=inD x y:=by
 cases y with
 |str j=>cases x<;>first|exact .inl ⟨_,_,rfl,rfl⟩|exact .inr (.inl rfl)
 |_=>exact .inr (.inr rfl)
def ab9:CV X ct (λ x y H Q=>(∃i j,x= .str i/\y= .str j/\Q (.bl (!(āw j i 0 j.length 1).isEmpty)) H)\/rIn X.K false x y H Q) inA:=by
 intro σ H x y d1 d2 Q l b t1 t2 h;rcases ahL d1 d2 with ⟨i,j,rfl,rfl⟩|e|e
 ·simp only[Tl] at t1 t2;exact .inl ⟨i,j,t1,t2,h _ H `Ù (by simp[Tl,Sj])⟩
 ·rw[e] at h;exact h.elim
 ·rw[e] at h;exact .inr (ag6 σ H x y d1 d2 Q l b t1 t2 h)
def af1(ha:WD X ct a f)(hb:WD X ct b g)(hm:behindInMarks .In b=false:=by rfl):WD X ct (.Compare a [.In] [b] pos) (aH inA f g):=by have ha:=ha.out;have hb:=hb.out;exact ⟨FL (TY.or TZ) ab9 ha hb hm⟩
end
section
variable{X:Cx}{ct:Ct}{x:Str}{p pos:Pos}{C a:Addr}{cn:String}
def VU{K:ă}{H:Hp}{ds:List D}{vs:List V}{o:Obj}{its:Array Value}{n:Nat}(hl:K.lookup a=some o)(hc:o.cls= .type "tuple")(hd:o.data= .seq its n)(hz:its.size<=Đ)(r:Vals vs its.toList)(t:aF K ct H ds vs):Tl K ct H (.gt ds) (.ref a):=by simp only[Tl];exact ⟨a,vs,rfl,⟨o,its,n,hl,hc,hd,hz,r⟩,t⟩
def SQ(K:ă)(u:Value)(d:D):Prop:=∃v:V,RelV v u/\∀(ct:Ct) (H:Hp),Tl K ct H d v
def fh(hm:X.mg x=some u)(ht:SQ X.K u d)(hg:Gl X x:=by rfl)(hd:(x==("__debug__":Str))=false:=by decide):WD X ct (.Name x pos) (dC d):=by refine ⟨?_⟩;obtain ⟨v,r,t⟩:=ht;exact ab5 (v:=v) hg hm r (λ H=>t ct H) hd
def iV{K:ă}{i:Int}{t:Tok}:SQ K (.int i t) (.int i):=⟨.int i,⟨t,rfl⟩,λ _ _=>by simp[Tl]⟩
def adf{K:ă}{i:Str}{t:Tok}:SQ K (.str i t) (.str i):=⟨.str i,⟨t,rfl⟩,λ _ _=>by simp[Tl]⟩
def adO(K:ă)(us:`Ð)(ds:List D):Prop:=∃vs:List V,Vals vs us/\∀(ct:Ct) (H:Hp),aF K ct H ds vs
def Co{K:ă}:adO K [] []:=⟨[],.nil,λ _ _=>aF.nil⟩
def jX{K:ă}{u:Value}{us:`Ð}{d:D}{ds:List D}(h:SQ K u d)(t:adO K us ds):adO K (u::us) (d::ds):=by obtain ⟨v,r,q⟩:=h;obtain ⟨vs,rs,qs⟩:=t;exact ⟨v::vs,.cons r rs,λ ct H=>aF.cons (q ct H) (qs ct H)⟩
def GY{K:ă}{us:`Ð}{ds:List D}{od:Option Addr}{sl:Array (Option Value)}{n:Nat}(hl:K.lookup a=some ⟨.type "tuple",od,.seq us.toArray n,sl⟩)(hz:us.length<=1000)(h:adO K us ds):SQ K (.ref a) (.gt ds):=by obtain ⟨vs,rs,qs⟩:=h;exact ⟨.ref a,rfl,λ ct H=>VU hl rfl rfl (by rw[Ĵ];simp;omega) (by simpa using rs) (qs ct H)⟩
structure Mk0(K:ă)(C:Addr):Prop where
 makes:āj K C=true
 init:ĉ K (.ref C) "__init__"=some (some (.builtin "object.__init__"))
 kp:Ĕ K (.ref C)=true
def AQ(Mc:Mk0 X.K C)(hcc:ct.f.cb.cls cn=some (C,[]))(hm:X.mg x=some (.ref C))(hg:Gl X x:=by rfl)(hdb:(x==("__debug__":Str))=false:=by decide):WD X ct (.Call (.Name x p) [] [] pos) (dC (.obj cn [] [])):=by
 refine ⟨?_⟩;intro pins s σ H Q I ⟨Γ,j,h⟩;refine Ār (wQ I hg hm ?_ hdb);refine W.callWith_K0 I.zW Mc.kp (wpAny_call ?_);have hx0:H `Ë=none:=I.hok.fresh (āg _);have hd0:H s.heap.objs.size=none:=I.hok.fresh (Ĉ _);have hne:s.heap.objs.size≠s.heap.objs.size+1:=ĕ (āk _);have I2:=Inv.made (C:=C) I;have smm:ay H (upd (upd H s.heap.objs.size (.own `Ë)) `Ë (.ins C s.heap.objs.size [])):=(bf hd0 _).trans (bf (by rw[aE (Ŋ hne)];exact hx0) _);have z:EP X pins σ Q (.ref `Ë) {s with heap:=(s.heap.push ł).push (Ŕ C s.heap.objs.size)}:=by refine ⟨.ref `Ë,_,I2,rfl,h _ _ smm ?_⟩;simp only[Tl];exact ⟨_,C,s.heap.objs.size,[],rfl,hcc,aC,rfl,aF.nil⟩
 obtain ⟨hh,gs,dd,t,os⟩:=s;have Y:=W.makes_of (M:=model X.prog X.w) I.zW Mc.makes;refine W.make_core Y (W.looks_findIn I.zW Mc.init) (λ self=>W.Looks.of_pure (W.oi_bind self)) (.inr ⟨rfl,rfl⟩) ?_;have e1:((hh.push ł).push (Ŕ C hh.objs.size)).get? (hh.objs.size+1)=some (Ŕ C hh.objs.size):=by have:=đ (hh.push ł) (o:=Ŕ C hh.objs.size) rfl;rwa [Āk] at this
 have t1:W.Looks `É ((hh.push ł).push (Ŕ C hh.objs.size)) (typeOf (.ref (hh.objs.size+1))) (.ref C):=(W.Looks.ld e1).andThen .now;have t2:W.Looks `É ((hh.push ł).push (Ŕ C hh.objs.size)) (isInstance (.ref (hh.objs.size+1)) (.type "object")) true:=t1.andThen (Y.top.keeps λ b o e=>Ā _ (Ā _ e));refine Ăr W.oi_plain W.entry_oi (@W.check_slot `É _ _ _ "object.__init__" "object" "__init__" (.ref (hh.objs.size+1)) [] [] _ W.oi_kind W.oi_split t2 (W.oi_args (.ref (hh.objs.size+1))) ?_);exact wpAny_of_eq (W.oi_run _) (And.intro rfl z)
end
section
variable{X:Cx}{c:Cf}{e:Expr}{f:`Ñ}{p:Sg->Res Bool}{F G B:Sg->Out}{pos:Pos}{body:List Stmt}
def jU(he:WD X c.z e f)(hs:swapsWith e none pos.line X.env=pure false:=by rfl):CL X c (.Expr e pos) (qi f):=by have he:=he.out;refine ⟨?_⟩;intro pins s σ H E I ⟨Γ,j,h⟩;exact Aj he hs pins s σ H E I ⟨Γ,j,Fn.ok j h λ d _ q v H' s t=>q σ H' (ay.keep s) (j.mono s)⟩
def bA{ce:Expr}(hc:DV X c.z ce p)(ha:xV X c a F)(hb:xV X c b G):CL X c (.If ce a b pos) (uM p F G):=by
 have hc:=hc.out;have ha:=ha.out;have hb:=hb.out;refine ⟨?_⟩;intro pins s σ H E I ⟨Γ,j,h⟩;refine aee hc ha hb pins s σ H E I ⟨Γ,j,Fn.ok j h λ x _ q H' s=>?_⟩;cases x with
 |true=>exact Jk ⟨Γ,j.mono s,Fn.mono (ay.keep s) q⟩
 |false=>exact Jl ⟨Γ,j.mono s,Fn.mono (ay.keep s) q⟩
def AJ(n:Nat){ce:Expr}(g:Good X)(hc:DV X c.z ce p)(hb:xV X c body B):CL X c (.While ce body [] pos) (iJ p B n):=by
 have hc:=hc.out;have hb:=hb.out;refine ⟨?_⟩;refine PS.imp (Ws g.po hc hb) λ E σ H ⟨Γ,j,h⟩=>?_;refine ⟨λ m σ1 H1=>∃Γ1,Jx X c.z Γ1 σ1 H1/\aW c.cb H H1/\iJ p B m Γ1=iJ p B n Γ,⟨n,Γ,j,aW.refl H,rfl⟩,?_⟩
 rintro m σ1 H1 ⟨Γ1,j1,k1,e1⟩
 cases m with
 |zero=>rw[<-e1] at h;exact h.elim
 |succ m=>
  refine ⟨Γ1,j1,?_⟩;rw[<-e1] at h;have h2:=h.mono k1;simp only[iJ] at h2;refine Fn.ok j1 h2 λ x ec q H2 s2=>?_;cases x with
  |false=>exact Jl (q σ1 H2 (ay.keep s2) (j1.mono s2))
  |true=>
   refine Jk ⟨λ σ3 H3=>∃Γ3,Jx X c.z Γ3 σ3 H3/\aW c.cb H H3/\iJ p B m Γ3=iJ p B n Γ,λ σ3 H3 z=>⟨m,āk m,z⟩,Γ1,j1.mono s2,?_⟩;simp only[if_true] at q;simp only[iJ,ec,ql,if_true] at e1;have k2:aW c.cb H H2:=k1.trans (ay.keep s2);cases eb:B Γ1 with
   |nx Γ3=>rw[eb] at e1;exact λ σ3 H3 k3 j3=>⟨Γ3,j3,k2.trans k3,e1⟩
   |ct Γ3=>rw[eb] at e1;exact λ σ3 H3 k3 j3=>⟨Γ3,j3,k2.trans k3,e1⟩
   |bk Γ3=>rw[eb] at q;exact λ σ3 H3 k3 j3=>q σ3 H3 ((ay.keep s2).trans k3) j3
   |rt d=>rw[eb] at q;exact q
   |Rx d=>rw[eb] at q;exact q
   |rtG d Γ3=>rw[eb] at q;exact q
   |Im d Γ3=>rw[eb] at q;exact q
   |err x Γ3=>rw[eb] at q;exact λ σ3 H3 e s' k3 j3 r=>q σ3 H3 e s' ((ay.keep s2).trans k3) j3 r
   |bad=>rw[eb] at q;exact q
end
section
variable{X:Cx}{ct:Ct}
def RJ:CV X ct (rI (λ _ _=>True) λ i j=> .bl (decide (i<j))) ltI:=lS (λ _ _ _=>trivial) λ _ _ _ _ _=>by simp[Tl]
def uQ:CV X ct (rI (λ _ _=>True) λ i j=> .bl (decide (i<=j))) Uz:=lS (λ _ _ _=>trivial) λ _ _ _ _ _=>by simp[Tl]
end
def Ko{α:Type}{a c:String}{A C:α}{r:List (String×α)}(h:((a,A)::r).lookup c=some C):(c=a/\C=A)\/r.lookup c=some C:=by
 rw[į] at h;by_cases q:(c==a)=true
 ·rw[q] at h;exact .inl ⟨by simpa using q,(ĝ h).symm⟩
 ·rw[Bool.not_eq_true] at q;rw[q] at h;exact .inr h
theorem gY{α:Type}{c:String}{C:α}:∀{r:List (String×α)},r.lookup c=some C->(c,C)∈r
 |[],h=>by cases h
 |(a,A)::r,h=>by
  rcases Ko h with ⟨rfl,rfl⟩|h
  ·exact ās ..
  ·exact Ŀ _ (gY h)
noncomputable abbrev qJ:=List (String×(Addr×List Str))
noncomputable abbrev Zi(E:List (String×Addr))(T:qJ):Cb:=⟨λ c=>E.lookup c,λ c=>T.lookup c,λ c=>(T.lookup c).map (·.1)⟩
def Yu{T:qJ}{c:String}{C:Addr}(h:(T.lookup c).map (·.1)=some C):∃ns,T.lookup c=some (C,ns):=by
 cases q:T.lookup c with
 |none=>rw[q] at h;cases h
 |some x=>rw[q] at h;cases h;exact ⟨x.2,rfl⟩
def Ug{T:qJ}(hn:(T.map (·.2.1)).Nodup){a b:String×(Addr×List Str)}(ha:a∈T)(hb:b∈T)(e:a.2.1=b.2.1):a=b:=by
 induction T with
 |nil=>cases ha
 |cons x r ih=>
  simp only[ą,ń,Į,not_exists,not_and] at hn;rcases Ć.mp ha with ea|ha'
  ·rcases Ć.mp hb with eb|hb'
   ·rw[ea,eb]
   ·rw[ea] at e;exact absurd e.symm (hn.1 b hb')
  ·rcases Ć.mp hb with eb|hb'
   ·rw[eb] at e;exact absurd e (hn.1 a ha')
   ·exact ih hn.2 ha' hb'
def XR{T:qJ}{c:String}{full:`Ú}:((T.map λ e=>(e.1,e.2.2)).lookup c=some full)->∃C,T.lookup c=some (C,full):=by
 induction T with
 |nil=>intro h;cases h
 |cons x r ih=>
  intro h;obtain ⟨a,A,ns⟩:=x;by_cases q:(c==a)=true
  ·rw[ą,į] at h;simp only[q] at h;cases h;exact ⟨A,by rw[į,q]⟩
  ·rw[Bool.not_eq_true] at q;rw[ą,į] at h;simp only[q] at h;obtain ⟨C,e⟩:=ih h;exact ⟨C,by rw[į,q];exact e⟩
def adm{E:List (String×Addr)}{T:qJ}(hn:(T.map (·.2.1)).Nodup):aiS (Zi E T) (T.map λ e=>(e.1,e.2.2)):=by intro c C full hi hf c' ns' hc;obtain ⟨ns,h1⟩:=Yu hi;obtain ⟨C2,h2⟩:=XR hf;rw[h1] at h2;cases h2;have m1:=gY h1;have m2:=gY (show T.lookup c'=some (C,ns') from hc);have:=Ug hn m1 m2 rfl;cases this;rfl
def JC{K:ă}{f:Str}{E:List (String×Addr)}{T:qJ}(h:∀e∈T,zk K e.2.1/\tT K e.2.1 f):FA K (Zi E T) f:=by
 intro C hc;rcases hc with ⟨c,hc⟩|⟨c,ns,hc⟩
 ·obtain ⟨ns,h1⟩:=Yu hc;exact h _ (gY h1)
 ·exact h _ (gY (show T.lookup c=some (C,ns) from hc))
def iu{α:Type}{p:α->Prop}:∀e∈([]:List α),p e:=λ e h=>nomatch h
def aB{α:Type}{p:α->Prop}{a:α}{r:List α}(h:p a)(t:∀e∈r,p e):∀e∈a::r,p e:=λ e he=>by
 rcases Ć.mp he with rfl|he
 ·exact h
 ·exact t e he
def ah6{E:List (String×Addr)}{P:String->Addr->Prop}(h:∀e∈E,P e.1 e.2){c:String}{C:Addr}(hc:E.lookup c=some C):P c C:=h _ (gY hc)
def ahI{T:qJ}{P:String->Addr->Prop}(h:∀e∈T,P e.1 e.2.1){c:String}{C:Addr}{ns:`Ú}(hc:T.lookup c=some (C,ns)):P c C:=h _ (gY hc)
noncomputable def Vp{cb:Cb}{c:String}{C0:Addr}{ns0:`Ú}(q:cb.cls c=some (C0,ns0)){P:Addr->List Str->Prop}(h:P C0 ns0):∀C ns,cb.cls c=some (C,ns)->P C ns:=λ C ns z=>by rw[q] at z;cases z;exact h
def vt(h:∀e∈sf,∀C ns,cb.cls e.1=some (C,ns)->∃(k:Nat) (f:Addr) (fd:FuncData) (ps:`Ú),zk X.K C/\Meth X.K C m f/\jA X.prog X.w X.K X.mg X.base cb k f fd ps e.2/\gM k X.A/\Binds X.K fd ps []/\ps.length=n+1/\m∉ns):DW X cb m n sf:=λ c C ns F hc hF=>h _ (gY hF) C ns hc
def len0(h:us.length=0):us=[]:=Š h
def qt(h:us.length=1):∃u0,us=[u0]:=by
 cases us with
 |nil=>cases h
 |cons a r=>obtain rfl:=len0 (us:=r) (ąn h);exact ⟨a,rfl⟩
def oA(h:us.length=2):∃u0 u1,us=[u0,u1]:=by
 cases us with
 |nil=>cases h
 |cons a r=>obtain ⟨v0,rfl⟩:=qt (us:=r) (ąn h);exact ⟨a,v0,rfl⟩
def Ux(h:us.length=3):∃u0 u1 u2,us=[u0,u1,u2]:=by
 cases us with
 |nil=>cases h
 |cons a r=>obtain ⟨v0,v1,rfl⟩:=oA (us:=r) (ąn h);exact ⟨a,v0,v1,rfl⟩
end L4
end
section
namespace L4
open PySem PySem.Spec PyProof.Rows L2 PySem.W
noncomputable def GQ{α:Type}(lt:`Ø):KasT α->α
 | .ret a=>a
 | .ask i j k=>GQ lt (k (lt i j))
noncomputable def zW{α:Type}(n:Nat):KasT α->Prop
 | .ret _=>True
 | .ask i j k=>i<n/\j<n/\i≠j/\∀b,zW n (k b)
theorem Ce{lt:`Ø}{s:Shared}{Q:α->Shared->Prop}(hc:∀i j C,i<n->j<n->i≠j->C (lt i j) s->cmp i j C s):
  ∀(t:KasT α),zW n t->Q (GQ lt t) s->t.kasWp cmp Q s
 | .ret a,_,h=>h
 | .ask i j k,hi,h=>hc i j _ hi.1 hi.2.1 hi.2.2.1 (Ce hc (k (lt i j)) (hi.2.2.2 _) h)
def ko(lt:`Ø)(n:Nat):List Nat:=if n<2 then ĭ n else (GQ lt (Ăs n)).toList
def EI:Ăs 2= .ask 1 0 (λ c=>if c=true then .ret #[1,0] else .ret #[0,1]):=by show KasT.ask 1 0 _=KasT.ask 1 0 _;congr 1;funext c;cases c<;>rfl
def acV:zW 2 (Ăs 2):=by rw[EI];exact ⟨by decide,by decide,by decide,λ b=>by cases b<;>exact trivial⟩
section
variable{prog:Program}{w:World}{A:Around}{E:`Ã}{s:Shared}
def range_getD(vs:`Ð):((ĭ vs.length).map λ i=>vs.getD i Value.none)=vs:=by
 apply List.ext_getElem
 ·simp
 ·intro i h1 h2;simp at h1;simp[h1]
def BZ{a:Addr}{vs:`Ð}{n:Nat}{lt:`Ø}{κ:SortKind}{P:PySem.Fin->Shared->Prop}(ho:s.heap.get? a=some (seqObj "list" vs.toArray n))(h64:vs.length<64)(hw:2<=vs.length->zW vs.length (Ăs vs.length))
  (hk:2<=vs.length->∀(h':Heap) (Q:SortKind->Shared->Prop),(∀b o,b≠a->s.heap.get? b=some o->h'.get? b=some o)->Q κ {s with heap:=h'}->wpAny `È A (keyKind' vs.toArray) Q E {s with heap:=h'})
  (hc:∀(h':Heap) (i j:Nat) (Q:Bool->Shared->Prop),(∀b o,b≠a->s.heap.get? b=some o->h'.get? b=some o)->2<=vs.length->i<vs.length->j<vs.length->i≠j->Q (lt i j) {s with heap:=h'}->wpAny `È A (keyLt' κ (vs.getD i .none) (vs.getD j .none)) Q (λ _ _=>False) {s with heap:=h'})
  (h:∀h' e,(∀b o,b≠a->s.heap.get? b=some o->h'.get? b=some o)->h'.get? a=some (seqObj "list" ((ko lt vs.length).map λ i=>vs.getD i Value.none).toArray e)->(ko lt vs.length).length=vs.length->P (.done (.ret .none)) {s with heap:=h'}):
  wpAny `È A (Builtin.«list.sort» ⟨[.ref a],[]⟩) P E s:=by
 rw[list_sort_plain]
 have ha:a<s.heap.objs.size:=č ho
 refine Ă (listItems_at ho rfl ?_)
 refine Ă (ăx ho rfl ?_ (by rw[Ę,Ĵ];omega) (Ň _))
 obtain ⟨e1,ho1⟩:∃e1,(s.heap.update a (ĳ λ _=> #[])).get? a=some (seqObj "list" #[] e1):=⟨_,Ăw ho (λ _=> #[])⟩
 refine Ă (Ąv ho1 rfl ?_)
 refine Ă (wpAny_newTuple ?_ (by show vs.length<=_;rw[Ĵ];omega))
 refine Ă (ăy ?_ (Ň _))
 refine Āz ?_
 have s1:=Ũ s.heap a (ĳ λ _=>(#[]:Array Value))
 have ho6:(((s.heap.update a (ĳ λ _=> #[])).push (seqObj "tuple" vs.toArray 0)).push (seqObj "list" #[] 0)).get? a=some (seqObj "list" #[] e1):=Ā _ (Ā _ ho1)
 have kp:∀b o,b≠a->s.heap.get? b=some o->(((s.heap.update a (ĳ λ _=>(#[]:Array Value))).push (seqObj "tuple" vs.toArray 0)).push (seqObj "list" #[] 0)).get? b=some o:=λ b o hb q=>
  Ā _ (Ā _ ((s1.2 b hb).trans q))
 show wpAny `È A _ P E {s with heap:=((s.heap.update a (ĳ λ _=> #[])).push (seqObj "tuple" vs.toArray 0)).push (seqObj "list" #[] 0)}
 dsimp only
 generalize hh:((s.heap.update a (ĳ λ _=>(#[]:Array Value))).push (seqObj "tuple" vs.toArray 0)).push (seqObj "list" #[] 0)=h1 at*
 have fin:∀(st:SortSt) (out:`Ð),(arrOf st).map (·.2)=out.toArray->failedOf st=none->out=((ko lt vs.length).map λ i=>vs.getD i Value.none)->out.length=vs.length->(ko lt vs.length).length=vs.length->wpAny `È A (do
   let touched:=(<-seqEpoch a) !=e1
   Builtin.List.listUpdate (.ref a) λ _=>(arrOf st).map (·.2)
   if let some e:=failedOf st then rule "list.sort.comparison-raised";throw e
   if touched then rule "list.sort.modified";raiseError "ValueError" "list modified during sort"
   ret .none) P E {s with heap:=h1}:=by
  intro st out har hf eo hl hl2
  refine Ă (Ąv ho6 rfl ?_)
  rw[har,hf]
  refine Ă (ăx ho6 rfl ?_ (Ň _) (by rw[Ę,Ĵ];omega))
  simp only[bne_self_eq_false,ğ,if_false]
  have s2:=Ũ h1 a (ĳ λ _=>out.toArray)
  refine Ě (h _ _ (λ b o hb q=>(s2.2 b hb).trans (kp b o hb q)) (by rw[<-eo];exact Ăw ho6 λ _=>out.toArray) hl2)
 by_cases h2:vs.toArray.size<2
 ·rw[if_pos h2,if_pos h2]
  have h2':vs.length<2:=by simpa using h2
  refine Ă (Ě ?_)
  rw[StateT.run_pure]
  refine Ă (Ě ?_)
  have es:ko lt vs.length=ĭ vs.length:=by simp[ko,h2']
  exact fin (āv general' `Ý #[] 7 none) vs (by
   show (`Ý).map (·.2)=vs.toArray
   apply ām.mp
   simp[Ăo]) rfl (by rw[es,range_getD]) rfl (by rw[es];simp)
 ·rw[if_neg h2,if_neg h2]
  have h2':2<=vs.length:=by simp at h2;omega
  have hn2:¬vs.length<2:=by omega
  refine Ă (hk h2' h1 _ kp ?_)
  refine Ă (Ļ (kat_run (E:=E) (Q:=λ st' s'=>s'={s with heap:=h1}/\(GQ lt (Ăs vs.length)).size=vs.length/\arrOf st'=(GQ lt (Ăs vs.length)).map (ņ `Ý)/\failedOf st'=none) (G:=λ p s'=>p=GQ lt (Ăs vs.length)/\s'={s with heap:=h1})
   rfl h2' h64 (λ p' st' s' a1 a2 a3 a4=>⟨a4.2,by rw[<-a4.1];exact a1,by rw[<-a4.1];exact a2,a3⟩) (Ce (n:=vs.length) (lt:=lt) (λ i j C hi hj hij hq=>hc h1 i j C kp h2' hi hj hij hq) _ (hw h2') ⟨rfl,rfl⟩)) ?_ λ _ _ e=>e)
  rintro ⟨⟨⟩,st'⟩ s' ⟨es,hp,har,hf⟩
  subst es
  have es:ko lt vs.length=(GQ lt (Ăs vs.length)).toList:=by simp[ko,hn2]
  exact fin st' _ (kat_snds rfl har) hf (by rw[es]) (by simp[hp]) (by rw[es];simp[hp])
def zl{l:Addr}{vs:`Ð}{lt:`Ø}{κ:SortKind}{Q:`Ã}(hl:s.heap.IsList l vs.toArray)(h64:vs.length<64)(hw:2<=vs.length->zW vs.length (Ăs vs.length)) (hk:2<=vs.length->∀(A':Around) (h':Heap) (E':`Ã) (Q:SortKind->Shared->Prop),(∀b o,s.heap.get? b=some o->h'.get? b=some o)->Q κ {s with heap:=h'}->wpAny `È A' (keyKind' vs.toArray) Q E' {s with heap:=h'}) (hc:∀(A':Around) (h':Heap) (i j:Nat) (Q:Bool->Shared->Prop),(∀b o,s.heap.get? b=some o->h'.get? b=some o)->2<=vs.length->i<vs.length->j<vs.length->i≠j->Q (lt i j) {s with heap:=h'}->wpAny `È A' (keyLt' κ (vs.getD i .none) (vs.getD j .none)) Q (λ _ _=>False) {s with heap:=h'}) (h:∀h' e,(∀b o,s.heap.get? b=some o->h'.get? b=some o)->h'.get? `Ë=some (seqObj "list" ((ko lt vs.length).map λ i=>vs.getD i Value.none).toArray e)->(ko lt vs.length).length=vs.length->Q (.ref `Ë) {s with heap:=h'}):
  wpAny `È A (call (.builtin "sorted") [.ref l]) Q E s:=by
 refine Calls.call_function_entry kind_sorted plain_sorted entry_sorted (args_sorted1 _) ?_;unfold Builtin.«sorted»;refine Ă (m:=checkCount "sorted" 1 1 _) (Ě ?_);refine Ă (ąo hl ?_ (by rw[Ĵ];omega));refine Ă (ăy ?_ (by rw[Ĵ];omega));have hsz:((s.heap.push (seqObj "list" #[] 0)).update s.heap.objs.size (ĳ (· ++vs.toArray))).objs.size=s.heap.objs.size+1:=by rw[Ąd,size_push']
 have hoL:(((s.heap.push (seqObj "list" #[] 0)).update s.heap.objs.size (ĳ (· ++vs.toArray))).push (seqObj "list" vs.toArray 0)).get? `Ë=some (seqObj "list" vs.toArray 0):=by rw[<-hsz];exact đ _ rfl
 have keep:∀b o,s.heap.get? b=some o->(((s.heap.push (seqObj "list" #[] 0)).update s.heap.objs.size (ĳ (· ++vs.toArray))).push (seqObj "list" vs.toArray 0)).get? b=some o:=λ b o q=>by have hlt:b<s.heap.objs.size:=č q;rw[Heap.get?_push_ne _ _ _ (by rw[hsz];exact ĕ (ő hlt)),Ăz _ _ _ _ (ĕ hlt),Heap.get?_push_ne _ _ _ (ĕ hlt)];exact q
 have nb:∀b o,s.heap.get? b=some o->b≠s.heap.objs.size+1:=λ b o q=>ĕ (ő (č q));show wpAny _ _ _ _ _ {s with heap:=((s.heap.push (seqObj "list" #[] 0)).update s.heap.objs.size (ĳ (· ++vs.toArray))).push (seqObj "list" vs.toArray 0)};rw[hsz];refine Ă (Āz (Ů slot_list_sort ⟨_,hoL,rfl⟩ entry_list_sort ?body (args_list_sort _)));case body=>
  refine BZ (s:={s with heap:=((s.heap.push (seqObj "list" #[] 0)).update s.heap.objs.size (ĳ (· ++vs.toArray))).push (seqObj "list" vs.toArray 0)}) (lt:=lt) (κ:=κ) hoL h64 hw
   (λ h2 h' Q' k q=>hk h2 _ h' _ Q' (λ b o z=>k b o (nb b o z) (keep b o z)) q) (λ h' i j Q' k h2 hi hj hij q=>hc _ h' i j Q' (λ b o z=>k b o (nb b o z) (keep b o z)) h2 hi hj hij q) λ h' e k ea el=>⟨_,rfl,?_⟩
  exact Ě ⟨_,rfl,h h' e (λ b o z=>k b o (nb b o z) (keep b o z)) ea el⟩
end
section
variable{X:Cx}{ct:Ct}{e:Expr}{es:`Þ}{fa:`Æ}{p pos:Pos}
def EF{M:Model}{h:Heap}{i:Int}{t:Tok}:Looks M h (typeOf (.int i t)) (.type "int"):=Looks.of_pure rfl
def acU(lt:`Ø):ko lt 2=if lt 1 0=true then [1,0] else [0,1]:=by simp only[ko,EI,GQ];cases lt 1 0<;>simp[GQ]
def Ho:qN X (.builtin "sorted") (λ xs H Q=>∃(l:Addr) (vs:List V),xs=[.ref l]/\qO X.K H l vs/\((vs.length<2/\∀p,H p=none->Q (.ref p) (upd H p (.lst vs)))\/∃p q x y m n,vs=[.ref p,.ref q]/\yc X.K H p (.int m::x)/\yc X.K H q (.int n::y)/\m≠n/\∀r,H r=none->Q (.ref r) (upd H r (.lst (if n<m then [.ref q,.ref p] else [.ref p,.ref q]))))):=by
 intro pins s σ H xs us Q I r ⟨l,vs,ex,hs,h⟩;subst ex;obtain ⟨u,rfl,ru⟩:=vals1 r;cases ru;obtain ⟨its,rv,pl,hz⟩:=I.list hs;have hlen:=rv.length;have fin:∀(ys:List V) (out:`Ð) (h':Heap) (e:Nat),Vals ys out->ys.length<64->(∀b o,s.heap.get? b=some o->h'.get? b=some o)->h'.get? `Ë=some (seqObj "list" out.toArray e)->(∀p,H p=none->Q (.ref p) (upd H p (.lst ys)))->
   EP X pins σ Q (.ref `Ë) {s with heap:=h'}:=λ ys out h' e r' hz' kp ea q=>
  ⟨.ref `Ë,_,I.laid (t':=s.toks) kp (āg _) (show eV X.prog X.w _ h' _ (.lst ys) from ⟨by rw[Ĵ];omega,out,e,r',ea⟩),rfl,q _ (I.hok.fresh (āg _))⟩
 rcases h with ⟨h2,q⟩|⟨p,q,x,y,m,n,rfl,hp,hq,hmn,qq⟩
 ·refine zl (lt:=λ _ _=>false) (κ:=general') pl.isList `À (λ z=>by omega) (λ z=>by omega) (λ A' h' i j Q' k z=>by omega) λ h' e k ea el=>?_;have es:ko (λ _ _=>false) its.length=ĭ its.length:=by
   have:its.length<2:=by omega
   simp[ko,this]
  rw[es,range_getD] at ea;exact fin vs its h' e rv `À k ea q
 ·obtain ⟨ip,rp,pp,hzp⟩:=I.tuple hp;obtain ⟨iq,rq,pq,hzq⟩:=I.tuple hq;cases rv with
  |cons r1 rv=>
  cases rv with
  |cons r2 rv=>
  cases rv;obtain rfl:=r1;obtain rfl:=r2;cases rp with
  |cons m1 rp=>
  cases rq with
  |cons n1 rq=>
  obtain ⟨tm,rfl⟩:=m1;obtain ⟨tn,rfl⟩:=n1;rename_i zp zq;obtain ⟨op,hop,hcp,np,hdp⟩:=id pp;obtain ⟨oq,hoq,hcq,nq,hdq⟩:=id pq;have ask:∀(A':Around) (h':Heap) (Q':Bool->Shared->Prop) (a b:Addr) (oa ob:Obj) (za zb:`Ð) (na nb:Nat) (k l:Int) (tk tl:Tok),h'.get? a=some oa->oa.data= .seq (Value.int k tk::za).toArray na->h'.get? b=some ob->ob.data= .seq (Value.int l tl::zb).toArray nb->k≠l->
    Q' (decide (k<l)) {s with heap:=h'}->wpAny `É A' (keyLt' (tuples' true) (.ref a) (.ref b)) Q' (λ _ _=>False) {s with heap:=h'}:=by
   intro A' h' Q' a b oa ob za zb na nb k l tk tl ha hda hb hdb hkl hq';refine kat_lt (s:={s with heap:=h'}) ha hda hb hdb ?_;refine kat_cons ?_;refine Ąb (kat_go (λ z=>?_) (λ z=>kat_no ?_))
   ·exact absurd (by simpa using z) hkl
   ·exact kat_lt_int hq'
  refine zl (lt:=λ i j=>if i=1 then decide (n<m) else decide (m<n)) (κ:=tuples' true) pl.isList `Ó (λ _=>acV) (λ _ A' h' E' Q' k z=>?_) (λ A' h' i j Q' k _ hi hj hij z=>?_) λ h' e k ea el=>?_
  ·exact kat_kind (fs:=[.int m tm,.int n tn]) (T:= .type "int") (Ąm (k _ _ hop) hcp hdp rfl (Ąm (k _ _ hoq) hcq hdq rfl ąw)) `Ó (λ v hv=>by simp only[Ć,List.mem_nil_iff,or_false] at hv;rcases hv with rfl|rfl<;>exact EF) rfl z
  ·simp only[Ė,ť] at hi hj;match i,j,hi,hj,hij with
   |0,1,_,_,_=>exact ask A' h' Q' _ _ op oq zp zq np nq m n tm tn (k _ _ hop) hdp (k _ _ hoq) hdq hmn z
   |1,0,_,_,_=>exact ask A' h' Q' _ _ oq op zq zp nq np n m tn tm (k _ _ hoq) hdq (k _ _ hop) hdp (Ŋ hmn) z
   |0,0,_,_,h=>exact absurd rfl h
   |1,1,_,_,h=>exact absurd rfl h
  ·simp only[Ė,ť,Ąn,Nat.reduceAdd] at ea;rw[acU] at ea;have hnm:=qq `Ë;by_cases hlt:n<m
   ·simp only[if_true,hlt,decide_true] at ea qq;exact fin [.ref q,.ref p] [.ref q,.ref p] h' e (.cons rfl (.cons rfl .nil)) `Ó k (by simpa using ea) qq
   ·simp only[if_true,hlt,decide_false,ğ,if_false] at ea qq;exact fin [.ref p,.ref q] [.ref p,.ref q] h' e (.cons rfl (.cons rfl .nil)) `Ó k (by simpa using ea) qq
def J3(hm:X.mg "sorted"=none)(ha:CM X ct (e::es) fa)(hg:Gl X "sorted":=by rfl)(he:`Ç:=by rfl)(hpl:(backTo pos (ć es X.env)).any (·.1)=false:=by rfl):WL X ct (.Call (.Name "sorted" p) (e::es) [] pos) (Yb A1 fa):=by
 have ha:=ha.out;refine ⟨?_⟩;refine PE.imp (jk Ho hg hm (by decide+kernel) ha `Â `Â he hpl) λ σ H Q ⟨Γ,j,h⟩=>?_;refine JW.bnd j h λ ds vs H' s t j' h'=>?_;unfold A1 at h';split at h'
 ·rename_i x;obtain ⟨v,rfl,t1⟩:=zK t;split at h'
  ·rename_i hs;obtain ⟨a,us,rfl,q1,q2⟩:=t1.oU j'.lL j'.lB hs;have:us=[]:=by simpa[aF] using q2
   subst this;refine ⟨a,[],rfl,q1,.inl ⟨by simp,λ l hl=>?_⟩⟩;have s2:=bf hl (.lst []);exact h' l [] _ (s.trans s2) (s.free hl) aC (q2.keep (ay.keep s2))
  ·rename_i d hs;obtain ⟨a,us,rfl,q1,q2⟩:=t1.oU j'.lL j'.lB hs;refine ⟨a,us,rfl,q1,.inl ⟨by rw[<-q2.length];simp,λ l hl=>?_⟩⟩;have s2:=bf hl (.lst us);exact h' l us _ (s.trans s2) (s.free hl) aC (q2.keep (ay.keep s2))
  ·rename_i d1 d2 hs;obtain ⟨a,us,rfl,q1,q2⟩:=t1.oU j'.lL j'.lB hs;obtain ⟨v1,v2,rfl,w1,w2⟩:=abv q2;have key:∀b,ltT d2 d1=some b->∃p q x y m n,v1= .ref p/\v2= .ref q/\yc X.K H' p (.int m::x)/\yc X.K H' q (.int n::y)/\m≠n/\b=decide (n<m):=by
    intro b hb;unfold ltT at hb;split at hb
    ·rename_i i r1 j2 r2;split at hb
     ·cases hb
     ·rename_i hne;cases hb;simp only[Tl,aF] at w1 w2;obtain ⟨p,vs1,rfl,sq1,z1,y1,rfl,rfl,u1⟩:=w1;obtain ⟨q,vs2,rfl,sq2,z2,y2,rfl,rfl,u2⟩:=w2;exact ⟨p,q,y1,y2,j2,i,rfl,rfl,oh sq1,oh sq2,λ z=>hne z.symm,rfl⟩
    ·cases hb
   split at h'
   ·rename_i hb;obtain ⟨p,q,x,y,m,n,rfl,rfl,sq1,sq2,hmn,hb2⟩:=key _ hb;refine ⟨a,_,rfl,q1,.inr ⟨p,q,x,y,m,n,rfl,sq1,sq2,hmn,λ l hl=>?_⟩⟩;rw[if_pos (of_decide_eq_true hb2.symm)];have s2:=bf hl (.lst [V.ref q,V.ref p]);exact h' l _ _ (s.trans s2) (s.free hl) aC ((aF.cons w2 (aF.cons w1 aF.nil)).keep (ay.keep s2))
   ·rename_i hb;obtain ⟨p,q,x,y,m,n,rfl,rfl,sq1,sq2,hmn,hb2⟩:=key _ hb;refine ⟨a,_,rfl,q1,.inr ⟨p,q,x,y,m,n,rfl,sq1,sq2,hmn,λ l hl=>?_⟩⟩;rw[if_neg (of_decide_eq_false hb2.symm)];have s2:=bf hl (.lst [V.ref p,V.ref q]);exact h' l _ _ (s.trans s2) (s.free hl) aC (q2.keep (ay.keep s2))
   ·exact h'.elim
  ·exact h'.elim
 ·exact h'.elim
end
end L4
end
section
namespace L4
open PySem
noncomputable abbrev gO:=Sum Int Str
def Cc:List D->Option (List gO)
 |[]=>some []
 |d::ds=>match Ln d,Cc ds with
  |some k,some ks=>some (k::ks)
  |_,_=>none
def Jf:D->Option (List gO)
 | .tup ds=>Cc ds
 |_=>none
noncomputable def Vt:D->Option (List (List gO)×List D)
 | .r6 (.t ks) xs=>some (ks,xs)
 | .uF _ (.t ks) xs=>some (ks,xs)
 |_=>none
noncomputable def nK(ks:List (List gO))(xs:List D)(k:List gO):Option D:=((ks.zip xs).find? λ kv=>decide (kv.1=k)).map (·.2)
def aq6(o y:D):Res D:=match Vt o,Jf y with
 |some (ks,xs),some k=>(match nK ks xs k with
  |some d=> .ok d
  |none=> .bad)
 |_,_=> .bad
noncomputable def ES(o y z:D):Res D:=match Vt o,Jf y with
 |some (ks,xs),some k=> .ok ((nK ks xs k).getD z)
 |_,_=> .bad
noncomputable def xR(f g h:`Ñ):Sg->Res D:=λ Γ=>(f Γ).bnd λ o=>match Vt o with
 |some _=>(g Γ).bnd λ y=>(h Γ).bnd λ z=>ES o y z
 |none=> .bad
noncomputable def vU(ks:List (List gO))(k:List gO):List (List gO):=if (ks.any λ n=>decide (n=k))=true then ks else ks++[k]
noncomputable def A3(ks:List (List gO))(xs:List D)(k:List gO)(d:D):List D:=if (ks.any λ n=>decide (n=k))=true then (ks.zip xs).map (λ kv=>if kv.1=k then d else kv.2) else xs++[d]
noncomputable def uN(k:List gO)(d:D):M->Option M
 | .k (.t ks) xs=>if nt d=true/\ks.length<1000000 then some (.k (.t (vU ks k)) (A3 ks xs k d)) else none
 |_=>none
def Ei(i:Nat)(g:Sg->Res (List Nat))(fk f:`Ñ):Sg->Out:=λ Γ=>oE (f Γ) Γ λ d=>oE (g Γ) Γ λ ks=>oE (fk Γ) Γ λ z=>match Jf z with
 |some k=>oUp (xY i ks (uN k d) Γ)
 |none=> .bad
noncomputable def gu:List Int->List Int->Bool
 |[],[]=>false
 |[],_::_=>true
 |_::_,[]=>false
 |x::xs,y::ys=>if x=y then gu xs ys else decide (x<y)
theorem wO:∀(x y:`Î),x≠y->gu x y=!gu y x
 |[],[],h=>absurd rfl h
 |[],_::_,_=>rfl
 |_::_,[],_=>rfl
 |a::x,b::y,h=>by
  simp only[gu];by_cases e:a=b
  ·subst e;simp only[if_true];exact wO x y λ z=>h (by rw[z])
  ·have e':b≠a:=λ z=>e z.symm;simp only[e,e',if_false];by_cases q:a<b
   ·have:¬b<a:=by omega
    simp[q,this]
   ·have:b<a:=by omega
    simp[q,this]
theorem wN:∀(x y z:`Î),gu x y=true->gu y z=true->gu x z=true
 |[],[],_,h,_=>by simp[gu] at h
 |[],_::_,[],_,h=>by simp[gu] at h
 |[],_::_,_::_,_,_=>rfl
 |_::_,[],_,h,_=>by simp[gu] at h
 |_::_,_::_,[],_,h=>by simp[gu] at h
 |a::x,b::y,c::z,h1,h2=>by
  simp only[gu] at h1 h2 ⊢;by_cases e1:a=b
  ·subst e1;simp only[if_true] at h1;by_cases e2:a=c
   ·subst e2;simp only[if_true] at h2 ⊢;exact wN x y z h1 h2
   ·simp only[e2,if_false] at h2 ⊢;exact h2
  ·simp only[e1,if_false] at h1;have h1:a<b:=by simpa using h1
   by_cases e2:b=c
   ·subst e2;simp only[e1,if_false];simpa using h1
   ·simp only[e2,if_false] at h2;have h2:b<c:=by simpa using h2
    have e3:a≠c:=by omega
    simp only[e3,if_false];have:a<c:=by omega
    simpa using this
noncomputable abbrev KD:=List Int×D
def TH(x:KD):List KD->List KD
 |[]=>[x]
 |y::l=>if gu x.1 y.1=true then x::y::l else y::TH x l
noncomputable def srt:List KD->List KD
 |[]=>[]
 |x::l=>TH x (srt l)
theorem yo(x:KD):∀l,(TH x l).Perm (x::l)
 |[]=> .refl _
 |y::l=>by
  unfold TH;split
  ·exact .refl _
  ·exact ((yo x l).cons y).trans (.swap x y l)
theorem sj:∀l,(srt l).Perm l
 |[]=> .refl _
 |x::l=>(yo x (srt l)).trans ((sj l).cons x)
def LtK(a b:KD):Prop:=gu a.1 b.1=true
theorem Rp:∀{l:List KD},l.Pairwise LtK->(∀y∈l,x.1≠y.1)->(TH x l).Pairwise LtK
 |[],_,_=>List.pairwise_singleton _ _
 |y::l,h,hn=>by
  unfold TH;have h1:=(Ĺ.mp h).1;have h2:=(Ĺ.mp h).2;split
  ·rename_i q;refine Ĺ.mpr ⟨λ z hz=>?_,h⟩;rcases Ć.mp hz with rfl|hz
   ·exact q
   ·exact wN _ _ _ q (h1 z hz)
  ·rename_i q;refine Ĺ.mpr ⟨λ z hz=>?_,Rp h2 λ y' hy'=>hn y' (.tail _ hy')⟩;have hz:=(yo x l).mem_iff.mp hz;rcases Ć.mp hz with rfl|hz
   ·show gu y.1 z.1=true;rw[wO _ _ (λ e=>hn y (.head _) e.symm)];simpa using q
   ·exact h1 z hz
theorem Ku:∀{l:List KD},(l.map (·.1)).Nodup->(srt l).Pairwise LtK
 |[],_=>List.Pairwise.nil
 |x::l,h=>Rp (Ku (ń.mp h).2) λ y hy e=>by have hy:=(sj l).mem_iff.mp hy;exact (ń.mp h).1 (Į.mpr ⟨y,hy,e.symm⟩)
def I0(x:`Î):gu x x=false:=by
 induction x with
 |nil=>rfl
 |cons a x ih=>simp[gu,ih]
theorem yi:∀{l m:List KD},l.Perm m->l.Pairwise LtK->m.Pairwise LtK->l=m
 |[],m,p,_,_=>(List.nil_perm.mp p).symm▸rfl
 |x::l,[],p,_,_=>by simpa using p.length_eq
 |x::l,y::m,p,h1,h2=>by
  have e:x=y:=by
   have hx:=p.mem_iff.mp (.head (a:=x) l);have hy:=p.mem_iff.mpr (.head (a:=y) m);rcases Ć.mp hx with e|hx
   ·exact e
   ·rcases Ć.mp hy with e|hy
    ·exact e.symm
    ·have a1:gu y.1 x.1=true:=(Ĺ.mp h2).1 x hx;have a2:gu x.1 y.1=true:=(Ĺ.mp h1).1 y hy;have:=wN _ _ _ a1 a2;rw[I0] at this;cases this
  subst e;rw[yi (List.Perm.cons_inv p) (Ĺ.mp h1).2 (Ĺ.mp h2).2]
def ahk{α β:Type}{n:Nat}{f:Nat->β}{l:List α}{g:α->β}(hl:l.length=n)(h:∀i a,l[i]? =some a->f i=g a):(ĭ n).map f=l.map g:=by
 apply List.ext_getElem?;intro i;rw[Ĝ,Ĝ];by_cases hi:i<n
 ·rw[List.getElem?_range hi,ā (by rw[hl];exact hi)];exact congrArg some (h i _ (ā (by rw[hl];exact hi)))
 ·rw[ų (by simp;omega),ų `À];rfl
def V1{ns:List (List Int)}{xs:List D}{ix:`Ö}(hl:xs.length=ns.length)(nd:ns.Nodup)(hp:ix.Perm (ĭ ns.length))(pw:ix.Pairwise (λ i j=>gu (ns.getD i []) (ns.getD j [])=true)):
  (ix.map λ i=>((ns.getD i [],xs.getD i .cU):KD))=srt (ns.zip xs):=by
 have e1:(ns.zip xs).map (·.1)=ns:=List.map_fst_zip `À;refine yi ?_ (Ť.mpr (pw.imp λ h=>h)) (Ku (by rw[e1];exact nd));refine (hp.map _).trans (List.Perm.trans ?_ (sj _).symm);rw[ahk (l:=ns.zip xs) (g:=id) (by rw[ār,hl];exact Nat.min_self _) λ i a e=>?_]
 ·rw[ąx]
 ·rw[List.getElem?_zip_eq_some] at e;rw[Č,Č,e.1,e.2];rfl
noncomputable def tupI(n:`Î):D:= .tup (n.map D.int)
end L4
end
section
namespace L4
open PySem PySem.Spec PyProof.Rows L2
open AutoSeq1 (wpAny_loadPart')
section
variable{prog:Program}{w:World}{A:Around}{E:`Ã}{s:Shared}
def wA{it l:Addr}{i:Nat}{items:Array Value}{x:Value}{Q:`Ã}(hit:s.heap.IsTupleIter it l i)(hl:s.heap.IsTuple l items)(hx:items[i]? =some x) (hQ:∀h',h'.IsTupleIter it l (i+1)->ăb it s.heap h'->Q x {s with heap:=h'}):wpAny `È A (Āa (.ref it)) Q E s:=by
 obtain ⟨o,ho,hc,hd⟩:=id hit;obtain ⟨ol,hol,_,nl,hdl⟩:=hl;unfold Āa;refine Ă (wpAny_callSpecial?_slot (name:=Ąo "__next__") hit.typeIs Œ
  (Ů Œ hit.typeIs PySem.F.entry_tuple_iterator_next ?_ (PySem.F.args_tuple_iterator_next_1 _)))
 show wpAny _ _ (field (.ref it) 0>>=_) _ _ s;refine Ă (ăr ho hd (x:= .ref l) rfl ?_);show wpAny _ _ (if (Value.ref l==Value.none)=true then _ else _) _ _ s;rw[if_neg (show ¬((Value.ref l==Value.none)=true) from Ĥ)];show wpAny _ _ (field (.ref it) 1>>=_) _ _ s;refine Ă (ăr ho hd (x:= .int i 0) rfl ?_);show wpAny _ _ (seqItems? (.ref l)>>=_) _ _ s;refine Ă (wpAny_seqItems hol hdl ?_);simp only[ăs,hx];refine Ă (wpAny_setField ho hd `Ó (Ě ⟨x,rfl,Ě (hQ _ ?_ (Ũ ..))⟩));exact ⟨_,Heap.get?_update_self _ ho (Obj.isFreed_of_fields (Obj.data_mapFields hd _)),(Obj.cls_mapFields ..).trans hc,by rw[Obj.data_mapFields hd];simp[rawInt]⟩
def yJ{it l:Addr}{i:Nat}{items:Array Value}{Q:`Ã}(hh:A.handled=none)(hit:s.heap.IsTupleIter it l i)(hl:s.heap.IsTuple l items)(hx:items[i]? =none) (hE:∀h' e,Heap.ExtBut it s.heap h'->(∃o,h'.get? e=some o/\o.cls= .type "StopIteration")->E (.ref e) {s with heap:=h'}):wpAny `È A (Āa (.ref it)) Q E s:=by
 obtain ⟨o,ho,hc,hd⟩:=id hit;obtain ⟨ol,hol,_,nl,hdl⟩:=hl;unfold Āa;refine Ă (wpAny_callSpecial?_slot (name:=Ąo "__next__") hit.typeIs Œ
  (Ů Œ hit.typeIs PySem.F.entry_tuple_iterator_next ?_ (PySem.F.args_tuple_iterator_next_1 _)))
 show wpAny _ _ (field (.ref it) 0>>=_) _ _ s;refine Ă (ăr ho hd (x:= .ref l) rfl ?_);show wpAny _ _ (if (Value.ref l==Value.none)=true then _ else _) _ _ s;rw[if_neg (show ¬((Value.ref l==Value.none)=true) from Ĥ)];show wpAny _ _ (field (.ref it) 1>>=_) _ _ s;refine Ă (ăr ho hd (x:= .int i 0) rfl ?_);show wpAny _ _ (seqItems? (.ref l)>>=_) _ _ s;refine Ă (wpAny_seqItems hol hdl ?_);simp only[ăs,hx];refine Ă (wpAny_rule (Ă (wpAny_setField ho hd `Ó ?_)));show wpAny _ _ (newExc (.type "StopIteration") []>>=_) _ _ _;refine Ă ?_;simp only[newExc,newTuple];refine Ă (Āc ?_ (by size_fits));refine Ă (m:=firstArgMember _ _) (wpAny_of_eq (a:=Value.none) (by first|rfl|(simp only[firstArgMember];rfl)) ?_);refine Āc ?_ (by size_fits);simp only[raiseNew];refine Ă (wpAny_handled ?_);first|rw[show A.in1.handled=none from hh]|rw[hh]
 refine Ă (Ě (wpAny_throw ?_));exact hE _ _ (((Ũ ..).extBut.push _).push _) ⟨_,đ _ rfl,rfl⟩
def xu{h h':Heap}{l:Addr}{items:Array Value}(t:h.IsTuple l items)(k:∀o,h.get? l=some o->h'.get? l=some o):h'.IsTuple l items:=let ⟨o,ho,r⟩:=t;⟨o,k o ho,r⟩
def Y8(hh:A.handled=none)(it l:Addr)(hne:l≠it)(items:Array Value):Draws prog w A it [it,l] items.size (λ i v=>items[i]? =some v) (λ i h=>h.IsTupleIter it l i/\h.IsTuple l items) where
 live:=λ _ _ st=>let ⟨o,ho,_⟩:=st.1;⟨o,ho⟩
 frame:=λ _ _ _ st hk=>⟨st.1.at λ o e=>hk it `Ó o e,xu st.2 λ o e=>hk l `Ó o e⟩
 item:=λ i s Q E hi st hQ=>wA st.1 st.2 (x:=items[i]) (by simp[hi]) λ h' apu hs'=>hQ _ h' s.toks (by simp[hi]) ⟨apu,xu st.2 λ o e=>(hs'.2 l hne).trans e⟩ hs'
 done:=λ s Q E st hE=>yJ hh st.1 st.2 `Ó hE
def IT(l:Addr)(items:Array Value)(n:Nat)(dct:Option Addr)(sl:Array (Option Value)):
  Meets (Builtin.«enumerate.__new__» ⟨[.type "enumerate",.ref l],[]⟩) (λ _ R s=>s.heap.get? l=some {cls:= .type "tuple",dict:=dct,data:= .seq items n,slots:=sl}/\R (.ok (.ret (.ref (s.heap.push {cls:= .type "tuple_iterator",data:= .fields #[.ref l,.int 0 0]}).objs.size))) {s with heap:=(s.heap.push {cls:= .type "tuple_iterator",data:= .fields #[.ref l,.int 0 0]}).push {cls:= .type "enumerate",data:= .fields #[.none,.bool false,.ref s.heap.objs.size,rawInt 0,.none,.none]}}):=
 .of_wp λ prog w A R s h=>by
  obtain ⟨hp,g,d,tk,os⟩:=s;obtain ⟨hl,h⟩:=h;have hsub:=sub_enumerate;have hL:Heap.IsTuple (Shared.heap ⟨hp,g,d,tk,os⟩) l items:=⟨_,hl,rfl,n,rfl⟩;wp_walk using Āx hl;refine wpAny_stack_any λ st=>Ě ?_;split
  ·rename_i c _ _ _ _ _;cases (c==Value.type "enumerate")
   ·wp_walk using Āx hl,āt hL;exact ⟨_,rfl,h⟩
   ·wp_walk using Āx hl,āt hL;exact ⟨_,rfl,h⟩
  ·wp_walk using Āx hl,āt hL;exact ⟨_,rfl,h⟩
def LP{Q:`Ã}(hL:s.heap.IsTuple l items)(h:∀h',IsEnum h' `Ë s.heap.objs.size 0 .none->h'.IsTupleIter s.heap.objs.size l 0->(∀b o,s.heap.get? b=some o->h'.get? b=some o)->Q (.ref `Ë) {s with heap:=h'}):
  wpAny `È A (call (.type "enumerate") [.ref l]) Q E s:=by
 obtain ⟨⟨c,dct,dt,sl⟩,hl,hc,n,hd⟩:=hL;obtain rfl:c= .type "tuple":=hc;obtain rfl:dt= .seq items n:=hd;refine callType_new PySem.F.called_enumerate `Â (PySem.F.typeCall_enumerate_1 _) (PySem.F.newCall_enumerate_1 _) (λ obj=>PySem.F.args_object_init_2 obj _) PySem.F.entry_enumerate_new (IT l items n dct sl) ⟨hl,?_⟩;have hz:(s.heap.push {cls:= .type "tuple_iterator",data:= .fields #[.ref l,.int 0 0]}).objs.size=s.heap.objs.size+1:=Āk ..;show _/\_;rw[hz];have he:IsEnum ((s.heap.push {cls:= .type "tuple_iterator",data:= .fields #[.ref l,.int 0 0]}).push
   {cls:= .type "enumerate",data:= .fields #[.none,.bool false,.ref s.heap.objs.size,rawInt 0,.none,.none]}) `Ë s.heap.objs.size 0 .none:=by
  have:=đ (s.heap.push {cls:= .type "tuple_iterator",data:= .fields #[.ref l,.int 0 0]}) (o:={cls:= .type "enumerate",data:= .fields #[.none,.bool false,.ref s.heap.objs.size,rawInt 0,.none,.none]}) rfl;rw[hz] at this;exact this
 exact ⟨⟨_,he,rfl⟩,h _ he ⟨_,Ā _ (đ _ rfl),rfl,rfl⟩ λ b o x=>Ā _ (Ā _ x)⟩
end
section
variable{X:Cx}{pins:`Ê}{σ:St}{H:Hp}{s:Shared}
noncomputable def abt{t':Nat}{h':Heap}{ch:List Addr}(I:`Ä)(k:∀b o,b∉ch->s.heap.get? b=some o->h'.get? b=some o)(hf:∀b∈ch,CS X pins H b):Inv X pins σ H {s with heap:=h',toks:=t'}:=by
 have nit:∀b u,H b=some u->b∉ch:=λ b u e z=>by rw[(hf b z).1] at e;cases e
 have hL:X.env.locals∉ch:=λ z=>(hf _ z).2.1 rfl;refine I.step (g':=s.gens) (d':=s.drawn) (ch:=ch) (λ b hb=>?_) (λ b o _ _ hc e _=>k b o hc e) (λ b o _ _ hc e _=>⟨o.slots,k b o hc e⟩) (λ _ _ _ _ n=>n)
  (λ b o hc e=>⟨o,k b o hc e⟩) (λ _ _ e=>e) (λ _ _ _ e=>e) (λ b ps e=>⟨#[],by rw[e];simp⟩) (λ m hm=>?_) (λ b u e=>?_) I.bare
 ·obtain ⟨_,f1,_,f3,f4,f5⟩:=hf b hb;exact ⟨f3,f1,f4,f5⟩
 ·obtain ⟨o,es,ep,ho,r⟩:=hm;exact ⟨o,es,ep,k _ o hL ho,r⟩
 ·refine (I.hok b u e).stay (λ c v hc q=>k c v ?_ q) (λ _ q=>q) λ _ _ q=>q;rcases hc with z|z
  ·rw[z];exact nit b u e
  ·exact nit c _ z
end
section
variable{X:Cx}{ct:Ct}{a b e:Expr}{f g h:`Ñ}{pos:Pos}
theorem Je{K:ă}{H:Hp}:∀{ds:List D} {vs:List V} {ks:List Key},aF K ct H ds vs->Cc ds=some ks->vs=ks.map kV
 |[],vs,ks,h,e=>by cases e;simp only[aF] at h;subst h;rfl
 |d::ds,vs,ks,h,e=>by
  simp only[aF] at h;obtain ⟨v,r,rfl,t1,t2⟩:=h;simp only[Cc] at e;split at e
  ·rename_i k ks' e1 e2;cases e;rw[R5 t1 e1,Je t2 e2];rfl
  ·cases e
def GI{K:ă}{H:Hp}{d:D}{v:V}{k:List Key}(h:Tl K ct H d v)(e:Jf d=some k):∃p,v= .ref p/\H p=some (.tup (k.map kV)):=by
 cases d with
 |tup ds=>simp only[Tl] at h;obtain ⟨p,vs,rfl,h2,h3⟩:=h;rw[Je h3 e] at h2;exact ⟨p,rfl,h2⟩
 |_=>cases e
theorem xy{K:ă}{H:Hp}{k:List Key}:∀{ks:List (List Key)} {xs:List D} {vs:List V},aF K ct H xs vs->ks.length=vs.length->(∀d,nK ks xs k=some d->∃v,jM (ks.zip vs) k=some v/\Tl K ct H d v)/\(nK ks xs k=none->jM (ks.zip vs) k=none)
 |[],xs,vs,t,_=>⟨λ d h=>by simp[nK] at h,λ _=>by simp[jM]⟩
 |n::ks,[],vs,t,hl=>by simp only[aF] at t;subst t;simp at hl
 |n::ks,x::xs,vs,t,hl=>by
  simp only[aF] at t;obtain ⟨v,r,rfl,t1,t2⟩:=t;obtain ⟨g1,g2⟩:=xy (k:=k) t2 (by simpa using hl);by_cases q:n=k
  ·subst q;refine ⟨λ d h=>?_,λ h=>?_⟩
   ·simp only[nK,ĥ,Ĭ,decide_true,āq,Ľ] at h;subst h;exact ⟨v,by simp[jM,Ĭ],t1⟩
   ·simp[nK,Ĭ] at h
  ·refine ⟨λ d h=>?_,λ h=>?_⟩
   ·simp only[nK,ĥ,Ĭ,q,decide_false] at h;obtain ⟨v',w1,w2⟩:=g1 d h;exact ⟨v',by simpa[jM,Ĭ,q] using w1,w2⟩
   ·simp only[nK,ĥ,Ĭ,q,decide_false] at h;simpa[jM,Ĭ,q] using g2 h
def Tl.SE{K:ă}{H:Hp}{d:D}{v:V}{ks:List (List Key)}{xs:List D}(l:ay ct.f.L H)(b:ay ct.B H)(h:Tl K ct H d v)(e:Vt d=some (ks,xs)):∃a vs,v= .ref a/\Rd H a (.dT (ks.zip vs))/\ks.length=vs.length/\aF K ct H xs vs:=by
 cases d with
 |r6 ks' xs'=>
  cases ks' with
  |s _=>cases e
  |t ks'=>
  cases e;simp only[Tl] at h;obtain ⟨a,vs,h1,⟨o,h2⟩,h3,h4⟩:=h;exact ⟨a,vs,h1,.inr ⟨o,h2⟩,h3,h4⟩
 |uF t ks' xs'=>
  cases ks' with
  |s _=>cases e
  |t ks'=>
  cases e;simp only[Tl] at h;obtain ⟨a,vs,h1,h2,h3,h4⟩:=h;refine ⟨a,vs,h1,.inl ?_,h3,h4⟩;cases t with
  |true=>exact b a _ h2
  |false=>exact l a _ h2
 |_=>cases e
def HR(hu:X.A.units+1<cLine)(ha:WD X ct a f)(hb:WD X ct b g)(hd:WD X ct d h)(h1:attributeBase a "get" X.env (eval a X.env)=eval a X.env:=by rfl)(h2:((backTo cpos (ć [b,d] X.env)).all (λ x=>!x.1)&&(backToKw cpos (keywordEach [] X.env)).all (λ x=>x.1.isSome)&&decide (([b,d]:List Expr).length+([]:List Keyword).length+(if ([]:List Keyword).isEmpty then 0 else 1)<30))=true:=by rfl)(h3:(apos.endLine==cpos.line)=true:=by rfl)(h4:backTo cpos (ć [b,d] X.env)=[(false,eval b X.env),(false,eval d X.env)]:=by rfl):WD X ct (.Call (.Attribute a "get" apos) [b,d] [] cpos) (xR f g h):=by
 have ha:=ha.out;have hb:=hb.out;have hd:=hd.out;refine ⟨?_⟩;intro pins s σ H Q I ⟨Γ,j,hh⟩;refine WR hu ha hb hd ⟨h1,h2,h3,h4⟩ pins s σ H Q I ?_;refine rL.bnd j hh λ o v H1 s1 t1 j1 q1=>?_;split at q1
 ·rename_i p e0;obtain ⟨ks,xs⟩:=p;obtain ⟨a,vs,rfl,r1,r2,r3⟩:=t1.SE j1.lL j1.lB e0;refine ⟨a,rfl,.inr ⟨_,r1⟩,?_⟩;refine rL.bnd (f:=g) (W:=Wd X ct H Q) j1 (Ok.mono s1 q1 λ _ z=>z) λ y u H2 s2 t2 j2 q2=>?_;refine rL.bnd (f:=h) (W:=Wd X ct H Q) j2 (Ok.mono s2 q2 λ _ z=>z) λ z u3 H3 s3 t3 j3 q3=>?_;unfold ES at q3;rw[e0] at q3;split at q3
  ·rename_i ks' xs' k e1 e2;cases e1;obtain ⟨a',vs',ea,w1,w2,w3⟩:=(t1.keep (ay.keep (s2.trans s3))).SE j3.lL j3.lB e0;cases ea;obtain ⟨p,rfl,hp⟩:=GI (t2.keep (ay.keep s3)) e2;refine ⟨_,.inr ⟨_,k,p,w1,rfl,hp,rfl⟩,?_⟩;cases hg:nK ks xs k with
   |none=>rw[(xy w3 w2).2 hg];rw[hg] at q3;exact q3 _ H3 ((s1.trans s2).trans s3) t3
   |some d=>obtain ⟨w,x1,x2⟩:=(xy w3 w2).1 d hg;rw[x1];rw[hg] at q3;exact q3 _ H3 ((s1.trans s2).trans s3) x2
  ·exact q3.elim
 ·exact q1.elim
def Rf:WM X ct (.Dict [] [] pos) (λ _=> .ok (.k (.t []) [])):=by
 refine ⟨?_⟩;refine PE.imp WN λ σ H Q ⟨Γ,j,h⟩=>?_;intro p hp;refine h (.ref p) _ (λ b=>b=p) (bf hp _) ?_ (λ b z=>z▸hp) λ b z q=>by subst z;rw[aC] at q;cases q
 simp only[Ow];exact ⟨p,[],rfl,rfl,aC,rfl,aF.nil⟩
end
def Vw{ks:List (List Key)}{vs:List V}{k:List Key}(h:ks.length=vs.length):((ks.zip vs).any λ kv=>decide (kv.1=k))=ks.any λ n=>decide (n=k):=by
 induction ks generalizing vs with
 |nil=>simp
 |cons n ks ih=>
  cases vs with
  |nil=>simp at h
  |cons v vs=>simp only[ĥ,ŏ];rw[ih (by simpa using h)]
def Wo{K:ă}{ct:Ct}{H:Hp}{ks:List (List Key)}{xs:List D}{vs:List V}{k:List Key}{d:D}{v:V}(h:ks.length=vs.length)(t:aF K ct H xs vs)(td:Tl K ct H d v):
  ∃us,putK (ks.zip vs) k v=(vU ks k).zip us/\(vU ks k).length=us.length/\aF K ct H (A3 ks xs k d) us:=by
 unfold putK vU A3;rw[Vw h];by_cases q:(ks.any λ n=>decide (n=k))=true
 ·simp only[q,if_true];clear q;induction ks generalizing xs vs with
  |nil=>
   cases vs with
   |nil=>exact ⟨[],by simp,rfl,by simp[aF]⟩
   |cons v vs=>simp at h
  |cons n ks ih=>
   cases vs with
   |nil=>simp at h
   |cons w vs=>
    cases xs with
    |nil=>simp only[aF] at t;cases t
    |cons x xs=>
     simp only[aF] at t;obtain ⟨w',r,e,t1,t2⟩:=t;cases e;obtain ⟨us,u1,u2,u3⟩:=ih (by simpa using h) t2;simp only[ĥ,ą];by_cases q:n=k
     ·subst q;exact ⟨v::us,by simp[u1],by simp[u2],by simpa using aF.cons td u3⟩
     ·exact ⟨w::us,by simp[q,u1],by simp[u2],by simpa[q] using aF.cons t1 u3⟩
 ·simp only[q,if_false,ğ];exact ⟨vs++[v],by rw[List.zip_append h];simp,by simp[h],t.append (aF.cons td aF.nil)⟩
section
variable{X:Cx}{c:Cf}{r ix e:Expr}{i:Nat}{g:Sg->Res (List Nat)}{f fk:`Ñ}{pos:Pos}{Γ:Sg}{σ:St}{H:Hp}
def RA{K:ă}{d:D}{y:V}{k:List Key}{v:V}{B:Hp}{m' je:M}{S':Fp}(t:Tl K (c.at' B) H d y)(e:uN k d m'=some je)(o:Ow K c.z H m' v S'):
  ∃a kvs,v= .ref a/\H a=some (.dT kvs)/\kvs.length<1000000/\S' a/\Ow K c.z (upd H a (.dT (putK kvs k y))) je (.ref a) S':=by
 cases m' with
 |k ks xs=>
  cases ks with
  |s _=>cases e
  |t ks=>
  simp only[uN] at e;split at e
  ·rename_i hc;cases e;simp only[Ow] at o ⊢;obtain ⟨a,vs,rfl,o2,o3,o4,o5⟩:=o;have o3:H a=some (.dT (ks.zip vs)):=o3;obtain ⟨us,u1,u2,u3⟩:=Wo (k:=k) o4 o5 (Tl.down (B:=B) (tm:=true) t hc.1);refine ⟨a,_,rfl,o3,by rw[ār];omega,o2,a,us,rfl,o2,?_,u2,u3.keep (aW.dT o3)⟩;rw[aC,u1];rfl
  ·cases e
 |_=>cases e
def AL{pt:Pos}(hu:X.A.units+1<cLine)(hr:∀B,WP X (c.at' B) r i g)(hk:∀B,WD X (c.at' B) ix fk)(he:∀B,WD X (c.at' B) e f)(hs:swapsWith e (some (.Subscript r ix pt)) pos.line X.env=pure false:=by rfl):CL X c (.Assign [.Subscript r ix pt] e pos) (Ei i g fk f):=by
 have hr:=λ B=>(hr B).out;have hk:=λ B=>(hk B).out;have he:=λ B=>(he B).out;refine ⟨?_⟩;intro pins s σ H E I ⟨Γ,j,h⟩;refine abU hu (hr H) (hk H) (he H) hs pins s σ H E I ?_;refine ⟨Γ,j.lift,Fn.ok j h λ d _ q y H1 s1 t=>?_⟩;refine ⟨Γ,j.lift.mono s1,Ok.mono (H:=H) s1 (Fn.ok (tm:=true) (B:=H) j q λ ks _ q v H2 s2 pa=>?_) λ _ z=>z⟩;refine ⟨Γ,(j.lift.mono s1).mono s2,Ok.mono (H:=H) (s1.trans s2) (Fn.ok (tm:=true) (B:=H) j q λ z _ q u H3 s3 t3=>?_) λ _ z=>z⟩;split at q
 ·rename_i k hk';have sm:=(s1.trans s2).trans s3;have j3:=j.mono sm;obtain ⟨sl,m,v0,m',p1,p2,p3,p4,p5⟩:=pa.same s3;have ty:=t.keep (ay.keep (s2.trans s3));have e1:xY i ks (uN k d) Γ=(uN k d m').map λ je=>Γ.set i (Wh sl (nD m ks je)):=by unfold xY;rw[p1,Ġ,p2,Ġ,p5,Ġ]
  rw[e1] at q;cases z:uN k d m' with
  |none=>rw[z] at q;exact q.elim
  |some je=>rw[z] at q;obtain ⟨vv,S,g1,o1⟩:=j3.ofM p1 p2;rw[p3] at g1;cases g1;obtain ⟨S',o',_⟩:=o1.U7 p4 p5;obtain ⟨a,kvs,rfl,ha,hl,_⟩:=RA ty z o';obtain ⟨p,rfl,hp⟩:=GI t3 hk';refine ⟨a,_,rfl,.inr ⟨kvs,k,p,ha,rfl,hp,āl hl iU,rfl⟩,?_⟩;have kp:aW c.cb H3 (upd H3 a (.dT (putK kvs k y))):=aW.dT ha;refine q σ _ ((ay.keep sm).trans kp) (j3.up p1 p2 p3 p4 p5 kp λ S' o=>?_);obtain ⟨a',kvs',e2,ha',_,w1,w2⟩:=RA ty z o;cases e2;rw[ha] at ha';cases ha';exact ⟨w1,w2⟩
 ·exact q.elim
end
end L4
end
section
namespace L4
open PySem PySem.W PyProof.Rows
structure Ord(lt:`Ø)(n:Nat):Prop where
 tot:∀i j,i<n->j<n->i≠j->lt i j=!lt j i
 tr:∀i j k,i<n->j<n->k<n->lt i j=true->lt j k=true->lt i k=true
structure Pm(n:Nat)(p:Array Nat):Prop where
 size:p.size=n
 low:∀k,k<n->p.getD k 0<n
 inj:∀i j,i<n->j<n->p.getD i 0=p.getD j 0->i=j
section
variable{lt:`Ø}{n:Nat}
def Up(lt:`Ø)(p:Array Nat)(r:Nat):Prop:=∀i j,i<j->j<r->lt (p.getD i 0) (p.getD j 0)=true
end
end L4
end
section
namespace L4
open PySem PySem.Calls PyProof.Rows PySem.W PyProof.V PySem.Spec
noncomputable def Ent(h:Heap)(d:Addr)(es:Array DictEntry)(ep:Nat):Prop:=∃o,h.get? d=some o/\o.data= .dict es ep
noncomputable abbrev itO(x y:Value)(d:Addr)(i n ep:Nat)(p q:Value):Obj:={cls:= .type "dict_itemiterator",dict:=none,data:= .fields #[x,y,.ref d,.int i 0,.int n 0,.int ep 0,p,q],slots:= #[]}
noncomputable abbrev prO(a b:Value):Obj:={cls:= .type "tuple",data:= .seq #[a,b]}
section
variable{prog:Program}{w:World}{A:Around}{E:`Ã}{s:Shared}
structure Told(h:Heap)(es:Array DictEntry)(lo:Addr)(as:List Addr):Prop where
 above:∀a∈as,lo<a/\a<h.objs.size
 nd:as.Pairwise (· < ·)
 pair:∀(j:Nat) (a:Addr),as[j]? =some a->∃e:DictEntry,es[j]? =some e/\h.get? a=some (prO e.key e.val)
noncomputable abbrev vwO(d:Addr):Obj:={cls:= .type "dict_items",data:= .fields #[.ref d]}
def Lo{v d:Addr}{Q:`Ã}(hv:s.heap.get? v=some (vwO d))(hd:Ent s.heap d es ep)(hQ:Q (.ref s.heap.objs.size) {s with heap:=s.heap.push (itO .none (.bool false) d 0 es.size ep .none .none)}):wpAny `È A (pyIter (.ref v)) Q E s:=by
 obtain ⟨od,ho,hdd⟩:=hd;have ty:s.TypeIs (.ref v) "dict_items":=⟨_,hv,rfl⟩;refine wpAny_pyIter_slot ty PySem.F.slot_dict_items_iter (Ů PySem.F.slot_dict_items_iter ty PySem.F.entry_dict_items_iter ?_ (PySem.F.args_dict_items_iter_1 _));unfold Builtin.«dict_items.__iter__»;refine Ă (Ě (Ă ?_));unfold Builtin.Dict_items.dictOf;refine Ă (ăr hv rfl (x:= .ref d) rfl (Ě (Ă ?_)));unfold Builtin.Dict_items.newIterator;refine Ă (wpAny_dictEntries ho hdd (Ă (wpAny_dictEpoch ho hdd ?_)));have own:Builtin.Dict_items.ownsTuple "dict_itemiterator"=true:=by decide
 simp only[own,if_true];refine Āc (Ě ⟨_,rfl,"dict_itemiterator",_,⟨_,đ _ rfl,rfl⟩,PySem.F.slot_dict_itemiterator_next.lookup,?_⟩) (by simp only[sizeOk,Builtin.Dict_items.ownedTupleFields,Ę,ĩ,Ė,ť,Ĵ];omega);simpa[rawInt,itO,Builtin.Dict_items.ownedTupleFields] using hQ
end
end L4
end
section
namespace LM
open PySem PySem.W PyProof.Rows
noncomputable abbrev SS:=StateT SortSt Sem
noncomputable def Zt(left:Bool)(key:Keyed)(arr:`Ï)(base i:Nat):SS (Option Bool):=do
 let x <-elem' arr (base+i)
 if left then lt' x key
 else do
  let r <-lt' key x
  pure (r.map λ x=>!x)
noncomputable def ait(left:Bool)(key:Keyed)(arr:`Ï)(base n lo hi:Nat):SS (Option Nat):=do
 let s <-forIn [:n] ((none:Option (Option Nat)),lo,hi) λ _ s=>
  if s.2.1>=s.2.2 then pure (ForInStep.done (none,s.2.1,s.2.2))
  else do
   let x <-Zt left key arr base (s.2.1+(s.2.2- s.2.1)/ 2)
   match x with
   |some more=>if more=true then pure (ForInStep.yield (none,s.2.1+(s.2.2- s.2.1)/ 2+1,s.2.2)) else pure (ForInStep.yield (none,s.2.1,s.2.1+(s.2.2- s.2.1)/ 2))
   |_=>pure (ForInStep.done (some none,s.2.1,s.2.2))
 match s.1 with
 |some r=>pure r
 |none=>pure (some s.2.2)
noncomputable def rm(left:Bool)(key:Keyed)(arr:`Ï)(base n hint:Nat):SS (Option Nat):=do
 let x <-Zt left key arr base hint
 match x with
 |some right=>
  if right=true then do
   let s <-forIn [:n] ((none:Option (Option Nat)),0,1) λ _ s=>
    if s.2.2>=n- hint then pure (ForInStep.done (none,s.2.1,s.2.2))
    else do
     let x <-Zt left key arr base (hint+s.2.2)
     match x with
     |some more=>if (!more)=true then pure (ForInStep.done (none,s.2.1,s.2.2)) else pure (ForInStep.yield (none,s.2.2,2*s.2.2+1))
     |_=>pure (ForInStep.done (some none,s.2.1,s.2.2))
   match s.1 with
   |some r=>pure r
   |none=>ait left key arr base n (hint+s.2.1+1) (hint+min s.2.2 (n- hint))
  else do
   let s <-forIn [:n] ((none:Option (Option Nat)),0,1) λ _ s=>
    if s.2.2>=hint+1 then pure (ForInStep.done (none,s.2.1,s.2.2))
    else do
     let x <-Zt left key arr base (hint- s.2.2)
     match x with
     |some found=>if found=true then pure (ForInStep.done (none,s.2.1,s.2.2)) else pure (ForInStep.yield (none,s.2.2,2*s.2.2+1))
     |_=>pure (ForInStep.done (some none,s.2.1,s.2.2))
   match s.1 with
   |some r=>pure r
   |none=>ait left key arr base n (hint+1- min s.2.2 (hint+1)) (hint- s.2.1)
 |_=>pure none
noncomputable def sgX(g:Nat):SS Unit:=modify λ st=>āv (kindOf st) (arrOf st) (pendingOf st) g (failedOf st)
noncomputable abbrev adJ:=Option (Array Keyed)×Array Keyed×Nat×Nat×Nat×Nat
noncomputable abbrev Hw:=Option (Array Keyed)×Array Keyed×Nat×Nat×Nat×Nat×Nat
noncomputable def pT(a b out:`Ï)(ia ib:Nat):Array Keyed:=out++a.extract ia++b.extract ib
noncomputable def yQ(a b out:`Ï)(ia ib:Nat):Array Keyed:=out++b.extract ib++a.extract ia
def lo1(a b:`Ï)(mg:Nat)(_:Nat)(s:adJ):SS (ForInStep adJ):=do
 let y <-elem' b s.2.2.2.1
 let x <-elem' a s.2.2.1
 let r <-lt' y x
 match r with
 |some amh=>
  if amh=true then do
   let y <-elem' b s.2.2.2.1
   if (s.2.2.2.1+1==b.size)=true then pure (ForInStep.done (some (pT a b (s.2.1.push y) s.2.2.1 (s.2.2.2.1+1)),s.2.1.push y,s.2.2.1,s.2.2.2.1+1,0,s.2.2.2.2.2+1))
   else if s.2.2.2.2.2+1>=mg then pure (ForInStep.done (none,s.2.1.push y,s.2.2.1,s.2.2.2.1+1,0,s.2.2.2.2.2+1))
   else pure (ForInStep.yield (none,s.2.1.push y,s.2.2.1,s.2.2.2.1+1,0,s.2.2.2.2.2+1))
  else do
   let x <-elem' a s.2.2.1
   if (s.2.2.1+1+1==a.size)=true then pure (ForInStep.done (some (yQ a b (s.2.1.push x) (s.2.2.1+1) s.2.2.2.1),s.2.1.push x,s.2.2.1+1,s.2.2.2.1,s.2.2.2.2.1+1,0))
   else if s.2.2.2.2.1+1>=mg then pure (ForInStep.done (none,s.2.1.push x,s.2.2.1+1,s.2.2.2.1,s.2.2.2.2.1+1,0))
   else pure (ForInStep.yield (none,s.2.1.push x,s.2.2.1+1,s.2.2.2.1,s.2.2.2.2.1+1,0))
 |_=>pure (ForInStep.done (some (pT a b s.2.1 s.2.2.1 s.2.2.2.1),s.2.1,s.2.2.1,s.2.2.2.1,s.2.2.2.2.1,s.2.2.2.2.2))
def acI(a b:`Ï)(mg ac bc:Nat)(out:`Ï)(ia ib:Nat):SS (ForInStep Hw):=do
 let x <-elem' a ia
 if (ia+1+1==a.size)=true then pure (ForInStep.done (some (yQ a b (out.push x) (ia+1) ib),out.push x,ia+1,ib,mg,ac,bc))
 else if (decide (ac<7)&&decide (bc<7))=true then pure (ForInStep.done (none,out.push x,ia+1,ib,mg,ac,bc))
 else pure (ForInStep.yield (none,out.push x,ia+1,ib,mg,ac,bc))
def acJ(a b:`Ï)(mg ac JV:Nat)(out:`Ï)(ia ib:Nat):SS (ForInStep Hw):=do
 let y <-elem' b ib
 if (ib+1==b.size)=true then pure (ForInStep.done (some (pT a b (out.push y) ia (ib+1)),out.push y,ia,ib+1,mg,ac,JV))
 else do
  let x <-elem' a ia
  let r <-rm true x b (ib+1) (b.size-(ib+1)) 0
  match r with
  |some k=>
   if k>0 then
    if (ib+1+k==b.size)=true then pure (ForInStep.done (some (pT a b (out.push y++b.extract (ib+1) (ib+1+k)) ia (ib+1+k)),out.push y++b.extract (ib+1) (ib+1+k),ia,ib+1+k,mg,ac,k))
    else acI a b mg ac k (out.push y++b.extract (ib+1) (ib+1+k)) ia (ib+1+k)
   else acI a b mg ac k (out.push y) ia (ib+1)
  |_=>pure (ForInStep.done (some (pT a b (out.push y) ia (ib+1)),out.push y,ia,ib+1,mg,ac,JV))
def acK(a b:`Ï)(ac0 JV:Nat)(out:`Ï)(ia ib mg:Nat):SS (ForInStep Hw):=do
 sgX mg
 let y <-elem' b ib
 let r <-rm false y a ia (a.size- ia) 0
 match r with
 |some k=>
  if k>0 then
   if (ia+k+1==a.size)=true then pure (ForInStep.done (some (yQ a b (out++a.extract ia (ia+k)) (ia+k) ib),out++a.extract ia (ia+k),ia+k,ib,mg,k,JV))
   else if (ia+k==a.size)=true then pure (ForInStep.done (some (pT a b (out++a.extract ia (ia+k)) (ia+k) ib),out++a.extract ia (ia+k),ia+k,ib,mg,k,JV))
   else acJ a b mg k JV (out++a.extract ia (ia+k)) (ia+k) ib
  else acJ a b mg k JV out ia ib
 |_=>pure (ForInStep.done (some (pT a b out ia ib),out,ia,ib,mg,ac0,JV))
def lo2(a b:`Ï)(_:Nat)(s:Hw):SS (ForInStep Hw):=if s.2.2.2.2.1>1 then acK a b s.2.2.2.2.2.1 s.2.2.2.2.2.2 s.2.1 s.2.2.1 s.2.2.2.1 (s.2.2.2.2.1- 1)
 else acK a b s.2.2.2.2.2.1 s.2.2.2.2.2.2 s.2.1 s.2.2.1 s.2.2.2.1 s.2.2.2.2.1
noncomputable abbrev aiL:=Option (Array Keyed)×Array Keyed×Nat×Nat×Nat
def lo0(a b:`Ï)(_:Nat)(s:aiL):SS (ForInStep aiL):=do
 let t <-forIn [:a.size+b.size] ((none,s.2.1,s.2.2.1,s.2.2.2.1,0,0):adJ) (lo1 a b s.2.2.2.2)
 match t.1 with
 |some r=>pure (ForInStep.done (some r,t.2.1,t.2.2.1,t.2.2.2.1,s.2.2.2.2))
 |none=>do
  liftM (rule "list.sort.gallop")
  let u <-forIn [:a.size+b.size] ((none,t.2.1,t.2.2.1,t.2.2.2.1,s.2.2.2.2+1,t.2.2.2.2.1,t.2.2.2.2.2):Hw) (lo2 a b)
  match u.1 with
  |some r=>pure (ForInStep.done (some r,u.2.1,u.2.2.1,u.2.2.2.1,u.2.2.2.2.1))
  |none=>do
   sgX (u.2.2.2.2.1+1)
   pure (ForInStep.yield (none,u.2.1,u.2.2.1,u.2.2.2.1,u.2.2.2.2.1+1))
def BU(a b:`Ï):SS (Array Keyed):=do
 liftM (rule "list.sort.merge-lo")
 let y <-elem' b 0
 if (1==b.size)=true then pure (pT a b #[y] 0 1)
 else if (0+1==a.size)=true then pure (yQ a b #[y] 0 1)
 else do
  let st <-get
  let s <-forIn [:a.size+b.size] ((none, #[y],0,1,gallopOf st):aiL) (lo0 a b)
  match s.1 with
  |some r=>pure r
  |none=>liftM (unsupported "internal:list.sort.merge-bound")
noncomputable abbrev adN:=Option (Array Keyed)×Nat×Nat×Array Keyed×Nat×Nat
noncomputable abbrev Hz:=Option (Array Keyed)×Nat×Nat×Array Keyed×Nat×Nat×Nat
noncomputable def pW(a b out:`Ï)(na nb:Nat):Array Keyed:=a.extract 0 na++b.extract 0 nb++out.reverse
noncomputable def uf(a b out:`Ï)(na nb:Nat):Array Keyed:=b.extract 0 nb++a.extract 0 na++out.reverse
noncomputable def hi1(a b:`Ï)(mg:Nat)(_:Nat)(s:adN):SS (ForInStep adN):=do
 let y <-elem' b (s.2.2.1- 1)
 let x <-elem' a (s.2.1- 1)
 let r <-lt' y x
 match r with
 |some aml=>
  if aml=true then do
   let x <-elem' a (s.2.1- 1)
   if (s.2.1- 1==0)=true then pure (ForInStep.done (some (pW a b (s.2.2.2.1.push x) (s.2.1- 1) s.2.2.1),s.2.1- 1,s.2.2.1,s.2.2.2.1.push x,s.2.2.2.2.1+1,0))
   else if s.2.2.2.2.1+1>=mg then pure (ForInStep.done (none,s.2.1- 1,s.2.2.1,s.2.2.2.1.push x,s.2.2.2.2.1+1,0))
   else pure (ForInStep.yield (none,s.2.1- 1,s.2.2.1,s.2.2.2.1.push x,s.2.2.2.2.1+1,0))
  else do
   let y <-elem' b (s.2.2.1- 1)
   if (s.2.2.1- 1==1)=true then pure (ForInStep.done (some (uf a b (s.2.2.2.1.push y) s.2.1 (s.2.2.1- 1)),s.2.1,s.2.2.1- 1,s.2.2.2.1.push y,0,s.2.2.2.2.2+1))
   else if s.2.2.2.2.2+1>=mg then pure (ForInStep.done (none,s.2.1,s.2.2.1- 1,s.2.2.2.1.push y,0,s.2.2.2.2.2+1))
   else pure (ForInStep.yield (none,s.2.1,s.2.2.1- 1,s.2.2.2.1.push y,0,s.2.2.2.2.2+1))
 |_=>pure (ForInStep.done (some (pW a b s.2.2.2.1 s.2.1 s.2.2.1),s.2.1,s.2.2.1,s.2.2.2.1,s.2.2.2.2.1,s.2.2.2.2.2))
def ac9(a b:`Ï)(mg ac bc na nb:Nat)(out:`Ï):SS (ForInStep Hz):=do
 let x <-elem' a (na- 1)
 if (na- 1==0)=true then pure (ForInStep.done (some (pW a b (out.push x) (na- 1) nb),na- 1,nb,out.push x,mg,ac,bc))
 else if (decide (ac<7)&&decide (bc<7))=true then pure (ForInStep.done (none,na- 1,nb,out.push x,mg,ac,bc))
 else pure (ForInStep.yield (none,na- 1,nb,out.push x,mg,ac,bc))
noncomputable def ada(a b:`Ï)(mg ac JV na nb:Nat)(out:`Ï):SS (ForInStep Hz):=do
 let y <-elem' b (nb- 1)
 if (nb- 1==1)=true then pure (ForInStep.done (some (uf a b (out.push y) na (nb- 1)),na,nb- 1,out.push y,mg,ac,JV))
 else do
  let x <-elem' a (na- 1)
  let r <-rm true x b 0 (nb- 1) (nb- 1- 1)
  match r with
  |some at_=>
   if nb- 1- at_>0 then
    if (at_==1)=true then pure (ForInStep.done (some (uf a b (out.push y++(b.extract at_ (nb- 1)).reverse) na at_),na,at_,out.push y++(b.extract at_ (nb- 1)).reverse,mg,ac,nb- 1- at_))
    else if (at_==0)=true then pure (ForInStep.done (some (pW a b (out.push y++(b.extract at_ (nb- 1)).reverse) na at_),na,at_,out.push y++(b.extract at_ (nb- 1)).reverse,mg,ac,nb- 1- at_))
    else ac9 a b mg ac (nb- 1- at_) na at_ (out.push y++(b.extract at_ (nb- 1)).reverse)
   else ac9 a b mg ac (nb- 1- at_) na (nb- 1) (out.push y)
  |_=>pure (ForInStep.done (some (pW a b (out.push y) na (nb- 1)),na,nb- 1,out.push y,mg,ac,JV))
noncomputable def adb(a b:`Ï)(ac0 JV na nb:Nat)(out:`Ï)(mg:Nat):SS (ForInStep Hz):=do
 sgX mg
 let y <-elem' b (nb- 1)
 let r <-rm false y a 0 na (na- 1)
 match r with
 |some at_=>
  if na- at_>0 then
   if (at_==0)=true then pure (ForInStep.done (some (pW a b (out++(a.extract at_ na).reverse) at_ nb),at_,nb,out++(a.extract at_ na).reverse,mg,na- at_,JV))
   else ada a b mg (na- at_) JV at_ nb (out++(a.extract at_ na).reverse)
  else ada a b mg (na- at_) JV na nb out
 |_=>pure (ForInStep.done (some (pW a b out na nb),na,nb,out,mg,ac0,JV))
noncomputable def hi2(a b:`Ï)(_:Nat)(s:Hz):SS (ForInStep Hz):=if s.2.2.2.2.1>1 then adb a b s.2.2.2.2.2.1 s.2.2.2.2.2.2 s.2.1 s.2.2.1 s.2.2.2.1 (s.2.2.2.2.1- 1)
 else adb a b s.2.2.2.2.2.1 s.2.2.2.2.2.2 s.2.1 s.2.2.1 s.2.2.2.1 s.2.2.2.2.1
noncomputable abbrev aiO:=Option (Array Keyed)×Nat×Nat×Array Keyed×Nat
noncomputable def hi0(a b:`Ï)(_:Nat)(s:aiO):SS (ForInStep aiO):=do
 let t <-forIn [:a.size+b.size] ((none,s.2.1,s.2.2.1,s.2.2.2.1,0,0):adN) (hi1 a b s.2.2.2.2)
 match t.1 with
 |some r=>pure (ForInStep.done (some r,t.2.1,t.2.2.1,t.2.2.2.1,s.2.2.2.2))
 |none=>do
  liftM (rule "list.sort.gallop")
  let u <-forIn [:a.size+b.size] ((none,t.2.1,t.2.2.1,t.2.2.2.1,s.2.2.2.2+1,t.2.2.2.2.1,t.2.2.2.2.2):Hz) (hi2 a b)
  match u.1 with
  |some r=>pure (ForInStep.done (some r,u.2.1,u.2.2.1,u.2.2.2.1,u.2.2.2.2.1))
  |none=>do
   sgX (u.2.2.2.2.1+1)
   pure (ForInStep.yield (none,u.2.1,u.2.2.1,u.2.2.2.1,u.2.2.2.2.1+1))
def BV(a b:`Ï):SS (Array Keyed):=do
 liftM (rule "list.sort.merge-hi")
 let x <-elem' a (a.size- 1)
 if (a.size- 1==0)=true then pure (pW a b #[x] (a.size- 1) b.size)
 else if (b.size==1)=true then pure (uf a b #[x] (a.size- 1) b.size)
 else do
  let st <-get
  let s <-forIn [:a.size+b.size] ((none,a.size- 1,b.size, #[x],gallopOf st):aiO) (hi0 a b)
  match s.1 with
  |some r=>pure r
  |none=>liftM (unsupported "internal:list.sort.merge-bound")
noncomputable def X0(sa:Nat)(merged:`Ï):SS Bool:=do
 modify λ st=>āv (kindOf st) (ąg (λ a x=>match x with|(p,j)=>a.setIfInBounds (sa+j) p) (arrOf st) merged.toList.zipIdx) (pendingOf st) (gallopOf st) (failedOf st)
 let st <-get
 pure (failedOf st).isNone
def IQ(i:Nat):SS Bool:=do
 let s <-get
 match (pendingOf s)[i]?,(pendingOf s)[i+1]? with
 |some (sa,na,pw),some (sb,nb,_)=>do
  set (āv (kindOf s) (arrOf s) (((pendingOf s).setIfInBounds i (sa,na+nb,pw)).eraseIdxIfInBounds (i+1)) (gallopOf s) (failedOf s))
  let y <-elem' (arrOf s) sb
  let r <-rm false y (arrOf s) sa na 0
  match r with
  |some k=>
   if (na- k==0)=true then pure true
   else do
    let x <-elem' (arrOf s) (sa+k+(na- k) - 1)
    let r <-rm true x (arrOf s) sb nb (nb- 1)
    match r with
    |some nb=>
     if (nb==0)=true then pure true
     else if na- k<=nb then do
      let m <-BU ((arrOf s).extract (sa+k) sb) ((arrOf s).extract sb (sb+nb))
      X0 (sa+k) m
     else do
      let m <-BV ((arrOf s).extract (sa+k) sb) ((arrOf s).extract sb (sb+nb))
      X0 (sa+k) m
    |_=>pure false
  |_=>pure false
 |_,_=>liftM (unsupported "internal:list.sort.pending")
def K5:mergeAt'=IQ:=by kernel_rfl
end LM
end
section
namespace LM
open PySem PySem.W PyProof.Rows L4
structure Mg(R:Nat->Nat->Prop)(o X Y T:`Ö):Prop where
 perm:(o++(X++Y)).Perm T
 uo:o.Pairwise R
 lo:∀x∈o,∀y∈X++Y,R x y
 ux:X.Pairwise R
 uy:Y.Pairwise R
namespace Mg
variable{R:Nat->Nat->Prop}{o X X1 X2 Y T:`Ö}{x y:Nat}
def swap(h:Mg R o X Y T):Mg R o Y X T:=⟨(ŉ o List.perm_append_comm).trans h.perm,h.uo,λ x hx z hz=>h.lo x hx z (by simp only[İ] at*;exact hz.symm),h.uy,h.ux⟩
def mem(h:Mg R o X Y T){z:Nat}(hz:z∈o\/z∈X\/z∈Y):z∈T:=h.perm.mem_iff.mp (by simp only[İ];exact hz)
def step(tr:∀a b c,a∈T->b∈T->c∈T->R a b->R b c->R a c)(h:Mg R o (X1++X2) (y::Y) T)(hx:∀x∈X1,R x y):Mg R (o++X1) X2 (y::Y) T:=by
 have u:=ı.mp h.ux;have v:=Ĺ.mp h.uy;refine ⟨?_,?_,?_,u.2.1,h.uy⟩
 ·have:=h.perm;simpa[Ċ] using this
 ·refine ı.mpr ⟨h.uo,u.1,λ a ha b hb=>h.lo a ha b (by simp[hb])⟩
 ·intro a ha b hb;rcases İ.mp ha with ha|ha
  ·exact h.lo a ha b (by simp only[İ] at*;rcases hb with hb|hb;exact .inl (.inr hb);exact .inr hb)
  ·rcases İ.mp hb with hb|hb
   ·exact u.2.2 a ha b hb
   ·rcases Ć.mp hb with rfl|hb
    ·exact hx a ha
    ·exact tr a y b (h.mem (.inr (.inl (by simp[ha])))) (h.mem (.inr (.inr `Ó))) (h.mem (.inr (.inr (by simp[hb])))) (hx a ha) (v.1 b hb)
def fin(h:Mg R o X [] T):(o++X).Perm T/\(o++X).Pairwise R:=by refine ⟨by simpa using h.perm,ı.mpr ⟨h.uo,h.ux,λ a ha b hb=>h.lo a ha b (by simp[hb])⟩⟩
def alY(h:Mg R o [x] Y T)(hx:∀y∈Y,R y x):(o++(Y++[x])).Perm T/\(o++(Y++[x])).Pairwise R:=by refine ⟨h.swap.perm,ı.mpr ⟨h.uo,ı.mpr ⟨h.uy,by simp,λ a ha b hb=>?_⟩,λ a ha b hb=>h.swap.lo a ha b hb⟩⟩;rw[āu] at hb;subst hb;exact hx a ha
end Mg
section
variable{prog:Program}{w:World}{A:Around}{E:`Ã}{s:Shared}{κ:SortKind}{it:`Ï}{lt:`Ø}{n:Nat}
noncomputable def aV(it:`Ï)(l:`Ö):Array Keyed:=(l.map (ņ it)).toArray
def cK:(aV it l).size=l.length:=by simp[aV]
def cy(h:i<l.length):(aV it l)[i]? =some (ņ it l[i]):=by simp[aV,h]
def q9:(aV it l).extract i j=aV it ((l.drop i).take (j- i)):=by simp[aV,List.extract_toArray,List.extract_eq_take_drop,ąa,ąb]
def jI:aV it l++aV it m=aV it (l++m):=by simp[aV]
def mP:(aV it l).push (ņ it i)=aV it (l++[i]):=by simp[aV]
def R6: #[ņ it i]=aV it [i]:=by simp[aV]
def Ar:(aV it l).reverse=aV it l.reverse:=by simp[aV,List.map_reverse]
noncomputable abbrev gR(κ:SortKind)(a:`Ï)(pe:Array (Nat×Nat×Nat))(mg:Nat):SortSt:=āv κ a pe mg none
def Ff(prog:Program)(w:World)(A:Around)(s:Shared)(κ:SortKind)(it:`Ï)(lt:`Ø)(n:Nat):Prop:=∀(i j:Nat) (Q:Bool->Shared->Prop),i<n->j<n->i≠j->Q (lt i j) s->kas_cmp prog w A κ it i j Q s
def lt_eq:lt'=λ x y=>(get>>=λ st=>liftM (keyLt' (kindOf st) x.1 y.1).attempt>>=λ r=>(match r with
  | .ok b=>pure (some b)
  | .error e=>(modify λ x=>āv (kindOf x) (arrOf x) (pendingOf x) (gallopOf x) (some e))>>=λ _=>pure none):SS (Option Bool)):=by kernel_rfl
def adp:elem'=λ arr i=>(match arr[i]? with
  |some p=>pure p
  |none=>liftM (unsupported "internal:list.sort.index"):SS Keyed):=by kernel_rfl
def eO{arr:`Ï}{i:Nat}{x:Keyed}{st:SortSt}{Q:Keyed->SortSt->Prop}(h:arr[i]? =some x)(q:Q x st):wpS `È A E s (elem' arr i) Q st:=by rw[adp];simp only[h];exact ď q
def V_lt(hc:Ff prog w A s κ it lt n){Q:Option Bool->SortSt->Prop}(hi:i<n)(hj:j<n)(ne:i≠j)(q:Q (some (lt i j)) (gR κ a pe mg)):
  wpS `È A E s (lt' (ņ it i) (ņ it j)) Q (gR κ a pe mg):=by
 rw[lt_eq];refine ċ (ăf ?_);refine ċ (wpS_lift (wpAny_attempt ?_));exact Ļ (hc i j (λ b s'=>s'=s/\Q (some b) (gR κ a pe mg)) hi hj ne ⟨rfl,q⟩) (λ b s' h=>⟨h.1,ď h.2⟩) (λ _ _ h=>h.elim)
structure Cut(lt:`Ø)(it:`Ï)(n:Nat)(arr:`Ï)(base N k B:Nat):Prop where
 g:∀i,i<N->∃x,arr[base+i]? =some (ņ it x)/\x<n/\x≠k/\lt x k=decide (i<B)
 le:B<=N
 kn:k<n
def SN(O:Ord lt n)(hc:Ff prog w A s κ it lt n)(C:Cut lt it n arr base N k B)(hi:i<N){Q:Option Bool->SortSt->Prop}(q:Q (some (decide (i<B))) (gR κ a pe mg)):
  wpS `È A E s (Zt left (ņ it k) arr base i) Q (gR κ a pe mg):=by
 obtain ⟨x,e,hx,ne,hl⟩:=C.g i hi;refine ċ (eO e ?_);cases left with
 |true=>simp only[if_true];refine V_lt hc hx C.kn ne ?_;rw[hl];exact q
 |false=>
  simp only[ğ,if_false];refine ċ (V_lt hc C.kn hx (Ŋ ne) (ď ?_));have:lt k x=!decide (i<B):=by rw[O.tot k x C.kn hx (Ŋ ne),hl]
  rw[this];simpa using q
def Fe(O:Ord lt n)(hc:Ff prog w A s κ it lt n)(C:Cut lt it n arr base N k B)(hl:l<=B)(hh:B<=h)(hN:h<=N){Q:Option Nat->SortSt->Prop}(q:Q (some B) (gR κ a pe mg)):
  wpS `È A E s (ait left (ņ it k) arr base N l h) Q (gR κ a pe mg):=by
 refine ċ (Ł (λ i c st=>st=gR κ a pe mg/\c.1=none/\c.2.1<=B/\B<=c.2.2/\c.2.2<=N/\(c.2.2- c.2.1)+i<=N) ?_ ?_ ⟨rfl,rfl,hl,hh,hN,by dsimp only;omega⟩)
 ·rintro i ⟨c1,c2,c3⟩ st _ hi ⟨rfl,h1,h2,h3,h4,h5⟩
  simp only at h1 h2 h3 h4 h5 ⊢;subst h1;by_cases e:c2>=c3
  ·rw[if_pos e];refine ď ?_;have:c3=B:=by omega
   subst this;exact ď q
  ·rw[if_neg e];refine ċ (SN O hc C `À ?_);by_cases m:c2+(c3- c2)/ 2<B
   ·simp only[m,decide_true,if_true];exact ď ⟨rfl,rfl,by simp only;omega,h3,h4,by simp only;omega⟩
   ·simp only[m,decide_false,ğ,if_false];exact ď ⟨rfl,rfl,h2,by simp only;omega,by simp only;omega,by simp only;omega⟩
 ·rintro ⟨c1,c2,c3⟩ st ⟨rfl,h1,h2,h3,h4,h5⟩
  simp only at h1 h2 h3 h4 h5 ⊢;subst h1;have:c3=B:=by have:=Ņ 0 N;omega
  subst this;exact ď q
def qI(O:Ord lt n)(hc:Ff prog w A s κ it lt n)(C:Cut lt it n arr base N k B)(hh:hint<N){Q:Option Nat->SortSt->Prop}(q:Q (some B) (gR κ a pe mg)):
  wpS `È A E s (rm left (ņ it k) arr base N hint) Q (gR κ a pe mg):=by
 have hB:=C.le;refine ċ (SN O hc C hh ?_);by_cases r:hint<B
 ·simp only[r,decide_true,if_true];refine ċ (Ł (λ i c st=>st=gR κ a pe mg/\c.1=none/\hint+c.2.1<B/\c.2.1<c.2.2/\i<=c.2.2) ?_ ?_ ⟨rfl,rfl,by simp only;omega,by simp,by simp⟩)
  ·rintro i ⟨c1,c2,c3⟩ st _ hi ⟨rfl,h1,h2,h3,h4⟩
   simp only at h1 h2 h3 h4 ⊢;subst h1;by_cases e:c3>=N- hint
   ·rw[if_pos e];refine ď ?_;exact Fe O hc C (by first|omega|(dsimp only;omega)) (by first|omega|(dsimp only;omega)) (by first|omega|(dsimp only;omega)) q
   ·rw[if_neg e];refine ċ (SN O hc C `À ?_);by_cases m:hint+c3<B
    ·simp only[m,decide_true,āp,ğ,if_false];exact ď ⟨rfl,rfl,m,by simp only;omega,by simp only;omega⟩
    ·simp only[m,decide_false,Bool.not_false,if_true];refine ď ?_;exact Fe O hc C (by first|omega|(dsimp only;omega)) (by first|omega|(dsimp only;omega)) (by first|omega|(dsimp only;omega)) q
  ·rintro ⟨c1,c2,c3⟩ st ⟨rfl,h1,h2,h3,h4⟩
   simp only at h1 h2 h3 h4 ⊢;subst h1;have:=Ņ 0 N;exact Fe O hc C (by first|omega|(dsimp only;omega)) (by first|omega|(dsimp only;omega)) (by first|omega|(dsimp only;omega)) q
 ·simp only[r,decide_false,ğ,if_false];refine ċ (Ł (λ i c st=>st=gR κ a pe mg/\c.1=none/\c.2.1<=hint/\B<=hint- c.2.1/\c.2.1<c.2.2/\i<=c.2.2) ?_ ?_ ⟨rfl,rfl,by simp,by simp only;omega,by simp,by simp⟩)
  ·rintro i ⟨c1,c2,c3⟩ st _ hi ⟨rfl,h1,h2,h3,h4,h5⟩
   simp only at h1 h2 h3 h4 h5 ⊢;subst h1;by_cases e:c3>=hint+1
   ·rw[if_pos e];refine ď ?_;exact Fe O hc C (by first|omega|(dsimp only;omega)) (by first|omega|(dsimp only;omega)) (by first|omega|(dsimp only;omega)) q
   ·rw[if_neg e];refine ċ (SN O hc C `À ?_);by_cases m:hint- c3<B
    ·simp only[m,decide_true,if_true];refine ď ?_;exact Fe O hc C (by first|omega|(dsimp only;omega)) (by first|omega|(dsimp only;omega)) (by first|omega|(dsimp only;omega)) q
    ·simp only[m,decide_false,ğ,if_false];exact ď ⟨rfl,rfl,by simp only;omega,by simp only;omega,by simp only;omega,by simp only;omega⟩
  ·rintro ⟨c1,c2,c3⟩ st ⟨rfl,h1,h2,h3,h4,h5⟩
   simp only at h1 h2 h3 h4 h5 ⊢;subst h1;have:=Ņ 0 N;exact Fe O hc C (by first|omega|(dsimp only;omega)) (by first|omega|(dsimp only;omega)) (by first|omega|(dsimp only;omega)) q
def adE{g mg:Nat}{Q:Unit->SortSt->Prop}(q:Q () (gR κ a pe g)):wpS `È A E s (sgX g) Q (gR κ a pe mg):=ăl q
def zj{t:String}{st:SortSt}{Q:Unit->SortSt->Prop}(q:Q () st):wpS `È A E s (liftM (rule t)) Q st:=wpS_lift (wpAny_rule ⟨rfl,q⟩)
theorem vI(O:Ord lt n)(hk:k<n):∀(l:`Ö),(∀x∈l,x<n/\x≠k)->l.Pairwise (λ a b=>lt a b=true)->∃B,B<=l.length/\∀(i:Nat) (h:i<l.length),lt l[i] k=decide (i<B)
 |[],_,_=>⟨0,Ĉ _,λ i h=>absurd h (Nat.not_lt_zero _)⟩
 |x::t,hl,hp=>by
  have YD:=Ĺ.mp hp;by_cases e:lt x k=true
  ·obtain ⟨B,h1,h2⟩:=vI O hk t (λ y hy=>hl y (Ŀ _ hy)) YD.2;refine ⟨B+1,by simpa using h1,λ i h=>?_⟩;cases i with
   |zero=>simpa using e
   |succ i=>simpa using h2 i (by simpa using h)
  ·refine ⟨0,Ň _,λ i h=>?_⟩;have xk:=hl x `Ó;have kx:lt k x=true:=by rw[O.tot k x hk xk.1 (Ŋ xk.2)];simpa using e
   cases i with
   |zero=>simpa using e
   |succ i=>
    have hi:i<t.length:=by simpa using h
    have ti:=hl t[i] (Ŀ _ (ġ hi));have kt:lt k t[i]=true:=O.tr k x t[i] hk xk.1 ti.1 kx (YD.1 _ (ġ hi));have:lt t[i] k=!lt k t[i]:=O.tot _ _ ti.1 hk ti.2;simp only[List.getElem_cons_succ,this,kt];simp
def Cut.wu{l:`Ö}{k B:Nat}{arr:`Ï}{base:Nat}(hk:k<n)(hl:∀x∈l,x<n/\x≠k)(hB:B<=l.length)(h:∀(i:Nat) (h:i<l.length),lt l[i] k=decide (i<B))(ha:∀(i:Nat) (h:i<l.length),arr[base+i]? =some (ņ it l[i])):Cut lt it n arr base l.length k B:=⟨λ i hi=>⟨l[i],ha i hi,(hl _ (ġ hi)).1,(hl _ (ġ hi)).2,h i hi⟩,hB,hk⟩
noncomputable abbrev Rl(lt:`Ø)(a b:Nat):Prop:=lt a b=true
structure p6(lt:`Ø)(n:Nat)(la lb:`Ö):Prop where
 hn:∀x∈la++lb,x<n
 nd:(la++lb).Nodup
 ua:la.Pairwise (Rl lt)
 ub:lb.Pairwise (Rl lt)
def Good(lt:`Ø)(it:`Ï)(la lb:`Ö)(r:`Ï):Prop:=∃l,r=aV it l/\l.Perm (la++lb)/\l.Pairwise (Rl lt)
def wX:(aV it l).extract i=aV it (l.drop i):=by rw[q9,cK];congr 1;exact Ăd `Ó
def Mg.goX(tr:∀a b c,a∈T->b∈T->c∈T->R a b->R b c->R a c)(h:Mg R o X Y T)(hY:0<Y.length)(k:Nat)(hx:∀(i:Nat) (h:i<X.length),i<k->R X[i] Y[0]):Mg R (o++X.take k) (X.drop k) Y T:=by
 match Y,hY with
 |y::Y',_=>rw[<-ě k X] at h;refine h.step tr λ x hxm=>?_;obtain ⟨i,hi,e⟩:=ę.mp hxm;rw[Ħ] at e;rw[<-e];rw[Ī] at hi;exact hx i `À `À
def Mg.goY(tr:∀a b c,a∈T->b∈T->c∈T->R a b->R b c->R a c)(h:Mg R o X Y T)(hX:0<X.length)(k:Nat)(hy:∀(i:Nat) (h:i<Y.length),i<k->R Y[i] X[0]):Mg R (o++Y.take k) X (Y.drop k) T:=(h.swap.goX tr hX k hy).swap
def take_one{l:`Ö}(h:0<l.length):l.take 1=[l[0]]:=by
 match l,h with
 |x::t,_=>rfl
section
variable{la lb:`Ö}
theorem p6.tr(O:Ord lt n)(T:p6 lt n la lb):∀a b c,a∈la++lb->b∈la++lb->c∈la++lb->Rl lt a b->Rl lt b c->Rl lt a c:=λ a b c ha hb hc h1 h2=>O.tr a b c (T.hn a ha) (T.hn b hb) (T.hn c hc) h1 h2
def p6.ne(T:p6 lt n la lb)(hi:i<la.length)(hj:j<lb.length):la[i]≠lb[j]:=by have:=(Āf.mp T.nd).2.2;exact this _ (ġ hi) _ (ġ hj)
def p6.DE(T:p6 lt n la lb)(hi:i<la.length):la[i]<n:=T.hn _ `Ó
def p6.DC(T:p6 lt n la lb)(hi:i<lb.length):lb[i]<n:=T.hn _ `Ó
structure LI(lt:`Ø)(la lb o:`Ö)(ia ib:Nat):Prop where
 m:Mg (Rl lt) o (la.drop ia) (lb.drop ib) (la++lb)
 ha:ia+1<la.length
 hb:ib<lb.length
def Ao(m:Mg (Rl lt) o (la.drop ia) (lb.drop ib) (la++lb))(h:ib=lb.length):Good lt it la lb (pT (aV it la) (aV it lb) (aV it o) ia ib):=by subst h;unfold pT;rw[wX,wX,jI,jI];rw[List.drop_length] at m ⊢;rw[ŕ];exact ⟨_,rfl,m.fin⟩
def An(hl:∀y∈lb,∀(h:la≠[]),Rl lt y (la.getLast h))(m:Mg (Rl lt) o (la.drop ia) (lb.drop ib) (la++lb))(h:ia+1=la.length):Good lt it la lb (yQ (aV it la) (aV it lb) (aV it o) ia ib):=by
 have e:la.drop ia=[la.getLast (by intro z;rw[z] at h;simp at h)]:=by rw[Ř `À,Ăc (by omega:la.length<=ia+1),Ān];simp only[show la.length- 1=ia by omega]
 unfold yQ;rw[wX,wX,jI,jI,Ċ];rw[e] at m ⊢;exact ⟨_,rfl,m.alY λ y hy=>hl y (ŀ hy) _⟩
def zF{l:`Ö}{i:Nat}(h:i<l.length):(l.drop i)[0]'(by simp;omega)=l[i]:=by simp
def LI.pb(O:Ord lt n)(T:p6 lt n la lb){o:`Ö}{ia ib:Nat}(h:LI lt la lb o ia ib)(c:Rl lt (lb[ib]'h.hb) (la[ia]'(by have:=h.ha;omega))):Mg (Rl lt) (o++[lb[ib]'h.hb]) (la.drop ia) (lb.drop (ib+1)) (la++lb):=by
 have ha:=h.ha;have hb:=h.hb;have:=h.m.goY (T.tr O) (by simp;omega) 1 (λ i hi h1=>by
  have:i=0:=by omega
  subst this;rw[zF hb,zF `À];exact c)
 rw[take_one (by simp;omega),zF hb,ăm] at this;exact this
def LI.pa(O:Ord lt n)(T:p6 lt n la lb){o:`Ö}{ia ib:Nat}(h:LI lt la lb o ia ib)(c:Rl lt (la[ia]'(by have:=h.ha;omega)) (lb[ib]'h.hb)):Mg (Rl lt) (o++[la[ia]'(by have:=h.ha;omega)]) (la.drop (ia+1)) (lb.drop ib) (la++lb):=by
 have ha:=h.ha;have hb:=h.hb;have:=h.m.goX (T.tr O) (by simp;omega) 1 (λ i hi h1=>by
  have:i=0:=by omega
  subst this;rw[zF hb,zF `À];exact c)
 rw[take_one (by simp;omega),zF `À,ăm] at this;exact this
def amO(lt:`Ø)(it:`Ï)(la lb:`Ö)(c0:Nat)(c:adJ):Prop:=(∃r,c.1=some r/\Good lt it la lb r)\/(∃o ia ib ac bc,c=(none,aV it o,ia,ib,ac,bc)/\LI lt la lb o ia ib/\c0+1<=ia+ib)
def amD(O:Ord lt n)(hc:Ff prog w A s κ it lt n)(T:p6 lt n la lb)(hl:∀y∈lb,∀(h:la≠[]),Rl lt y (la.getLast h)){mg g x i c0 ia ib ac bc:Nat}(h:LI lt la lb o ia ib)(hi:c0+i<=ia+ib):
  wpS `È A E s (lo1 (aV it la) (aV it lb) g x (none,aV it o,ia,ib,ac,bc)) (λ r st'=>st'=gR κ a pe mg/\match r with
   | .done c=>amO lt it la lb c0 c
   | .yield c=>∃o ia ib ac bc,c=(none,aV it o,ia,ib,ac,bc)/\LI lt la lb o ia ib/\c0+(i+1)<=ia+ib) (gR κ a pe mg):=by
 have ha:=h.ha;have hb:=h.hb;unfold lo1;dsimp only;refine ċ (eO (cy hb) (ċ (eO (cy (by omega:ia<la.length)) (ċ (V_lt hc (T.DC hb) (T.DE `À) (Ŋ (T.ne `À hb)) ?_)))));cases e:lt lb[ib] la[ia] with
 |true=>
  simp only[if_true];refine ċ (eO (cy hb) ?_);have m:=h.pb O T e;rw[mP,cK];by_cases e1:ib+1=lb.length
  ·rw[if_pos (by simpa using e1)];exact ď ⟨rfl,.inl ⟨_,rfl,Ao m e1⟩⟩
  ·rw[if_neg (by simpa using e1)];have li:LI lt la lb (o++[lb[ib]]) ia (ib+1):=⟨m,ha,by omega⟩;by_cases e2:bc+1>=g
   ·rw[if_pos e2];exact ď ⟨rfl,.inr ⟨_,_,_,_,_,rfl,li,by omega⟩⟩
   ·rw[if_neg e2];exact ď ⟨rfl,_,_,_,_,_,rfl,li,by omega⟩
 |false=>
  simp only[ğ,if_false];have e':Rl lt la[ia] lb[ib]:=by show lt la[ia] lb[ib]=true;rw[O.tot _ _ (T.DE `À) (T.DC hb) (T.ne `À hb),e];rfl
  refine ċ (eO (cy (by omega:ia<la.length)) ?_);have m:=h.pa O T e';rw[mP,cK];by_cases e1:ia+1+1=la.length
  ·rw[if_pos (by simpa using e1)];exact ď ⟨rfl,.inl ⟨_,rfl,An hl m e1⟩⟩
  ·rw[if_neg (by simpa using e1)];have li:LI lt la lb (o++[la[ia]]) (ia+1) ib:=⟨m,by omega,hb⟩;by_cases e2:ac+1>=g
   ·rw[if_pos e2];exact ď ⟨rfl,.inr ⟨_,_,_,_,_,rfl,li,by omega⟩⟩
   ·rw[if_neg e2];exact ď ⟨rfl,_,_,_,_,_,rfl,li,by omega⟩
abbrev Any(κ:SortKind)(a:`Ï)(pe:Array (Nat×Nat×Nat))(st:SortSt):Prop:=∃mg,st=gR κ a pe mg
def amN(lt:`Ø)(it:`Ï)(la lb:`Ö)(c0:Nat)(c:Hw):Prop:=(∃r,c.1=some r/\Good lt it la lb r)\/(∃o ia ib mg ac bc,c=(none,aV it o,ia,ib,mg,ac,bc)/\LI lt la lb o ia ib/\c0<=ia+ib)
def amM(lt:`Ø)(it:`Ï)(la lb:`Ö)(c0:Nat)(c:Hw):Prop:=∃o ia ib mg ac bc,c=(none,aV it o,ia,ib,mg,ac,bc)/\LI lt la lb o ia ib/\c0<=ia+ib
abbrev aiM(lt:`Ø)(it:`Ï)(la lb:`Ö)(c0:Nat)(κ:SortKind)(a:`Ï)(pe:Array (Nat×Nat×Nat))(r:ForInStep Hw)(st':SortSt):Prop:=Any κ a pe st'/\match r with
   | .done c=>amN lt it la lb c0 c
   | .yield c=>amM lt it la lb c0 c
def aaQ(O:Ord lt n)(T:p6 lt n la lb)(hl:∀y∈lb,∀(h:la≠[]),Rl lt y (la.getLast h)){mg g c0 ia ib ac bc:Nat}(h:LI lt la lb o ia ib)(c:Rl lt (la[ia]'(by have:=h.ha;omega)) (lb[ib]'h.hb))(hi:c0<=ia+ib):
  wpS `È A E s (acI (aV it la) (aV it lb) g ac bc (aV it o) ia ib) (aiM lt it la lb c0 κ a pe) (gR κ a pe mg):=by
 have ha:=h.ha;have hb:=h.hb;unfold acI;refine ċ (eO (cy (by omega:ia<la.length)) ?_);have m:=h.pa O T c;rw[mP,cK];by_cases e1:ia+1+1=la.length
 ·rw[if_pos (by simpa using e1)];exact ď ⟨⟨_,rfl⟩,.inl ⟨_,rfl,An hl m e1⟩⟩
 ·rw[if_neg (by simpa using e1)];have li:LI lt la lb (o++[la[ia]]) (ia+1) ib:=⟨m,by omega,hb⟩;split
  ·exact ď ⟨⟨_,rfl⟩,.inr ⟨_,_,_,_,_,_,rfl,li,by omega⟩⟩
  ·exact ď ⟨⟨_,rfl⟩,_,_,_,_,_,_,rfl,li,by omega⟩
def aaR(O:Ord lt n)(hc:Ff prog w A s κ it lt n)(T:p6 lt n la lb)(hl:∀y∈lb,∀(h:la≠[]),Rl lt y (la.getLast h)){a:`Ï}{pe:Array (Nat×Nat×Nat)}{mg g c0 ia ib ac bc:Nat}{o:`Ö}(h:LI lt la lb o ia ib)(c:Rl lt (lb[ib]'h.hb) (la[ia]'(by have:=h.ha;omega)))(hi:c0<=ia+ib):
  wpS `È A E s (acJ (aV it la) (aV it lb) g ac bc (aV it o) ia ib) (aiM lt it la lb c0 κ a pe) (gR κ a pe mg):=by
 have ha:=h.ha;have hb:=h.hb;unfold acJ;refine ċ (eO (cy hb) ?_);have m:=h.pb O T c;rw[mP,cK];by_cases e1:ib+1=lb.length
 ·rw[if_pos (by simpa using e1)];exact ď ⟨⟨_,rfl⟩,.inl ⟨_,rfl,Ao m e1⟩⟩
 ·rw[if_neg (by simpa using e1)];have li:LI lt la lb (o++[lb[ib]]) ia (ib+1):=⟨m,ha,by omega⟩;refine ċ (eO (cy (by omega:ia<la.length)) ?_);have kn:=T.DE (i:=ia) `À;have hD:∀x∈lb.drop (ib+1),x<n/\x≠la[ia]:=λ x hx=>by have hx':=ŀ hx;refine ⟨T.hn x (by simp[hx']),λ z=>?_⟩;obtain ⟨j,hj,e⟩:=ę.mp hx';exact T.ne (by omega:ia<la.length) hj (by rw[e,z])
  obtain ⟨B,hB,qw⟩:=vI O kn (lb.drop (ib+1)) hD (T.ub.sublist (Ăe _ _));have C:Cut lt it n (aV it lb) (ib+1) (lb.drop (ib+1)).length la[ia] B:=Cut.wu kn hD hB qw λ i h=>by rw[cy (by simp at h;omega)];simp
  rw[ŝ] at C hB;refine ċ (qI O hc C `À ?_);dsimp only;have m2:=li.m.goY (T.tr O) (by simp;omega) B λ i h1 h2=>by rw[zF (by omega:ia<la.length)];show lt _ _=true;rw[qw i h1];simpa using h2
  rw[ăm] at m2;by_cases e2:B>0
  ·rw[if_pos e2,q9,jI,Āo];by_cases e3:ib+1+B=lb.length
   ·rw[if_pos (by simpa using e3)];exact ď ⟨⟨_,rfl⟩,.inl ⟨_,rfl,Ao m2 e3⟩⟩
   ·rw[if_neg (by simpa using e3)];have Uw:LI lt la lb (o++[lb[ib]]++(lb.drop (ib+1)).take B) ia (ib+1+B):=⟨m2,ha,by omega⟩;refine aaQ O T hl Uw ?_ `À;have:=qw B (by simp;omega);simp only[œ,Ŏ,decide_false] at this;show lt _ _=true;rw[O.tot _ _ kn (T.DC `À) (T.ne `À `À),this];rfl
  ·rw[if_neg e2];have:B=0:=by omega
   subst this;refine aaQ O T hl li ?_ `À;have:=qw 0 (by simp;omega);simp only[œ,Ŏ,decide_false,Nat.add_zero] at this;show lt _ _=true;rw[O.tot _ _ kn (T.DC `À) (T.ne `À `À),this];rfl
def aaS(O:Ord lt n)(hc:Ff prog w A s κ it lt n)(T:p6 lt n la lb)(hl:∀y∈lb,∀(h:la≠[]),Rl lt y (la.getLast h)){a:`Ï}{pe:Array (Nat×Nat×Nat)}{mg g c0 ia ib ac bc:Nat}{o:`Ö}(h:LI lt la lb o ia ib)(hi:c0<=ia+ib):
  wpS `È A E s (acK (aV it la) (aV it lb) ac bc (aV it o) ia ib g) (aiM lt it la lb c0 κ a pe) (gR κ a pe mg):=by
 have ha:=h.ha;have hb:=h.hb;unfold acK;refine ċ (adE (ċ (eO (cy hb) ?_)));have kn:=T.DC (i:=ib) hb;have hD:∀x∈la.drop ia,x<n/\x≠lb[ib]:=λ x hx=>by have hx':=ŀ hx;refine ⟨T.hn x (by simp[hx']),λ z=>?_⟩;obtain ⟨j,hj,e⟩:=ę.mp hx';exact T.ne hj hb (by rw[e,z])
 obtain ⟨B,hB,qw⟩:=vI O kn (la.drop ia) hD (T.ua.sublist (Ăe _ _));have C:Cut lt it n (aV it la) ia (la.drop ia).length lb[ib] B:=Cut.wu kn hD hB qw λ i h=>by rw[cy (by simp at h;omega)];simp
 rw[ŝ] at C hB;rw[cK];refine ċ (qI O hc C `À ?_);dsimp only;have YF:=qw (la.length- 1- ia) (by simp;omega);simp only[œ] at YF;have hB2:B<la.length- ia:=by
  have ne:la≠[]:=by intro z;rw[z] at ha;simp at ha
  have h1:=hl lb[ib] (ġ hb) ne;rw[Ān] at h1;have h2:lt la[ia+(la.length- 1- ia)] lb[ib]=false:=by
   rw[O.tot _ _ (T.DE `À) kn (T.ne `À hb)];have:ia+(la.length- 1- ia)=la.length- 1:=by omega
   simp only[this];rw[show lt lb[ib] la[la.length- 1]=true from h1];rfl
  rw[h2] at YF;have:=(decide_eq_false_iff_not.mp YF.symm);omega
 have m2:=h.m.goX (T.tr O) (by simp;omega) B λ i h1 h2=>by rw[zF hb];show lt _ _=true;rw[qw i h1];simpa using h2
 rw[ăm] at m2;have nx:=qw B (by simp;omega);simp only[œ,Ŏ,decide_false] at nx;have nx':Rl lt lb[ib] (la[ia+B]'`À):=by show lt _ _=true;rw[O.tot _ _ kn (T.DE `À) (Ŋ (T.ne `À hb)),nx];rfl
 by_cases e2:B>0
 ·rw[if_pos e2,q9,jI,Āo];by_cases e3:ia+B+1=la.length
  ·rw[if_pos (by simpa using e3)];exact ď ⟨⟨_,rfl⟩,.inl ⟨_,rfl,An hl m2 e3⟩⟩
  ·rw[if_neg (by simpa using e3),if_neg (by simp;omega)];exact aaR O hc T hl (⟨m2,by omega,hb⟩:LI lt la lb (o++(la.drop ia).take B) (ia+B) ib) nx' `À
 ·rw[if_neg e2];have:B=0:=by omega
  subst this;exact aaR O hc T hl h nx' `À
def aqd(O:Ord lt n)(hc:Ff prog w A s κ it lt n)(T:p6 lt n la lb)(hl:∀y∈lb,∀(h:la≠[]),Rl lt y (la.getLast h))(h1:0<la.length)(h2:0<lb.length)(hf:Rl lt lb[0] la[0]){a:`Ï}{pe:Array (Nat×Nat×Nat)}{mg:Nat}:
  wpS `È A E s (BU (aV it la) (aV it lb)) (λ r st'=>Any κ a pe st'/\Good lt it la lb r) (gR κ a pe mg):=by
 unfold BU;refine ċ (zj (ċ (eO (cy h2) ?_)));have m0:Mg (Rl lt) [] la lb (la++lb):=⟨Āp _,List.Pairwise.nil,λ _ h=>(nomatch h),T.ua,T.ub⟩;have m:=m0.goY (T.tr O) h1 1 (λ i hi h=>by
  have:i=0:=by omega
  subst this;exact hf)
 rw[take_one h2,Ŧ] at m;rw[R6,cK,cK];have md:Mg (Rl lt) [lb[0]] (la.drop 0) (lb.drop 1) (la++lb):=by rw[List.drop_zero];exact m
 by_cases e1:1=lb.length
 ·rw[if_pos (by simpa using e1)];exact ď ⟨⟨_,rfl⟩,Ao md e1⟩
 ·rw[if_neg (by simpa using e1)];by_cases e2:0+1=la.length
  ·rw[if_pos (by simpa using e2)];exact ď ⟨⟨_,rfl⟩,An hl md e2⟩
  ·rw[if_neg (by simpa using e2)];refine ċ (ăf ?_);refine ċ (Ł (λ i c st=>Any κ a pe st/\∃o ia ib g,c=(none,aV it o,ia,ib,g)/\LI lt la lb o ia ib/\1+i<=ia+ib) ?_ ?_ ⟨⟨_,rfl⟩,_,_,_,_,rfl,⟨md,by omega,by omega⟩,by omega⟩)
   ·rintro i c st _ hi ⟨⟨mg,rfl⟩,o,ia,ib,g,rfl,li,hp⟩
    unfold lo0;rw[cK,cK];refine ċ (ś (Ł (λ i c st=>st=gR κ a pe mg/\∃o' ia' ib' ac bc,c=(none,aV it o',ia',ib',ac,bc)/\LI lt la lb o' ia' ib'/\(ia+ib)+i<=ia'+ib') (Q:=λ c st=>st=gR κ a pe mg/\amO lt it la lb (ia+ib) c) ?_ ?_ ⟨rfl,_,_,_,_,_,rfl,li,by dsimp only;omega⟩) ?_)
    ·rintro j c st _ hj ⟨rfl,o',ia',ib',ac,bc,rfl,XU,YD⟩
     refine ś (amD O hc T hl XU YD) λ r st' hr=>?_;obtain ⟨hr1,hr2⟩:=hr;cases r with
     |done c=>exact ⟨hr1,hr2⟩
     |yield c=>exact ⟨hr1,hr2⟩
    ·rintro c st ⟨rfl,o',ia',ib',ac,bc,rfl,XU,YD⟩
     have:=Ņ 0 (la.length+lb.length);exact ⟨rfl,.inr ⟨_,_,_,_,_,rfl,XU,by omega⟩⟩
    ·rintro c st ⟨rfl,hd⟩
     rcases hd with ⟨r,hr,gd⟩|⟨o',ia',ib',ac,bc,rfl,XU,YD⟩
     ·obtain ⟨c1,c2⟩:=c;simp only at hr;subst hr;exact ď (ď ⟨⟨_,rfl⟩,gd⟩)
     ·refine ċ (zj ?_);refine ċ (ś (Ł (λ i c st=>Any κ a pe st/\amM lt it la lb (ia+ib+1) c) (Q:=λ c st=>Any κ a pe st/\amN lt it la lb (ia+ib+1) c) ?_ ?_ ⟨⟨_,rfl⟩,_,_,_,_,_,_,rfl,XU,YD⟩) ?_)
      ·rintro j c st _ hj ⟨⟨mg,rfl⟩,o2,ia2,ib2,g2,ac2,bc2,rfl,Uw,hp2⟩
       unfold lo2;dsimp only;split
       ·refine ś (aaS O hc T hl Uw hp2) λ r st' hr=>?_;obtain ⟨hr1,hr2⟩:=hr;cases r with
        |done c=>exact ⟨hr1,hr2⟩
        |yield c=>exact ⟨hr1,hr2⟩
       ·refine ś (aaS O hc T hl Uw hp2) λ r st' hr=>?_;obtain ⟨hr1,hr2⟩:=hr;cases r with
        |done c=>exact ⟨hr1,hr2⟩
        |yield c=>exact ⟨hr1,hr2⟩
      ·rintro c st ⟨hs,hy⟩
       exact ⟨hs,.inr hy⟩
      ·rintro c st ⟨⟨mg,rfl⟩,hd⟩
       rcases hd with ⟨r,hr,gd⟩|⟨o2,ia2,ib2,g2,ac2,bc2,rfl,Uw,hp2⟩
       ·obtain ⟨c1,c2⟩:=c;simp only at hr;subst hr;exact ď (ď ⟨⟨_,rfl⟩,gd⟩)
       ·refine ċ (adE (ď ⟨⟨_,rfl⟩,_,_,_,_,rfl,Uw,by dsimp only;omega⟩))
   ·rintro c st ⟨_,o,ia,ib,g,rfl,li,hp⟩
    have:=Ņ 0 (la.length+lb.length);have ha:=li.ha;have hb:=li.hb;exfalso;omega
end
end
section
variable{prog:Program}{w:World}{A:Around}{E:`Ã}{s:Shared}{κ:SortKind}{it:`Ï}{lt:`Ø}{n:Nat}
noncomputable abbrev Rg(lt:`Ø)(a b:Nat):Prop:=lt b a=true
noncomputable abbrev tr(l:`Ö)(k:Nat):List Nat:=(l.take k).reverse
def n9(h:k<=l.length):(tr l k).length=k:=by simp;omega
def lC(h:k<=l.length)(hi:i<k):(tr l k)[i]'(by rw[n9 h];exact hi)=l[k- 1- i]'(by omega):=by simp only[tr,List.getElem_reverse,Ī,Ħ,ŗ h]
def Rn(h:k<=l.length)(hB:B<=k):(tr l k).take (k- B)=((l.drop B).take (k- B)).reverse:=by rw[tr,List.take_reverse,Ī,ŗ h,show k-(k- B)=B by omega,List.drop_take]
def vP(h:k<=l.length)(hB:B<=k):(tr l k).drop (k- B)=tr l B:=by rw[tr,List.drop_reverse,Ī,ŗ h,show k-(k- B)=B by omega,Ąw,ŗ hB]
section
variable{la lb:`Ö}
def p6.tr'(O:Ord lt n)(T:p6 lt n la lb):∀a b c,a∈la++lb->b∈la++lb->c∈la++lb->Rg lt a b->Rg lt b c->Rg lt a c:=λ a b c ha hb hc h1 h2=>O.tr c b a (T.hn c hc) (T.hn b hb) (T.hn a ha) h2 h1
structure HI(lt:`Ø)(la lb o:`Ö)(na nb:Nat):Prop where
 m:Mg (Rg lt) o (tr la na) (tr lb nb) (la++lb)
 a1:1<=na
 a2:na<=la.length
 b1:2<=nb
 b2:nb<=lb.length
def wY:(aV it l).extract 0 k=aV it (l.take k):=by rw[q9];rfl
def Io{l:`Ö}(h:l.Perm (la++lb)/\l.Pairwise (Rg lt)):l.reverse.Perm (la++lb)/\l.reverse.Pairwise (Rl lt):=⟨(Ăf l).trans h.1,Ăm.mpr h.2⟩
def Av{o:`Ö}{na nb:Nat}(h0:na=0)(m:Mg (Rg lt) o (tr la na) (tr lb nb) (la++lb)):Good lt it la lb (pW (aV it la) (aV it lb) (aV it o) na nb):=by subst h0;unfold pW;rw[wY,wY,Ar,jI,jI];have h:=Io (m.swap.fin);simp only[tr,List.reverse_append,List.reverse_reverse] at h;exact ⟨_,rfl,by simpa using h⟩
def xx{o:`Ö}{na nb:Nat}(hf:∀(h:0<lb.length),∀x∈la,Rl lt lb[0] x)(hb:0<lb.length)(h0:nb=1)(m:Mg (Rg lt) o (tr la na) (tr lb nb) (la++lb)):Good lt it la lb (uf (aV it la) (aV it lb) (aV it o) na nb):=by subst h0;unfold uf;rw[wY,wY,Ar,jI,jI];have e:lb.take 1=[lb[0]]:=take_one hb;have m':=m.swap;simp only[tr,e,List.reverse_singleton] at m';have h:=Io (m'.alY λ y hy=>hf hb y (š (List.mem_reverse.mp hy)));simp only[List.reverse_append,List.reverse_reverse,List.reverse_singleton] at h;rw[e];exact ⟨_,rfl,h⟩
def HI.pa(O:Ord lt n)(T:p6 lt n la lb){na nb:Nat}(h:HI lt la lb o na nb)(c:Rl lt (lb[nb- 1]'(by have:=h.b1;have:=h.b2;omega)) (la[na- 1]'(by have:=h.a1;have:=h.a2;omega))):Mg (Rg lt) (o++[la[na- 1]'(by have:=h.a1;have:=h.a2;omega)]) (tr la (na- 1)) (tr lb nb) (la++lb):=by
 have a1:=h.a1;have a2:=h.a2;have b1:=h.b1;have b2:=h.b2;have hb:0<(tr lb nb).length:=by rw[n9 b2];omega
 have hx:0<(tr la na).length:=by rw[n9 a2];omega
 have:=h.m.goX (T.tr' O) hb 1 (λ i hi h1=>by
  have:i=0:=by omega
  subst this;rw[lC b2 `À,lC a2 `À];exact c)
 rw[take_one hx,lC a2 `À] at this;have e:=vP (l:=la) (k:=na) (B:=na- 1) a2 `À;rw[show na-(na- 1)=1 by omega] at e;rw[e] at this;exact this
def HI.pb(O:Ord lt n)(T:p6 lt n la lb){na nb:Nat}(h:HI lt la lb o na nb)(c:Rl lt (la[na- 1]'(by have:=h.a1;have:=h.a2;omega)) (lb[nb- 1]'(by have:=h.b1;have:=h.b2;omega))):Mg (Rg lt) (o++[lb[nb- 1]'(by have:=h.b1;have:=h.b2;omega)]) (tr la na) (tr lb (nb- 1)) (la++lb):=by
 have a1:=h.a1;have a2:=h.a2;have b1:=h.b1;have b2:=h.b2;have hb:0<(tr lb nb).length:=by rw[n9 b2];omega
 have hx:0<(tr la na).length:=by rw[n9 a2];omega
 have:=h.m.goY (T.tr' O) hx 1 (λ i hi h1=>by
  have:i=0:=by omega
  subst this;rw[lC b2 `À,lC a2 `À];exact c)
 rw[take_one hb,lC b2 `À] at this;have e:=vP (l:=lb) (k:=nb) (B:=nb- 1) b2 `À;rw[show nb-(nb- 1)=1 by omega] at e;rw[e] at this;exact this
def amT(lt:`Ø)(it:`Ï)(la lb:`Ö)(c0:Nat)(c:adN):Prop:=(∃r,c.1=some r/\Good lt it la lb r)\/(∃o na nb ac bc,c=(none,na,nb,aV it o,ac,bc)/\HI lt la lb o na nb/\na+nb+1<=c0)
def amG(O:Ord lt n)(hc:Ff prog w A s κ it lt n)(T:p6 lt n la lb)(hf:∀(h:0<lb.length),∀x∈la,Rl lt lb[0] x){mg g x i c0 na nb ac bc:Nat}(h:HI lt la lb o na nb)(hi:na+nb+i<=c0):
  wpS `È A E s (hi1 (aV it la) (aV it lb) g x (none,na,nb,aV it o,ac,bc)) (λ r st'=>st'=gR κ a pe mg/\match r with
   | .done c=>amT lt it la lb c0 c
   | .yield c=>∃o na nb ac bc,c=(none,na,nb,aV it o,ac,bc)/\HI lt la lb o na nb/\na+nb+(i+1)<=c0) (gR κ a pe mg):=by
 have a1:=h.a1;have a2:=h.a2;have b1:=h.b1;have b2:=h.b2;have ha:na- 1<la.length:=by omega
 have hb:nb- 1<lb.length:=by omega
 unfold hi1;dsimp only;refine ċ (eO (cy hb) (ċ (eO (cy ha) (ċ (V_lt hc (T.DC hb) (T.DE ha) (Ŋ (T.ne ha hb)) ?_)))));cases e:lt lb[nb- 1] la[na- 1] with
 |true=>
  simp only[if_true];refine ċ (eO (cy ha) ?_);have m:=h.pa O T e;rw[mP];by_cases e1:na- 1=0
  ·rw[if_pos (by simpa using e1)];exact ď ⟨rfl,.inl ⟨_,rfl,Av e1 m⟩⟩
  ·rw[if_neg (by simpa using e1)];have li:HI lt la lb (o++[la[na- 1]]) (na- 1) nb:=⟨m,by omega,by omega,b1,b2⟩;by_cases e2:ac+1>=g
   ·rw[if_pos e2];exact ď ⟨rfl,.inr ⟨_,_,_,_,_,rfl,li,by omega⟩⟩
   ·rw[if_neg e2];exact ď ⟨rfl,_,_,_,_,_,rfl,li,by omega⟩
 |false=>
  simp only[ğ,if_false];have e':Rl lt la[na- 1] lb[nb- 1]:=by show lt la[na- 1] lb[nb- 1]=true;rw[O.tot _ _ (T.DE ha) (T.DC hb) (T.ne ha hb),e];rfl
  refine ċ (eO (cy hb) ?_);have m:=h.pb O T e';rw[mP];by_cases e1:nb- 1=1
  ·rw[if_pos (by simpa using e1)];exact ď ⟨rfl,.inl ⟨_,rfl,xx hf `À e1 m⟩⟩
  ·rw[if_neg (by simpa using e1)];have li:HI lt la lb (o++[lb[nb- 1]]) na (nb- 1):=⟨m,a1,a2,by omega,by omega⟩;by_cases e2:bc+1>=g
   ·rw[if_pos e2];exact ď ⟨rfl,.inr ⟨_,_,_,_,_,rfl,li,by omega⟩⟩
   ·rw[if_neg e2];exact ď ⟨rfl,_,_,_,_,_,rfl,li,by omega⟩
def amS(lt:`Ø)(it:`Ï)(la lb:`Ö)(c0:Nat)(c:Hz):Prop:=(∃r,c.1=some r/\Good lt it la lb r)\/(∃o na nb mg ac bc,c=(none,na,nb,aV it o,mg,ac,bc)/\HI lt la lb o na nb/\na+nb<=c0)
def amR(lt:`Ø)(it:`Ï)(la lb:`Ö)(c0:Nat)(c:Hz):Prop:=∃o na nb mg ac bc,c=(none,na,nb,aV it o,mg,ac,bc)/\HI lt la lb o na nb/\na+nb<=c0
abbrev aiP(lt:`Ø)(it:`Ï)(la lb:`Ö)(c0:Nat)(κ:SortKind)(a:`Ï)(pe:Array (Nat×Nat×Nat))(r:ForInStep Hz)(st':SortSt):Prop:=Any κ a pe st'/\match r with
   | .done c=>amS lt it la lb c0 c
   | .yield c=>amR lt it la lb c0 c
def aaT(O:Ord lt n)(T:p6 lt n la lb){mg g c0 na nb ac bc:Nat}(h:HI lt la lb o na nb)(c:Rl lt (lb[nb- 1]'(by have:=h.b1;have:=h.b2;omega)) (la[na- 1]'(by have:=h.a1;have:=h.a2;omega)))(hi:na+nb<=c0):
  wpS `È A E s (ac9 (aV it la) (aV it lb) g ac bc na nb (aV it o)) (aiP lt it la lb c0 κ a pe) (gR κ a pe mg):=by
 have a1:=h.a1;have a2:=h.a2;have b1:=h.b1;have b2:=h.b2;have ha:na- 1<la.length:=by omega
 unfold ac9;refine ċ (eO (cy ha) ?_);have m:=h.pa O T c;rw[mP];by_cases e1:na- 1=0
 ·rw[if_pos (by simpa using e1)];exact ď ⟨⟨_,rfl⟩,.inl ⟨_,rfl,Av e1 m⟩⟩
 ·rw[if_neg (by simpa using e1)];have li:HI lt la lb (o++[la[na- 1]]) (na- 1) nb:=⟨m,by omega,by omega,b1,b2⟩;split
  ·exact ď ⟨⟨_,rfl⟩,.inr ⟨_,_,_,_,_,_,rfl,li,by omega⟩⟩
  ·exact ď ⟨⟨_,rfl⟩,_,_,_,_,_,_,rfl,li,by omega⟩
def JG(O:Ord lt n)(hk:k<n)(hN:N<=l.length)(hl:∀x∈l,x<n/\x≠k)(hp:l.Pairwise (Rl lt)):∃B,Cut lt it n (aV it l) 0 N k B/\B<=N/\∀(i:Nat) (h:i<N),lt (l[i]'`À) k=decide (i<B):=by
 have hl':∀x∈l.take N,x<n/\x≠k:=λ x hx=>hl x (š hx);obtain ⟨B,hB,qw⟩:=vI O hk (l.take N) hl' (hp.sublist (āz _ _));have C:Cut lt it n (aV it l) 0 (l.take N).length k B:=Cut.wu hk hl' hB qw λ i h=>by rw[Ąn,cy (by simp at h;omega),Ħ]
 rw[Ī,ŗ hN] at C hB;refine ⟨B,C,hB,λ i h=>?_⟩;have:=qw i (by simp;omega);rwa [Ħ] at this
def aaU(O:Ord lt n)(hc:Ff prog w A s κ it lt n)(T:p6 lt n la lb)(hf:∀(h:0<lb.length),∀x∈la,Rl lt lb[0] x){mg g c0 na nb ac bc:Nat}(h:HI lt la lb o na nb)(c:Rl lt (la[na- 1]'(by have:=h.a1;have:=h.a2;omega)) (lb[nb- 1]'(by have:=h.b1;have:=h.b2;omega)))(hi:na+nb<=c0):
  wpS `È A E s (ada (aV it la) (aV it lb) g ac bc na nb (aV it o)) (aiP lt it la lb c0 κ a pe) (gR κ a pe mg):=by
 have a1:=h.a1;have a2:=h.a2;have b1:=h.b1;have b2:=h.b2;have ha:na- 1<la.length:=by omega
 have hb:nb- 1<lb.length:=by omega
 unfold ada;refine ċ (eO (cy hb) ?_);have m:=h.pb O T c;rw[mP];by_cases e1:nb- 1=1
 ·rw[if_pos (by simpa using e1)];exact ď ⟨⟨_,rfl⟩,.inl ⟨_,rfl,xx hf `À e1 m⟩⟩
 ·rw[if_neg (by simpa using e1)];have li:HI lt la lb (o++[lb[nb- 1]]) na (nb- 1):=⟨m,a1,a2,by omega,by omega⟩;refine ċ (eO (cy ha) ?_);have kn:=T.DE ha;have hD:∀x∈lb,x<n/\x≠la[na- 1]:=λ x hx=>by refine ⟨T.hn x (by simp[hx]),λ z=>?_⟩;obtain ⟨j,hj,e⟩:=ę.mp hx;exact T.ne ha hj (by rw[e,z])
  obtain ⟨B,C,hB,qw⟩:=JG (it:=it) O kn (by omega:nb- 1<=lb.length) hD T.ub;refine ċ (qI O hc C `À ?_);dsimp only;have B1:1<=B:=by have h0:=qw 0 `À;rw[show lt lb[0] la[na- 1]=true from hf `À _ (ġ ha)] at h0;have:=of_decide_eq_true h0.symm;omega
  have hx:0<(tr la na).length:=by rw[n9 a2];omega
  have m2:=li.m.goY (T.tr' O) hx (nb- 1- B) λ i h1 h2=>by rw[n9 `À] at h1;rw[lC `À h1,lC a2 `À];show lt la[na- 1- 0] _=true;have:=qw (nb- 1- 1- i) `À;simp only[ąp];rw[O.tot _ _ kn (T.DC `À) (T.ne ha `À),this];simp;omega
  rw[Rn `À hB,vP `À hB] at m2;have nx:Rl lt (lb[B- 1]'`À) la[na- 1]:=by show lt _ _=true;rw[qw (B- 1) `À];simp;omega
  by_cases e2:nb- 1- B>0
  ·rw[if_pos e2,q9,Ar,jI];by_cases e3:B=1
   ·rw[if_pos (by simpa using e3)];exact ď ⟨⟨_,rfl⟩,.inl ⟨_,rfl,xx hf `À e3 m2⟩⟩
   ·rw[if_neg (by simpa using e3),if_neg (by simp;omega)];have Uw:HI lt la lb (o++[lb[nb- 1]]++((lb.drop B).take (nb- 1- B)).reverse) na B:=⟨m2,a1,a2,by omega,by omega⟩;exact aaT O T Uw nx `À
  ·rw[if_neg e2];have eB:B=nb- 1:=by omega
   subst eB;exact aaT O T li nx `À
def aaV(O:Ord lt n)(hc:Ff prog w A s κ it lt n)(T:p6 lt n la lb)(hf:∀(h:0<lb.length),∀x∈la,Rl lt lb[0] x){mg g c0 na nb ac bc:Nat}(h:HI lt la lb o na nb)(hi:na+nb<=c0):
  wpS `È A E s (adb (aV it la) (aV it lb) ac bc na nb (aV it o) g) (aiP lt it la lb c0 κ a pe) (gR κ a pe mg):=by
 have a1:=h.a1;have a2:=h.a2;have b1:=h.b1;have b2:=h.b2;have ha:na- 1<la.length:=by omega
 have hb:nb- 1<lb.length:=by omega
 unfold adb;refine ċ (adE (ċ (eO (cy hb) ?_)));have kn:=T.DC hb;have hD:∀x∈la,x<n/\x≠lb[nb- 1]:=λ x hx=>by refine ⟨T.hn x (by simp[hx]),λ z=>?_⟩;obtain ⟨j,hj,e⟩:=ę.mp hx;exact T.ne hj hb (by rw[e,z])
 obtain ⟨B,C,hB,qw⟩:=JG (it:=it) O kn a2 hD T.ua;refine ċ (qI O hc C `À ?_);dsimp only;have hy:0<(tr lb nb).length:=by rw[n9 b2];omega
 have m2:=h.m.goX (T.tr' O) hy (na- B) λ i h1 h2=>by rw[n9 a2] at h1;rw[lC a2 h1,lC b2 `À];show lt lb[nb- 1- 0] _=true;have:=qw (na- 1- i) `À;simp only[ąp];rw[O.tot _ _ kn (T.DE `À) (Ŋ (T.ne `À hb)),this];simp;omega
 rw[Rn a2 hB,vP a2 hB] at m2;by_cases e2:na- B>0
 ·rw[if_pos e2,q9,Ar,jI];by_cases e3:B=0
  ·rw[if_pos (by simpa using e3)];exact ď ⟨⟨_,rfl⟩,.inl ⟨_,rfl,Av e3 m2⟩⟩
  ·rw[if_neg (by simpa using e3)];refine aaU O hc T hf (⟨m2,by omega,by omega,b1,b2⟩:HI lt la lb (o++((la.drop B).take (na- B)).reverse) B nb) ?_ `À;show lt _ _=true;rw[qw (B- 1) `À];simp;omega
 ·rw[if_neg e2];have eB:B=na:=by omega
  subst eB;refine aaU O hc T hf h ?_ `À;show lt _ _=true;rw[qw (B- 1) `À];simp;omega
def aqf(O:Ord lt n)(hc:Ff prog w A s κ it lt n)(T:p6 lt n la lb)(hl:∀y∈lb,∀(h:la≠[]),Rl lt y (la.getLast h))(h1:0<la.length)(h2:0<lb.length)(hf:∀(h:0<lb.length),∀x∈la,Rl lt lb[0] x):
  wpS `È A E s (BV (aV it la) (aV it lb)) (λ r st'=>Any κ a pe st'/\Good lt it la lb r) (gR κ a pe mg):=by
 unfold BV;rw[cK,cK];have ha:la.length- 1<la.length:=by omega
 refine ċ (zj (ċ (eO (cy ha) ?_)));have m0:Mg (Rg lt) [] (tr la la.length) (tr lb lb.length) (la++lb):=by
  refine ⟨?_,List.Pairwise.nil,λ _ h=>(nomatch h),?_,?_⟩
  ·simp only[tr,Ąe,Ŧ];exact List.Perm.append (Ăf _) (Ăf _)
  ·simp only[tr,Ąe];exact Ăm.mpr T.ua
  ·simp only[tr,Ąe];exact Ăm.mpr T.ub
 have hy:0<(tr lb lb.length).length:=by rw[n9 (Ĉ _)];omega
 have hx:0<(tr la la.length).length:=by rw[n9 (Ĉ _)];omega
 have m:=m0.goX (T.tr' O) hy 1 (λ i hi h=>by
  have:i=0:=by omega
  subst this;rw[lC (Ĉ _) `À,lC (Ĉ _) `À];have:=hl (lb[lb.length- 1]'`À) (ġ _) (by intro z;rw[z] at h1;simp at h1);rw[Ān] at this;exact this)
 rw[take_one hx,lC (Ĉ _) `À,Ŧ] at m;have e:=vP (l:=la) (k:=la.length) (B:=la.length- 1) (Ĉ _) `À;rw[show la.length-(la.length- 1)=1 by omega] at e;rw[e] at m;simp only[ąp] at m;rw[R6];by_cases e1:la.length- 1=0
 ·rw[if_pos (by simpa using e1)];exact ď ⟨⟨_,rfl⟩,Av e1 m⟩
 ·rw[if_neg (by simpa using e1)];by_cases e2:lb.length=1
  ·rw[if_pos (by simpa using e2)];exact ď ⟨⟨_,rfl⟩,xx hf `À e2 m⟩
  ·rw[if_neg (by simpa using e2)];refine ċ (ăf ?_);refine ċ (Ł (λ i c st=>Any κ a pe st/\∃o na nb g,c=(none,na,nb,aV it o,g)/\HI lt la lb o na nb/\na+nb+1+i<=la.length+lb.length) ?_ ?_ ⟨⟨_,rfl⟩,_,_,_,_,rfl,⟨m,by omega,by omega,by omega,by omega⟩,by omega⟩)
   ·rintro i c st _ hi ⟨⟨mg,rfl⟩,o,na,nb,g,rfl,li,hp⟩
    unfold hi0;rw[cK,cK];refine ċ (ś (Ł (λ i c st=>st=gR κ a pe mg/\∃o' na' nb' ac bc,c=(none,na',nb',aV it o',ac,bc)/\HI lt la lb o' na' nb'/\na'+nb'+i<=na+nb) (Q:=λ c st=>st=gR κ a pe mg/\amT lt it la lb (na+nb) c) ?_ ?_ ⟨rfl,_,_,_,_,_,rfl,li,by dsimp only;omega⟩) ?_)
    ·rintro j c st _ hj ⟨rfl,o',na',nb',ac,bc,rfl,XU,YD⟩
     refine ś (amG O hc T hf XU YD) λ r st' hr=>?_;obtain ⟨hr1,hr2⟩:=hr;cases r with
     |done c=>exact ⟨hr1,hr2⟩
     |yield c=>exact ⟨hr1,hr2⟩
    ·rintro c st ⟨rfl,o',na',nb',ac,bc,rfl,XU,YD⟩
     have:=Ņ 0 (la.length+lb.length);exact ⟨rfl,.inr ⟨_,_,_,_,_,rfl,XU,by omega⟩⟩
    ·rintro c st ⟨rfl,hd⟩
     rcases hd with ⟨r,hr,gd⟩|⟨o',na',nb',ac,bc,rfl,XU,YD⟩
     ·obtain ⟨c1,c2⟩:=c;simp only at hr;subst hr;exact ď (ď ⟨⟨_,rfl⟩,gd⟩)
     ·refine ċ (zj ?_);refine ċ (ś (Ł (λ i c st=>Any κ a pe st/\amR lt it la lb (na+nb- 1) c) (Q:=λ c st=>Any κ a pe st/\amS lt it la lb (na+nb- 1) c) ?_ ?_ ⟨⟨_,rfl⟩,_,_,_,_,_,_,rfl,XU,by dsimp only;omega⟩) ?_)
      ·rintro j c st _ hj ⟨⟨mg,rfl⟩,o2,na2,nb2,g2,ac2,bc2,rfl,Uw,hp2⟩
       unfold hi2;dsimp only;split
       ·refine ś (aaV O hc T hf Uw hp2) λ r st' hr=>?_;obtain ⟨hr1,hr2⟩:=hr;cases r with
        |done c=>exact ⟨hr1,hr2⟩
        |yield c=>exact ⟨hr1,hr2⟩
       ·refine ś (aaV O hc T hf Uw hp2) λ r st' hr=>?_;obtain ⟨hr1,hr2⟩:=hr;cases r with
        |done c=>exact ⟨hr1,hr2⟩
        |yield c=>exact ⟨hr1,hr2⟩
      ·rintro c st ⟨hs,hy⟩
       exact ⟨hs,.inr hy⟩
      ·rintro c st ⟨⟨mg,rfl⟩,hd⟩
       rcases hd with ⟨r,hr,gd⟩|⟨o2,na2,nb2,g2,ac2,bc2,rfl,Uw,hp2⟩
       ·obtain ⟨c1,c2⟩:=c;simp only at hr;subst hr;exact ď (ď ⟨⟨_,rfl⟩,gd⟩)
       ·have:=li.a1;refine ċ (adE (ď ⟨⟨_,rfl⟩,_,_,_,_,rfl,Uw,by dsimp only;omega⟩))
   ·rintro c st ⟨_,o,na,nb,g,rfl,li,hp⟩
    have:=Ņ 0 (la.length+lb.length);exfalso;omega
end
end
section
variable{prog:Program}{w:World}{A:Around}{E:`Ã}{s:Shared}{κ:SortKind}{it:`Ï}{lt:`Ø}{n:Nat}
def abg{M:Model}{σ:Type}{x:σ}{Q:PUnit->σ->Prop}{st:σ}(q:Q ⟨⟩ x):wpS M A E s (set x) Q st:=ăl (f:=λ _=>x) q
theorem XZ:∀(l:List Keyed) (k sa:Nat) (X Y Z:List Keyed) (arr:`Ï),arr.toList=X++Y++Z->X.length=sa+k->Y.length=l.length->(ąg (λ(a:`Ï) (x:Keyed×Nat)=>match x with|(p,j)=>a.setIfInBounds (sa+j) p) arr (l.zipIdx k)).toList=X++l++Z
 |[],k,sa,X,Y,Z,arr,h,hX,hY=>by have:Y=[]:=Š hY;subst this;simpa using h
 |p::l,k,sa,X,Y,Z,arr,h,hX,hY=>by
  match Y,hY with
  |y::Y',hY=>rw[List.zipIdx_cons,List.foldl_cons];have:=XZ l (k+1) sa (X++[p]) Y' Z (arr.setIfInBounds (sa+k) p) (by rw[Array.toList_setIfInBounds,h, <-hX];simp[Ąs]) (by simp;omega) (by simpa using hY);dsimp only;rw[this];simp
def amE{lp ls lm lq:`Ö}{Q:Bool->SortSt->Prop}(hp:lp.length=sa)(hl:ls.length=lm.length)(q:Q true (gR κ (aV it (lp++lm++lq)) pe mg)):
  wpS `È A E s (X0 sa (aV it lm)) Q (gR κ (aV it (lp++ls++lq)) pe mg):=by
 unfold X0;refine ċ (ăl (ċ (ăf (ď ?_))));have e:ąg (λ(a:`Ï) (x:Keyed×Nat)=>match x with|(p,j)=>a.setIfInBounds (sa+j) p) (aV it (lp++ls++lq)) (aV it lm).toList.zipIdx=aV it (lp++lm++lq):=by apply ām.mp;rw[XZ (aV it lm).toList 0 sa (lp.map (ņ it)) (ls.map (ņ it)) (lq.map (ņ it)) _ (by simp[aV]) (by simpa using hp) (by simpa[aV] using hl)];simp[aV]
 show Q true (gR κ (ąg (λ(a:`Ï) (x:Keyed×Nat)=>match x with|(p,j)=>a.setIfInBounds (sa+j) p) (aV it (lp++ls++lq)) (aV it lm).toList.zipIdx) pe mg);rw[e];exact q
def at3(h:i<Y.length):(aV it (X++Y++Z))[X.length+i]? =some (ņ it Y[i]):=by rw[cy (by simp;omega)];congr 2;rw[List.getElem_append_left (by simp;omega),List.getElem_append_right `À];simp
def ext3:(aV it (X++Y++Z)).extract X.length (X.length+Y.length)=aV it Y:=by rw[q9];congr 1;rw[Ċ,List.drop_left,Āo,List.take_left]
def V_at(O:Ord lt n)(hc:Ff prog w A s κ it lt n){pre la lb post:`Ö}{l1 l2:List (Nat×Nat×Nat)}{pw pw2 mg:Nat}(T:p6 lt n la lb)(h1:0<la.length)(h2:0<lb.length){Q:Bool->SortSt->Prop} (q:∀lm g,lm.Perm (la++lb)->lm.Pairwise (Rl lt)->Q true (gR κ (aV it (pre++lm++post)) (l1++(pre.length,la.length+lb.length,pw)::l2).toArray g)):
  wpS `È A E s (mergeAt' l1.length) Q (gR κ (aV it (pre++(la++lb)++post)) (l1++(pre.length,la.length,pw)::(pre.length+la.length,lb.length,pw2)::l2).toArray mg):=by
 rw[K5];unfold IQ;refine ċ (ăf ?_);have e1:(l1++(pre.length,la.length,pw)::(pre.length+la.length,lb.length,pw2)::l2).toArray[l1.length]? =some (pre.length,la.length,pw):=by simp
 have e2:(l1++(pre.length,la.length,pw)::(pre.length+la.length,lb.length,pw2)::l2).toArray[l1.length+1]? =some (pre.length+la.length,lb.length,pw2):=by simp only[Ŵ];rw[ē `À];simp
 have e3:((l1++(pre.length,la.length,pw)::(pre.length+la.length,lb.length,pw2)::l2).toArray.setIfInBounds l1.length (pre.length,la.length+lb.length,pw)).eraseIdxIfInBounds (l1.length+1)=(l1++(pre.length,la.length+lb.length,pw)::l2).toArray:=by apply ām.mp;rw[Array.toList_eraseIdxIfInBounds,Array.toList_setIfInBounds];simp[Ąs,List.eraseIdx_append];intro h;omega
 rw[e1,e2];dsimp only;refine ċ (abg ?_);rw[e3];have gb:∀i (h:i<lb.length),(aV it (pre++(la++lb)++post))[pre.length+la.length+i]? =some (ņ it lb[i]):=λ i h=>by have:=at3 (it:=it) (X:=pre++la) (Y:=lb) (Z:=post) h;rw[ĩ] at this;rw[<-this];simp[Ċ]
 have ga:∀i (h:i<la.length),(aV it (pre++(la++lb)++post))[pre.length+i]? =some (ņ it la[i]):=λ i h=>by have:=at3 (it:=it) (X:=pre) (Y:=la) (Z:=lb++post) h;rw[<-this];simp[Ċ]
 refine ċ (eO (gb 0 h2) ?_);have kn:=T.DC h2;have hD:∀x∈la,x<n/\x≠lb[0]:=λ x hx=>by refine ⟨T.hn x (by simp[hx]),λ z=>?_⟩;obtain ⟨j,hj,e⟩:=ę.mp hx;exact T.ne hj h2 (by rw[e,z])
 obtain ⟨B1,hB1,aio⟩:=vI O kn la hD T.ua;have C1:Cut lt it n (aV it (pre++(la++lb)++post)) pre.length la.length lb[0] B1:=Cut.wu kn hD hB1 aio ga;refine ċ (qI O hc C1 h1 ?_);dsimp only;have ub0:∀y∈lb,y=lb[0]\/Rl lt lb[0] y:=λ y hy=>by
  obtain ⟨j,hj,e⟩:=ę.mp hy;cases j with
  |zero=>exact .inl e.symm
  |succ j=>exact .inr (e▸(ř.mp T.ub) 0 (j+1) h2 hj `À)
 have H1:∀x∈la.take B1,∀y∈lb,Rl lt x y:=λ x hx y hy=>by
  obtain ⟨i,hi,e⟩:=ę.mp hx;rw[Ħ] at e;rw[Ī] at hi;have c:Rl lt x lb[0]:=by show lt _ _=true;rw[<-e,aio i `À];simp;omega
  rcases ub0 y hy with rfl|h
  ·exact c
  ·exact T.tr O x lb[0] y (by simp[š hx]) `Ó (by simp[hy]) c h
 by_cases z1:la.length- B1=0
 ·rw[if_pos (by simpa using z1)];refine ď (q (la++lb) _ (Āp _) (ı.mpr ⟨T.ua,T.ub,λ x hx y hy=>H1 x ?_ y hy⟩));rw[Ăd `À];exact hx
 ·rw[if_neg (by simpa using z1)];have hl1:la.length- 1<la.length:=by omega
  refine ċ (eO (x:=ņ it la[la.length- 1]) (by rw[show pre.length+B1+(la.length- B1) - 1=pre.length+(la.length- 1) by omega];exact ga _ hl1) ?_);have kn2:=T.DE hl1;have hD2:∀x∈lb,x<n/\x≠la[la.length- 1]:=λ x hx=>by refine ⟨T.hn x (by simp[hx]),λ z=>?_⟩;obtain ⟨j,hj,e⟩:=ę.mp hx;exact T.ne hl1 hj (by rw[e,z])
  obtain ⟨B2,hB2,adx⟩:=vI O kn2 lb hD2 T.ub;have C2:Cut lt it n (aV it (pre++(la++lb)++post)) (pre.length+la.length) lb.length la[la.length- 1] B2:=Cut.wu kn2 hD2 hB2 adx gb;refine ċ (qI O hc C2 `À ?_);dsimp only;have ula:∀x∈la,x=la[la.length- 1]\/Rl lt x la[la.length- 1]:=λ x hx=>by
   obtain ⟨j,hj,e⟩:=ę.mp hx;by_cases c:j=la.length- 1
   ·subst c;exact .inl e.symm
   ·exact .inr (e▸(ř.mp T.ua) j (la.length- 1) hj hl1 `À)
  -- D5 last of D5 first list is above D5 first of D5 second
  have lf:∀x∈la.drop B1,Rl lt lb[0] x:=λ x hx=>by obtain ⟨i,hi,e⟩:=ę.mp hx;rw[œ] at e;rw[ŝ] at hi;have:=aio (B1+i) `À;have nx:=hD x (ŀ hx);show lt _ _=true;rw[O.tot _ _ kn nx.1 (Ŋ nx.2), <-e,this];simp
  have B2p:1<=B2:=by
   have h0:=adx 0 h2;have:la[la.length- 1]∈la.drop B1:=by refine ę.mpr ⟨la.length- 1- B1,by simp;omega,?_⟩;rw[œ];congr 1;omega
   rw[show lt lb[0] la[la.length- 1]=true from lf _ this] at h0;have:=of_decide_eq_true h0.symm;omega
  rw[if_neg (by simp;omega)];have H2:∀x∈la,∀y∈lb.drop B2,Rl lt x y:=λ x hx y hy=>by
   obtain ⟨i,hi,e⟩:=ę.mp hy;rw[œ] at e;rw[ŝ] at hi;have:=adx (B2+i) `À;have ny:=hD2 y (ŀ hy);have c:Rl lt la[la.length- 1] y:=by show lt _ _=true;rw[O.tot _ _ kn2 ny.1 (Ŋ ny.2), <-e,this];simp
   rcases ula x hx with rfl|h
   ·exact c
   ·exact T.tr O x _ y (by simp[hx]) `Ó (by simp[ŀ hy]) h c
  have H3:∀y∈lb.take B2,Rl lt y la[la.length- 1]:=λ y hy=>by obtain ⟨i,hi,e⟩:=ę.mp hy;rw[Ħ] at e;rw[Ī] at hi;show lt _ _=true;rw[<-e,adx i `À];simp;omega
  have T':p6 lt n (la.drop B1) (lb.take B2):=by have sub:(la.drop B1++lb.take B2).Sublist (la++lb):=List.Sublist.append (Ăe _ _) (āz _ _);exact ⟨λ x hx=>T.hn x (sub.subset hx),T.nd.sublist sub,T.ua.sublist (Ăe _ _),T.ub.sublist (āz _ _)⟩
  have hl:∀y∈lb.take B2,∀(h:la.drop B1≠[]),Rl lt y ((la.drop B1).getLast h):=λ y hy h=>by rw[List.getLast_drop,Ān];exact H3 y hy
  have n1:0<(la.drop B1).length:=by simp;omega
  have n2:0<(lb.take B2).length:=by simp;omega
  have ex1:(aV it (pre++(la++lb)++post)).extract (pre.length+B1) (pre.length+la.length)=aV it (la.drop B1):=by
   have:=ext3 (it:=it) (X:=pre++la.take B1) (Y:=la.drop B1) (Z:=lb++post);have e:pre++la.take B1++la.drop B1++(lb++post)=pre++(la++lb)++post:=by simp only[Ċ];rw[<-Ċ (la.take B1),ě]
   rw[e] at this;rw[<-this];congr 1<;>simp<;>omega
  have ex2:(aV it (pre++(la++lb)++post)).extract (pre.length+la.length) (pre.length+la.length+B2)=aV it (lb.take B2):=by
   have:=ext3 (it:=it) (X:=pre++la) (Y:=lb.take B2) (Z:=lb.drop B2++post);have e:pre++la++lb.take B2++(lb.drop B2++post)=pre++(la++lb)++post:=by simp only[Ċ];rw[<-Ċ (lb.take B2),ě]
   rw[e] at this;rw[<-this];congr 1<;>simp;omega
  have ew:pre++(la++lb)++post=(pre++la.take B1)++(la.drop B1++lb.take B2)++(lb.drop B2++post):=by simp only[Ċ];rw[<-Ċ (lb.take B2),ě, <-Ċ (la.take B1),ě]
  have done:∀(m:`Ï) (g:Nat),Good lt it (la.drop B1) (lb.take B2) m->wpS `È A E s (X0 (pre.length+B1) m) Q (gR κ (aV it (pre++(la++lb)++post)) (l1++(pre.length,la.length+lb.length,pw)::l2).toArray g):=by
   rintro m g ⟨lm,rfl,pm,um⟩
   rw[ew];refine amE (by simp;omega) (by rw[pm.length_eq]) ?_;have:=q (la.take B1++(lm++lb.drop B2)) g ?_ ?_
   ·simpa only[Ċ] using this
   ·have p1:(la.take B1++(lm++lb.drop B2)).Perm (la.take B1++((la.drop B1++lb.take B2)++lb.drop B2)):=ŉ _ (Ăg _ pm);refine p1.trans (List.Perm.of_eq ?_);simp only[Ċ,ě];rw[<-Ċ,ě]
   ·have ua:=ı.mp (by rw[ě];exact T.ua:(la.take B1++la.drop B1).Pairwise (Rl lt));have ub:=ı.mp (by rw[ě];exact T.ub:(lb.take B2++lb.drop B2).Pairwise (Rl lt));refine ı.mpr ⟨ua.1,ı.mpr ⟨um,ub.2.1,λ x hx y hy=>?_⟩,λ x hx y hy=>?_⟩
    ·rcases İ.mp (pm.mem_iff.mp hx) with h|h
     ·exact H2 x (ŀ h) y hy
     ·exact ub.2.2 x h y hy
    ·rcases İ.mp hy with h|h
     ·rcases İ.mp (pm.mem_iff.mp h) with h|h
      ·exact ua.2.2 x hx y h
      ·exact H1 x hx y (š h)
     ·exact H1 x hx y (ŀ h)
  rw[ex1,ex2];have f0:Rl lt ((lb.take B2)[0]'n2) ((la.drop B1)[0]'n1):=by rw[Ħ];exact lf _ (ġ _)
  split
  ·refine ċ (ś (aqd O hc T' hl n1 n2 f0) ?_)
   rintro m st ⟨⟨g,rfl⟩,gd⟩
   exact done m g gd
  ·refine ċ (ś (aqf O hc T' hl n1 n2 (λ h x hx=>by rw[Ħ];exact lf x hx)) ?_)
   rintro m st ⟨⟨g,rfl⟩,gd⟩
   exact done m g gd
noncomputable def adB(lo:Nat)(_:Nat)(s:Option (Option Nat)×Nat):SS (ForInStep (Option (Option Nat)×Nat)):=do
 let x <-ltAt' (lo+s.2) (lo+s.2- 1)
 match x with
 |some sm=>if sm=true then pure (ForInStep.done (none,s.2)) else pure (ForInStep.yield (none,s.2+1))
 |_=>pure (ForInStep.done (some none,s.2))
noncomputable def LK(lo nrem n:Nat):SS (Option Nat):=do
 reverseSlice' lo (lo+n)
 let s <-forIn [n:nrem] ((none:Option (Option Nat)),n) (adB lo)
 match s.1 with
 |some r=>pure r
 |none=>pure (some s.2)
noncomputable abbrev DS:=Option (Option Nat)×Nat×Nat
noncomputable def aeD(lo:Nat)(_:Nat)(s:DS):SS (ForInStep DS):=do
 let x <-ltAt' (lo+s.2.1) (lo+s.2.1- 1)
 match x with
 |some smaller=>
  if smaller=true then
   if s.2.2>0 then do
    reverseSlice' (lo+s.2.1-(s.2.2+1)) (lo+s.2.1)
    pure (ForInStep.yield (none,s.2.1+1,0))
   else pure (ForInStep.yield (none,s.2.1+1,0))
  else do
   let x <-ltAt' (lo+s.2.1- 1) (lo+s.2.1)
   match x with
   |some ahs=>if ahs=true then pure (ForInStep.done (none,s.2.1,s.2.2)) else pure (ForInStep.yield (none,s.2.1+1,s.2.2+1))
   |_=>pure (ForInStep.done (some none,s.2.1,s.2.2))
 |_=>pure (ForInStep.done (some none,s.2.1,s.2.2))
noncomputable def LL(lo nrem n:Nat):SS (Option Nat):=do
 liftM (rule "list.sort.descending-run")
 let s <-forIn [n+1:nrem] ((none,n+1,0):DS) (aeD lo)
 match s.1 with
 |some r=>pure r
 |none=>
  if s.2.2>0 then do
   reverseSlice' (lo+s.2.1-(s.2.2+1)) (lo+s.2.1)
   LK lo nrem s.2.1
  else LK lo nrem s.2.1
def Zg(lo nrem:Nat):SS (Option Nat):=do
 let s <-forIn [1:nrem] ((none:Option (Option Nat)),1) (adB lo)
 match s.1 with
 |some r=>pure r
 |none=>
  if (s.2==nrem)=true then pure (some s.2)
  else if s.2>1 then do
   let x <-ltAt' lo (lo+s.2- 1)
   match x with
   |some aoI=>if aoI=true then pure (some s.2) else do
     reverseSlice' lo (lo+s.2)
     LL lo nrem s.2
   |_=>pure none
  else LL lo nrem s.2
def count_eq:countRun'=Zg:=by kernel_rfl
noncomputable def bsS(lo k:Nat)(_:Nat)(s:Option Bool×Nat×Nat):SS (ForInStep (Option Bool×Nat×Nat)):=
 if s.2.1>=s.2.2 then pure (ForInStep.done (none,s.2.1,s.2.2))
 else do
  let x <-ltAt' (lo+k) (lo+(s.2.1+s.2.2)/ 2)
  match x with
  |some less=>if less=true then pure (ForInStep.yield (none,s.2.1,(s.2.1+s.2.2)/ 2)) else pure (ForInStep.yield (none,(s.2.1+s.2.2)/ 2+1,s.2.2))
  |_=>pure (ForInStep.done (some false,s.2.1,s.2.2))
noncomputable def bsB(lo:Nat)(k:Nat)(_:Option Bool×Unit):SS (ForInStep (Option Bool×Unit)):=do
 let t <-forIn [:k] ((none:Option Bool),0,k) (bsS lo k)
 match t.1 with
 |some r=>pure (ForInStep.done (some r,()))
 |none=>do
  moveDown' (lo+k) (lo+t.2.1)
  pure (ForInStep.yield (none,()))
noncomputable def bsX(lo n ok:Nat):SS Bool:=do
 let s <-forIn [max ok 1:n] ((none:Option Bool),()) (bsB lo)
 match s.1 with
 |some r=>pure r
 |none=>pure true
def amg:binarySort'=bsX:=by kernel_rfl
def acG:ltAt'=λ i j=>(get>>=λ st=>elem' (arrOf st) i>>=λ x=>elem' (arrOf st) j>>=λ y=>lt' x y:SS (Option Bool)):=by kernel_rfl
structure Nd(n:Nat)(l:`Ö):Prop where
 hn:∀x∈l,x<n
 nd:l.Nodup
def Nd.perm(h:Nd n l)(p:m.Perm l):Nd n m:=⟨λ x hx=>h.hn x (p.mem_iff.mp hx),p.nodup_iff.mpr h.nd⟩
def gD(l:`Ö)(d:Nat)(h:i<l.length):l.getD i d=l[i]:=by simp[Č,h]
def mid{Z F R:`Ö}{c:Nat}(h:c<F.length):(Z++(F++R))[Z.length+c]? =F[c]? :=by rw[ē `À,Āo,Ģ h]
def Nd.g(h:Nd n l)(hi:i<l.length):l.getD i 0<n:=by rw[gD _ _ hi];exact h.hn _ (ġ hi)
theorem Nd.ne(h:Nd n l)(hi:i<l.length)(hj:j<l.length)(ne:i≠j):l.getD i 0≠l.getD j 0:=by rw[gD _ _ hi,gD _ _ hj];intro e;exact ne ((List.getElem_inj h.nd).mp e)
def Yl(h:i<Y.length):(aV it (X++Y))[X.length+i]? =some (ņ it (Y.getD i 0)):=by have:=at3 (it:=it) (X:=X) (Y:=Y) (Z:=[]) h;rw[ŕ] at this;rw[this,gD _ _ h]
def CN(hc:Ff prog w A s κ it lt n){pre rest:`Ö}{Q:Option Bool->SortSt->Prop}(N:Nd n rest)(ei:a=pre.length+i)(ej:b=pre.length+j)(hi:i<rest.length)(hj:j<rest.length)(ne:i≠j)(q:Q (some (lt (rest.getD i 0) (rest.getD j 0))) (gR κ (aV it (pre++rest)) pe mg)):
  wpS `È A E s (ltAt' a b) Q (gR κ (aV it (pre++rest)) pe mg):=by
 subst ei ej;rw[acG];exact ċ (ăf (ċ (eO (Yl hi) (ċ (eO (Yl hj) (V_lt hc (N.g hi) (N.g hj) (N.ne hi hj ne) q))))))
def D0(O:Ord lt n)(N:Nd n l)(hm:m<=l.length)(h:∀j,1<=j->j<m->lt (l.getD j 0) (l.getD (j- 1) 0)=false):(l.take m).Pairwise (Rl lt):=by
 have adj:∀k,k+1<m->lt (l.getD k 0) (l.getD (k+1) 0)=true:=λ k hk=>by have h1:=h (k+1) `À hk;rw[O.tot _ _ (N.g `À) (N.g `À) (N.ne `À `À `À)];simpa using h1
 have all:∀d i,i+d+1<m->lt (l.getD i 0) (l.getD (i+d+1) 0)=true:=by
  intro d;induction d with
  |zero=>intro i hi;exact adj i hi
  |succ d ih=>intro i hi;exact O.tr _ _ _ (N.g `À) (N.g (by omega:i+d+1<l.length)) (N.g `À) (ih i `À) (adj (i+d+1) `À)
 rw[ř];intro i j hi hj hij;rw[Ī] at hi hj;have:=all (j- i- 1) i `À;rw[show i+(j- i- 1)+1=j by omega] at this;rw[Ħ,Ħ];rwa [gD _ _ `À,gD _ _ `À] at this
def afx(hc:Ff prog w A s κ it lt n){pre rest:`Ö}{pe:Array (Nat×Nat×Nat)}{mg lo nrem a:Nat}{Q:Option (Option Nat)×Nat->SortSt->Prop}(N:Nd n rest)(hlo:pre.length=lo)(hr:rest.length=nrem)(ha:1<=a)(han:a<=nrem)(h0:∀j,1<=j->j<a->lt (rest.getD j 0) (rest.getD (j- 1) 0)=false) (q:∀m,a<=m->m<=nrem->(∀j,1<=j->j<m->lt (rest.getD j 0) (rest.getD (j- 1) 0)=false)->(m<nrem->lt (rest.getD m 0) (rest.getD (m- 1) 0)=true)->Q (none,m) (gR κ (aV it (pre++rest)) pe mg)):
  wpS `È A E s (forIn [a:nrem] ((none:Option (Option Nat)),a) (adB lo)) Q (gR κ (aV it (pre++rest)) pe mg):=by
 refine Ł (λ i c st=>st=gR κ (aV it (pre++rest)) pe mg/\c=(none,i)/\∀j,1<=j->j<i->lt (rest.getD j 0) (rest.getD (j- 1) 0)=false) ?_ ?_ ⟨rfl,rfl,h0⟩
 ·rintro i c st hai hi ⟨rfl,rfl,h⟩
  unfold adB;dsimp only;refine ċ (CN hc N (i:=i) (j:=i- 1) `À `À `À `À `À ?_);cases e:lt (rest.getD i 0) (rest.getD (i- 1) 0) with
  |true=>simp only[if_true];exact ď (q i hai `À h λ _=>e)
  |false=>
   simp only[ğ,if_false];refine ď ⟨rfl,rfl,λ j j1 j2=>?_⟩;by_cases z:j=i
   ·subst z;exact e
   ·exact h j j1 `À
 ·rintro c st ⟨rfl,rfl,h⟩
  rw[Ąf han] at*;exact q nrem han (Ĉ _) h λ h=>absurd h (Ŏ _)
def Uu{Z F R:`Ö}{i j:Nat}(hi:i=Z.length)(hj:j=Z.length+F.length):mirror (aV it (Z++F++R)) i j ((j- i)/ 2)=aV it (Z++F.reverse++R):=by
 apply Array.ext_getElem?;intro k;rw[getElem?_mirror_all (by rw[cK];simp;omega) k];simp only[aV,Ŵ,Ĝ];subst hi hj;split
 ·rename_i h;obtain ⟨d,rfl⟩:∃d,k=Z.length+d:=⟨k- Z.length,by omega⟩;congr 1;rw[Ċ,Ċ,show Z.length+(Z.length+F.length) - 1-(Z.length+d)=Z.length+(F.length- 1- d) by omega,mid `À,mid (by simp;omega),List.getElem?_reverse `À]
 ·rename_i h;congr 1;by_cases c:k<Z.length
  ·rw[Ċ,Ċ,Ģ c,Ģ c]
  ·rw[ē (by simp;omega),ē (by simp;omega)];simp
def Vg{Z F R:`Ö}{x i d:Nat}(hi:i=Z.length+F.length)(hd:d=F.length):bubble (aV it (Z++(F++x::R))) i d=aV it (Z++(x::F++R)):=by
 apply Array.ext_getElem?;intro k;rw[getElem?_bubble (by rw[cK];simp;omega) d `À k];simp only[aV,Ŵ,Ĝ];subst hi hd;rw[Nat.add_sub_cancel];split
 ·rename_i h;subst h;congr 1;have l1:(Z++(F++x::R))[Z.length+F.length]? =some x:=by rw[ē `À,ē `À];simp
  have l2:(Z++(x::F++R))[Z.length]? =some x:=by rw[ē `À];simp
  rw[l1,l2]
 ·split
  ·rename_i h;obtain ⟨c,rfl⟩:∃c,k=Z.length+(c+1):=⟨k- Z.length- 1,by omega⟩;congr 1;rw[show Z.length+(c+1) - 1=Z.length+c by omega,mid `À,mid (by simp;omega),Ķ]
  ·congr 1;by_cases c:k<Z.length
   ·rw[Ģ c,Ģ c]
   ·obtain ⟨e,rfl⟩:∃e,k=Z.length+(F.length+1+e):=⟨k- Z.length- F.length- 1,by omega⟩;have l1:(Z++(F++x::R))[Z.length+(F.length+1+e)]? =R[e]? :=by rw[ē `À,ē `À,show Z.length+(F.length+1+e) - Z.length- F.length=e+1 by omega,Ķ]
    have l2:(Z++(x::F++R))[Z.length+(F.length+1+e)]? =R[e]? :=by rw[ē `À,ē `Ó];congr 1;simp
    rw[l1,l2]
def amC{Z F R:`Ö}{Q:Unit->SortSt->Prop}(hi:i=Z.length)(hj:j=Z.length+F.length)(q:Q () (gR κ (aV it (Z++F.reverse++R)) pe mg)):
  wpS `È A E s (reverseSlice' i j) Q (gR κ (aV it (Z++F++R)) pe mg):=by
 refine wpS_reverse ?_;show Q () (gR κ (mirror (aV it (Z++F++R)) i j ((j- i)/ 2)) pe mg);rw[Uu hi hj];exact q
def aiH{Z F R:`Ö}{Q:Unit->SortSt->Prop}(hi:i=Z.length+F.length)(hj:j=Z.length)(q:Q () (gR κ (aV it (Z++(x::F++R))) pe mg)):
  wpS `È A E s (moveDown' i j) Q (gR κ (aV it (Z++(F++x::R))) pe mg):=by
 rw[moveDown'_eq];refine ăl ?_;show Q () (gR κ (bubble (aV it (Z++(F++x::R))) i (i- j)) pe mg);rw[Vg hi `À];exact q
def adF(O:Ord lt n)(hc:Ff prog w A s κ it lt n){pre rest:`Ö}{pe:Array (Nat×Nat×Nat)}{mg lo nrem:Nat}{Q:Option Nat->SortSt->Prop}(N:Nd n rest)(hlo:pre.length=lo)(hr:rest.length=nrem)(h1:1<=nrem) (q:∀m rest',rest'.Perm rest->1<=m->m<=nrem->(rest'.take m).Pairwise (Rl lt)->Q (some m) (gR κ (aV it (pre++rest')) pe mg)):
  wpS `È A E s (countRun' lo nrem) Q (gR κ (aV it (pre++rest)) pe mg):=by
 rw[count_eq];unfold Zg;refine ċ (afx hc N hlo hr (Ĉ _) h1 (λ j a b=>by omega) λ m m1 m2 hm hd=>?_);dsimp only;have up:=D0 O N (by omega:m<=rest.length) hm;by_cases e:m=nrem
 ·rw[if_pos (by simpa using e)];exact ď (q m rest (Āp _) m1 m2 up)
 ·rw[if_neg (by simpa using e)];by_cases e1:m>1
  ·rw[if_pos e1];have rise:lt (rest.getD 0 0) (rest.getD (m- 1) 0)=true:=by have:=(ř.mp up) 0 (m- 1) (by simp;omega) (by simp;omega) `À;rw[Ħ,Ħ] at this;rw[gD _ _ `À,gD _ _ `À];exact this
   refine ċ (CN hc N (i:=0) (j:=m- 1) `À `À `À `À `À ?_);rw[rise];simp only[if_true];exact ď (q m rest (Āp _) m1 m2 up)
  ·rw[if_neg e1];have e1:m=1:=by omega
   subst e1;unfold LL;refine ċ (zj (ċ ?_));refine ś (Q:=λ c st=>st=gR κ (aV it (pre++rest)) pe mg/\∃m,c=(none,m,0)/\2<=m/\m<=nrem/\∀j,1<=j->j<m->lt (rest.getD j 0) (rest.getD (j- 1) 0)=true) (Ł (λ i c st=>st=gR κ (aV it (pre++rest)) pe mg/\c=(none,i,0)/\∀j,1<=j->j<i->lt (rest.getD j 0) (rest.getD (j- 1) 0)=true) ?_ ?_ ⟨rfl,rfl,λ j j1 j2=>?_⟩) ?_
   ·rintro i c st hai hi ⟨rfl,rfl,h⟩
    unfold aeD;dsimp only;refine ċ (CN hc N (i:=i) (j:=i- 1) `À `À `À `À `À ?_);cases e:lt (rest.getD i 0) (rest.getD (i- 1) 0) with
    |true=>
     simp only[if_true,gt_iff_lt,Ŏ,if_false];refine ď ⟨rfl,rfl,λ j j1 j2=>?_⟩;by_cases z:j=i
     ·subst z;exact e
     ·exact h j j1 `À
    |false=>
     simp only[ğ,if_false];refine ċ (CN hc N (i:=i- 1) (j:=i) `À `À `À `À `À ?_);have:lt (rest.getD (i- 1) 0) (rest.getD i 0)=true:=by rw[O.tot _ _ (N.g `À) (N.g `À) (N.ne `À `À `À),e];rfl
     rw[this];simp only[if_true];exact ď ⟨rfl,i,rfl,hai,by omega,h⟩
   ·rintro c st ⟨rfl,rfl,h⟩
    rw[Ąf `À] at*;exact ⟨rfl,nrem,rfl,by omega,Ĉ _,h⟩
   ·have:j=1:=by omega
    subst this;exact hd `À
   ·rintro c st ⟨rfl,m,rfl,hm1,hm2,hds⟩
    simp only[gt_iff_lt,Ŏ,if_false];unfold LK;have e:pre++rest=pre++rest.take m++rest.drop m:=by rw[Ċ,ě]
    rw[e];refine ċ (amC hlo.symm (by simp;omega) ?_);rw[Ċ];have p':((rest.take m).reverse++rest.drop m).Perm rest:=by have:=(Ăg (rest.drop m) (Ăf (rest.take m)));rwa [ě] at this
    have N':=N.perm p';have lr:((rest.take m).reverse++rest.drop m).length=nrem:=by rw[p'.length_eq,hr]
    refine ċ (afx hc N' hlo lr `À hm2 ?_ λ m' h1 h2 h3 _=>?_)
    ·intro j j1 j2;have g1:∀i,i<m->((rest.take m).reverse++rest.drop m).getD i 0=rest.getD (m- 1- i) 0:=λ i hi=>by rw[Č,Ģ (by simp;omega),List.getElem?_reverse (by simp;omega),Ī,ŗ `À,List.getElem?_take_of_lt `À,Č]
     rw[g1 j j2,g1 (j- 1) `À];have:=hds (m- 1-(j- 1)) `À `À;rw[show m- 1-(j- 1) - 1=m- 1- j by omega] at this;rw[O.tot _ _ (N.g `À) (N.g `À) (N.ne `À `À `À),this];rfl
    ·exact ď (q m' _ p' `À h2 (D0 O N' `À h3))
def amF(O:Ord lt n)(hc:Ff prog w A s κ it lt n){pre rest:`Ö}{pe:Array (Nat×Nat×Nat)}{mg lo m ok:Nat}{Q:Bool->SortSt->Prop}(N:Nd n rest)(hlo:pre.length=lo)(hm:m<=rest.length)(h1:1<=ok)(hok:ok<=m)(up:(rest.take ok).Pairwise (Rl lt)) (q:∀rest',rest'.Perm rest->(rest'.take m).Pairwise (Rl lt)->Q true (gR κ (aV it (pre++rest')) pe mg)):
  wpS `È A E s (binarySort' lo m ok) Q (gR κ (aV it (pre++rest)) pe mg):=by
 rw[amg];unfold bsX;rw[show max ok 1=ok by omega];refine ċ (Ł (λ k c st=>c=(none,())/\∃l,st=gR κ (aV it (pre++l)) pe mg/\l.Perm rest/\(l.take k).Pairwise (Rl lt)) ?_ ?_ ⟨rfl,rest,rfl,Āp _,up⟩)
 ·rintro k c st hk1 hk2 ⟨rfl,l,rfl,pl,ul⟩
  have Nl:=N.perm pl;have ll:=pl.length_eq;have hk:k<l.length:=by omega
  unfold bsB;have kx:=Nl.g hk;have hD:∀x∈l.take k,x<n/\x≠l.getD k 0:=λ x hx=>by obtain ⟨i,hi,e⟩:=ę.mp hx;rw[Ħ] at e;rw[Ī] at hi;refine ⟨Nl.hn x (š hx),?_⟩;rw[<-e, <-gD l 0 `À];exact Nl.ne `À hk `À
  obtain ⟨B,hB,cut⟩:=vI O kx (l.take k) hD ul;rw[Ī,ŗ `À] at hB;have amb:∀i,i<k->lt (l.getD k 0) (l.getD i 0)=!decide (i<B):=λ i hi=>by have:=cut i (by simp;omega);rw[Ħ, <-gD l 0 `À] at this;rw[O.tot _ _ kx (Nl.g `À) (Nl.ne hk `À `À),this]
  refine ċ (ś (Q:=λ c st=>st=gR κ (aV it (pre++l)) pe mg/\c.1=none/\c.2.1=B) (Ł (λ i c st=>st=gR κ (aV it (pre++l)) pe mg/\c.1=none/\c.2.1<=B/\B<=c.2.2/\c.2.2<=k/\(c.2.2- c.2.1)+i<=k) ?_ ?_ ⟨rfl,rfl,by simp,by simpa using hB,by simp,by simp⟩) ?_)
  ·rintro i ⟨c1,c2,c3⟩ st _ hi ⟨rfl,h1,h2,h3,h4,h5⟩
   simp only at h1 h2 h3 h4 h5;subst h1;unfold bsS;dsimp only;by_cases e:c2>=c3
   ·rw[if_pos e];exact ď ⟨rfl,rfl,by dsimp only;omega⟩
   ·rw[if_neg e];refine ċ (CN hc Nl (i:=k) (j:=(c2+c3)/ 2) `À `À hk `À `À ?_);rw[amb _ `À];by_cases z:(c2+c3)/ 2<B
    ·simp only[z,decide_true,āp,ğ,if_false];exact ď ⟨rfl,rfl,by dsimp only;omega,h3,h4,by dsimp only;omega⟩
    ·simp only[z,decide_false,Bool.not_false,if_true];exact ď ⟨rfl,rfl,h2,by dsimp only;omega,by dsimp only;omega,by dsimp only;omega⟩
  ·rintro ⟨c1,c2,c3⟩ st ⟨rfl,h1,h2,h3,h4,h5⟩
   simp only at h1 h2 h3 h4 h5;have:=Ņ 0 k;exact ⟨rfl,h1,by dsimp only;omega⟩
  ·rintro ⟨c1,c2,c3⟩ st ⟨rfl,h1,h2⟩
   simp only at h1 h2;subst h1 h2;dsimp only;have e:pre++l=(pre++l.take c2)++((l.take k).drop c2++l.getD k 0::l.drop (k+1)):=by
    have e1:l.getD k 0::l.drop (k+1)=l.drop k:=by rw[gD _ _ hk];exact (Ř hk).symm
    rw[e1,Ċ];congr 1;have e2:l.take c2++(l.take k).drop c2=l.take k:=by have:=ě c2 (l.take k);rwa [Ąw,ŗ hB] at this
    rw[<-Ċ,e2,ě]
   rw[e];refine ċ (aiH (by simp;omega) (by simp;omega) (ď ⟨rfl,l.take c2++(l.getD k 0::(l.take k).drop c2++l.drop (k+1)),by simp[Ċ],?_,?_⟩))
   ·have:(pre++l).Perm (pre++(l.take c2++(l.getD k 0::(l.take k).drop c2++l.drop (k+1)))):=by rw[e,Ċ];refine ŉ _ (ŉ _ ?_);rw[Ş];exact Ăp
    exact ((List.perm_append_left_iff pre).mp this).symm.trans pl
   ·have e3:(l.take c2++(l.getD k 0::(l.take k).drop c2++l.drop (k+1))).take (k+1)=l.take c2++(l.getD k 0::(l.take k).drop c2):=by rw[<-Ċ,List.take_append_of_le_length (by simp;omega)];exact Ăd (by simp;omega)
    rw[e3];have e2:l.take c2++(l.take k).drop c2=l.take k:=by have:=ě c2 (l.take k);rwa [Ąw,ŗ hB] at this
    have ul':=ul;rw[<-e2] at ul';have uu:=ı.mp ul';refine ı.mpr ⟨uu.1,Ĺ.mpr ⟨λ y hy=>?_,uu.2.1⟩,λ x hx y hy=>?_⟩
    ·obtain ⟨i,hi,e⟩:=ę.mp hy;rw[œ,Ħ] at e;rw[ŝ,Ī] at hi;have:=amb (c2+i) `À;rw[gD l 0 (by omega:c2+i<l.length),e] at this;show lt _ _=true;rw[this];simp
    ·rcases Ć.mp hy with rfl|hy
     ·obtain ⟨i,hi,e⟩:=ę.mp hx;rw[Ħ] at e;rw[Ī] at hi;have:=cut i (by simp;omega);rw[Ħ,e] at this;show lt _ _=true;rw[this];simp;omega
     ·exact uu.2.2 x hx y hy
 ·rintro c st ⟨rfl,l,rfl,pl,ul⟩
  rw[Ąf hok] at ul;exact ď (q l pl ul)
noncomputable def AZ(lo n:Nat):SS (ForInStep (Option Unit×Nat)):=do
 modify λ s=>setPending s ((pendingOf s).push (lo,n,0))
 pure (ForInStep.yield (none,lo+n))
noncomputable def ad8(pw:Nat)(_:Nat)(_:Option Unit×Unit):SS (ForInStep (Option Unit×Unit)):=do
 let st <-get
 match if (pendingOf st).size>1 then (pendingOf st)[(pendingOf st).size- 2]? else none with
 |some (_,_,older)=>
  if older<=pw then pure (ForInStep.done (none,()))
  else do
   let b <-mergeAt' ((pendingOf st).size- 2)
   if (!b)=true then pure (ForInStep.done (some (),()))
   else pure (ForInStep.yield (none,()))
 |_=>pure (ForInStep.done (none,()))
def V2(size lo n:Nat):SS (ForInStep (Option Unit×Nat)):=do
 let st <-get
 match (pendingOf st).back? with
 |some (s1,n1,_)=>do
  let t <-forIn [:size] ((none:Option Unit),()) (ad8 (power' size (2*s1+n1) (2*s1+n1+n1+n) size))
  match t.1 with
  |some r=>pure (ForInStep.done (some r,lo))
  |none=>do
   modify λ s=>setPending s ((pendingOf s).modify ((pendingOf s).size- 1) λ x=>match x with|(st,len,_)=>(st,len,power' size (2*s1+n1) (2*s1+n1+n1+n) size))
   AZ lo n
 |_=>AZ lo n
noncomputable def V3(size K4:Nat)(_:Nat)(s:Option Unit×Nat):SS (ForInStep (Option Unit×Nat)):=
 if s.2>=size then pure (ForInStep.done (none,s.2))
 else do
  let x <-countRun' s.2 (size- s.2)
  match x with
  |some n=>
   if n<K4 then do
    liftM (rule "list.sort.binary-insertion")
    let b <-binarySort' s.2 (min (size- s.2) K4) n
    if (!b)=true then pure (ForInStep.done (some (),s.2))
    else V2 size s.2 (min (size- s.2) K4)
   else V2 size s.2 n
  |_=>pure (ForInStep.done (some (),s.2))
noncomputable def ad7(_:Nat)(_:Option Unit×Unit):SS (ForInStep (Option Unit×Unit)):=do
 let st <-get
 if (pendingOf st).size<=1 then pure (ForInStep.done (none,()))
 else do
  let b <-mergeAt' (if Option.any (λ x=>decide (x<(pendingOf st)[(pendingOf st).size- 2+1]?.elim 0 λ x=>x.2.1)) (if (pendingOf st).size- 2>0 then Option.map (λ x=>x.2.1) (pendingOf st)[(pendingOf st).size- 2- 1]? else none)=true then (pendingOf st).size- 2- 1 else (pendingOf st).size- 2)
  if (!b)=true then pure (ForInStep.done (some (),()))
  else pure (ForInStep.yield (none,()))
noncomputable def srX:SS Unit:=do
 let st <-get
 let t <-forIn [:(arrOf st).size] ((none:Option Unit),0) (V3 (arrOf st).size (minRun' (arrOf st).size (arrOf st).size 0))
 match t.1 with
 |some r=>pure r
 |none=>do
  let u <-forIn [:(arrOf st).size] ((none:Option Unit),()) ad7
  match u.1 with
  |some r=>pure r
  |none=>pure ()
def akx:sortRuns'=srX:=by rw[sortRuns'_eq];kernel_rfl
def PR(lt:`Ø):List (Nat×Nat×Nat)->Nat->List (List Nat)->Prop
 |[],_,[]=>True
 |(a,k,_)::t,b,r::rs=>a=b/\k=r.length/\0<r.length/\r.Pairwise (Rl lt)/\PR lt t (b+r.length) rs
 |_,_,_=>False
theorem PR.split:∀{t1 t2:List (Nat×Nat×Nat)} {a:Nat} {rs:List (List Nat)},PR lt (t1++t2) a rs->∃r1 r2,rs=r1++r2/\PR lt t1 a r1/\PR lt t2 (a+r1.flatten.length) r2
 |[],t2,a,rs,h=>⟨[],rs,rfl,trivial,by simpa using h⟩
 |(x,k,z)::t1,t2,a,[],h=>(nomatch h)
 |(x,k,z)::t1,t2,a,r::rs,⟨h1,h2,h3,h4,h5⟩=>by obtain ⟨r1,r2,e,p1,p2⟩:=PR.split h5;exact ⟨r::r1,r2,by rw[e];rfl,⟨h1,h2,h3,h4,p1⟩,by simpa[ąc] using p2⟩
theorem PR.join:∀{t1 t2:List (Nat×Nat×Nat)} {a:Nat} {r1 r2:List (List Nat)},PR lt t1 a r1->PR lt t2 (a+r1.flatten.length) r2->PR lt (t1++t2) a (r1++r2)
 |[],t2,a,[],r2,_,h=>by simpa using h
 |[],t2,a,_::_,r2,h,_=>(nomatch h)
 |(x,k,z)::t1,t2,a,[],r2,h,_=>(nomatch h)
 |(x,k,z)::t1,t2,a,r::r1,r2,⟨h1,h2,h3,h4,h5⟩,h=>⟨h1,h2,h3,h4,PR.join h5 (by simpa[ąc] using h)⟩
theorem PR.pw:∀{t:List (Nat×Nat×Nat)} {a:Nat} {rs:List (List Nat)} {i:Nat} {pw:Nat},PR lt t a rs->PR lt (t.modify i λ x=>match x with|(st,len,_)=>(st,len,pw)) a rs
 |[],_,[],i,_,h=>by simpa using h
 |[],_,_::_,i,_,h=>(nomatch h)
 |(x,k,z)::t,a,[],i,_,h=>(nomatch h)
 |(x,k,z)::t,a,r::rs,0,pw,⟨h1,h2,h3,h4,h5⟩=>by rw[List.modify_zero_cons];exact ⟨h1,h2,h3,h4,h5⟩
 |(x,k,z)::t,a,r::rs,i+1,pw,⟨h1,h2,h3,h4,h5⟩=>by rw[List.modify_succ_cons];exact ⟨h1,h2,h3,h4,PR.pw h5⟩
theorem PR.len:∀{t:List (Nat×Nat×Nat)} {a:Nat} {rs:List (List Nat)},PR lt t a rs->t.length=rs.length/\t.length<=rs.flatten.length
 |[],_,[],_=>by simp
 |[],_,_::_,h=>(nomatch h)
 |(x,k,z)::t,a,[],h=>(nomatch h)
 |(x,k,z)::t,a,r::rs,⟨h1,h2,h3,h4,h5⟩=>by have:=PR.len h5;simp only[Ė,ād,ĩ];omega
structure RI(lt:`Ø)(it:`Ï)(κ:SortKind)(n:Nat)(rs:List (List Nat))(rest:`Ö)(pe:Array (Nat×Nat×Nat)):Prop where
 pr:PR lt pe.toList 0 rs
 pm:(rs.flatten++rest).Perm (ĭ n)
def RI.nd{rs:List (List Nat)}{rest:`Ö}(h:RI lt it κ n rs rest pe):Nd n (rs.flatten++rest):=⟨λ x hx=>by simpa using h.pm.mem_iff.mp hx,h.pm.nodup_iff.mpr List.nodup_range⟩
def afw(O:Ord lt n)(hc:Ff prog w A s κ it lt n){rs:List (List Nat)}{rest:`Ö}(h:RI lt it κ n rs rest pe)(hi:i+1<pe.size){Q:Bool->SortSt->Prop}(q:∀rs' rY g,RI lt it κ n rs' rest rY->rs'.flatten.length=rs.flatten.length->rY.size+1=pe.size->Q true (gR κ (aV it (rs'.flatten++rest)) rY g)):
  wpS `È A E s (mergeAt' i) Q (gR κ (aV it (rs.flatten++rest)) pe mg):=by
 have hp:=h.pr;obtain ⟨x,y,l1,l2,e,el⟩:∃x y l1 l2,pe.toList=l1++x::y::l2/\l1.length=i:=by
  have hl:i+1<pe.toList.length:=by simpa using hi
  refine ⟨pe.toList[i],pe.toList[i+1],pe.toList.take i,pe.toList.drop (i+2),?_,by simp;omega⟩;rw[<-Ř hl, <-Ř `À,ě]
 obtain ⟨xa,xk,xp⟩:=x;obtain ⟨ya,yk,yp⟩:=y;rw[e] at hp;obtain ⟨r1,r2,er,p1,p2⟩:=PR.split hp;match r2,p2 with
 |[],p2=>exact (nomatch p2)
 |[_],p2=>exact absurd p2.2.2.2.2 (λ z=>(nomatch z))
 |la::lb::r2,⟨a1,a2,a3,a4,b1,b2,b3,b4,p3⟩=>
  subst a1 a2 b1 b2;subst er;have N:=h.nd;have T:p6 lt n la lb:=by
   have sub:(la++lb).Sublist ((r1++la::lb::r2).flatten++rest):=by simp only[ăa,ād,Ċ];exact (List.Sublist.trans (by rw[<-Ċ];exact List.sublist_append_left _ _) (List.sublist_append_right _ _))
   exact ⟨λ x hx=>N.hn x (sub.subset hx),N.nd.sublist sub,a4,b4⟩
  have ew:(r1++la::lb::r2).flatten++rest=r1.flatten++(la++lb)++(r2.flatten++rest):=by simp[Ċ]
  have epe:pe=(l1++(r1.flatten.length,la.length,xp)::(r1.flatten.length+la.length,lb.length,yp)::l2).toArray:=by apply ām.mp;rw[e];simp
  rw[ew,epe, <-el];refine V_at O hc T a3 b3 λ lm g pm um=>?_;have ll:lm.length=la.length+lb.length:=by rw[pm.length_eq,ĩ]
  have:=q (r1++lm::r2) (l1++(r1.flatten.length,la.length+lb.length,xp)::l2).toArray g ⟨?_,?_⟩ ?_ ?_
  ·simpa[Ċ] using this
  ·refine PR.join p1 ⟨by simp,ll.symm,by omega,um,?_⟩;rw[ll];simpa[ąc] using p3
  ·refine List.Perm.trans ?_ h.pm;rw[ew];simp only[ăa,ād,Ċ];exact ŉ _ (by rw[<-Ċ la lb];exact Ăg _ pm)
  ·simp only[ăa,ād,ĩ];omega
  ·rw[epe];simp;omega
def aiG{rs:List (List Nat)}{run rest:`Ö}{pe:Array (Nat×Nat×Nat)}{mg lo k:Nat}(h:RI lt it κ n rs (run++rest) pe)(hlo:lo=rs.flatten.length)(hk:k=run.length)(h0:0<run.length)(u:run.Pairwise (Rl lt)){Q:ForInStep (Option Unit×Nat)->SortSt->Prop} (q:∀rY,RI lt it κ n (rs++[run]) rest rY->Q (.yield (none,lo+k)) (gR κ (aV it ((rs++[run]).flatten++rest)) rY mg)):
  wpS `È A E s (AZ lo k) Q (gR κ (aV it (rs.flatten++(run++rest))) pe mg):=by
 unfold AZ;refine ċ (ăl (ď ?_));have:=q (pe.push (lo,k,0)) ⟨?_,?_⟩
 ·simpa[Ċ] using this
 ·rw[Array.toList_push];exact PR.join h.pr ⟨by simpa using hlo,hk,h0,u,trivial⟩
 ·simpa[Ċ] using h.pm
def aqe(O:Ord lt n)(hc:Ff prog w A s κ it lt n){rs:List (List Nat)}{run rest:`Ö}{pe:Array (Nat×Nat×Nat)}{mg size lo k:Nat}(h:RI lt it κ n rs (run++rest) pe)(hlo:lo=rs.flatten.length)(hk:k=run.length)(h0:0<run.length)(u:run.Pairwise (Rl lt)){Q:ForInStep (Option Unit×Nat)->SortSt->Prop} (q:∀rs' rY g,RI lt it κ n rs' rest rY->rs'.flatten.length=lo+k->Q (.yield (none,lo+k)) (gR κ (aV it (rs'.flatten++rest)) rY g)):
  wpS `È A E s (V2 size lo k) Q (gR κ (aV it (rs.flatten++(run++rest))) pe mg):=by
 unfold V2;refine ċ (ăf ?_);have fin:∀rs' rY g,RI lt it κ n rs' (run++rest) rY->rs'.flatten.length=lo->wpS `È A E s (AZ lo k) Q (gR κ (aV it (rs'.flatten++(run++rest))) rY g):=λ rs' rY g h' hl=>by refine aiG h' hl.symm hk h0 u λ ase h''=>q _ _ _ h'' ?_;simp[hl,hk]
 cases eb:pe.back? with
 |none=>exact fin rs pe mg h hlo.symm
 |some z=>
  obtain ⟨s1,n1,z3⟩:=z;dsimp only;generalize power' size (2*s1+n1) (2*s1+n1+n1+k) size=pw;refine ċ (ś (Q:=λ c st=>c=(none,())/\∃rs' rY g,st=gR κ (aV it (rs'.flatten++(run++rest))) rY g/\RI lt it κ n rs' (run++rest) rY/\rs'.flatten.length=lo) (Ł (λ i c st=>c=(none,())/\∃rs' rY g,st=gR κ (aV it (rs'.flatten++(run++rest))) rY g/\RI lt it κ n rs' (run++rest) rY/\rs'.flatten.length=lo) ?_ (λ c st hh=>hh) ⟨rfl,rs,pe,mg,rfl,h,hlo.symm⟩) ?_)
  ·rintro i c st _ hi ⟨rfl,rs',rY,g,rfl,h',hl⟩
   unfold ad8;refine ċ (ăf ?_);show wpS `È A E s (match if rY.size>1 then rY[rY.size- 2]? else none with
    |some (_,_,older)=>_
    |_=>_) _ _
   by_cases e1:rY.size>1
   ·rw[if_pos e1];have hlt:rY.size- 2<rY.size:=by omega
    rw[Array.getElem?_eq_getElem hlt];obtain ⟨q1,q2,q3⟩:=rY[rY.size- 2];dsimp only;split
    ·exact ď ⟨rfl,rs',rY,g,rfl,h',hl⟩
    ·refine ċ (afw O hc h' (by show rY.size- 2+1<rY.size;omega) λ rs2 pe2 g2 h2 l2 _=>?_);simp only[āp,ğ,if_false];exact ď ⟨rfl,rs2,pe2,g2,rfl,h2,by omega⟩
   ·rw[if_neg e1];exact ď ⟨rfl,rs',rY,g,rfl,h',hl⟩
  ·rintro c st ⟨rfl,rs',rY,g,rfl,h',hl⟩
   dsimp only;refine ċ (ăl ?_);refine fin rs' (rY.modify (rY.size- 1) λ x=>match x with|(st,len,_)=>(st,len,pw)) g ⟨?_,h'.pm⟩ hl;rw[Array.toList_modify];exact PR.pw h'.pr
def aiF(O:Ord lt n)(hc:Ff prog w A s κ it lt n)(h1:1<=n){mg:Nat}{Q:Unit->SortSt->Prop} (q:∀l pe g,l.Perm (ĭ n)->l.Pairwise (Rl lt)->Q () (gR κ (aV it l) pe g)):
  wpS `È A E s sortRuns' Q (gR κ (aV it (ĭ n)) #[] mg):=by
 rw[akx];unfold srX;refine ċ (ăf ?_);have hs:(arrOf (gR κ (aV it (ĭ n)) #[] mg)).size=n:=by show (aV it (ĭ n)).size=n;rw[cK,Ăh]
 rw[hs];generalize minRun' n n 0=mr;refine ċ (ś (Q:=λ c st=>c.1=none/\∃rs pe g,st=gR κ (aV it (rs.flatten++[])) pe g/\RI lt it κ n rs [] pe) (Ł (λ i c st=>c.1=none/\i<=c.2/\∃rs rest pe g,st=gR κ (aV it (rs.flatten++rest)) pe g/\RI lt it κ n rs rest pe/\rs.flatten.length=c.2) ?_ ?_ ⟨rfl,Ĉ _,[],ĭ n, #[],mg,rfl,⟨trivial,Āp _⟩,rfl⟩) ?_)
 ·rintro i ⟨c1,c2⟩ st _ hi ⟨e1,hic,rs,rest,pe,g,rfl,h,hl⟩
  simp only at e1 hic hl;subst e1;have ht:rs.flatten.length+rest.length=n:=by have:=h.pm.length_eq;simpa using this
  unfold V3;dsimp only;by_cases ge:c2>=n
  ·rw[if_pos ge];have:rest=[]:=Š `À;subst this;exact ď ⟨rfl,rs,pe,g,rfl,h⟩
  ·rw[if_neg ge];have N:Nd n rest:=⟨λ x hx=>h.nd.hn x (by simp[hx]),(Āf.mp h.nd.nd).2.1⟩;refine ċ (adF O hc N hl (by omega:rest.length=n- c2) `À λ m rest' p' m1 m2 um=>?_);dsimp only;have h':RI lt it κ n rs rest' pe:=⟨h.pr,(ŉ _ p').trans h.pm⟩;have go:∀qj k,qj.Perm rest->1<=k->k<=n- c2->(qj.take k).Pairwise (Rl lt)->wpS `È A E s (V2 n c2 k) (λ r st'=>match r with
     | .done c'=>c'.1=none/\∃rs pe g,st'=gR κ (aV it (rs.flatten++[])) pe g/\RI lt it κ n rs [] pe
     | .yield c'=>c'.1=none/\i+1<=c'.2/\∃rs rest pe g,st'=gR κ (aV it (rs.flatten++rest)) pe g/\RI lt it κ n rs rest pe/\rs.flatten.length=c'.2) (gR κ (aV it (rs.flatten++qj)) pe g):=by
    intro qj k p2 k1 k2 u2;have l2:qj.length=n- c2:=by rw[p2.length_eq];omega
    have e:qj=qj.take k++qj.drop k:=(ě k qj).symm;have h2:RI lt it κ n rs (qj.take k++qj.drop k) pe:=by rw[<-e];exact ⟨h.pr,(ŉ _ p2).trans h.pm⟩
    rw[e];refine aqe O hc h2 hl.symm (by simp;omega) (by simp;omega) u2 λ rs' rY g' h3 l3=>?_;exact ⟨rfl,by dsimp only;omega,rs',_,rY,g',rfl,h3,l3⟩
   split
   ·refine ċ (zj ?_);have N':=N.perm p';have l':=p'.length_eq;rename_i hlt;refine ċ (amF O hc N' hl `À m1 `À um λ qj p2 u2=>?_);simp only[āp,ğ,if_false];exact ś (go qj _ (p2.trans p') `À `À u2) λ r st' hr=>by cases r<;>exact hr
   ·exact ś (go rest' m p' m1 m2 um) λ r st' hr=>by cases r<;>exact hr
 ·rintro ⟨c1,c2⟩ st ⟨e1,hic,rs,rest,pe,g,rfl,h,hl⟩
  simp only at e1 hic hl;have ht:rs.flatten.length+rest.length=n:=by have:=h.pm.length_eq;simpa using this
  have:=Ņ 0 n;have:rest=[]:=Š `À;subst this;exact ⟨e1,rs,pe,g,rfl,h⟩
 ·rintro ⟨c1,c2⟩ st ⟨e1,rs,pe,g,rfl,h⟩
  simp only at e1;subst e1;dsimp only;have fin:∀rs pe g,RI lt it κ n rs [] pe->pe.size<=1->Q () (gR κ (aV it (rs.flatten++[])) pe g):=by
   intro rs pe g h hp;have hl:=h.pr.len;have hf:rs.flatten.length=n:=by have:=h.pm.length_eq;simpa using this
   have h1':pe.toList.length<=1:=by simpa using hp
   match rs,hl,h,hf with
   |[],hl,h,hf=>simp at hf;omega
   |[r],hl,h,hf=>
    refine q _ _ _ h.pm ?_;simp only[ād,List.flatten_nil,ŕ];match hpl:pe.toList,h.pr with
    |[],p=>exact (nomatch p)
    |(_,_,_)::_,p=>exact p.2.2.2.1
   |_::_::_,hl,h,hf=>simp at hl;omega
  have hsz:pe.size<=n:=by
   have:=h.pr.len.2;have hf:rs.flatten.length=n:=by have:=h.pm.length_eq;simpa using this
   rw[Ăy] at this;omega
  refine ċ (ś (Q:=λ c st=>c=(none,())/\∃rs pe g,st=gR κ (aV it (rs.flatten++[])) pe g/\RI lt it κ n rs [] pe/\pe.size<=1) (Ł (λ i c st=>c=(none,())/\∃rs pe g,st=gR κ (aV it (rs.flatten++[])) pe g/\RI lt it κ n rs [] pe/\pe.size<=max 1 (n- i)) ?_ ?_ ⟨rfl,rs,pe,g,rfl,h,by omega⟩) ?_)
  ·rintro i c st _ hi ⟨rfl,rs,pe,g,rfl,h,hp⟩
   unfold ad7;refine ċ (ăf ?_);by_cases e1:pe.size<=1
   ·rw[if_pos e1];exact ď ⟨rfl,rs,pe,g,rfl,h,e1⟩
   ·rw[if_neg e1];refine ċ (afw O hc h ?_ λ rs2 pe2 g2 h2 l2 p2=>?_)
    ·have ii:∀(c:Prop) [Decidable c],(if c then pe.size- 2- 1 else pe.size- 2)+1<pe.size:=λ c _=>by split<;>omega
     exact ii _
    ·simp only[āp,ğ,if_false];exact ď ⟨rfl,rs2,pe2,g2,rfl,h2,by omega⟩
  ·rintro c st ⟨rfl,rs,pe,g,rfl,h,hp⟩
   have:=Ņ 0 n;exact ⟨rfl,rs,pe,g,rfl,h,by omega⟩
  ·rintro c st ⟨rfl,rs,pe,g,rfl,h,hp⟩
   exact ď (fin rs pe g h hp)
end
end LM
end
section
namespace L4
open PySem PySem.Spec PyProof.Rows L2 PySem.W LM
section
variable{prog:Program}{w:World}{A:Around}{E:`Ã}{s:Shared}
def DA{a:Addr}{vs:`Ð}{n:Nat}{lt:`Ø}{κ:SortKind}{P:PySem.Fin->Shared->Prop}(ho:s.heap.get? a=some (seqObj "list" vs.toArray n))(h64:vs.length<4096)(O:Ord lt vs.length)
  (hk:2<=vs.length->∀(h':Heap) (Q:SortKind->Shared->Prop),(∀b o,b≠a->s.heap.get? b=some o->h'.get? b=some o)->Q κ {s with heap:=h'}->wpAny `È A (keyKind' vs.toArray) Q E {s with heap:=h'})
  (hc:∀(h':Heap) (i j:Nat) (Q:Bool->Shared->Prop),(∀b o,b≠a->s.heap.get? b=some o->h'.get? b=some o)->2<=vs.length->i<vs.length->j<vs.length->i≠j->Q (lt i j) {s with heap:=h'}->wpAny `È A (keyLt' κ (vs.getD i .none) (vs.getD j .none)) Q (λ _ _=>False) {s with heap:=h'})
  (h:∀h' e (ix:`Ö),(∀b o,b≠a->s.heap.get? b=some o->h'.get? b=some o)->h'.get? a=some (seqObj "list" (ix.map λ i=>vs.getD i Value.none).toArray e)->ix.Perm (ĭ vs.length)->ix.Pairwise (λ a b=>lt a b=true)->P (.done (.ret .none)) {s with heap:=h'}):
  wpAny `È A (Builtin.«list.sort» ⟨[.ref a],[]⟩) P E s:=by
 rw[list_sort_plain]
 have ha:a<s.heap.objs.size:=č ho
 refine Ă (listItems_at ho rfl ?_)
 refine Ă (ăx ho rfl ?_ (by rw[Ę,Ĵ];omega) (Ň _))
 obtain ⟨e1,ho1⟩:∃e1,(s.heap.update a (ĳ λ _=> #[])).get? a=some (seqObj "list" #[] e1):=⟨_,Ăw ho (λ _=> #[])⟩
 refine Ă (Ąv ho1 rfl ?_)
 refine Ă (wpAny_newTuple ?_ (by show vs.length<=_;rw[Ĵ];omega))
 refine Ă (ăy ?_ (Ň _))
 refine Āz ?_
 have s1:=Ũ s.heap a (ĳ λ _=>(#[]:Array Value))
 have ho6:(((s.heap.update a (ĳ λ _=> #[])).push (seqObj "tuple" vs.toArray 0)).push (seqObj "list" #[] 0)).get? a=some (seqObj "list" #[] e1):=Ā _ (Ā _ ho1)
 have kp:∀b o,b≠a->s.heap.get? b=some o->(((s.heap.update a (ĳ λ _=>(#[]:Array Value))).push (seqObj "tuple" vs.toArray 0)).push (seqObj "list" #[] 0)).get? b=some o:=λ b o hb q=>
  Ā _ (Ā _ ((s1.2 b hb).trans q))
 show wpAny `È A _ P E {s with heap:=((s.heap.update a (ĳ λ _=> #[])).push (seqObj "tuple" vs.toArray 0)).push (seqObj "list" #[] 0)}
 dsimp only
 generalize hh:((s.heap.update a (ĳ λ _=>(#[]:Array Value))).push (seqObj "tuple" vs.toArray 0)).push (seqObj "list" #[] 0)=h1 at*
 have fin:∀(st:SortSt) (out:`Ð),(arrOf st).map (·.2)=out.toArray->failedOf st=none->∀ix:List Nat,out=(ix.map λ i=>vs.getD i Value.none)->ix.Perm (ĭ vs.length)->ix.Pairwise (λ a b=>lt a b=true)->wpAny `È A (do
   let touched:=(<-seqEpoch a) !=e1
   Builtin.List.listUpdate (.ref a) λ _=>(arrOf st).map (·.2)
   if let some e:=failedOf st then rule "list.sort.comparison-raised";throw e
   if touched then rule "list.sort.modified";raiseError "ValueError" "list modified during sort"
   ret .none) P E {s with heap:=h1}:=by
  intro st out har hf ix eo hp pw
  have hl:out.length=vs.length:=by rw[eo,ė,hp.length_eq,Ăh]
  refine Ă (Ąv ho6 rfl ?_)
  rw[har,hf]
  refine Ă (ăx ho6 rfl ?_ (Ň _) (by rw[Ę,Ĵ];omega))
  simp only[bne_self_eq_false,ğ,if_false]
  have s2:=Ũ h1 a (ĳ λ _=>out.toArray)
  refine Ě (h _ _ ix (λ b o hb q=>(s2.2 b hb).trans (kp b o hb q)) (by rw[<-eo];exact Ăw ho6 λ _=>out.toArray) hp pw)
 by_cases h2:vs.toArray.size<2
 ·rw[if_pos h2,if_pos h2]
  have h2':vs.length<2:=by simpa using h2
  refine Ă (Ě ?_)
  rw[StateT.run_pure]
  refine Ă (Ě ?_)
  exact fin (āv general' `Ý #[] 7 none) vs (by
   show (`Ý).map (·.2)=vs.toArray
   apply ām.mp
   simp[Ăo]) rfl (ĭ vs.length) (by rw[range_getD]) (Āp _) (by
    rw[ř]
    intro i j hi hj hij
    simp at hj;omega)
 ·rw[if_neg h2,if_neg h2]
  have h2':2<=vs.length:=by simp at h2;omega
  have hn2:¬vs.length<2:=by omega
  refine Ă (hk h2' h1 _ kp ?_)
  have hsz:(`Ý).size=vs.length:=by simp
  have hst:āv κ `Ý #[] 7 none=gR κ (aV `Ý (ĭ vs.length)) #[] 7:=by
   have:=kas_range `Ý
   rw[hsz] at this
   unfold aV
   rw[<-List.map_toArray,this]
  have itf:∀i,(ņ `Ý i).1=vs.getD i .none:=λ i=>by
   unfold ņ
   by_cases h:i<vs.length
   ·have e:`Ý[i]? =some (vs[i],vs[i]):=by rw[Array.getElem?_eq_getElem (by simpa using h)];simp
    rw[Array.getD_eq_getD_getElem?,e,Č,ā h];rfl
   ·have e:`Ý[i]? =none:=by rw[Array.getElem?_eq_none];simpa using h
    rw[Array.getD_eq_getD_getElem?,e,Č,ų `À];rfl
  rw[hst]
  refine Ă (Ļ (aiF (A:=A) (E:=E) (s:={s with heap:=h1}) (κ:=κ) (Q:=λ _ st'=>∃p:List Nat,arrOf st'=p.toArray.map (ņ `Ý)/\failedOf st'=none/\p.Perm (ĭ vs.length)/\p.Pairwise (Rl lt)) O (λ i j C hi hj hij hq=>by
    unfold kas_cmp
    rw[itf,itf]
    exact hc h1 i j C kp h2' hi hj hij hq) `À (λ l pe g pl ul=>⟨l,by simp[aV],rfl,pl,ul⟩)) ?_ λ _ _ e=>e)
  rintro ⟨⟨⟩,st'⟩ s' ⟨es,p,har,hf,hp,up⟩
  subst es
  exact fin st' _ (kat_snds rfl har) hf p rfl hp up
def A0{l:Addr}{Good:List Value->Heap->Prop}{Q:`Ã} (apA:∀(A':Around) (E':`Ã) (R:List Value->Shared->Prop),A'.handled=A.handled->(∀vs h' tk,(∀b o,s.heap.get? b=some o->h'.get? b=some o)->s.heap.objs.size<=h'.objs.size->Good vs h'->R vs {s with heap:=h',toks:=tk})->wpAny `È A' (collect (.ref l)) R E' s) (hg:∀vs h1 h2,(∀b o,h1.get? b=some o->h2.get? b=some o)->Good vs h1->Good vs h2) (hs:∀vs h',Good vs h'->vs.length<4096/\∃(lt:`Ø) (κ:SortKind),Ord lt vs.length/\(2<=vs.length->∀(A':Around) (h2:Heap) (tk:Nat) (E':`Ã) (Q:SortKind->Shared->Prop),Good vs h2->Q κ {s with heap:=h2,toks:=tk}->wpAny `È A' (keyKind' vs.toArray) Q E' {s with heap:=h2,toks:=tk})/\(∀(A':Around) (h2:Heap) (tk i j:Nat) (Q:Bool->Shared->Prop),A'.units<A.units+8->Good vs h2->i<vs.length->j<vs.length->i≠j->Q (lt i j) {s with heap:=h2,toks:=tk}->wpAny `È A' (keyLt' κ (vs.getD i .none) (vs.getD j .none)) Q (λ _ _=>False) {s with heap:=h2,toks:=tk})/\(∀h2 tk r e (ix:`Ö),(∀b o,s.heap.get? b=some o->h2.get? b=some o)->s.heap.objs.size<=r->Good vs h2->h2.get? r=some (seqObj "list" (ix.map λ i=>vs.getD i Value.none).toArray e)->ix.Perm (ĭ vs.length)->ix.Pairwise (λ a b=>lt a b=true)->Q (.ref r) {s with heap:=h2,toks:=tk})):
  wpAny `È A (call (.builtin "sorted") [.ref l]) Q E s:=by
 refine Calls.call_function_entry kind_sorted plain_sorted entry_sorted (args_sorted1 _) ?_;unfold Builtin.«sorted»;refine Ă (m:=checkCount "sorted" 1 1 _) (Ě ?_);refine Ă (apA _ _ _ rfl λ vs h' tk kp sz gd=>?_);obtain ⟨h64,lt,κ,O,hk,hc,hq⟩:=hs vs h' gd;refine Ă (ăy ?_ (by rw[Ĵ];omega));have hoL:(h'.push (seqObj "list" vs.toArray 0)).get? h'.objs.size=some (seqObj "list" vs.toArray 0):=đ _ rfl;have keep:∀b o,h'.get? b=some o->(h'.push (seqObj "list" vs.toArray 0)).get? b=some o:=λ b o q=>Ā _ q;show wpAny _ _ _ _ _ (Shared.mk (h'.push (seqObj "list" vs.toArray 0)) s.gens s.drawn tk s.os);refine Ă (Āz (Ů slot_list_sort ⟨_,hoL,rfl⟩ entry_list_sort ?body (args_list_sort _)));case body=>
  have gk:∀h2:Heap,(∀b o,b≠h'.objs.size->(h'.push (seqObj "list" vs.toArray 0)).get? b=some o->h2.get? b=some o)->∀b o,h'.get? b=some o->h2.get? b=some o:=λ h2 k b o e=>k b o (ĕ (č e)) (keep b o e);refine DA (s:=Shared.mk (h'.push (seqObj "list" vs.toArray 0)) s.gens s.drawn tk s.os) (lt:=lt) (κ:=κ) hoL h64 O
   (λ h2 h3 Q' k q=>hk h2 _ h3 tk _ Q' (hg vs h' h3 (gk h3 k) gd) q) (λ h3 i j Q' k h2 hi hj hij q=>hc _ h3 tk i j Q' ?_ (hg vs h' h3 (gk h3 k) gd) hi hj hij q) λ h3 e ix k ea hp pw=>⟨_,rfl,?_⟩
  ·first|omega|(dsimp only;omega)|(simp[Ąi];omega)
  ·exact Ě ⟨_,rfl,hq h3 tk _ e ix (λ b o z=>gk h3 k b o (kp b o z)) sz (hg vs h' h3 (gk h3 k) gd) ea hp pw⟩
end
end L4
end
section
namespace L4
open PySem PySem.Spec PyProof.Rows L2 PySem.W
section
variable{prog:Program}{w:World}{A:Around}{E:`Ã}{s:Shared}{Q:Bool->Shared->Prop}
def acd{x y:Int}(h:Q (decide (x<y)) s):wpAny `È A (oneLt' b (.int x t) (.int y u)) Q E s:=by
 cases b with
 |true=>exact oneLt_int h
 |false=>exact kat_one _ _ (lt_int (show W.BoolBack Q (.bool (decide (x<y))) s from h))
theorem IY:∀{its jts:`Ð} {ns ms:`Î} (i:Nat),IntsAre its ns->IntsAre jts ms->ns.length=ms.length->Q (gu ns ms) s->KatLex prog w A true false Q (its.zip jts) i s
 |_,_,_,_,_,.nil,.nil,_,q=>kat_nil q
 |_,_,_,_,_,.nil,.cons _ _ _,h,_=>by simp at h
 |_,_,_,_,_,.cons _ _ _,.nil,h,_=>by simp at h
 |_,_,_,_,i,.cons n t a,.cons m u b,h,q=>by
  rw[ĥ];refine kat_cons (Ąb (kat_go (λ z=>kat_yes (IY (i+1) a b (by simpa using h) ?_)) (λ z=>kat_no (acd ?_))))
  ·have z:n=m:=by simpa using z
   subst z;simpa[gu] using q
  ·have z:n≠m:=by simpa using z
   simpa[gu,z] using q
end
theorem R9:∀n:List Int,(n.map (Sum.inl:Int->Key)).map kV=n.map V.int
 |[]=>rfl
 |x::n=>by simp only[ą];rw[R9 n];rfl
def IU{x y:`Î}(h:x.map (Sum.inl:Int->Key)=y.map Sum.inl):x=y:=by
 induction x generalizing y with
 |nil=>cases y with
  |nil=>rfl
  |cons _ _=>simp at h
 |cons a x ih=>cases y with
  |nil=>simp at h
  |cons b y=>simp only[ą,Ŗ,Sum.inl.injEq] at h;rw[h.1,ih h.2]
theorem aes:∀(bs:List Addr) (ns:List (List Int)),bs.length=ns.length->(∀n∈ns,n.length=3)->(∀(i:Nat) (b:Addr) (n:`Î),bs[i]? =some b->ns[i]? =some n->∃its:List Value,IsTup h b its.toArray/\IntsAre its n)->∃fs,KatTups h (bs.map Value.ref) fs/\fs.length=bs.length/\∀v∈fs,∃x t,v=Value.int x t
 |[],_,_,_,_=>⟨[],ąw,rfl,λ _ z=>nomatch z⟩
 |b::bs,[],h,_,_=>by simp at h
 |b::bs,n::ns,hl,h3,hg=>by
  obtain ⟨fs,k1,k2,k3⟩:=aes bs ns (by simpa using hl) (λ m hm=>h3 m (.tail _ hm)) λ i c m e1 e2=>hg (i+1) c m (by simpa using e1) (by simpa using e2);obtain ⟨its,⟨o,o1,o2,q,o3⟩,i1⟩:=hg 0 b n rfl rfl;have hn:=h3 n (.head _);cases i1 with
  |nil=>simp at hn
  |cons x t r=>
   refine ⟨.int x t::fs,Ąm o1 o2 o3 `Ó k1,by simp[k2],λ v hv=>?_⟩;rcases Ć.mp hv with rfl|hv
   ·exact ⟨x,t,rfl⟩
   ·exact k3 v hv
theorem IZ:∀x y:List Int,HT.lexLt x y=gu x y
 |[],[]=>rfl
 |[],_::_=>rfl
 |_::_,[]=>rfl
 |a::x,b::y=>by show (if a=b then HT.lexLt x y else _)=(if a=b then gu x y else _);rw[IZ x y]
section
variable{X:Cx}{ct:Ct}{e:Expr}{es:`Þ}{f:`Ñ}{fa:`Æ}{p pos:Pos}
theorem D4{K:ă}{H:Hp}:∀n:List Int,aF K ct H (n.map D.int) (n.map V.int)
 |[]=>aF.nil
 |i::n=>aF.cons (by simp[Tl]) (D4 n)
def abw{K:ă}{H:Hp}{b:Addr}{n:`Î}(h:H b=some (.tup (n.map V.int))):Tl K ct H (tupI n) (.ref b):=by simp only[tupI,Tl];exact ⟨b,_,rfl,h,D4 n⟩
theorem Fv{K:ă}{H:Hp}{α:Type}{g:α->D}{h:α->V}:∀{l:List α},(∀a∈l,Tl K ct H (g a) (h a))->aF K ct H (l.map g) (l.map h)
 |[],_=>aF.nil
 |a::l,q=>aF.cons (q a (.head _)) (Fv λ b hb=>q b (.tail _ hb))
end
def adL(v a:Addr):Heap->Prop:=λ h=>h.get? v=some (vwO a)
def Yp{v a:Addr}(e:h.get? v=some (vwO a)):eV P w H h v (.ext (adL v a)):=⟨e,⟨_,e⟩,λ h1 h2 e1 k=>k _ e1⟩
def agk(td:TE):TE:=λ σ H Q=>td σ H λ x H1=>∃a,x= .ref a/\IsD H1 a/\∀v,H1 v=none->Q (.ref v) (upd H1 v (.ext (adL v a)))
section
variable{X:Cx}{ct:Ct}{o:Expr}{td:TE}{f:`Ñ}{ap cp p pos:Pos}
def WK(ho:PE X o td)(h1:attributeBase o "items" X.env (eval o X.env)=eval o X.env:=by rfl)(h3:(ap.endLine==cp.line)=true:=by rfl):PE X (.Call (.Attribute o "items" ap) [] [] cp) (agk td):=by intro pins s σ H Q I h;refine Ăb h1 rfl h3 Āl PySem.F.slot_dict_items PySem.F.type_dict_items (fV (ho pins s σ H _ I h) λ u s1 ⟨x,H1,I1,rx,a,ex,d,q1⟩=>?_);subst ex;obtain rfl:u=Value.ref a:=rx;obtain ⟨t1,t2,hy⟩:=GU I1 d;refine ⟨t1,t2,?_⟩;show wpAny _ _ (callWith cp (.builtin "dict.items") [.ref a] [] []) _ _ s1;refine ū rfl (PyProof.Rows.evalArgs_none ?_);refine Ů PySem.F.slot_dict_items t1 PySem.F.entry_dict_items ?_ (PySem.F.args_dict_items_1 _);unfold Builtin.«dict.items»;refine Ă ?_;unfold Builtin.Dict.noArgs;refine Ă (wpAny_notOrdered_dict t1 ?_);show wpAny _ _ (pure a) _ _ s1;refine Ě ?_;show wpAny _ _ (Builtin.Dict.showsAll a>>=_) _ _ s1;unfold Builtin.Dict.showsAll;rw[if_neg (by rw[hy];exact Ĥ)];refine Ă (Ě (Ă (Āc (Ě ⟨_,rfl,?_⟩))));have e:(s1.heap.push (vwO a)).get? s1.heap.objs.size=some (vwO a):=đ _ rfl;exact ⟨.ref s1.heap.objs.size,_,I1.laid (t':=s1.toks) (λ _ _ z=>Ā _ z) (Ĉ _) (Yp e),rfl,q1 _ (I1.hok.fresh (Ĉ _))⟩
end
section
variable{X:Cx}{c:Cf}{e:Expr}{fm:Sg->Res M}{pos:Pos}
end
end L4
end
section
namespace L4
open PySem PySem.Spec PyProof.Rows L2
section
variable{X:Cx}{pins:`Ê}{σ:St}{H:Hp}{s:Shared}
def Rm{t':Nat}{h':Heap}{ch:List Addr}{T:Addr}{o:HO}(I:`Ä)(k:∀b o,b∉ch->s.heap.get? b=some o->h'.get? b=some o)(hf:∀b∈ch,CS X pins H b)(hT:s.heap.objs.size<=T) (new:eV X.prog X.w (upd H T o) h' T o):Inv X pins σ (upd H T o) {s with heap:=h',toks:=t'}:=by
 have nit:∀b u,H b=some u->b∉ch:=λ b u e z=>by rw[(hf b z).1] at e;cases e
 have hL:X.env.locals∉ch:=λ z=>(hf _ z).2.1 rfl;have hTn:H T=none:=I.hok.fresh hT;have ne:∀b u,s.heap.get? b=some u->b≠T:=λ b u e=>ĕ (Ē (č e) hT);have neH:∀b u,H b=some u->b≠T:=λ b u e z=>by rw[z,hTn] at e;cases e
 refine I.step (g':=s.gens) (d':=s.drawn) (ch:=ch) (λ b hb=>?_) (λ b o _ _ hc e _=>k b o hc e) (λ b o _ _ hc e _=>⟨o.slots,k b o hc e⟩) (λ b o _ e n=>by rw[aE (ne b o e)];exact n)
  (λ b o hc e=>⟨o,k b o hc e⟩) (λ b xs e=>by rw[aE (neH b _ e)];exact e) (λ b o u e=>by rw[aE (neH b _ e)];exact e) (λ b ps e=>⟨#[],by rw[aE (neH b _ e),e];simp⟩) (λ m hm=>?_) (λ b u e=>?_) I.bare
 ·obtain ⟨_,f1,_,f3,f4,f5⟩:=hf b hb;exact ⟨f3,f1,f4,f5⟩
 ·obtain ⟨o,es,ep,ho,r⟩:=hm;exact ⟨o,es,ep,k _ o hL ho,r⟩
 ·by_cases hb:b=T
  ·subst hb;rw[aC] at e;cases e;exact new
  ·rw[aE hb] at e;refine (I.hok b u e).stay (λ c v hc q=>k c v ?_ q) (λ c q=>by rw[aE (neH c _ q)];exact q) λ c u q=>by rw[aE (neH c _ q)];exact q
   rcases hc with z|z
   ·rw[z];exact nit b u e
   ·exact nit c _ z
end
noncomputable def Ite(K:ă)(a:Addr)(N:Nat):It:=⟨λ i H=>∃xs x,yc K H a xs/\xs.length=N/\xs[i]? =some x,λ i H x H'=>∃p v,H p=none/\(∀xs,yc K H a xs->xs[i]? =some v)/\x= .ref p/\H'=upd H p (.tup [.int i,v]),λ i H=>∃xs,yc K H a xs/\xs.length=N/\N<=i⟩
def aga(h:a≠b):Value.type a≠Value.type b:=λ z=>h (Value.type.inj z)
def Cz{e it a:Addr}(h1:IsEnum h e it i old)(h2:h.IsTupleIter it a j)(h3:h.IsTuple a items):e≠it/\e≠a/\a≠it:=by
 obtain ⟨o2,g2,c2,d2⟩:=h2;obtain ⟨o3,g3,c3,_⟩:=h3;refine ⟨λ z=>?_,λ z=>?_,λ z=>?_⟩
 ·subst z;rw[h1] at g2;cases g2;exact aga `Â c2
 ·subst z;rw[h1] at g3;cases g3;exact aga `Â c3
 ·subst z;rw[g2] at g3;cases g3;rw[c2] at c3;exact aga `Â c3
def Km{P:Program}{w:World}{K:ă}{elts:`Þ}{c:Nat}{pos:Pos}(a e it:Addr)(N:Nat):Turn P w K (.Tuple elts c pos) (Ite K a N) [e,it] e (λ i h=>(∃old,IsEnum h e it (i:Nat) old)/\h.IsTupleIter it a i/\i<=N) where
 mem:=by simp
 obj:=λ i h st b hb=>by
  obtain ⟨⟨old,h1⟩,⟨o,e2,c2,d2⟩,_⟩:=st
  simp only[Ć,āu,ķ,or_false] at hb
  rcases hb with rfl|rfl
  ·exact ⟨_,h1,λ v z=>by cases z⟩
  ·exact ⟨o,e2,λ v z=>by rw[d2] at z;cases z⟩
 keep:=λ i h h' st k=>by
  obtain ⟨⟨old,h1⟩,h2,h3⟩:=st
  exact ⟨⟨old,k e `Ó _ h1⟩,h2.at λ o z=>k it `Ó o z,h3⟩
 item:=by
  intro X hP hw hK hc i pins s σ H E I hf st hg
  subst hP hw hK
  obtain ⟨⟨old,h1⟩,h2,h3⟩:=st
  obtain ⟨xs,x,hq,hN,hx⟩:=hg
  obtain ⟨its,rv,p,hz⟩:=I.tuple hq
  obtain ⟨u,hu,ru⟩:=rv.get hx
  have hl:=rv.length
  have p':s.heap.IsTuple a its.toArray:=p
  obtain ⟨n1,n2,n3⟩:=Cz h1 h2 p'
  have hi:i<its.toArray.size:=by
   have:=(Ď.mp hu).1
   simpa using this
  refine wpAny_pyNext_enum_itemD (Y8 (A:=X.A.in1) (prog:=X.prog) (w:=X.w) (I.ok.hd hc) it a n3 its.toArray) h1 ⟨h2,p'⟩ hi n1 (by simp[n1,n2]) λ y h' tk hy ho st' hT hsz kk=>?_
  have ey:y=u:=by
   rw[Ŵ,hu] at hy;exact (ĝ hy).symm
  subst ey
  refine ⟨_,rfl,wpAny_letOwnedTupleGo_enum ho λ h2' he2 sb=>?_⟩
  have hTe:s.heap.objs.size≠e:=ąi (č h1)
  have hT2:h2'.get? s.heap.objs.size=some {cls:= .type "tuple",data:= .seq #[.int i tk,y]}:=(sb.2 _ hTe).trans hT
  have hfp:=λ b (hb:b∈[e,it])=>hf b hb
  have I2:Inv X pins σ (upd H s.heap.objs.size (.tup [.int i,x])) {s with heap:=h2',toks:=tk+1}:=by
   refine Rm (ch:=[e,it]) I (λ b o hb q=>?_) hfp (Ĉ _) ⟨by simp[Ĵ],[.int i tk,y],.cons ⟨tk,rfl⟩ (.cons ru .nil),_,hT2,rfl,0,rfl⟩
   simp only[Ć,ķ,or_false,not_or] at hb
   exact (sb.2 b hb.1).trans (kk b o hb.1 hb.2 q)
  refine ⟨.ref s.heap.objs.size,_,I2,rfl,⟨_,x,I.hok.fresh (Ĉ _),λ ys hys=>by rw[I.D3 hys hq];exact hx,rfl,rfl⟩,⟨⟨_,he2⟩,?_,?_⟩,λ b hb=>?_⟩
  ·exact st'.1.at λ o z=>(sb.2 it (Ŋ n1)).trans z
  ·have:=(Ď.mp hx).1;omega
  ·have hb0:=hfp b hb
   rw[aE]
   ·exact hb0.1
   ·intro z
    simp only[Ć,ķ,or_false] at hb
    rcases hb with rfl|rfl
    ·exact hTe z.symm
    ·obtain ⟨o2,g2,_⟩:=h2
     exact absurd z (ĕ (č g2))
 done:=by
  intro X hP hw hK hc i pins s σ H E I hf st hg
  subst hP hw hK
  obtain ⟨⟨old,h1⟩,h2,h3⟩:=st
  obtain ⟨xs,hq,hN,hi⟩:=hg
  obtain ⟨its,rv,p,hz⟩:=I.tuple hq
  have hl:=rv.length
  have p':s.heap.IsTuple a its.toArray:=p
  obtain ⟨n1,n2,n3⟩:=Cz h1 h2 p'
  have ei:i=its.toArray.size:=by simp;omega
  subst ei
  refine wpAny_pyNext_enum_endD (Y8 (A:=X.A.in1) (prog:=X.prog) (w:=X.w) (I.ok.hd hc) it a n3 its.toArray) h1 ⟨h2,p'⟩ λ h' eb=>⟨rfl,?_⟩
  exact abt (ch:=[it]) (t':=s.toks) I (λ b o hb q=>eb b o (by simpa using hb) q) λ b hb=>hf b (by simp only[āu] at hb;subst hb;simp)
 self:=λ _ _ _ _ _ st h=>by
  obtain ⟨⟨old,h1⟩,_⟩:=st
  exact wpAny_pyIter_enum h1 h
end L4
end
section
namespace L4
open PySem
noncomputable def oK:Nat->List D->List D
 |_,[]=>[]
 |k,x::t=> .tup [.int k,x]::oK (k+1) t
def Sw:List D->Res (List D)
 |[.tup xs]=> .ok (oK 0 xs)
 |_=> .bad
def Jq(r:`Æ):Sg->Res (List D):=λ Γ=>(r Γ).bnd Sw
noncomputable def oU:D->Res (List D)
 | .lst xs=> .ok xs
 | .bor _ xs=> .ok xs
 | .tup xs=> .ok xs
 | .gt xs=> .ok xs
 |_=> .bad
noncomputable def gc(f:`Ñ):Sg->Res (List D):=λ Γ=>(f Γ).bnd oU
@[simp] theorem ajE:gc f Γ=(f Γ).bnd oU:=(rfl)
@[simp] theorem akE(xs:List D):oU (.lst xs)= .ok xs:=(rfl)
@[simp] theorem akD(xs:List D):oU (.tup xs)= .ok xs:=(rfl)
def YZ(ds:List D):M->Option M
 | .l xs=>if xs.length+ds.length<1000000/\ly ds=true then some (.l (xs++ds)) else none
 |_=>none
def Fy(i:Nat)(g:Sg->Res (List Nat))(f:`Æ):Sg->Out:=λ Γ=>oE (g Γ) Γ λ ks=>if UN (zy i ks Γ)=true then oE (f Γ) Γ λ d=>oUp (xY i ks (YZ d) Γ) else .bad
noncomputable def d3:D->Option (List Int)
 | .tup [.int a,.int b,.int c]=>some [a,b,c]
 |_=>none
def d3s:List D->Option (List (List Int))
 |[]=>some []
 |x::t=>match d3 x,d3s t with
  |some n,some ns=>some (n::ns)
  |_,_=>none
def aeH(h:d3 x=some n):x=tupI n/\n.length=3:=by
 unfold d3 at h;split at h
 ·cases h;exact ⟨rfl,rfl⟩
 ·cases h
theorem Ze:∀{xs:List D} {ns:List (List Int)},d3s xs=some ns->xs=ns.map tupI/\∀n∈ns,n.length=3
 |[],ns,h=>by cases h;exact ⟨rfl,λ _ z=>nomatch z⟩
 |x::xs,ns,h=>by
  unfold d3s at h;split at h
  ·rename_i n ms e1 e2;cases h;obtain ⟨a1,a2⟩:=aeH e1;obtain ⟨b1,b2⟩:=Ze e2;refine ⟨by rw[a1,b1];rfl,λ m hm=>?_⟩;rcases Ć.mp hm with rfl|hm
   ·exact a2
   ·exact b2 m hm
  ·cases h
def D6(xs:List D):Res (List D):=match d3s xs with
 |some ns=>if ns.length<4096/\ns.Nodup then .ok ((srt (ns.zip xs)).map λ p=>tupI p.1) else .bad
 |none=> .bad
def agt:D->Res (List D)
 | .lst xs=>D6 xs
 | .bor _ xs=>D6 xs
 |_=> .bad
def yq:List D->Res (List D)
 |[x]=>agt x
 |_=> .bad
def Sk(o y:D):Res D:=match Vt o,Jf y with
 |some (ks,xs),some k=> .ok ((nK ks xs k).getD .cU)
 |_,_=> .bad
def Zd(f g:`Ñ):Sg->Res D:=λ Γ=>(f Γ).bnd λ o=>match Vt o with
 |some _=>(g Γ).bnd λ y=>Sk o y
 |none=> .bad
end L4
end
section
namespace L4
open PySem PySem.Spec PyProof.Rows L2 PySem.W
theorem yh:∀{bs:List Addr} {us:`Ð},Vals (bs.map V.ref) us->us=bs.map Value.ref
 |[],_,.nil=>rfl
 |b::bs,_,.cons r t=>by have e:=yh t;subst e;cases r;rfl
def Hj{X:Cx}:qN X (.builtin "sorted") (λ xs H Q=>∃(a:Addr) (bs:List Addr) (ns:List (List Int)),xs=[.ref a]/\qO X.K H a (bs.map V.ref)/\bs.length=ns.length/\ns.Nodup/\ns.length<4096/\(∀n∈ns,n.length=3)/\(∀(i:Nat) (b:Addr) (n:`Î),bs[i]? =some b->ns[i]? =some n->H b=some (.tup (n.map V.int)))/\∀(r:Addr) (ix:`Ö),H r=none->ix.Perm (ĭ ns.length)->ix.Pairwise (λ i j=>gu (ns.getD i []) (ns.getD j [])=true)->Q (.ref r) (upd H r (.lst (ix.map λ i=>V.ref (bs.getD i 0))))):=by
 intro pins s σ H xs us Q I rr ⟨a,bs,ns,ex,sq,lb,ndn,h64,h3,P0,q⟩;subst ex;obtain ⟨u,rfl,ru⟩:=vals1 rr;cases ru;obtain ⟨its,rv,pl,hz⟩:=I.list sq;have aib:=yh rv;subst aib;let Good:List Value->Heap->Prop:=λ vs h=>vs=bs.map Value.ref/\∀(i:Nat) (b:Addr) (n:`Î),bs[i]? =some b->ns[i]? =some n->∃its:List Value,IsTup h b its.toArray/\IntsAre its n
 have gk:∀vs h1 h2,(∀b o,h1.get? b=some o->h2.get? b=some o)->Good vs h1->Good vs h2:=λ vs h1 h2 k ⟨e,g⟩=>⟨e,λ i b n e1 e2=>let ⟨its,t,i1⟩:=g i b n e1 e2;⟨its,t.keeps k,i1⟩⟩;have g0:Good (bs.map Value.ref) s.heap:=⟨rfl,λ i b n e1 e2=>by obtain ⟨_,its,r,t⟩:=I.hok b _ (P0 i b n e1 e2);exact ⟨its,t,intsAre_of r⟩⟩;have at2:∀{i:Nat},i<ns.length->∃b n,bs[i]? =some b/\ns[i]? =some n/\(bs.map Value.ref).getD i .none= .ref b/\ns.getD i []=n:=λ{i} hi=>by
  have hb:i<bs.length:=by rw[lb];exact hi
  exact ⟨bs[i],ns[i],ā hb,ā hi,by simp[Č,hb],by simp[Č,hi]⟩
 have O:Ord (λ i j=>gu (ns.getD i []) (ns.getD j [])) ns.length:=⟨λ i j hi hj hij=>by refine wO _ _ λ e=>hij ?_;obtain ⟨_,n,_,e1,_,e2⟩:=at2 hi;obtain ⟨_,m,_,e3,_,e4⟩:=at2 hj;rw[e2,e4] at e;subst e;exact (ăt hi ndn).mp (e1.trans e3.symm),λ i j k _ _ _=>wN _ _ _⟩;refine A0 (Good:=Good) (l:=a) (λ A' E' R hA h=>?_) gk λ vs h' gd=>?_
 ·refine ąo pl.isList ?_ (by rw[ė,lb,Ĵ];omega);have kp:∀b o,s.heap.get? b=some o->((s.heap.push (seqObj "list" #[] 0)).update s.heap.objs.size (ĳ λ x=>x++(bs.map Value.ref).toArray)).get? b=some o:=λ b o q=>by rw[Ăz _ _ _ _ (ĕ (č q))];exact Ā _ q
  exact h _ _ s.toks kp (by rw[Ąd,Āk];omega) (gk _ _ _ kp g0)
 ·obtain ⟨rfl,_⟩:=id gd;have lv:(bs.map Value.ref).length=ns.length:=by rw[ė,lb]
  refine ⟨by rw[lv];exact h64,λ i j=>gu (ns.getD i []) (ns.getD j []),tuples' true,by rw[lv];exact O,λ h2 A' h2' tk E' Q' gd' q'=>?_,λ A' h2' tk i j Q' hu gd' hi hj hij q'=>?_,λ h2' tk r e ix kp hr gd' er hp pw=>?_⟩
  ·obtain ⟨fs,k1,k2,k3⟩:=aes bs ns lb h3 gd'.2;rw[lv] at h2;refine kat_kind (s:=Shared.mk h2' s.gens s.drawn tk s.os) (fs:=fs) (T:= .type "int") k1 (by rw[k2,lb];omega) (λ v hv=>?_) rfl q';obtain ⟨x,t,rfl⟩:=k3 v hv;exact EF
  ·rw[lv] at hi hj;obtain ⟨b,n,e1,e2,e3,e4⟩:=at2 hi;obtain ⟨c,m,f1,f2,f3,f4⟩:=at2 hj;rw[e3,f3];obtain ⟨its,⟨ob,o1,o2,k1,o3⟩,i1⟩:=gd'.2 i b n e1 e2;obtain ⟨jts,⟨oc,p1,p2,k2,p3⟩,i2⟩:=gd'.2 j c m f1 f2;have ln:=h3 n (Ād e2);have lm:=h3 m (Ād f2);refine kat_lt (s:=Shared.mk h2' s.gens s.drawn tk s.os) o1 o3 p1 p3 ?_;have z1:its.length=3:=by rw[<-ln];exact i1.length
   have z2:jts.length=3:=by rw[<-lm];exact i2.length
   rw[show decide (its.toArray.size<jts.toArray.size)=false by simp[z1,z2]];refine IY 0 i1 i2 (by rw[ln,lm]) ?_;rw[<-e4, <-f4];exact q'
  ·rw[lv] at hp;have vals:Vals (ix.map λ i=>V.ref (bs.getD i 0)) (ix.map λ i=>(bs.map Value.ref).getD i Value.none):=by
    have:∀l:List Nat,(∀i∈l,i<ns.length)->Vals (l.map λ i=>V.ref (bs.getD i 0)) (l.map λ i=>(bs.map Value.ref).getD i Value.none):=by
     intro l;induction l with
     |nil=>exact λ _=> .nil
     |cons i l ih=>intro hl;obtain ⟨b,_,e1,_,e3,_⟩:=at2 (hl i (.head _));refine .cons ?_ (ih λ j hj=>hl j (.tail _ hj));show L2.RelV (V.ref (bs.getD i 0)) ((bs.map Value.ref).getD i Value.none);rw[e3];show Value.ref b=Value.ref (bs.getD i 0);rw[Č,e1];rfl
    exact this ix λ i hi=>by simpa using hp.mem_iff.mp hi
   have lx:ix.length<4096:=by rw[hp.length_eq,Ăh];exact h64
   exact ⟨.ref r,_,I.laid (t':=tk) kp hr (show eV X.prog X.w _ h2' _ (.lst (ix.map λ i=>V.ref (bs.getD i 0))) from ⟨by rw[Ĵ,ė];omega,_,e,vals,er⟩),rfl,q r ix (I.hok.fresh hr) hp pw⟩
section
variable{X:Cx}{ct:Ct}{e:Expr}{es:`Þ}{f:`Ñ}{fa:`Æ}{p pos:Pos}
theorem HX{K:ă}{H:Hp}:∀{ns:List (List Int)} {vs:List V},aF K ct H (ns.map tupI) vs->∃bs:List Addr,vs=bs.map V.ref/\bs.length=ns.length/\∀(i:Nat) (b:Addr) (n:`Î),bs[i]? =some b->ns[i]? =some n->H b=some (.tup (n.map V.int))
 |[],vs,h=>by simp only[Ăa,aF] at h;subst h;exact ⟨[],rfl,rfl,λ i b n h=>by simp at h⟩
 |n::ns,vs,h=>by
  simp only[ą,aF] at h;obtain ⟨v,r,rfl,h1,h2⟩:=h;obtain ⟨bs,rfl,lb,hb⟩:=HX h2;simp only[tupI,Tl] at h1;obtain ⟨a,us,rfl,ha,ht⟩:=h1;have eu:us=n.map V.int:=by
   have:∀{m:`Î} {us:List V},aF K ct H (m.map D.int) us->us=m.map V.int:=by
    intro m;induction m with
    |nil=>intro us h;simpa[aF] using h
    |cons x m ih=>intro us h;simp only[ą,aF,Tl] at h;obtain ⟨v,r,rfl,rfl,h⟩:=h;rw[ih h];rfl
   exact this ht
  subst eu;refine ⟨a::bs,rfl,by simp[lb],λ i b m e1 e2=>?_⟩;cases i with
  |zero=>simp at e1 e2;subst e1 e2;exact ha
  |succ i=>exact hb i b m (by simpa using e1) (by simpa using e2)
def u9(hm:X.mg "sorted"=none)(ha:CM X ct (e::es) fa)(hg:Gl X "sorted":=by rfl)(he:`Ç:=by rfl)(hpl:(backTo pos (ć es X.env)).any (·.1)=false:=by rfl):WL X ct (.Call (.Name "sorted" p) (e::es) [] pos) (Yb yq fa):=by
 have ha:=ha.out;refine ⟨?_⟩;refine PE.imp (jk Hj hg hm (by decide+kernel) ha `Â `Â he hpl) λ σ H Q ⟨Γ,j,h⟩=>?_;refine JW.bnd j h λ ds vs H' s t j' h'=>?_;unfold yq at h';split at h'
 ·rename_i x;obtain ⟨v,rfl,t1⟩:=zK t;have go:∀(xs:List D) (a:Addr) (vs:List V),qO X.K H' a vs->aF X.K ct H' xs vs->v= .ref a->Ok X ct σ H (D6 xs) (Wl X ct H Q)->∃(a:Addr) (bs:List Addr) (ns:List (List Int)),[v]=[.ref a]/\qO X.K H' a (bs.map V.ref)/\bs.length=ns.length/\ns.Nodup/\ns.length<4096/\(∀n∈ns,n.length=3)/\
    (∀(i:Nat) (b:Addr) (n:`Î),bs[i]? =some b->ns[i]? =some n->H' b=some (.tup (n.map V.int)))/\
    ∀(r:Addr) (ix:`Ö),H' r=none->ix.Perm (ĭ ns.length)->ix.Pairwise (λ i j=>gu (ns.getD i []) (ns.getD j [])=true)->Q (.ref r) (upd H' r (.lst (ix.map λ i=>V.ref (bs.getD i 0)))):=by
   intro xs a vs sq tl ev hh;unfold D6 at hh;split at hh
   ·rename_i ns hn;split at hh
    ·rename_i hc;obtain ⟨n1,n2⟩:=Ze hn;rw[n1] at tl;obtain ⟨bs,rfl,lb,hb⟩:=HX tl;have lx:xs.length=ns.length:=by rw[n1,ė]
     refine ⟨a,bs,ns,by rw[ev],sq,lb,hc.2,hc.1,n2,hb,λ r ix hr hp pw=>?_⟩;have s2:=bf hr (.lst (ix.map λ i=>V.ref (bs.getD i 0)));refine hh r _ _ (s.trans s2) (s.free hr) aC ?_;rw[<-V1 lx hc.2 hp pw,ŋ];refine Fv λ i hi=>?_;have il:i<ns.length:=by simpa using hp.mem_iff.mp hi
     have ib:i<bs.length:=by rw[lb];exact il
     show Tl X.K ct _ (tupI (ns.getD i [])) (V.ref (bs.getD i 0));rw[Č,Č,ā il,ā ib];exact abw (s2 _ _ (hb i _ _ (ā ib) (ā il)))
    ·exact hh.elim
   ·exact hh.elim
  cases x with
  |lst xs=>simp only[Tl] at t1;obtain ⟨a,vs,rfl,fz,tl⟩:=t1;exact go xs a vs fz.sq tl rfl h'
  |bor tm xs=>
   obtain ⟨a,rfl,sq,tl⟩:∃a,v= .ref a/\(∃vs,qO X.K H' a vs/\aF X.K ct H' xs vs)/\True:=by
    simp only[Tl] at t1;obtain ⟨a,vs,rfl,h2,t⟩:=t1;refine ⟨a,rfl,⟨vs,?_,t⟩,trivial⟩;cases tm with
    |true=>exact .inl (.inl (j'.lB a _ h2))
    |false=>exact .inl (.inl (j'.lL a _ h2))
   obtain ⟨vs,sq,tl⟩:=sq;exact go xs a vs sq tl rfl h'
  |_=>exact h'.elim
 ·exact h'.elim
end
end L4
end
section
namespace L4
open PySem PySem.Spec PyProof.Rows L2
section
variable{X:Cx}{c:Cf}{st:Stmt}{sts:List Stmt}
end
def hU1(h:a+64<b):a+1<b:=by omega
def CQ(X:Cx)(scope:Scope)(c:Nat)(y:Str):Prop:=X.N[c]? =some y/\Vj X.env.scope y/\X.env.kindOf y≠some .local/\(y,NameKind.free)∈scope.names
def Vc{y:Str}(h1:X.N[c]? =some y)(h2:Vj X.env.scope y:=by first|exact Or.inl rfl|exact Or.inr (Or.inl rfl)|exact Or.inr (Or.inr rfl))(h3:X.env.kindOf y≠some .local:=by exact λ h=>nomatch h)(h4:(y,NameKind.free)∈scope.names:=by decide+kernel):CQ X scope c y:=⟨h1,h2,h3,h4⟩
def adz{X:Cx}{scope:Scope}{k:Nat}{caps:`Ö}{N':`Ú}(h:∀p∈caps.zip (N'.drop k),CQ X scope p.1 p.2)(i c:Nat)(y:Str)(h1:caps[i]? =some c)(h2:N'[k+i]? =some y):X.N[c]? =some y/\Vj X.env.scope y/\X.env.kindOf y≠some .local/\(y,NameKind.free)∈scope.names:=h (c,y) (Ād (i:=i) (List.getElem?_zip_eq_some.mpr ⟨h1,by rw[List.getElem?_drop];exact h2⟩))
section
variable{X:Cx}{ct:Ct}{a b:Expr}{f g:`Ñ}{pos:Pos}
end
section
variable{X:Cx}{c:Cf}{r ix e:Expr}{i:Nat}{g:Sg->Res (List Nat)}{f:`Æ}{pos:Pos}{Γ:Sg}{σ:St}{H:Hp}
def YY{K:ă}{ds:List D}{ys:List V}{a:Addr}{vs:List V}{B:Hp}{m' je:M}{S':Fp}(t:aF K (c.at' B) H ds ys)(ha:H a=some (.lst vs))(e:YZ ds m'=some je)(o:Ow K c.z H m' (.ref a) S'):
  vs.length+ys.length<1000000/\S' a/\Ow K c.z (upd H a (.lst (vs++ys))) je (.ref a) S':=by
 have kp:aW c.cb H (upd H a (.lst (vs++ys))):=aW.lst ha;cases m' with
 |l xs=>
  simp only[YZ] at e;split at e
  ·rename_i hc;cases e;simp only[Ow] at o ⊢;obtain ⟨a',us,e1,o2,o3,o4⟩:=o;cases e1;rw[ha] at o3;cases o3;exact ⟨by rw[<-o4.length, <-t.length];exact hc.1,o2,a,_,rfl,o2,aC,(o4.append (aF.down (B:=B) (tm:=true) t hc.2)).keep kp⟩
  ·cases e
 |_=>cases e
def J6{ap cp:Pos}(hr:∀B,WP X (c.at' B) r i g)(he:∀B,WL X (c.at' B) e f)(hbase:attributeBase r "extend" X.env (eval r X.env)=eval r X.env:=by rfl)(hfew:((backTo cp (ć [e] X.env)).all (λ x=>!x.1)&&(backToKw cp (keywordEach [] X.env)).all (λ x=>x.1.isSome)
   &&decide ([e].length+([]:List Keyword).length+(if ([]:List Keyword).isEmpty then 0 else 1)<30))=true:=by rfl) (hline:(ap.endLine==cp.line)=true:=by rfl) (hs:ć [e] X.env=(false,eval e X.env)::ć [] X.env:=by rfl) (hplain:(backTo cp (ć [] X.env)).any (·.1)=false:=by rfl) (hw:swapsWith (.Call (.Attribute r "extend" ap) [e] [] cp) none pos.line X.env=pure false:=by rfl):CL X c (.Expr (.Call (.Attribute r "extend" ap) [e] [] cp) pos) (Fy i g f):=by
 have hr:=λ B=>(hr B).out;have he:=λ B=>(he B).out;refine ⟨?_⟩;intro pins s σ H E I ⟨Γ,j,h⟩;refine Aj (aej PySem.F.plainAttrs_list PySem.F.slot_list_extend PySem.F.type_list_extend Uo (hr H) (pA (he H) yx hs) hbase hfew hline hs hplain) hw pins s σ H E I ?_;refine ⟨Γ,j.lift,Fn.ok j h λ ks _ q v H1 s1 pa=>?_⟩;split at q
 ·rename_i hl;have j1:=j.mono s1;obtain ⟨a,vs,rfl,ha⟩:=Es j1 pa hl;refine ⟨.inl ⟨rfl,vs,qO.of ha⟩,Γ,j.lift.mono s1,Ok.mono (H:=H) s1 (Fn.ok (tm:=true) (B:=H) j q λ d _ q b ys H2 s2 hn hb t=>?_) λ _ z=>z⟩;have j2:=j1.mono s2;have pa2:=pa.same s2;have ha2:=s2 _ _ ha;obtain ⟨m',je,S',e1,o1⟩:=Fo j2 pa2 q;refine ⟨a,b,vs,ys,rfl,rfl,ha2,hb,ũ (āl (YY t ha2 e1 o1).1 iU),?_⟩;exact Fq j2 (ay.keep (s1.trans s2)) pa2 ha2 q λ m' je S' e o=>(YY t ha2 e o).2
 ·exact q.elim
end
section
variable{X:Cx}{ct:Ct}{tg:Expr}{elts:`Þ}{cx:Nat}{tp:Pos}
def apj(K:ă)(ta:TA):TI:=λ σ H R=>ta σ H λ vs H1=>∃a xs,vs=[.ref a]/\yc K H1 a xs/\R (Ite K a xs.length) H1
def abZ(hg:Gl X "enumerate")(hm:X.mg "enumerate"=none)(ha:PA X [a] ta)(hs:ć [a] X.env=[(false,eval a X.env)]:=by rfl):PI X (.Tuple elts cx tp) (.Call (.Name "enumerate" p) [a] [] pos) (apj X.K ta):=by
 intro pins s σ H R I h;refine Call_ (B5 I hg hm boot_enumerate (āc (fV (ha pos pins s σ H _ I h) λ us s1 ⟨vs,H1,I1,r1,q1⟩=>?_) hs rfl));obtain ⟨l,xs,e,hq,q⟩:=q1;subst e;cases r1 with
 |cons r rr=>
  cases rr;cases r;obtain ⟨its,rv,p,hz⟩:=I1.tuple hq;refine LP (show s1.heap.IsTuple l its.toArray from p) λ h' he hit k=>?_;refine wpAny_pyIter_enum he ?_;refine ⟨s1.heap.objs.size+1,[s1.heap.objs.size+1,s1.heap.objs.size],_,_,H1,rfl,I1.kept (t':=s1.toks) k,Km l _ _ xs.length,⟨⟨_,he⟩,hit,Ň _⟩,λ b hb=>?_,q⟩;simp only[Ć,ķ,or_false] at hb;rcases hb with rfl|rfl
  ·exact I1.LC (āg _) (I1.hok.fresh (āg _))
  ·exact I1.LC (Ĉ _) (I1.hok.fresh (Ĉ _))
theorem EY:∀(k:Nat) (xs:List D),(oK k xs).length=xs.length
 |_,[]=>rfl
 |k,x::xs=>by simp[oK,EY (k+1) xs]
theorem EZ:∀(k:Nat) (xs:List D) (i:Nat),(oK k xs)[i]? =(xs[i]?).map λ x=> .tup [.int ((k+i:Nat):Int),x]
 |_,[],i=>by simp[oK]
 |k,x::xs,0=>by simp[oK]
 |k,x::xs,i+1=>by simp only[oK,Ķ];rw[EZ (k+1) xs i,show k+1+i=k+(i+1) by omega]
def Yo{K:ă}{H:Hp}{a:Addr}{vs:List V}{xs:List D}(fz:yc K H a vs)(t:aF K ct H xs vs):Hy K ct (Ite K a vs.length) (oK 0 xs) H:=by
 refine ⟨λ H1=>aW ct.f.cb H H1,aW.refl H,λ H1 H2 k1 k2 _ _=>k1.trans k2,λ i d H1 k1 hd=>?_,λ i H1 k1 hi=>⟨vs,k1.sqT fz,rfl,by rw[EY] at hi;rw[<-t.length];exact hi⟩⟩;rw[EZ,Ąn] at hd;cases hx:xs[i]? with
 |none=>rw[hx] at hd;cases hd
 |some x=>rw[hx] at hd;simp only[āq,Ľ] at hd;subst hd;obtain ⟨v,hv,tv⟩:=t.get hx;refine ⟨⟨vs,v,k1.sqT fz,rfl,hv⟩,λ y H2 ⟨p,v',hp,hv',ey,eH⟩=>?_⟩;have e2:=hv' vs (k1.sqT fz);rw[hv] at e2;cases e2;subst ey eH;have sm:=bf (H:=H1) hp (.tup [.int i,v]);refine ⟨sm,?_⟩;simp only[Tl];exact ⟨p,_,rfl,aC,aF.cons (by simp[Tl]) (aF.cons ((tv.keep k1).keep (ay.keep sm)) aF.nil)⟩
def HM{r:`Æ}(hm:X.mg "enumerate"=none)(ha:CM X ct [a] r)(hgl:Gl X "enumerate":=by rfl)(hs:ć [a] X.env=[(false,eval a X.env)]:=by rfl):WID X ct (.Tuple elts cx tp) (.Call (.Name "enumerate" p) [a] [] pos') (Jq r):=by
 have ha:=ha.out;refine ⟨?_⟩;intro pins s σ H R I ⟨Γ,j,h⟩;refine abZ hgl hm ha hs pins s σ H R I ⟨Γ,j,h.bnd λ ds _ q vs H' s tl=>?_⟩;unfold Sw at q;split at q
 ·rename_i xs _;replace q:∀J H',ay H H'->Hy X.K ct J (oK 0 xs) H'->R J H':=q;obtain ⟨v,rfl,t1⟩:=zK tl;simp only[Tl] at t1;obtain ⟨b,us,rfl,hb,t2⟩:=t1;exact ⟨b,us,rfl,oh hb,q _ H' s (Yo (oh hb) t2)⟩
 ·exact q.elim
end
section
variable{X:Cx}{ct:Ct}{tg:Expr}
def ac7:fastTable "dict_itemiterator.__iter__"=none:=by kernel_rfl
def ahO:"dict_itemiterator.__iter__".cutAt '#'=["dict_itemiterator.__iter__"]:=by kernel_rfl
def ahN:fastTable "dict_keyiterator.__iter__"=some Builtin.«dict_keyiterator.__iter__»:=by kernel_rfl
def uE:entryFor table "dict_itemiterator.__iter__"=some Builtin.«dict_keyiterator.__iter__»:=entryFor_alias ac7 ahO (by decide+kernel) ahN
def DL{s:Shared}{Q:`Ã}(h:s.heap.get? it=some o)(hc:o.cls= .type "dict_itemiterator")(q:Q (.ref it) s):wpAny `È A (pyIter (.ref it)) Q E s:=by have ty:s.TypeIs (.ref it) "dict_itemiterator":=⟨o,h,hc⟩;refine wpAny_pyIter_slot ty PySem.F.slot_dict_itemiterator_iter (Ů PySem.F.slot_dict_itemiterator_iter ty uE ?_ (PySem.F.args_dict_itemiterator_iter_1 _));unfold Builtin.«dict_keyiterator.__iter__»;exact Ě ⟨_,rfl,"dict_itemiterator",_,ty,PySem.F.slot_dict_itemiterator_next.lookup,q⟩
end
noncomputable def acW(K:ă)(cv:Value)(n:String)(l:List (Value×List String)):Bool:=l.all λ p=>Āy K p.1 cv==some (p.2.contains n)
noncomputable def kN:List (Value×List String):=[(.type "NoneType",["NoneType"]),(.type "bool",["bool","int"]),(.type "int",["int"]),(.type "str",["str"]),(.type "tuple",["tuple"]),(.type "list",["list"]),(.type "dict",["dict"])]
def isAll(K:ă)(mt:List (String×List String))(E:List (String×Addr))(T:qJ)(IS:List (Value×String)):Bool:=IS.all λ x=>acW K x.1 x.2 kN&&acW K x.1 x.2 (E.map λ e=>(.ref e.2,(mt.lookup e.1).getD []))&&acW K x.1 x.2 (T.map λ e=>(.ref e.2.1,(mt.lookup e.1).getD []))
def nJ{K:ă}{cv:Value}{n:String}{l:List (Value×List String)}(h:acW K cv n l=true){p:Value×List String}(hp:p∈l):Āy K p.1 cv=some (p.2.contains n):=eq_of_beq (Ĳ.mp h p hp)
def ahG{K:ă}{mt:List (String×List String)}{E:List (String×Addr)}{T:qJ}{IS:List (Value×String)}{cv:Value}{n:String}(h:isAll K mt E T IS=true)(hm:(cv,n)∈IS):IsK K (Zi E T) mt cv n:=by
 have h1:=Ĳ.mp h _ hm;simp only[ħ] at h1;obtain ⟨⟨h1,h2⟩,h3⟩:=h1;refine ⟨nJ h1 (.head _),nJ h1 (.tail _ (.head _)),nJ h1 (.tail _ (.tail _ (.head _))),nJ h1 (.tail _ (.tail _ (.tail _ (.head _)))),nJ h1 (.tail _ (.tail _ (.tail _ (.tail _ (.head _))))),nJ h1 (.tail _ (.tail _ (.tail _ (.tail _ (.tail _ (.head _)))))),nJ h1 (.tail _ (.tail _ (.tail _ (.tail _ (.tail _ (.tail _ (.head _))))))),λ c C ks hc hk=>?_,λ c C ns ks hc hk=>?_⟩
 ·have:=nJ h2 (Į.mpr ⟨_,gY hc,rfl⟩);simp only[hk,Ąg] at this;exact this
 ·have:=nJ h3 (Į.mpr ⟨_,gY hc,rfl⟩);simp only[hk,Ąg] at this;exact this
section
variable{P:Program}{w:World}{K:ă}{mg:`Ò}{cb:Cb}{base:Heap}
def p9{x qual:Str}{st:Stmt}{f:Addr}{fd:FuncData}{N ps:`Ú}{k:Nat}{F:`Ü}(B:Nat->Sg->Out)(Vl:cY K x qual st f fd)(hF:∀as,as.length=ps.length->F as≠.bad->∃n,nu (B n (cB N as))=F as)(hbody:∀(c:Cf) (cdv:Value) (A:Around) (outer:List Env) (s:Shared) (H:Hp) (E:XK),c.cb=cb->gM k (A.deeper (envOfC qual (aP st) s.heap.objs.size f cdv))->Good (pZ (HG P w) P w K mg base N qual (aP st) f cdv A outer s H E)->∀n,xV (pZ (HG P w) P w K mg base N qual (aP st) f cdv A outer s H E) c (mh st) (B n)) (S:pL N ps (aP st):=by exact ⟨rfl,rfl,rfl,by decide+kernel,rfl,by decide+kernel,by decide+kernel⟩):jA P w K mg base cb (k+1) f fd ps F:=abl Vl S hbody hF
def wfG{x qual:Str}{st:Stmt}{f:Addr}{fd:FuncData}{N ps:`Ú}{k:Nat}{F:`Ü}(B:Nat->Sg->Out)(Vl:cY K x qual st f fd)(hF:∀as,as.length=ps.length->F as≠.bad->∃n,Hs (B n (cB N as))=F as)(hbody:∀(c:Cf) (cdv:Value) (A:Around) (outer:List Env) (s:Shared) (H:Hp) (E:XK),c.cb=cb->gM k (A.deeper (envOfC qual (aP st) s.heap.objs.size f cdv))->Good (pZ (HG P w) P w K mg base N qual (aP st) f cdv A outer s H E)->∀n,xV (pZ (HG P w) P w K mg base N qual (aP st) f cdv A outer s H E) c (mh st) (B n)) (S:pL N ps (aP st):=by exact ⟨rfl,rfl,rfl,by decide+kernel,rfl,by decide+kernel,by decide+kernel⟩):jA P w K mg base cb (k+1) f fd ps F:=abk Vl S hbody hF
end
section
variable{X:Cx}{ct:Ct}{tg iter e:Expr}{f:`Ñ}{pos:Pos}
def kh(he:WD X ct iter f):WID X ct tg iter (gc f):=by
 have he:=he.out;refine ⟨?_⟩;intro pins s σ H R I ⟨Γ,j,h⟩;cases q:f Γ with
 |bad=>simp only[gc,q,Res.AA] at h;exact h.elim
 |err c=>simp only[gc,q,Res.Az] at h;exact ue he pins s σ H R I ⟨Γ,j,by rw[q];exact h⟩
 |ok d=>
  simp only[gc,q,Res.bw] at h;cases d with
  |lst xs=>replace h:∀J H',ay H H'->Hy X.K ct J xs H'->R J H':=h;refine ue he pins s σ H R I ⟨Γ,j,?_⟩;rw[q];intro v H' sm tl;simp only[Tl] at tl;obtain ⟨a,vs,rfl,fz,tl⟩:=tl;exact ⟨a,rfl,⟨vs,fz.sq⟩,h _ H' sm (Jm fz tl)⟩
  |bor tm xs=>replace h:∀J H',ay H H'->Hy X.K ct J xs H'->R J H':=h;refine ue he pins s σ H R I ⟨Γ,j,?_⟩;rw[q];intro v H' sm tl;have j':=j.mono sm;obtain ⟨a,rfl,sq,it⟩:=Sd j'.lL j'.lB tl;exact ⟨a,rfl,sq,h _ H' sm it⟩
  |tup xs=>replace h:∀J H',ay H H'->Hy X.K ct J xs H'->R J H':=h;refine FI he pins s σ H R I ⟨Γ,j,?_⟩;rw[q];intro v H' sm tl;simp only[Tl] at tl;obtain ⟨a,vs,rfl,fz,tl⟩:=tl;exact ⟨a,rfl,⟨vs,oh fz⟩,h _ H' sm (As (oh fz) tl)⟩
  |gt xs=>replace h:∀J H',ay H H'->Hy X.K ct J xs H'->R J H':=h;refine FI he pins s σ H R I ⟨Γ,j,?_⟩;rw[q];intro v H' sm tl;simp only[Tl] at tl;obtain ⟨a,vs,rfl,fz,tl⟩:=tl;exact ⟨a,rfl,⟨vs,fz.sq⟩,h _ H' sm (As fz.sq tl)⟩
  |_=>exact h.elim
end
section
variable{X:Cx}{ct:Ct}{a b:Expr}{f g:`Ñ}
def VL(hu:X.A.units+1<cLine)(ha:WD X ct a f)(hb:WD X ct b g)(m:M1 X a "get" apos b cpos:=by exact ⟨rfl,rfl,rfl,rfl⟩):WD X ct (.Call (.Attribute a "get" apos) [b] [] cpos) (Zd f g):=by
 have ha:=ha.out;have hb:=hb.out;refine ⟨?_⟩;intro pins s σ H Q I ⟨Γ,j,hh⟩;refine WU hu ha hb m pins s σ H Q I ?_;refine rL.bnd j hh λ o v H1 s1 t1 j1 q1=>?_;split at q1
 ·rename_i p e0;obtain ⟨ks,xs⟩:=p;obtain ⟨a,vs,rfl,r1,r2,r3⟩:=t1.SE j1.lL j1.lB e0;refine ⟨a,rfl,.inr ⟨_,r1⟩,?_⟩;refine rL.bnd (f:=g) (W:=Wd X ct H Q) j1 (Ok.mono s1 q1 λ _ z=>z) λ y u H2 s2 t2 j2 q2=>?_;unfold Sk at q2;rw[e0] at q2;split at q2
  ·rename_i ks' xs' k e1 e2;cases e1;obtain ⟨a',vs',ea,w1,w2,w3⟩:=(t1.keep (ay.keep s2)).SE j2.lL j2.lB e0;cases ea;obtain ⟨p,rfl,hp⟩:=GI t2 e2;refine ⟨_,.inr ⟨_,k,p,w1,rfl,hp,rfl⟩,?_⟩;cases hg:nK ks xs k with
   |none=>rw[(xy w3 w2).2 hg];rw[hg] at q2;exact q2 _ H2 (s1.trans s2) (by simp[Tl])
   |some d=>obtain ⟨w,x1,x2⟩:=(xy w3 w2).1 d hg;rw[x1];rw[hg] at q2;exact q2 _ H2 (s1.trans s2) x2
  ·exact q2.elim
 ·exact q1.elim
end
end L4
end
section
namespace L4
open PySem
noncomputable def Vq(ks:List gO)(k:gO):Option Nat:=ks.findIdx? λ n=>decide (n=k)
noncomputable def xQ(ks:List gO)(ms:List M)(k:gO):M:=match Vq ks k with
 |some _=> .q (.s ks) ms
 |none=> .q (.s (ks++[k])) (ms++[.l []])
noncomputable def CC(ks:List gO)(k:gO):Nat:=(Vq ks k).getD ks.length
def wc(i:Nat)(fk f:`Ñ):Sg->Out:=λ Γ=>match Γ[i]? with
 |some (.own (.q (.s ks) ms))=>oE (fk Γ) Γ λ z=>match Ln z with
  |some k=>if ks.length<1000000/\ks.length=ms.length/\UN (zy i [CC ks k] (Γ.set i (.own (xQ ks ms k))))=true then oE (f (Γ.set i (.own (xQ ks ms k)))) (Γ.set i (.own (xQ ks ms k))) λ d=>oUp (xY i [CC ks k] (Vi d) (Γ.set i (.own (xQ ks ms k)))) else .bad
  |none=> .bad
 |_=> .bad
noncomputable def XJ:Sg->Res M:=λ _=> .ok (.q (.s []) [])
noncomputable def kD:gO->D
 | .inl i=> .int i
 | .inr x=> .str x
def GR:D->Res (List D)
 | .r6 (.s ks) xs=>if ks.length=xs.length then .ok ((ks.zip xs).map λ p=> .tup [kD p.1,p.2]) else .bad
 |_=> .bad
def Lv(f:`Ñ):Sg->Res (List D):=λ Γ=>(f Γ).bnd GR
noncomputable def alU(a b:Str):D->Res D
 | .str x=>if x.length<=Đ/\(āx++a++x).length<=Đ/\(āx++a++x++b).length<=Đ then .ok (.str (āx++a++x++b)) else .bad
 |_=> .bad
def aeF(a b:Str)(f:`Ñ):Sg->Res D:=λ Γ=>(f Γ).bnd (alU a b)
noncomputable abbrev Lt:=List (List Int×Rat)
noncomputable def Vo(r:Rat):Int×Int:=(r.num,(r.den:Int))
def F4(t:Int)(b:Nat)(h:b≠0):(EU t b,G4 t b)=Vo (ąd t b h):=by
 have e:xB (b:Int) (ľ t b)=(ľ t b:Int):=by unfold xB;rw[if_neg `À]
 have g:ľ t (b:Int)=ăe t.natAbs b:=rfl;rw[Rat.normalize_eq];unfold EU G4 Vo;rw[e,g,āh _ `À,āh _ `À];rfl
def Zx(r s:Rat):(EU (r.num*s.den+s.num*r.den) ((r.den:Int)*s.den),G4 (r.num*s.den+s.num*r.den) ((r.den:Int)*s.den))=Vo (r+s):=by have:=F4 (r.num*s.den+s.num*r.den) (r.den*s.den) (Nat.mul_ne_zero r.den_nz s.den_nz);rw[Rat.add_def, <-this];simp
structure Sz(c k:Nat)(r:Rat):Prop where
 nn:0<=r.num
 top:r.num.natAbs<2^(8*k+c)
 bot:r.den<2^(7*k)
def LA{t b:Int}{r:Rat}(h:(EU t b,G4 t b)=Vo r):EU t b=r.num:=congrArg Prod.fst h
def V6{t b:Int}{r:Rat}(h:(EU t b,G4 t b)=Vo r):G4 t b=r.den:=congrArg Prod.snd h
def Xi{t b:Int}{r:Rat}(h:(EU t b,G4 t b)=Vo r)(hb:b≠0):r.num.natAbs<=t.natAbs:=by rw[<-LA h];exact ahY hb
def LG{t b:Int}{r:Rat}(h:(EU t b,G4 t b)=Vo r)(hb:b≠0):r.den<=b.natAbs:=by have:=ahZ (t:=t) hb;rw[V6 h] at this;simpa using this
def Xh{t b:Int}{r:Rat}(h:(EU t b,G4 t b)=Vo r)(hb:0<b)(ht:0<=t):0<=r.num:=by rw[<-LA h];unfold EU xB;rw[if_neg `À,āh _ `À];exact Int.ediv_nonneg ht `À
def dpos(r:Rat):0<(r.den:Int):=by have:=r.den_pos;omega
def SA(r s:Rat):(r.den:Int)*s.den≠0:=Int.ne_of_gt (ąy (dpos r) (dpos s))
def Sz.mono{c k c' k':Nat}{r:Rat}(h:Sz c k r)(hc:c<=c')(hk:k<=k'):Sz c' k' r:=⟨h.nn,Ē h.top (Ń `Â `À),Ē h.bot (Ń `Â `À)⟩
def Gk{a b n m:Nat}(h1:a<2^n)(h2:b<2^m):a*b<2^(n+m):=by rw[Nat.pow_add];exact Nat.mul_lt_mul'' h1 h2
def Sz.add{c k j:Nat}{r s:Rat}(h:Sz c k r)(g:Sz c j s)(hk:1<=k)(hj:1<=j):Sz c (k+j) (r+s):=by
 have e:=Zx r s;refine ⟨Xh e (ąy (dpos r) (dpos s)) (Int.add_nonneg (Ăi h.nn `À) (Ăi g.nn `À)),?_,?_⟩
 ·refine ĸ (Xi e (SA r s)) ?_;refine ĸ (Int.natAbs_add_le _ _) ?_;rw[ăn,ăn];have a1:=Gk h.top (show (s.den:Int).natAbs<2^(7*j) by simpa using g.bot);have a2:=Gk g.top (show (r.den:Int).natAbs<2^(7*k) by simpa using h.bot);have b1:2^(8*k+c+7*j)<=2^(8*(k+j)+c- 1):=Ń `Â `À;have b2:2^(8*j+c+7*k)<=2^(8*(k+j)+c- 1):=Ń `Â `À;have b3:2^(8*(k+j)+c)=2*2^(8*(k+j)+c- 1):=by rw[<-Nat.pow_succ'];congr 1;omega
  omega
 ·refine ĸ (LG e (SA r s)) ?_;rw[ăn];have:=Gk h.bot g.bot;rw[show 7*(k+j)=7*k+7*j by omega];simpa using this
def Sz.zero{c:Nat}:Sz c 1 0:=⟨by decide,Nat.pos_of_ne_zero `Ó,by decide⟩
noncomputable def pN(l:Lt)(k:`Î)(r:Rat):Lt:=if (l.any λ p=>decide (p.1=k))=true then l.map (λ p=>if p.1=k then (p.1,r) else p) else l++[(k,r)]
noncomputable def zZ(l:Lt)(k:`Î):Option Rat:=(l.find? λ p=>decide (p.1=k)).map (·.2)
noncomputable def jc(l:Lt)(k:`Î):Rat:=(zZ l k).getD 0
def YM(d:Lt)(l:Lt):Lt:=l.foldl (λ d p=>pN d p.1 (jc d p.1+p.2)) d
noncomputable def fj:Lt->List Int->Rat
 |[],_=>0
 |p::l,k=>(if p.1=k then p.2 else 0)+fj l k
def lG(p:List Int×Rat)(l:Lt)(k:`Î):zZ (p::l) k=if p.1=k then some p.2 else zZ l k:=by unfold zZ;by_cases h:p.1=k<;>simp[Ćc,h]
def TN(p:List Int×Rat)(l:Lt)(k:`Î)(r:Rat):pN (p::l) k r=if p.1=k then (p.1,r)::l.map (λ p=>if p.1=k then (p.1,r) else p) else p::pN l k r:=by
 unfold pN;by_cases h:p.1=k
 ·simp[h]
 ·simp only[ŏ,h,decide_false,ăv,ą,if_false];split<;>rfl
theorem Cq:∀(l:Lt) (k:`Î) (r:Rat) (k':`Î),zZ (pN l k r) k'=if k=k' then some r else zZ l k'
 |[],k,r,k'=>by by_cases h:k=k'<;>simp[pN,zZ,Ćc,h]
 |p::l,k,r,k'=>by
  rw[TN];by_cases h:p.1=k
  ·rw[if_pos h,lG,lG];by_cases h':k=k'
   ·simp[h,h']
   ·have:¬p.1=k':=by rw[h];exact h'
    simp only[this,h',if_false];clear Cq;induction l with
    |nil=>rfl
    |cons q l ih=>
     rw[ą,lG,lG,ih];by_cases hq:q.1=k
     ·have:¬q.1=k':=by rw[hq];exact h'
      simp[hq,h']
     ·simp[hq]
  ·rw[if_neg h,lG,lG,Cq l k r k'];by_cases h':k=k'
   ·have:¬p.1=k':=by rw[<-h'];exact h
    simp[h',this]
   ·simp[h']
def VO(l:Lt)(k:`Î)(r:Rat)(k':`Î):jc (pN l k r) k'=if k=k' then r else jc l k':=by unfold jc;rw[Cq];split<;>rfl
theorem Sn:∀(l d:Lt) (k:`Î),jc (YM d l) k=jc d k+fj l k
 |[],d,k=>by simp[YM,fj,Āg]
 |p::l,d,k=>by
  rw[show YM d (p::l)=YM (pN d p.1 (jc d p.1+p.2)) l from rfl,Sn l,VO,fj];by_cases h:p.1=k
  ·subst h;simp only[if_true];rw[Ő]
  ·simp only[h,if_false];rw[ăg]
def vR(a b:Lt)(k:`Î):fj (a++b) k=fj a k+fj b k:=by
 induction a with
 |nil=>simp[fj,ăg]
 |cons p a ih=>simp only[Ş,fj,ih,Ő]
end L4
end
section
namespace L4
open PySem PySem.Spec PyProof.Rows L2
section
variable{X:Cx}{pins:`Ê}{σ:St}{H:Hp}{s:Shared}{a:Addr}{kvs:List (Key×V)}{A:Around}{E:`Ã}{k:Key}{u r:Value}{z:V}
def Zb{Q:`Ã}(I:`Ä)(e:H a=some (.dK kvs))(ry:RelV (kV k) u)(rz:RelV z r)(l:kvs.length<Đ) (h1:∀v w' s',jM kvs k=some v->Inv X pins σ H s'->RelV v w'->Q w' s') (h2:∀s',jM kvs k=none->Inv X pins σ (upd H a (.dK (putK kvs k z))) s'->Q r s'):
  wpAny `É A (call (.builtin "dict.setdefault") [.ref a,u,r]) Q E s:=by
 obtain ⟨zz,hd,vs,rel,dd⟩:=aeC I.hok e;refine ăd PySem.F.slot_dict_setdefault dd.typeIs PySem.F.entry_dict_setdefault (PySem.F.args_dict_setdefault_3 _ _ _) (kt_meets_setdefault (cD X.prog X.w) a (Jj ry) hd r) ⟨vs,dd,by rw[<-rel.length];exact zz,λ v hv=>?_,λ hn h' dd' hs=>?_⟩
 ·cases q:jM kvs k with
  |none=>have hn:valueAt vs k=none:=rS.none_of (by rw[<-q];exact rel.val k);rw[hn] at hv;cases hv
  |some v0=>obtain ⟨w',hw,rw'⟩:=rS.some_of (v:=v0) (o:=valueAt vs k) (by rw[<-q];exact rel.val k);rw[hw] at hv;cases hv;exact h1 v0 _ _ q (I.tok _) rw'
 ·have q:jM kvs k=none:=by
   cases q:jM kvs k with
   |none=>rfl
   |some v0=>obtain ⟨w',hw,rw'⟩:=rS.some_of (v:=v0) (o:=valueAt vs k) (by rw[<-q];exact rel.val k);rw[hn] at hw;cases hw
  have he:∃q,h'.get? a=some q:=let ⟨q,_,_,hq,_⟩:=dd';⟨q,hq⟩
  have hl:(putK kvs k z).length<=Đ:=by have:=sZ kvs k z;omega
  exact h2 _ q (Hf I (by rw[e];exact True.intro) hs he (Y9 hl hd (rel.put k rz) dd'))
end
def aks(td ty tx:TE):TE:=λ σ H Q=>td σ H λ x H1=>∃a,x= .ref a/\IsD H1 a/\ty σ H1 λ y H2=>tx σ H2 λ z H3=>∃kvs k,H3 a=some (.dK kvs)/\y=kV k/\kvs.length<Đ/\(∀v,jM kvs k=some v->Q v H3)/\(jM kvs k=none->Q z (upd H3 a (.dK (putK kvs k z))))
section
variable{X:Cx}{o e f:Expr}{apos cpos:Pos}{td ty tx:TE}
def KH(ho:PE X o td)(he:PE X e ty)(hf:PE X f tx)(m:M2 X o "setdefault" apos e f cpos):PE X (.Call (.Attribute o "setdefault" apos) [e,f] [] cpos) (aks td ty tx):=by intro pins s σ H Q I h;refine Ăb m.base m.few m.line Āl PySem.F.slot_dict_setdefault PySem.F.type_dict_setdefault (fV (ho pins s σ H _ I h) λ u s1 ⟨x,H1,I1,rx,a,ex,d,q1⟩=>?_);subst ex;obtain rfl:u=Value.ref a:=rx;obtain ⟨t1,t2,_⟩:=GU I1 d;refine ⟨t1,t2,?_⟩;rw[m.trees];refine ū rfl (Āe (Ű (fV (he pins s1 σ H1 _ I1 q1) λ iv s2 ⟨y,H2,I2,ry,q2⟩=>Ű (fV (hf pins s2 σ H2 _ I2 q2) λ fv s3 ⟨z,H3,I3,rz,kvs,k,ea,ey,l,q3,q4⟩=>āy ?_))));subst ey;exact Zb I3 ea ry rz l (λ v w' s4 hv I4 rw'=>⟨v,H3,I4,rw',q3 v hv⟩) λ s4 hn I4=>⟨z,_,I4,rz,q4 hn⟩
end
theorem Rj:∀{ks:List Key} {vs:List V},ks.length=vs.length->(∀v,jM (ks.zip vs) k=some v->∃j,Vq ks k=some j/\vs[j]? =some v)/\(jM (ks.zip vs) k=none->Vq ks k=none)
 |[],vs,_=>⟨λ v h=>by simp[jM] at h,λ _=>rfl⟩
 |n::ks,[],h=>by simp at h
 |n::ks,w::vs,h=>by
  obtain ⟨g1,g2⟩:=Rj (k:=k) (ks:=ks) (vs:=vs) (by simpa using h);by_cases q:n=k
  ·subst q;refine ⟨λ v hv=>⟨0,by simp[Vq,Āw],?_⟩,λ hv=>?_⟩
   ·simp[jM,Ĭ] at hv;simp[hv]
   ·simp[jM,Ĭ] at hv
  ·refine ⟨λ v hv=>?_,λ hv=>?_⟩
   ·obtain ⟨j,e1,e2⟩:=g1 v (by simpa[jM,Ĭ,q] using hv);refine ⟨j+1,?_,by simpa using e2⟩;unfold Vq at e1 ⊢;simp[Āw,q,e1]
   ·have:=g2 (by simpa[jM,Ĭ,q] using hv);unfold Vq at this ⊢;rw[Āw];simp only[q,decide_false];rw[this];rfl
section
variable{X:Cx}{c:Cf}{i:Nat}{x:Str}{ke le e:Expr}{fk f:`Ñ}{pos xp ap cp ap2 cp2:Pos}
def J5(i:Nat)(hk:WD X c.z ke fk)(hl:WM X c.z le (mL (vH az)))(he:WD X c.z e f)(hN:X.N[i]? =some x:=by rfl)(hv:Vj X.env.scope x:=by first|exact Or.inl rfl|exact Or.inr (Or.inl rfl)|exact Or.inr (Or.inr rfl))(hd:(x==("__debug__":Str))=false:=by decide)(hcd:(x==("__classdict__":Str))=false:=by decide)(m:M2 X (.Name x xp) "setdefault" ap ke le cp:=by exact ⟨rfl,rfl,rfl,rfl⟩)(hbase:attributeBase (.Call (.Attribute (.Name x xp) "setdefault" ap) [ke,le] [] cp) "append" X.env (eval (.Call (.Attribute (.Name x xp) "setdefault" ap) [ke,le] [] cp) X.env)=eval (.Call (.Attribute (.Name x xp) "setdefault" ap) [ke,le] [] cp) X.env:=by rfl)(hfew:((backTo cp2 (ć [e] X.env)).all (λ x=>!x.1)&&(backToKw cp2 (keywordEach [] X.env)).all (λ x=>x.1.isSome)
   &&decide ([e].length+([]:List Keyword).length+(if ([]:List Keyword).isEmpty then 0 else 1)<30))=true:=by rfl) (hline:(ap2.endLine==cp2.line)=true:=by rfl) (hs:ć [e] X.env=(false,eval e X.env)::ć [] X.env:=by rfl) (hplain:(backTo cp2 (ć [] X.env)).any (·.1)=false:=by rfl) (hw:swapsWith (.Call (.Attribute (.Call (.Attribute (.Name x xp) "setdefault" ap) [ke,le] [] cp) "append" ap2) [e] [] cp2) none pos.line X.env=pure false:=by rfl):CL X c (.Expr (.Call (.Attribute (.Call (.Attribute (.Name x xp) "setdefault" ap) [ke,le] [] cp) "append" ap2) [e] [] cp2) pos) (wc i fk f):=by
 have hk:=hk.out;have hl:=hl.out;have he:=he.out;refine ⟨?_⟩;intro pins s σ H E I ⟨Γ,j,h⟩;refine Aj (aej PySem.F.plainAttrs_list PySem.F.slot_list_append PySem.F.type_list_append Ex (KH (Bf hN hv hd hcd) hk hl m) (pA he yx hs) hbase hfew hline hs hplain) hw pins s σ H E I ?_;unfold wc at h;split at h
 ·rename_i ks ms hi;obtain ⟨v0,S,hσ,o,_,_⟩:=j.own hi;simp only[Ow] at o;obtain ⟨a,vs,rfl,oa,ha,hl0,_⟩:=o;refine ⟨.ref a,hσ,a,rfl,.inl ⟨_,.inl ha⟩,⟨Γ,j,Fn.ok j h λ z _ q y H1 s1 t=>?_⟩⟩;split at q
  ·rename_i k hk';split at q
   ·rename_i hc;obtain ⟨hc1,hc2,hc3⟩:=hc;have j1:=j.mono s1;refine ⟨Γ,j1,?_⟩;intro v H2 S2 s2 o2 n2 h2;simp only[Ow] at o2;obtain ⟨p,us,rfl,sp,hp,tu⟩:=o2;simp only[aF] at tu;subst tu;have j2:=j1.mono s2;have s12:=s1.trans s2;have ha2:=s12 _ _ ha;have yk:=R5 t hk';have hz:ks.length=vs.length:=hl0;obtain ⟨x1,x2⟩:=Rj (k:=k) hz;have fin:∀v Hx,aW c.cb H Hx->Jx X c.z (Γ.set i (.own (xQ ks ms k))) σ Hx->tS (Γ.set i (.own (xQ ks ms k))) σ Hx i [CC ks k] v->(tyV X.K "list" v Hx/\VY (rL X c.z f) agj σ Hx λ vs H2=>Rz v vs H2 λ _ H'=>E.nx σ H'):=λ v Hx kx jx pa=>by obtain ⟨b,us,rfl,hb⟩:=Es jx pa hc3;refine ⟨.inl ⟨rfl,us,qO.of hb⟩,⟨_,jx,Fn.ok jx (q.mono kx) λ d _ q y H3 s3 t3=>?_⟩⟩;have j3:=jx.mono s3;have pa3:=pa.same s3;have hb3:=s3 _ _ hb;obtain ⟨m',je,S',e1,o1⟩:=Fo j3 pa3 q;refine ⟨b,us,y,rfl,rfl,hb3,āl (Zv (B:=H) (Tl.lift t3) hb3 e1 o1).1 iU,?_⟩;exact Fq j3 (ay.keep s3) pa3 hb3 q λ m' je S' e o=>(Zv (B:=H) (Tl.lift t3) hb3 e o).2
    refine ⟨ks.zip vs,k,ha2,yk,ĸ (by rw[ār];exact Nat.min_le_left _ _) (āl hc1 iU),λ v hv=>?_,λ hn=>?_⟩
    ·obtain ⟨n,e1,e2⟩:=x1 v hv;have em:xQ ks ms k= .q (.s ks) ms:=by unfold xQ;rw[e1]
     have ei:CC ks k=n:=by unfold CC;rw[e1];rfl
     have eg:Γ.set i (.own (.q (.s ks) ms))=Γ:=by obtain ⟨h1,h2⟩:=Ď.mp hi;rw[<-h2,Ăl]
     have hn:n<ms.length:=by have:=(Ď.mp e2).1;omega
     refine fin v H2 (ay.keep s12) (by rw[em,eg];exact j2) ?_;rw[em,ei,eg];refine ⟨_,_,_,ms[n],hi,rfl,hσ,?_,?_⟩
     ·simp only[Walk];exact ⟨a,vs,v,ms[n],rfl,ha2,hl0,e2,ā hn,rfl⟩
     ·simp[HE,ā hn]
    ·have e1:=x2 hn;have em:xQ ks ms k= .q (.s (ks++[k])) (ms++[.l []]):=by unfold xQ;rw[e1]
     have ei:CC ks k=ks.length:=by unfold CC;rw[e1];rfl
     have ep:putK (ks.zip vs) k (.ref p)=(ks++[k]).zip (vs++[.ref p]):=by unfold putK;rw[AU,hn,List.zip_append hz];rfl
     have hpa:p≠a:=by rintro rfl;rw[hp] at ha2;cases ha2
     have np:=n2 p sp;obtain ⟨S0,g1,g2⟩:=j1.chg i;obtain ⟨v1,z1,z2,z3,z4⟩:=g1 _ _ hi hσ;cases z1;simp only[Ow] at z2;obtain ⟨a',vs',y1,y2,y3,y4,y5⟩:=z2;cases y1;have ev:vs'=vs:=YE y4 hl0 (by have:=s1 _ _ ha;rw[this] at y3;exact (ĝ y3).symm);subst ev;have kp:aW c.cb H2 (upd H2 a (.dK (putK (ks.zip vs') k (.ref p)))):=aW.dK ha2;have kp1:=(ay.keep (cb:=c.cb) s2).trans kp;have hp4:upd H2 a (.dK (putK (ks.zip vs') k (.ref p))) p=some (.lst []):=by rw[aE hpa];exact hp
     have os2:=(y5.frame (ay.keep s2) λ b o _ q=>s2 b o q).frame (H':=upd H2 a (.dK (putK (ks.zip vs') k (.ref p)))) kp λ b o z q=>by rw[aE z.2];exact q
     have ol:Ow X.K c.z (upd H2 a (.dK (putK (ks.zip vs') k (.ref p)))) (.l []) (.ref p) (λ b=>b=p):=by simp only[Ow];exact ⟨p,[],rfl,rfl,hp4,aF.nil⟩
     have np0:¬S0 p:=λ z=>z3.here p z np;have os4:=os2.V5 ol λ b z e=>by subst e;exact np0 z.1
     have f1:∀b,(S0 b\/b=p)->X.H₀ b=none:=λ b z=>by
      rcases z with z|z
      ·exact z4 b z
      ·subst z;exact j1.free _ np
     have f2:∀b,(S0 b\/b=p)->upd H2 a (.dK (putK (ks.zip vs') k (.ref p))) b≠none:=λ b z q=>by
      by_cases eb:b=a
      ·subst eb;rw[aC] at q;cases q
      ·rw[aE eb] at q;rcases z with z|z
       ·exact z3.here b z (s2.free q)
       ·subst z;rw[hp] at q;cases q
     have f3:∀b,(S0 b\/b=p)->c.z.f.L b=none:=λ b z=>by
      rcases z with z|z
      ·exact z3.IA b z
      ·subst z;cases w:c.z.f.L b with
       |none=>rfl
       |some o=>have:=j1.lL b o w;rw[np] at this;cases this
     have f4:Ow X.K c.z (upd H2 a (.dK (putK (ks.zip vs') k (.ref p)))) (.q (.s (ks++[k])) (ms++[.l []])) (.ref a) (λ b=>S0 b\/b=p):=by
      simp only[Ow];refine ⟨a,vs'++[.ref p],rfl,.inl y2,?_,?_,os4.wide λ b z=>?_⟩
      ·rw[aC,ep];rfl
      ·simp[Ks.len,hz]
      ·rcases z with z|z
       ·exact ⟨.inl z.1,z.2⟩
       ·subst z;exact ⟨.inr rfl,hpa⟩
     have f5:∀b,upd H2 a (.dK (putK (ks.zip vs') k (.ref p))) b=none->H1 b=none:=λ b z=>by
      by_cases eb:b=a
      ·subst eb;rw[aC] at z;cases z
      ·rw[aE eb] at z;exact s2.free z
     have f6:∀b,(S0 b\/b=p)->S0 b\/H1 b=none:=λ b z=>by
      rcases z with z|z
      ·exact .inl z
      ·subst z;exact .inr np
     have f7:∀b o,H1 b=some o->¬S0 b->upd H2 a (.dK (putK (ks.zip vs') k (.ref p))) b=some o:=λ b o z z'=>by rw[aE (by rintro rfl;exact z' y2)];exact s2 b o z
     have j4:=g2 (upd H2 a (.dK (putK (ks.zip vs') k (.ref p)))) (.own (.q (.s (ks++[k])) (ms++[.l []]))) (some (.ref a)) (λ b=>S0 b\/b=p) kp1 f7 f5 (λ b u z=>nomatch z) ⟨.ref a,rfl,f4,⟨λ b z=> .inl (f1 b z),f2,f3,λ b z t=>nomatch t⟩,f1⟩ f6;have eσ:σ.set i (some (.ref a))=σ:=by have hil:=Ď.mp hσ;rw[<-hil.2,Ăl]
     rw[eσ] at j4;refine fin (.ref p) _ ((ay.keep s1).trans kp1) (by rw[em];exact j4) ?_;rw[em,ei];have hiΓ:i<Γ.length:=(Ď.mp hi).1;refine ⟨_,_,_,.l [],Ū hiΓ,rfl,hσ,?_,?_⟩
     ·simp only[Walk];refine ⟨a,vs'++[.ref p],.ref p,.l [],rfl,?_,by simp[Ks.len,hz],by rw[hz];simp,by rw[hc2];simp,rfl⟩;rw[aC,ep];rfl
     ·simp[HE,hc2]
   ·exact q.elim
  ·exact q.elim
 ·exact h.elim
end
def alH(h:zE k u=true):L2.RelV (kV k) u:=by
 rcases dH h with ⟨i,t,rfl,rfl⟩|⟨x,t,rfl,rfl⟩
 ·exact ⟨t,rfl⟩
 ·exact ⟨t,rfl⟩
noncomputable def Iti(d:Addr)(ob:Obj)(kvs:List (Key×V)):It:=⟨λ i H=>(∃u,H d=some (.CU ob u))/\i<kvs.length,λ i H x H'=>∃p k v,H p=none/\kvs[i]? =some (k,v)/\x= .ref p/\H'=upd H p (.tup [kV k,v]),λ i H=>(∃u,H d=some (.CU ob u))/\kvs.length<=i⟩
def KV.get{kvs:List (Key×V)}{vs:List (Key×Value)}(r:KV kvs vs){i:Nat}{k:Key}{v:V}(h:kvs[i]? =some (k,v)):∃w,vs[i]? =some (k,w)/\L2.RelV v w:=by
 induction r generalizing i with
 |nil=>simp at h
 |cons e r ih=>
  cases i with
  |zero=>simp only[ō,Ľ] at h ⊢;subst h;exact ⟨_,ąq e.1.symm rfl,e.2⟩
  |succ i=>simp only[Ķ] at h ⊢;exact ih h
def Kl{P:Program}{w:World}{K:ă}{elts:`Þ}{c:Nat}{pos:Pos}(it d:Addr)(ob:Obj)(ep:Nat){kvs:List (Key×V)}{vs:List (Key×Value)}(rel:KV kvs vs)
  (at':∀h:Heap,h.get? d=some ob->Heap.DictAt (cD P w) h d vs ep) (ne:d≠it):
  Turn P w K (.Tuple elts c pos) (Iti d ob kvs) [it] it (λ i h=>(∃ok ov,IsItemIter h it d i vs.length ep ok ov)/\i<=kvs.length) where
 mem:=by simp
 obj:=λ i h st b hb=>by
  have e:b=it:=by simpa using hb
  subst e
  obtain ⟨⟨ok,ov,h1⟩,_⟩:=st
  exact ⟨_,h1,λ v z=>by cases z⟩
 keep:=λ i h h' st k=>by
  obtain ⟨⟨ok,ov,h1⟩,h2⟩:=st
  exact ⟨⟨ok,ov,k it `Ó _ h1⟩,h2⟩
 item:=by
  intro X hP hw hK hc i pins s σ H E I hf st hg
  subst hP hw hK
  obtain ⟨⟨ok,ov,h1⟩,h2⟩:=st
  obtain ⟨⟨u,hu⟩,hi⟩:=hg
  have da:=at' s.heap (I.hok d _ hu).1
  obtain ⟨k,v,hkv⟩:∃k v,kvs[i]? =some (k,v):=⟨kvs[i].1,kvs[i].2,ā hi⟩
  obtain ⟨w',hw',rw'⟩:=KV.get rel hkv
  have hfp:=hf it `Ó
  refine wpAny_pyNext_items_item h1 da hw' λ key h' hk ho hT hsz kk=>⟨_,rfl,wpAny_letOwnedTupleGo_items ho λ h2' he2 sb=>?_⟩
  have hTi:s.heap.objs.size≠it:=ąi (č h1)
  have hT2:h2'.get? s.heap.objs.size=some {cls:= .type "tuple",data:= .seq #[key,w']}:=(sb.2 _ hTi).trans hT
  have I2:Inv X pins σ (upd H s.heap.objs.size (.tup [kV k,v])) {s with heap:=h2'}:=by
   refine Rm (t':=s.toks) (ch:=[it]) I (λ b o hb q=>?_) (λ b hb=>hf b hb) (Ĉ _) ⟨by simp[Ĵ],[key,w'],.cons (alH hk) (.cons rw' .nil),_,hT2,rfl,0,rfl⟩
   have hb':b≠it:=by simpa using hb
   exact (sb.2 b hb').trans (kk b o hb' q)
  refine ⟨.ref s.heap.objs.size,_,I2,rfl,⟨_,k,v,I.hok.fresh (Ĉ _),hkv,rfl,rfl⟩,⟨⟨_,_,he2⟩,hi⟩,λ b hb=>?_⟩
  have e:b=it:=by simpa using hb
  subst e
  rw[aE (Ŋ hTi)]
  exact hfp.1
 done:=by
  intro X hP hw hK hc i pins s σ H E I hf st hg
  subst hP hw hK
  obtain ⟨⟨ok,ov,h1⟩,h2⟩:=st
  obtain ⟨⟨u,hu⟩,hi⟩:=hg
  have da:=at' s.heap (I.hok d _ hu).1
  obtain ⟨f0,f1,f2,f3,f4,f5⟩:=hf it `Ó
  refine wpAny_pyNext_items_end (I.ok.hd hc) h1 da (by rw[ų];rw[<-rel.length];exact hi) λ h' eb=>⟨rfl,I.turned (t':=s.toks) (λ b o hb e=>eb b o hb e) f0 f1 f3 f4 f5⟩
 self:=λ _ _ _ _ _ st h=>by
  obtain ⟨⟨ok,ov,h1⟩,_⟩:=st
  exact DL h1 rfl h
theorem ajV{K:ă}{ct:Ct}{H:Hp}:∀{ks:List Key} {xs:List D} {vs:List V} {i:Nat} {d:D},aF K ct H xs vs->ks.length=vs.length->((ks.zip xs).map λ p=>D.tup [kD p.1,p.2])[i]? =some d->∃k v x,(ks.zip vs)[i]? =some (k,v)/\d= .tup [kD k,x]/\Tl K ct H x v
 |[],xs,vs,i,d,t,hl,h=>by simp at h
 |k::ks,[],vs,i,d,t,hl,h=>by simp at h
 |k::ks,x::xs,vs,i,d,t,hl,h=>by
  simp only[aF] at t;obtain ⟨v,r,rfl,t1,t2⟩:=t;cases i with
  |zero=>simp only[ĥ,ą,ō,Ľ] at h;exact ⟨k,v,x,rfl,h.symm,t1⟩
  |succ i=>simp only[ĥ,ą,Ķ] at h;obtain ⟨k',v',x',e1,e2,e3⟩:=ajV t2 (by simpa using hl) h;exact ⟨k',v',x',by simpa using e1,e2,e3⟩
def alE{K:ă}{ct:Ct}{H:Hp}(k:Key):Tl K ct H (kD k) (kV k):=by cases k<;>simp[kD,kV,Tl]
section
variable{X:Cx}{ct:Ct}{elts:`Þ}{c:Nat}{tp:Pos}
def Tr{ap cp:Pos}(ho:WD X ct o f)(h1:attributeBase o "items" X.env (eval o X.env)=eval o X.env:=by rfl)(h3:(ap.endLine==cp.line)=true:=by rfl):WID X ct (.Tuple elts c tp) (.Call (.Attribute o "items" ap) [] [] cp) (Lv f):=by
 have ho:=ho.out;refine ⟨?_⟩;intro pins s σ H R I ⟨Γ,j,h⟩;refine fV (WK ho h1 h3 pins s σ H (λ x H2=>∃v d ob kvs,x= .ref v/\H2 v=some (.ext (adL v d))/\H2 d=some (.CU ob (.dK kvs))/\R (Iti d ob kvs) H2) I ⟨Γ,j,h.bnd λ x _ q v H' sm tl=>?_⟩) λ v s1 ⟨x,H2,I2,rx,vv,d,ob,kvs,ex,hv,hd,q⟩=>?_
 ·unfold GR at q;split at q
  ·rename_i ks xs _;split at q
   ·rename_i hlen;replace q:∀J H',ay H H'->Hy X.K ct J ((ks.zip xs).map λ p=>D.tup [kD p.1,p.2]) H'->R J H':=q;simp only[Tl] at tl;obtain ⟨a,vs,rfl,⟨ob,hfz⟩,hl,tl⟩:=tl;have hl':ks.length=vs.length:=hl;refine ⟨a,rfl,.inl ⟨_,.inr ⟨_,hfz⟩⟩,λ v hvn=>?_⟩;have sm2:=bf hvn (.ext (adL v a));have hd2:=sm2 _ _ hfz;have tl2:=tl.keep (ay.keep sm2);refine ⟨v,a,ob,_,rfl,aC,hd2,q _ _ (sm.trans sm2) ⟨λ H1=>(∃u,H1 a=some (.CU ob u))/\aF X.K ct H1 xs vs,⟨⟨_,hd2⟩,tl2⟩,λ H1 H3 ⟨⟨u,hu⟩,t1⟩ k _ _=>⟨⟨u,k a _ hu trivial⟩,t1.keep k⟩,λ i d H1 ⟨hu,t1⟩ z=>?_,λ i H1 ⟨hu,t1⟩ z=>⟨hu,?_⟩⟩⟩
    ·obtain ⟨k,w,y,e1,rfl,e3⟩:=ajV t1 hl' z;refine ⟨⟨hu,(Ď.mp e1).1⟩,λ x H3 ⟨p,k',v',hp,hkv,ex,eH⟩=>?_⟩;rw[e1] at hkv;cases hkv;subst ex eH;have sm3:=bf hp (.tup [kV k,w]);refine ⟨sm3,?_⟩;simp only[Tl];exact ⟨p,_,rfl,aC,aF.cons (alE k) (aF.cons (e3.keep (ay.keep sm3)) aF.nil)⟩
    ·have:=tl.length;simp only[ė,ār] at z ⊢;omega
   ·exact q.elim
  ·exact q.elim
 ·subst ex;cases rx;obtain ⟨g1,g2⟩:=I2.hok d _ hd;obtain ⟨z0,_,vs,rel,o',es,ep,e1,e2,e3,e4,e5,e6⟩:=(show eV X.prog X.w H2 s1.heap d (.dK kvs) from g2);rw[g1] at e1;cases e1;have hvw:s1.heap.get? vv=some (vwO d):=(I2.hok vv _ hv).1;have hsz:es.size=vs.length:=by have:=e5.length;simpa using this
  refine Lo hvw ⟨ob,g1,e3⟩ ?_;have apz:d≠s1.heap.objs.size:=ĕ (č g1);refine ⟨s1.heap.objs.size,[s1.heap.objs.size],_,_,H2,rfl,I2.kept (t':=s1.toks) λ b o e=>Ā _ e,Kl _ d ob ep rel (λ h hg=>⟨ob,es,hg,e2,e3,e4,e5,e6⟩) apz,⟨⟨.none,.none,?_⟩,Ň _⟩,λ b hb=>?_,q⟩
  ·rw[<-hsz];exact đ _ rfl
  ·have e:b=s1.heap.objs.size:=by simpa using hb
   subst e;exact I2.LC (Ĉ _) (I2.hok.fresh (Ĉ _))
end
def akq(a b:Str)(te:TE):TE:=λ σ H Q=>te σ H λ v H1=>∃x,v= .str x/\(x.length<=Đ/\(āx++a++x).length<=Đ/\(āx++a++x++b).length<=Đ)/\Q (.str (āx++a++x++b)) H1
section
variable{X:Cx}{ct:Ct}{e:Expr}{a b:Str}{te:TE}{p1 p2 p3 pos:Pos}{k1 k3:Nat}{f:`Ñ}
def ab2(he:PE X e te)(ha:(āx++a).length<=1000000):PE X (.JoinedStr [.Constant (.str a) k1 p1,.FormattedValue e (-1) none p2,.Constant (.str b) k3 p3] pos) (akq a b te):=by intro pins s σ H Q I h;refine wpAny_JoinedStr (Joins_cons (ăh ⟨a,_,rfl,ũ (ĸ ha iU),Joins_cons (PySem.wpAny_FormattedValue_plain ?_)⟩));refine fV (he pins _ σ H _ (I.tok _) h) λ u s1 ⟨v,H1,I1,rv,x,ev,⟨l1,l2,l3⟩,q⟩=>?_;subst ev;obtain ⟨t1,rfl⟩:=(show ∃t,u=Value.str x t from rv);refine PyProof.Rows.formatField_str (λ t' tk=>⟨x,t',rfl,l2,Joins_cons (ăh ⟨b,_,rfl,l3,Joins_nil ⟨l3,?_⟩⟩)⟩) l1;exact ⟨.str _,H1,((I1.tok _).tok _).tok _,⟨_,rfl⟩,q⟩
def abp(he:WD X ct e f)(ha:(āx++a).length<=1000000:=by decide+kernel):WD X ct (.JoinedStr [.Constant (.str a) k1 p1,.FormattedValue e (-1) none p2,.Constant (.str b) k3 p3] pos) (aeF a b f):=by
 have he:=he.out;refine ⟨?_⟩;refine PE.imp (ab2 he ha) λ σ H Q ⟨Γ,j,h⟩=>?_;refine rL.bnd j h λ d v H1 s1 t1 j1 q1=>?_;unfold alU at q1;split at q1
 ·rename_i x;split at q1
  ·rename_i hc;simp only[Tl] at t1;subst t1;exact ⟨x,rfl,hc,q1 _ H1 s1 (by simp[Tl])⟩
  ·exact q1.elim
 ·exact q1.elim
end
section
variable{X:Cx}{c:Cf}{x:Str}{e:Expr}{es:`Þ}{i q n k:Nat}{f:`Ñ}{r fa:`Æ}{p pos:Pos}{F:`Ü}{fn:Addr}{fd:FuncData}{ps:`Ú}
variable{g:Sg->Res Sg}{Γ:Sg}{σ:St}{H:Hp}
end
section
variable{X:Cx}{ct:Ct}{pos:Pos}
def abh:WM X ct (.Dict [] [] pos) XJ:=by
 refine ⟨?_⟩;refine PE.imp WQ λ σ H Q ⟨Γ,j,h⟩=>?_;intro p hp;refine h (.ref p) _ (λ b=>b=p) (bf hp _) ?_ (λ b z=>z▸hp) λ b z q=>by subst z;rw[aC] at q;cases q
 simp only[Ow];exact ⟨p,[],rfl,rfl,aC,rfl,by simp only[eU]⟩
end
end L4
end
section
namespace L4
open PySem
def p3:D->Option (List Int)
 | .tup [x,_]=>d3 x
 |_=>none
def p3s:List D->Option (List (List Int))
 |[]=>some []
 |x::t=>match p3 x,p3s t with
  |some n,some ns=>some (n::ns)
  |_,_=>none
def yr(xs:List D):Res (List D):=match p3s xs with
 |some ns=>if ns.length<64/\ns.Nodup then .ok ((srt (ns.zip xs)).map (·.2)) else .bad
 |none=> .bad
def V4:D->Res (List D)
 | .lst xs=>yr xs
 | .bor _ xs=>yr xs
 |_=> .bad
def yt:List D->Res (List D)
 |[x]=>V4 x
 |_=> .bad
def ak5{x:D}{n:`Î}(h:p3 x=some n):∃d,x= .tup [tupI n,d]/\n.length=3:=by
 unfold p3 at h;split at h
 ·rename_i y d;obtain ⟨e,l⟩:=aeH h;exact ⟨d,by rw[e],l⟩
 ·cases h
theorem FQ:∀{xs:List D} {ns:List (List Int)},p3s xs=some ns->xs.length=ns.length/\∀(i:Nat) (n:`Î),ns[i]? =some n->∃d,xs[i]? =some (.tup [tupI n,d])/\n.length=3
 |[],ns,h=>by cases h;exact ⟨rfl,λ i n e=>by simp at e⟩
 |x::xs,ns,h=>by
  unfold p3s at h;split at h
  ·rename_i n ms e1 e2;cases h;obtain ⟨d,rfl,hn⟩:=ak5 e1;obtain ⟨b1,b2⟩:=FQ e2;refine ⟨by simp[b1],λ i m e=>?_⟩;cases i with
   |zero=>simp at e;subst e;exact ⟨d,rfl,hn⟩
   |succ i=>exact b2 i m (by simpa using e)
  ·cases h
def vo(x y:D):Res D:=match y with
 | .lst xs=>if jb 12 x=true/\jb 12 y=true then .ok (.bl (!xs.any λ d=>LF d x)) else .bad
 |_=> .bad
end L4
end
section
namespace L4
open PySem PySem.Spec PyProof.Rows L2 PySem.W
section
variable{X:Cx}{ct:Ct}{a b e:Expr}{f g:`Ñ}{pos:Pos}
theorem SM(d:D):∀xs:List D,((C6 xs).any λ y=>Ąk y (py d))=xs.any λ e=>LF e d
 |[]=>by simp[C6]
 |x::xs=>by simp[C6,LF,SM d xs]
def TX(hu:X.A.units+64<cLine):p8 X (compareOp .NotIn) (λ x y H Q=>ay ct.f.L H/\ay ct.B H/\∃d xs,Tl X.K ct H d x/\Tl X.K ct H (.lst xs) y/\jb 12 d=true/\jb 12 (.lst xs)=true/\Q (.bl (!xs.any λ e=>LF e d)) H):=by intro pins s σ H x y v u Q I rx ry ⟨lL,lB,d1,xs,t1,t2,o1,o2,q⟩;obtain ⟨as,r1⟩:=jj I lL lB 12 d1 x v o1 t1 rx;obtain ⟨bs,r2⟩:=jj I lL lB 12 (.lst xs) y u o2 t2 ry;obtain ⟨c1,p1⟩:=kI 12 d1 o1;obtain ⟨c2,p2⟩:=kI 12 (.lst xs) o2;simp only[py] at r2 c2;refine SeqAt.notIn_list_reads r2 r1 (by simpa[ş] using c2) c1 (by have:=Nat.min_le_right (Ăv (C6 xs)) (py d1).depth;omega) ⟨.bl _,H,I,rfl,?_⟩;rw[SM];exact q
def KJ:CV X ct (λ x y H Q=>ay ct.f.L H/\ay ct.B H/\∃d xs,Tl X.K ct H d x/\Tl X.K ct H (.lst xs) y/\jb 12 d=true/\jb 12 (.lst xs)=true/\Q (.bl (!xs.any λ e=>LF e d)) H) vo:=by
 intro σ H x y d1 d2 Q lL lB t1 t2 h;unfold vo at h;split at h
 ·split at h
  ·rename_i hc;exact ⟨lL,lB,d1,_,t1,t2,hc.1,hc.2,h _ H `Ù (by simp[Tl])⟩
  ·exact h.elim
 ·exact h.elim
def J4(hu:X.A.units+64<cLine)(ha:WD X ct a f)(hb:WD X ct b g)(hm:behindInMarks .NotIn b=false:=by rfl):DV X ct (.Compare a [.NotIn] [b] pos) (dT (aH vo f g)):=by have ha:=ha.out;have hb:=hb.out;exact ⟨o9 (TX hu) KJ ha hb hm⟩
end
def Hl{X:Cx}(hu:X.A.units+64<cLine):qN X (.builtin "sorted") (λ xs H Q=>∃(a:Addr) (bs:List Addr) (ns:List (List Int)),xs=[.ref a]/\qO X.K H a (bs.map V.ref)/\bs.length=ns.length/\ns.Nodup/\ns.length<4096/\(∀(i:Nat) (b:Addr) (n:`Î),bs[i]? =some b->ns[i]? =some n->∃c y,H b=some (.tup [.ref c,y])/\H c=some (.tup (n.map V.int)))/\∀(r:Addr) (ix:`Ö),H r=none->ix.Perm (ĭ ns.length)->ix.Pairwise (λ i j=>gu (ns.getD i []) (ns.getD j [])=true)->Q (.ref r) (upd H r (.lst (ix.map λ i=>V.ref (bs.getD i 0))))):=by
 intro pins s σ H xs us Q I rr ⟨a,bs,ns,ex,sq,lb,ndn,h64,P0,q⟩;subst ex;obtain ⟨u,rfl,ru⟩:=vals1 rr;cases ru;obtain ⟨its,rv,pl,hz⟩:=I.list sq;have aib:=yh rv;subst aib;let Good:List Value->Heap->Prop:=λ vs h=>vs=bs.map Value.ref/\∀(i:Nat) (b:Addr) (n:`Î),bs[i]? =some b->ns[i]? =some n->∃(c:Addr) (u:Value) (its:`Ð),IsTup h b #[.ref c,u]/\IsTup h c its.toArray/\IntsAre its n/\(tupleKind (cD X.prog X.w)).is h (n.map Sum.inl) c
 have gk:∀vs h1 h2,(∀b o,h1.get? b=some o->h2.get? b=some o)->Good vs h1->Good vs h2:=λ vs h1 h2 k ⟨e,g⟩=>⟨e,λ i b n e1 e2=>by obtain ⟨c,u,its,t1,t2,i1,o,its',m,o1,o2,o3,o4⟩:=g i b n e1 e2;exact ⟨c,u,its,t1.keeps k,t2.keeps k,i1,o,its',m,k _ _ o1,o2,o3,o4⟩⟩;have g0:Good (bs.map Value.ref) s.heap:=⟨rfl,λ i b n e1 e2=>by
  obtain ⟨c,y,hb,hc⟩:=P0 i b n e1 e2;obtain ⟨_,its,r,t⟩:=I.hok c _ hc;obtain ⟨_,jts,r',t'⟩:=I.hok b _ hb;cases r' with
  |cons q1 q2=>
   cases q2 with
   |cons q3 q4=>cases q4;cases q1;exact ⟨c,_,its,t',t,intsAre_of r,Cd I.hok (by rw[R9];exact hc)⟩⟩
 have at2:∀{i:Nat},i<ns.length->∃b n,bs[i]? =some b/\ns[i]? =some n/\(bs.map Value.ref).getD i .none= .ref b/\ns.getD i []=n:=λ{i} hi=>by
  have hb:i<bs.length:=by rw[lb];exact hi
  exact ⟨bs[i],ns[i],ā hb,ā hi,by simp[Č,hb],by simp[Č,hi]⟩
 have inj:∀{i j:Nat} {n:`Î},i<ns.length->ns[i]? =some n->ns[j]? =some n->i=j:=λ hi e1 e3=>(ăt hi ndn).mp (e1.trans e3.symm);have O:Ord (λ i j=>gu (ns.getD i []) (ns.getD j [])) ns.length:=⟨λ i j hi hj hij=>by refine wO _ _ λ e=>hij ?_;obtain ⟨_,n,_,e1,_,e2⟩:=at2 hi;obtain ⟨_,m,_,e3,_,e4⟩:=at2 hj;rw[e2,e4] at e;subst e;exact inj hi e1 e3,λ i j k _ _ _=>wN _ _ _⟩;refine A0 (Good:=Good) (l:=a) (λ A' E' R hA h=>?_) gk λ vs h' gd=>?_
 ·refine ąo pl.isList ?_ (by rw[ė,lb,Ĵ];omega);have kp:∀b o,s.heap.get? b=some o->((s.heap.push (seqObj "list" #[] 0)).update s.heap.objs.size (ĳ λ x=>x++(bs.map Value.ref).toArray)).get? b=some o:=λ b o q=>by rw[Ăz _ _ _ _ (ĕ (č q))];exact Ā _ q
  exact h _ _ s.toks kp (by rw[Ąd,Āk];omega) (gk _ _ _ kp g0)
 ·obtain ⟨rfl,_⟩:=id gd;have lv:(bs.map Value.ref).length=ns.length:=by rw[ė,lb]
  refine ⟨by rw[lv];exact h64,λ i j=>gu (ns.getD i []) (ns.getD j []),tuples' false,by rw[lv];exact O,λ h2 A' h2' tk E' Q' gd' q'=>?_,λ A' h2' tk i j Q' hu' gd' hi hj hij q'=>?_,λ h2' tk r e ix kp hr gd' er hp pw=>?_⟩
  ·rw[lv] at h2;have mk:∀(l:List Addr) (m:List (List Int)),l.length=m.length->(∀(i:Nat) (b:Addr) (n:`Î),l[i]? =some b->m[i]? =some n->∃(c:Addr) (u:Value) (its:`Ð),IsTup h2' b #[.ref c,u]/\IsTup h2' c its.toArray)->∃fs,KatTups h2' (l.map Value.ref) fs/\fs.length=l.length/\∀v∈fs,∃(c:Addr) (its:`Ð),v= .ref c/\IsTup h2' c its.toArray:=by
    intro l;induction l with
    |nil=>exact λ _ _ _=>⟨[],ąw,rfl,λ _ z=>nomatch z⟩
    |cons b l ih=>intro m hl hg;cases m with
     |nil=>simp at hl
     |cons n m=>
      obtain ⟨fs,f1,f2,f3⟩:=ih m (by simpa using hl) λ i b' n' e1 e2=>hg (i+1) b' n' (by simpa using e1) (by simpa using e2);obtain ⟨c,u,its,⟨o,o1,o2,k,o3⟩,t2⟩:=hg 0 b n rfl rfl;refine ⟨.ref c::fs,Ąm o1 o2 o3 rfl f1,by simp[f2],λ v hv=>?_⟩;rcases Ć.mp hv with rfl|hv
      ·exact ⟨c,its,rfl,t2⟩
      ·exact f3 v hv
   obtain ⟨fs,f1,f2,f3⟩:=mk bs ns lb λ i b n e1 e2=>let ⟨c,u,its,t1,t2,_⟩:=gd'.2 i b n e1 e2;⟨c,u,its,t1,t2⟩
   refine kat_kind (s:=Shared.mk h2' s.gens s.drawn tk s.os) (T:= .type "tuple") f1 (by rw[f2,lb];omega) (λ v hv=>?_) rfl q';obtain ⟨c,its,rfl,o,o1,o2,_⟩:=f3 v hv;rw[<-o2];exact (Looks.ld o1).andThen .now
  ·rw[lv] at hi hj;obtain ⟨b,n,e1,e2,e3,e4⟩:=at2 hi;obtain ⟨b',m,f1,f2,f3,f4⟩:=at2 hj;rw[e3,f3];obtain ⟨c,u,its,⟨o,o1,o2,k,o3⟩,t1,i1,k1⟩:=gd'.2 i b n e1 e2;obtain ⟨c',u',jts,⟨p,p1,p2,k',p3⟩,t2,i2,k2⟩:=gd'.2 j b' m f1 f2;refine kat_lt (s:=Shared.mk h2' s.gens s.drawn tk s.os) o1 o3 p1 p3 ?_;have hu2:A'.units<cLine:=by omega
   refine kat_cons (wpAny_eqBool_tuple (s:=Shared.mk h2' s.gens s.drawn tk s.os) hu2 k1 k2 (kat_go (λ z=>?_) (λ z=>kat_no (kat_one _ _ (HT.Ld t1 t2 (by simpa using i1) (by simpa using i2) hu2 ?_)))))
   ·have:n=m:=IU (by simpa using z);subst this;exact absurd (inj hi e2 f2) hij
   ·show Q' (HT.lexLt n m) _;rw[IZ, <-e4, <-f4];exact q'
  ·rw[lv] at hp;have vals:Vals (ix.map λ i=>V.ref (bs.getD i 0)) (ix.map λ i=>(bs.map Value.ref).getD i Value.none):=by
    have:∀l:List Nat,(∀i∈l,i<ns.length)->Vals (l.map λ i=>V.ref (bs.getD i 0)) (l.map λ i=>(bs.map Value.ref).getD i Value.none):=by
     intro l;induction l with
     |nil=>exact λ _=> .nil
     |cons i l ih=>intro hl;obtain ⟨b,_,e1,_,e3,_⟩:=at2 (hl i (.head _));refine .cons ?_ (ih λ j hj=>hl j (.tail _ hj));show L2.RelV (V.ref (bs.getD i 0)) ((bs.map Value.ref).getD i Value.none);rw[e3];show Value.ref b=Value.ref (bs.getD i 0);rw[Č,e1];rfl
    exact this ix λ i hi=>by simpa using hp.mem_iff.mp hi
   have lx:ix.length<4096:=by rw[hp.length_eq,Ăh];exact h64
   exact ⟨.ref r,_,I.laid (t':=tk) kp hr (show eV X.prog X.w _ h2' _ (.lst (ix.map λ i=>V.ref (bs.getD i 0))) from ⟨by rw[Ĵ,ė];omega,_,e,vals,er⟩),rfl,q r ix (I.hok.fresh hr) hp pw⟩
section
variable{X:Cx}{ct:Ct}{e:Expr}{es:`Þ}{f:`Ñ}{fa:`Æ}{p pos:Pos}
def Tu{K:ă}{H:Hp}{xs:List D}{ns:List (List Int)}{vs:List V}(hn:p3s xs=some ns)(h:aF K ct H xs vs):∃bs:List Addr,vs=bs.map V.ref/\bs.length=ns.length/\∀(i:Nat) (b:Addr) (n:`Î),bs[i]? =some b->ns[i]? =some n->∃c y,H b=some (.tup [.ref c,y])/\H c=some (.tup (n.map V.int)):=by
 obtain ⟨lx,hx⟩:=FQ hn
 have at1:∀(i:Nat) (v:V),vs[i]? =some v->∃(b c:Addr) (y:V) (n:`Î),v= .ref b/\ns[i]? =some n/\H b=some (.tup [.ref c,y])/\H c=some (.tup (n.map V.int)):=λ i v e=>by
  have il:i<ns.length:=by rw[<-lx,h.length];exact (Ď.mp e).1
  obtain ⟨d,e2,_⟩:=hx i _ (ā il)
  obtain ⟨v',e3,t⟩:=h.get e2
  rw[e] at e3
  cases e3
  simp only[Tl] at t
  obtain ⟨b,us,rfl,hb,ht⟩:=t
  obtain ⟨v1,v2,rfl,t1,_⟩:=abv ht
  simp only[tupI,Tl] at t1
  obtain ⟨c,ws,rfl,hc,hw⟩:=t1
  have ew:ws=ns[i].map V.int:=by
   have:∀{m:`Î} {us:List V},aF K ct H (m.map D.int) us->us=m.map V.int:=by
    intro m
    induction m with
    |nil=>intro us h;simpa[aF] using h
    |cons x m ih=>
     intro us h
     simp only[ą,aF,Tl] at h
     obtain ⟨v,r,rfl,rfl,h⟩:=h
     rw[ih h];rfl
   exact this hw
  subst ew
  exact ⟨b,c,v2,_,rfl,ā il,hb,hc⟩
 let ad:V->Addr:=λ v=>match v with
  | .ref b=>b
  |_=>0
 have ev:vs=(vs.map ad).map V.ref:=by
  rw[ŋ]
  conv=>lhs;rw[<-ąx vs]
  refine Āi λ v hv=>?_
  obtain ⟨i,hi⟩:=List.mem_iff_getElem?.mp hv
  obtain ⟨b,_,_,_,rfl,_⟩:=at1 i v hi
  rfl
 refine ⟨vs.map ad,ev,by rw[ė, <-h.length,lx],λ i b n e1 e2=>?_⟩
 rw[Ĝ,Āv] at e1
 obtain ⟨v,e1,rfl⟩:=e1
 obtain ⟨b,c,y,m,rfl,e3,h1,h2⟩:=at1 i v e1
 rw[e2] at e3
 cases e3
 exact ⟨c,y,h1,h2⟩
def J2(hu:X.A.units+64<cLine)(hm:X.mg "sorted"=none)(ha:CM X ct (e::es) fa)(hg:Gl X "sorted":=by rfl)(he:`Ç:=by rfl)(hpl:(backTo pos (ć es X.env)).any (·.1)=false:=by rfl):WL X ct (.Call (.Name "sorted" p) (e::es) [] pos) (Yb yt fa):=by
 have ha:=ha.out;refine ⟨?_⟩;refine PE.imp (jk (Hl hu) hg hm (by decide+kernel) ha `Â `Â he hpl) λ σ H Q ⟨Γ,j,h⟩=>?_;refine JW.bnd j h λ ds vs H' s t j' h'=>?_;unfold yt at h';split at h'
 ·rename_i x;obtain ⟨v,rfl,t1⟩:=zK t;have go:∀(xs:List D) (a:Addr) (vs:List V),qO X.K H' a vs->aF X.K ct H' xs vs->v= .ref a->Ok X ct σ H (yr xs) (Wl X ct H Q)->∃(a:Addr) (bs:List Addr) (ns:List (List Int)),[v]=[.ref a]/\qO X.K H' a (bs.map V.ref)/\bs.length=ns.length/\ns.Nodup/\ns.length<4096/\
    (∀(i:Nat) (b:Addr) (n:`Î),bs[i]? =some b->ns[i]? =some n->∃c y,H' b=some (.tup [.ref c,y])/\H' c=some (.tup (n.map V.int)))/\
    ∀(r:Addr) (ix:`Ö),H' r=none->ix.Perm (ĭ ns.length)->ix.Pairwise (λ i j=>gu (ns.getD i []) (ns.getD j [])=true)->Q (.ref r) (upd H' r (.lst (ix.map λ i=>V.ref (bs.getD i 0)))):=by
   intro xs a vs sq tl ev hh;unfold yr at hh;split at hh
   ·rename_i ns hn;split at hh
    ·rename_i hc;obtain ⟨lx,_⟩:=FQ hn;obtain ⟨bs,rfl,lb,hb⟩:=Tu hn tl;refine ⟨a,bs,ns,by rw[ev],sq,lb,hc.2,by omega,hb,λ r ix hr hp pw=>?_⟩;have s2:=bf hr (.lst (ix.map λ i=>V.ref (bs.getD i 0)));refine hh r _ _ (s.trans s2) (s.free hr) aC ?_;rw[<-V1 lx hc.2 hp pw,ŋ];refine Fv λ i hi=>?_;have il:i<ns.length:=by simpa using hp.mem_iff.mp hi
     have ib:i<bs.length:=by rw[lb];exact il
     have ix':i<xs.length:=by rw[lx];exact il
     show Tl X.K ct _ (xs.getD i .cU) (V.ref (bs.getD i 0));obtain ⟨w,ew,tw⟩:=tl.get (ā ix');rw[Ĝ,ā ib] at ew;cases ew;rw[Č,Č,ā ix',ā ib];exact tw.keep (ay.keep s2)
    ·exact hh.elim
   ·exact hh.elim
  unfold V4 at h';split at h'
  ·rename_i xs;simp only[Tl] at t1;obtain ⟨a,vs,rfl,fz,tl⟩:=t1;exact go xs a vs fz.sq tl rfl h'
  ·rename_i tm xs;obtain ⟨a,rfl,sq,tl⟩:∃a,v= .ref a/\(∃vs,qO X.K H' a vs/\aF X.K ct H' xs vs)/\True:=by
    simp only[Tl] at t1;obtain ⟨a,vs,rfl,h2,t⟩:=t1;refine ⟨a,rfl,⟨vs,?_,t⟩,trivial⟩;cases tm with
    |true=>exact .inl (.inl (j'.lB a _ h2))
    |false=>exact .inl (.inl (j'.lL a _ h2))
   obtain ⟨vs,sq,tl⟩:=sq;exact go xs a vs sq tl rfl h'
  ·exact h'.elim
 ·exact h'.elim
end
end L4
end
section
namespace K12
open PySem L4
noncomputable def mt:List (String×List String):=[("NoFraction",["NoFraction","BeamError","ValueError"]),("NoPass",["NoPass","BeamError","ValueError"]),("NoCell",["NoCell","BeamError","ValueError"]),("NoTable",["NoTable","BeamError","ValueError"]),("NoPlace",["NoPlace","BeamError","ValueError"]),("Empty",["Empty","Cell"]),("Mirror",["Mirror","Cell"]),("Half",["Half","Cell"]),("Filter",["Filter","Cell"]),("Wall",["Wall","Cell"]),("Fibre",["Fibre","Cell"]),("Table",["Table"])]
noncomputable def vC:List (String×List Str):=[("Empty",[]),("Mirror",["slant"]),("Half",["slant","share"]),("Filter",["share"]),("Wall",[]),("Fibre",["name"]),("Table",["grid","ends"])]
noncomputable abbrev ID:List Str:=["_law_script","_law_k"]
noncomputable abbrev sG:List Str:=["_law_script","_law_k"]
def b8(n:Nat):Sg->Out:=(aU (uM (dT (aH ltI (aj 1) (pY ig (ai (aj 0) az)))) (gj (aH cC (aj 0) (aj 1))) dW)
  (gj (dC (.int 0))))
def aK(as:`Û):cR:=nu (b8 0 (cB ID as))
noncomputable abbrev Uk:List Str:=["_law_raw"]
noncomputable abbrev yE:List Str:=["_law_raw"]
def kc(n:Nat):Sg->Out:=(gj (aH oV (aH ie (aj 0) (dC (.int 2147483647))) (aH nI (aH ie (aH nI (aj 0) (dC (.int 65537))) (dC (.int 48271))) (dC (.int 65521)))))
def i8(as:`Û):cR:=nu (kc 0 (cB Uk as))
noncomputable abbrev Dv:List Str:=["slant"]
noncomputable abbrev pO:List Str:=["slant"]
def dI(n:Nat):Sg->Out:=(uM (dT (aH sQ (aj 0) (iG (ai `Ì (ai (dC (.int 3)) az))))) (lD "NoCell" (ai (dC (.str "a slant is 1 or 3")) az)) dW)
def dN(as:`Û):cR:=nu (dI 0 (cB Dv as))
noncomputable abbrev acs:List Str:=["one","other"]
noncomputable abbrev FN:List Str:=["one","other"]
def mC(n:Nat):Sg->Out:=(gj (aH ltI (aH ie (aH cC (aj 0) (dC (.int 0))) (aH cC (aj 1) `Ì)) (aH ie (aH cC (aj 1) (dC (.int 0))) (aH cC (aj 0) `Ì))))
def k6(as:`Û):cR:=nu (mC 0 (cB acs as))
noncomputable abbrev Dy:List Str:=["share"]
noncomputable abbrev pQ:List Str:=["share"]
def cF(n:Nat):Sg->Out:=(uM (cOr (rN (dT (bz 2 k6 (ai (dC (.gt [.int 0,.int 1])) (ai (aj 0) az))))) (rN (dT (bz 2 k6 (ai (aj 0) (ai (dC (.gt [.int 1,.int 1])) az)))))) (lD "NoCell" (ai (dC (.str "a share is above 0 and below 1")) az)) dW)
def cH(as:`Û):cR:=nu (cF 0 (cB Dy as))
noncomputable abbrev zT:List Str:=["self","slant","share"]
noncomputable abbrev m8:List Str:=["self","slant","share"]
def b9(n:Nat):Sg->Out:=(aU (qi (bz 1 dN (ai (aj 1) az)))
  (aU (qi (bz 1 cH (ai (aj 2) az)))
  (aU (qh 0 vC "slant" (aj 1))
  (qh 0 vC "share" (aj 2)))))
def bL(as:`Û):cR:=Hs (b9 0 (cB zT as))
noncomputable abbrev acw:List Str:=["_law_top","_law_bottom","_law_one_here","_law_other"]
noncomputable abbrev Ak:List Str:=["_law_top","_law_bottom"]
def tU(n:Nat):Sg->Res Bool:=(dT (aH RN (aj 3) (dC (.int 0))))
def yd(n:Nat):Sg->Out:=(agx 2 3 (ai (aj 3) (ai (aH nI (aj 2) (aj 3)) az)))
def nP(n:Nat):Sg->Out:=(aU (iF 2 (aj 0))
  (aU (iF 3 (aj 1))
  (aU (iJ (tU n) (yd n) n)
  (gj (iG (ai (aH iC (aj 0) (aj 2)) (ai (aH iC (aj 1) (aj 2)) az)))))))
noncomputable def i9:List Slot->cR
 |[.val (.int a),.val (.int b)]=>if 0<=a/\1<=b/\b.natAbs<2^9000 then .ok (.tup [.int (a.fdiv (ľ a b)),.int (b.fdiv (ľ a b))]) else .bad
 |_=> .bad
def XQ(a b:Slot)(m:Nat):∀(s l k:Nat),s<k->iJ (tU m) (yd m) k [a,b,.val (.int l),.val (.int s)]= .nx [a,b,.val (.int (ăe l s:Nat)),.val (.int 0)]:=by
 intro s;induction s using Nat.strongRecOn with
 |_ s ih=>
  intro l k hk;obtain ⟨k,rfl⟩:∃j,k=j+1:=⟨k- 1,by omega⟩;by_cases h:s=0
  ·subst h;simp[iJ,tU]
  ·have e:=ih (l%s) (Ąp l `À) s k (by have:=Ąp l (show 0<s by omega);omega);have hs:((s:Int)=0)=False:=by simp[h]
   have hs':(s:Int)≠0:=by omega
   rw[Jv l s h, <-e];simp[iJ,tU,yd,h,hs,qo _ _ hs',JB]
def ade(as:`Û)(hl:as.length=Ak.length)(hb:i9 as≠.bad):∃n,nu (nP n (cB acw as))=i9 as:=by
 match as,hb with
 |[.val (.int a),.val (.int b)],hb=>
  by_cases hc:0<=a/\1<=b/\b.natAbs<2^9000
  ·obtain ⟨h1,h2,h3⟩:=id hc;obtain ⟨l,rfl⟩:=Int.eq_ofNat_of_zero_le h1;obtain ⟨s,rfl⟩:=Int.eq_ofNat_of_zero_le (show 0<=b by omega);refine ⟨s+1,?_⟩;have e:=XQ (.val (.int (l:Int))) (.val (.int (s:Int))) (s+1) s l (s+1) `À;have hg:ľ (l:Int) (s:Int)=ăe l s:=by simp[ľ]
   have hgp:0<ăe l s:=Nat.gcd_pos_of_pos_right _ `À;have hgl:ăe l s<=s:=ăw `À (Nat.gcd_dvd_right _ _);have d:∀x:Int,iC (.int x) (.int ((ăe l s:Nat):Int))= .ok (.int (x.fdiv ((ăe l s:Nat):Int))):=λ x=>zc _ _ (CB `À (ĸ (by simpa using hgl) (by simpa using h3)));simp only[i9,hc,and_self,if_true,hg];simp[nP,cB,e,d]
  ·exact absurd (by simp[i9,hc]) hb
noncomputable abbrev Uj:List Str:=["_law_cell","_law_bottom"]
noncomputable abbrev yD:List Str:=["_law_cell"]
def iX(n:Nat):Sg->Out:=(aU (iF 1 (aH oV (dC (.int 2)) (aH nI (aj 0) (dC (.int 96)))))
  (gj (bz 2 i9 (ai (aH oV `Ì (aH nI (aH iC (aj 0) (dC (.int 96))) (aH Ic (aj 1) `Ì))) (ai (aj 1) az)))))
def i7(as:`Û):cR:=nu (iX 0 (cB Uj as))
noncomputable abbrev wG:List Str:=["self","share"]
noncomputable abbrev kF:List Str:=["self","share"]
def bJ(n:Nat):Sg->Out:=(aU (qi (bz 1 cH (ai (aj 1) az)))
  (qh 0 vC "share" (aj 1)))
def br(as:`Û):cR:=Hs (bJ 0 (cB wG as))
noncomputable abbrev wF:List Str:=["self","slant"]
noncomputable abbrev kC:List Str:=["self","slant"]
def bT(n:Nat):Sg->Out:=(aU (qi (bz 1 dN (ai (aj 1) az)))
  (qh 0 vC "slant" (aj 1)))
def bY(as:`Û):cR:=Hs (bT 0 (cB wF as))
noncomputable abbrev acv:List Str:=["_law_cell","_law_way","_law_slant"]
noncomputable abbrev FP:List Str:=["_law_cell"]
def pK(n:Nat):Sg->Out:=(aU (iF 1 (aH nI (aj 0) (dC (.int 13))))
  (aU (iF 2 (aH cC (ze (vH (ai `Ì (ai (dC (.int 3)) az)))) (aH nI (aH iC (aj 0) (dC (.int 13))) (dC (.int 2)))))
  (aU (uM (dT (aH ltI (aj 1) (dC (.int 3)))) (gj (dC (.obj "Empty" [] []))) dW)
  (aU (uM (dT (aH Vs (aj 1) (dC (.int 3)))) (gj (dC (.obj "Wall" [] []))) dW)
  (aU (uM (dT (aH ltI (aj 1) (dC (.int 7)))) (gj (E5 2 "Half" ["slant","share"] bL (ai (aj 2) (ai (bz 1 i7 (ai (aH iC (aj 0) (dC (.int 26))) az)) az)))) dW)
  (aU (uM (dT (aH ltI (aj 1) (dC (.int 9)))) (gj (E5 1 "Filter" ["share"] br (ai (bz 1 i7 (ai (aH iC (aj 0) (dC (.int 26))) az)) az))) dW)
  (gj (E5 1 "Mirror" ["slant"] bY (ai (aj 2) az)))))))))
def nQ(as:`Û):cR:=nu (pK 0 (cB acv as))
noncomputable abbrev Ge:List Str:=["name"]
noncomputable abbrev qV:List Str:=["name"]
def dg(n:Nat):Sg->Out:=(uM (cOr (rN (dT (fM Uz Uz `Ì (pY ig (ai (aj 0) az)) (dC (.int 8))))) (rN (dT (pY Zw (ai (ze (gi false (U0 (aj 0)) 1 [] (aD 0) mV (aH inA (aj 0) (dC (.str "abcdefghijklmnopqrstuvwxyz"))))) az))))) (lD "NoCell" (ai (dC (.str "a name has one to eight letters from a to z")) az)) dW)
def dB(as:`Û):cR:=nu (dg 0 (cB Ge as))
noncomputable abbrev yK:List Str:=["self","name"]
noncomputable abbrev lF:List Str:=["self","name"]
def bB(n:Nat):Sg->Out:=(aU (qi (bz 1 dB (ai (aj 1) az)))
  (qh 0 vC "name" (aj 1)))
def aS(as:`Û):cR:=Hs (bB 0 (cB yK as))
noncomputable abbrev Dw:List Str:=["grid","cells"]
noncomputable abbrev pP:List Str:=["grid"]
def jC(n:Nat):Sg->Out:=(aU (uM (rN (dT (fM Uz Uz `Ì (pY ig (ai (aj 1) az)) (dC (.int 16))))) (lD "NoTable" (ai (dC (.str "a row has 1 to 16 cells")) az)) dW)
  (uM (dT (aH RN (pY ig (ai (aj 1) az)) (pY ig (ai (aH cC (aj 0) (dC (.int 0))) az)))) (lD "NoTable" (ai (dC (.str "the rows are of unlike length")) az)) dW))
def dJ(n:Nat):Sg->Out:=(aU (uM (rN (dT (fM Uz Uz `Ì (pY ig (ai (aj 0) az)) (dC (.int 16))))) (lD "NoTable" (ai (dC (.str "a table has 1 to 16 rows")) az)) dW)
  (iL (gc (aj 0)) (aD 1) (jC n)))
def cG(as:`Û):cR:=nu (dJ 0 (cB Dw as))
noncomputable abbrev BJ:List Str:=["grid","places","y","cells","x","cell"]
noncomputable abbrev oj:List Str:=["grid"]
def dO(n:Nat):Sg->Out:=(uM (dT (DR mt ["Fibre"] (aj 5))) (wc 1 (tR "name" (aj 5)) (iG (ai (aj 4) (ai (aj 2) az)))) dW)
def iT(n:Nat):Sg->Out:=(iL (Jq (ai (aj 3) az)) (jh 2 (aY (aD 4) (aY (aD 5) kj))) (dO n))
def cM(n:Nat):Sg->Out:=(aU (uL 1 XJ)
  (aU (iL (Jq (ai (aj 0) az)) (jh 2 (aY (aD 2) (aY (aD 3) kj))) (iT n))
  (A7 1)))
def cP(as:`Û):cR:=nu (cM 0 (cB BJ as))
noncomputable abbrev Gb:List Str:=["grid","ends","name","places"]
noncomputable abbrev qT:List Str:=["grid"]
def kg(n:Nat):Sg->Out:=(aU (uM (dT (aH RN (pY ig (ai (aj 3) az)) (dC (.int 2)))) (lD "NoTable" (ai (aeF "of the fibre " " there are not just two cells" (aj 2)) az)) dW)
  (aU (Ei 1 (om 1) (aH cC (aj 3) (dC (.int 0))) (aH cC (aj 3) `Ì))
  (Ei 1 (om 1) (aH cC (aj 3) `Ì) (aH cC (aj 3) (dC (.int 0))))))
def fE(n:Nat):Sg->Out:=(aU (uL 1 (λ _=> .ok (.k (.t []) [])))
  (aU (iL (Lv (bz 1 cP (ai (aj 0) az))) (jh 2 (aY (aD 2) (aY (aD 3) kj))) (kg n))
  (A7 1)))
def dw(as:`Û):cR:=nu (fE 0 (cB Gb as))
noncomputable abbrev qm:List Str:=["self","rows"]
noncomputable abbrev lE:List Str:=["self","rows"]
def bO(n:Nat):Sg->Out:=(aU (qh 0 vC "grid" (pY m7 (ai (ze (gi false (gc (aj 1)) 1 [] (aD 0) mV (pY m7 (ai (aj 0) az)))) az)))
  (aU (qi (pX 1 cG (ai (tR "grid" (ju 0)) az)))
  (qh 0 vC "ends" (pX 1 dw (ai (tR "grid" (ju 0)) az)))))
def bC(as:`Û):cR:=Hs (bO 0 (cB qm as))
noncomputable abbrev Ew:List Str:=["_law_script","_law_cells","_law_wide","_law_high","_law_row","_law_k","_law_j","_law_one_here","_law_other"]
noncomputable abbrev yC:List Str:=["_law_script"]
def mG(n:Nat):Sg->Out:=(yu 4 (om 4) (aj 5) (bK 1 nQ (ai (bK 1 i8 (ai (aH cC (aj 1) (aj 5)) az)) az)))
def iH(n:Nat):Sg->Out:=(aU (Eg 7 (aH nI (aH iC (bK 2 aK (ai (aj 0) (ai (aH oV `Ì (aj 6)) az))) (dC (.int 3))) (pY ig (ai (ju 4) az))))
  (aU (Eg 8 (aH nI (aH iC (bK 2 aK (ai (aj 0) (ai (aH oV (dC (.int 2)) (aj 6)) az))) (dC (.int 5))) (pY ig (ai (ju 4) az))))
  (uM (JL (dT (aH RN (aj 7) (aj 8))) (JL (rN (dT (DR mt ["Fibre"] (aH cC (ju 4) (aj 7))))) (rN (dT (DR mt ["Fibre"] (aH cC (ju 4) (aj 8))))))) (aU (yu 4 (om 4) (aj 7) (zd 1 "Fibre" ["name"] aS (ai (aH cC (ze (vH (ai (dC (.str "a")) (ai (dC (.str "ab")) (ai (dC (.str "b")) az))))) (aj 6)) az)))
  (yu 4 (om 4) (aj 8) (zd 1 "Fibre" ["name"] aS (ai (aH cC (ze (vH (ai (dC (.str "a")) (ai (dC (.str "ab")) (ai (dC (.str "b")) az))))) (aj 6)) az)))) dW)))
def j9(n:Nat):Sg->Out:=(aU (iF 1 (ze (DJ (aj 0) (dP `Ì) (dP (dC (.int 63))))))
  (aU (iF 2 (aH oV `Ì (aH nI (bz 2 aK (ai (aj 0) (ai (dC (.int 0)) az))) (dC (.int 8)))))
  (aU (iF 3 (pY EA (ai `Ì (ai (pY rW (ai (dC (.int 12)) (ai (aH iC (aH Ic (aH oV (pY ig (ai (aj 1) az)) (aj 2)) `Ì) (aj 2)) az))) az))))
  (aU (uL 4 (mL (gi false (gS (ai (aH ie (aj 2) (aj 3)) az)) 1 [] (aD 0) mV (dC (.obj "Empty" [] [])))))
  (aU (iL (gS (ai (pY rW (ai (pY ig (ai (aj 1) az)) (ai (aH ie (aj 2) (aj 3)) az))) az)) (aD 5) (mG n))
  (aU (iL (gS (ai (aH nI (aH iC (bz 2 aK (ai (aj 0) (ai (dC (.int 0)) az))) (dC (.int 8))) (dC (.int 3))) az)) (aD 6) (iH n))
  (Wc (CF 1 "Table" ["grid","ends"] bC (ai (ze (gi true (gS (ai (aj 3) az)) 1 [4,2] (aD 0) mV (ze (DJ (aj 1) (dP (aH ie (aj 0) (aj 2))) (dP (aH ie (aH oV (aj 0) `Ì) (aj 2))))))) az)))))))))
def g8(as:`Û):cR:=nu (j9 0 (cB Ew as))
noncomputable abbrev Dz:List Str:=["self"]
noncomputable abbrev lR:List Str:=["self"]
noncomputable def dM(n:Nat):Sg->Out:=(gj (pY ig (ai (aH cC (tR "grid" (aj 0)) (dC (.int 0))) az)))
def cJ(as:`Û):cR:=nu (dM 0 (cB Dz as))
def oX:List (String×(List Slot->cR)):=[("Table",cJ)]
noncomputable abbrev BK:List Str:=["self"]
noncomputable abbrev ku:List Str:=["self"]
noncomputable def cN(n:Nat):Sg->Out:=(gj (pY ig (ai (tR "grid" (aj 0)) az)))
def bW(as:`Û):cR:=nu (cN 0 (cB BK as))
def mJ:List (String×(List Slot->cR)):=[("Table",bW)]
noncomputable abbrev zA:List Str:=["table","found","x","y"]
noncomputable abbrev sF:List Str:=["table"]
def lQ(n:Nat):Sg->Out:=(Fy 1 (om 1) (gi false (gc (dC (.gt [.int 0,.int 1,.int 2,.int 3]))) 1 [2,3] (aD 0) mV (iG (ai (aj 1) (ai (aj 2) (ai (aj 0) az))))))
def lP(n:Nat):Sg->Out:=(iL (gS (ai (lu (jl 0 mJ (aj 0) az)) az)) (aD 3) (lQ n))
def fD(n:Nat):Sg->Out:=(aU (uL 1 (mL (vH az)))
  (aU (iL (gS (ai (lu (jl 0 oX (aj 0) az)) az)) (aD 2) (lP n))
  (A7 1)))
def cg(as:`Û):cR:=nu (fD 0 (cB zA as))
noncomputable abbrev KZ:List Str:=["way"]
noncomputable abbrev ve:List Str:=["way"]
def jO(n:Nat):Sg->Out:=(gj (aH Vz (aj 0) (dC (.int 2))))
def jT(as:`Û):cR:=nu (jO 0 (cB KZ as))
noncomputable abbrev Xv:List Str:=["x","y","way"]
noncomputable abbrev Bm:List Str:=["x","y","way"]
def kY(n:Nat):Sg->Out:=(aU (uM (dT (aH Vs (aj 2) (dC (.int 0)))) (gj (iG (ai (aH oV (aj 0) `Ì) (ai (aj 1) az)))) dW)
  (aU (uM (dT (aH Vs (aj 2) `Ì)) (gj (iG (ai (aj 0) (ai (aH Ic (aj 1) `Ì) az)))) dW)
  (aU (uM (dT (aH Vs (aj 2) (dC (.int 2)))) (gj (iG (ai (aH Ic (aj 0) `Ì) (ai (aj 1) az)))) dW)
  (gj (iG (ai (aj 0) (ai (aH oV (aj 1) `Ì) az)))))))
def k9(as:`Û):cR:=nu (kY 0 (cB Xv as))
noncomputable abbrev Um:List Str:=["p","way","behind"]
noncomputable abbrev yG:List Str:=["p"]
def eY(n:Nat):Sg->Out:=(aU (iF 1 (bz 1 jT (ai (aH cC (aj 0) (dC (.int 2))) az)))
  (aU (iF 2 (bz 3 k9 (ai (aH cC (aj 0) (dC (.int 0))) (ai (aH cC (aj 0) `Ì) (ai (aj 1) az)))))
  (gj (iG (ai (aH cC (aj 2) (dC (.int 0))) (ai (aH cC (aj 2) `Ì) (ai (aj 1) az)))))))
def b7(as:`Û):cR:=nu (eY 0 (cB Um as))
noncomputable abbrev wD:List Str:=["self","x","y"]
noncomputable abbrev iB:List Str:=["self","x","y"]
def bI(n:Nat):Sg->Out:=(gj (adv (fM Uz ltI (dC (.int 0)) (aj 1) (lu (jl 0 oX (aj 0) az))) (fM Uz ltI (dC (.int 0)) (aj 2) (lu (jl 0 mJ (aj 0) az)))))
def bh(as:`Û):cR:=nu (bI 0 (cB wD as))
def jW:List (String×(List Slot->cR)):=[("Table",bh)]
noncomputable abbrev K1:List Str:=["table","p"]
noncomputable abbrev vg:List Str:=["table","p"]
def fN(n:Nat):Sg->Out:=(gj (lu (jl 2 jW (aj 0) (ai (aH cC (aj 1) (dC (.int 0))) (ai (aH cC (aj 1) `Ì) az)))))
def fT(as:`Û):cR:=nu (fN 0 (cB K1 as))
noncomputable abbrev IG:List Str:=["table","p"]
noncomputable abbrev sH:List Str:=["table","p"]
def fF(n:Nat):Sg->Out:=(gj (bz 2 fT (ai (aj 0) (ai (bz 1 b7 (ai (aj 1) az)) az))))
def cQ(as:`Û):cR:=nu (fF 0 (cB IG as))
noncomputable abbrev IF:List Str:=["table"]
noncomputable abbrev Bl:List Str:=["table"]
def mY(n:Nat):Sg->Out:=(rV (mL (Yb yq (ai (ze (gi false (gc (bK 1 cg (ai (aj 0) az))) 1 [0] (aD 0) (rN (dT (bK 2 cQ (ai (aj 1) (ai (aj 0) az))))) (aj 0))) az))))
def jB(as:`Û):cR:=nu (mY 0 (cB IF as))
noncomputable abbrev Eu:List Str:=["table"]
noncomputable abbrev yy:List Str:=["table"]
def jZ(n:Nat):Sg->Out:=(rV (mL (Yb yq (ai (ze (gi false (gc (bK 1 jB (ai (aj 0) az))) 1 [] (aD 0) mV (bK 1 b7 (ai (aj 0) az)))) az))))
def iZ(as:`Û):cR:=nu (jZ 0 (cB Eu as))
noncomputable abbrev wB:List Str:=["table"]
noncomputable abbrev qW:List Str:=["table"]
def fG(n:Nat):Sg->Out:=(rV (mL (Yb yq (ai (ze (lOp Zj (bK 1 cg (ai (aj 0) az)) (bK 1 iZ (ai (aj 0) az)))) az))))
def dD(as:`Û):cR:=nu (fG 0 (cB wB as))
noncomputable abbrev Gd:List Str:=["table","p"]
noncomputable abbrev qU:List Str:=["table","p"]
def c9(n:Nat):Sg->Out:=(uM (cOr (dT (aH sQ (aH cC (aj 1) (dC (.int 2))) (dC (.gt [.int 0,.int 1,.int 2,.int 3])))) (rN (cOr (dT (bz 2 fT (ai (aj 0) (ai (aj 1) az)))) (dT (bz 2 cQ (ai (aj 0) (ai (aj 1) az))))))) (lD "NoPass" (ai (dC (.str "the table has no such pass")) az)) dW)
def cI(as:`Û):cR:=nu (c9 0 (cB Gd as))
noncomputable abbrev uz:List Str:=["self","x","y"]
noncomputable abbrev fW:List Str:=["self","x","y"]
def aX(n:Nat):Sg->Out:=(uM (rN (dT (lu (jl 2 jW (aj 0) (ai (aj 1) (ai (aj 2) az)))))) (lD "NoPlace" (ai (dC (.str "the table has no such place")) az)) dW)
def aR(as:`Û):cR:=nu (aX 0 (cB uz as))
def ji:List (String×(List Slot->cR)):=[("Table",aR)]
noncomputable abbrev wC:List Str:=["self","x","y"]
noncomputable abbrev iA:List Str:=["self","x","y"]
def bH(n:Nat):Sg->Out:=(aU (qi (lu (jl 2 ji (aj 0) (ai (aj 1) (ai (aj 2) az)))))
  (gj (Zd (tR "ends" (aj 0)) (iG (ai (aj 1) (ai (aj 2) az))))))
def bg(as:`Û):cR:=nu (bH 0 (cB wC as))
def jV:List (String×(List Slot->cR)):=[("Table",bg)]
noncomputable abbrev Gg:List Str:=["self","x","y"]
noncomputable abbrev nF:List Str:=["self","x","y"]
def fH(n:Nat):Sg->Out:=(aU (qi (lu (jl 2 ji (aj 0) (ai (aj 1) (ai (aj 2) az)))))
  (gj (aH cC (aH cC (tR "grid" (aj 0)) (aj 2)) (aj 1))))
def dF(as:`Û):cR:=nu (fH 0 (cB Gg as))
def vd:List (String×(List Slot->cR)):=[("Table",dF)]
noncomputable abbrev Gj:List Str:=["self","way"]
noncomputable abbrev kG:List Str:=["self","way"]
def fJ(n:Nat):Sg->Out:=(rV (mL (vH (ai (iG (ai (aj 1) (ai (dC (.gt [.int 1,.int 1])) az))) az))))
def dG(as:`Û):cR:=nu (fJ 0 (cB Gj as))
noncomputable abbrev BL:List Str:=["self","way"]
noncomputable abbrev kB:List Str:=["self","way"]
def cO(n:Nat):Sg->Out:=(rV (mL (vH (ai (iG (ai (aH Vz (aj 1) (tR "slant" (aj 0))) (ai (dC (.gt [.int 1,.int 1])) az))) az))))
def bX(as:`Û):cR:=nu (cO 0 (cB BL as))
noncomputable abbrev vq:List Str:=["one","other","larger","smaller","rest"]
noncomputable abbrev gn:List Str:=["one","other"]
def ff(n:Nat):Sg->Res Bool:=(dT (aH RN (aj 3) (dC (.int 0))))
noncomputable def iI(n:Nat):Sg->Out:=(aU (iF 4 (aH nI (aj 2) (aj 3)))
  (aU (iF 2 (aj 3))
  (iF 3 (aj 4))))
def bx(n:Nat):Sg->Out:=(aU (iF 2 (pY Zy (ai (aj 0) az)))
  (aU (iF 3 (pY Zy (ai (aj 1) az)))
  (aU (iJ (ff n) (iI n) n)
  (gj (aj 2)))))
noncomputable def aI:List Slot->cR
 |[.val (.int a),.val (.int b)]=> .ok (.int (ľ a b))
 |_=> .bad
def adg(a b:Slot)(m:Nat):∀(s l k:Nat) (r:Slot),s<k->∃r',iJ (ff m) (iI m) k [a,b,.val (.int l),.val (.int s),r]= .nx [a,b,.val (.int (ăe l s:Nat)),.val (.int 0),r']:=by
 intro s;induction s using Nat.strongRecOn with
 |_ s ih=>
  intro l k r hk;obtain ⟨k,rfl⟩:∃j,k=j+1:=⟨k- 1,by omega⟩;by_cases h:s=0
  ·subst h;exact ⟨r,by simp[iJ,ff]⟩
  ·obtain ⟨r',e⟩:=ih (l%s) (Ąp l `À) s k (.val (.int (l%s:Nat))) (by have:=Ąp l (show 0<s by omega);omega);refine ⟨r',?_⟩;have hs:((s:Int)=0)=False:=by simp[h]
   have hs':(s:Int)≠0:=by omega
   rw[Jv l s h, <-e];simp[iJ,ff,iI,h,hs,qo _ _ hs',JB]
def vB(as:`Û)(hl:as.length=gn.length)(hb:aI as≠.bad):∃n,nu (bx n (cB vq as))=aI as:=by
 match as,hb with
 |[.val (.int a),.val (.int b)],_=>
  obtain ⟨r',e⟩:=adg (.val (.int a)) (.val (.int b)) (b.natAbs+1) b.natAbs a.natAbs (b.natAbs+1) .no `À;refine ⟨b.natAbs+1,?_⟩;have ha:(if a<0 then -a else a)=(a.natAbs:Int):=by split<;>omega
  have hb:(if b<0 then -b else b)=(b.natAbs:Int):=by split<;>omega
  simp[bx,cB,Zy,ha,hb,e,aI,ľ]
noncomputable abbrev K0:List Str:=["top","bottom","divisor"]
noncomputable abbrev vf:List Str:=["top","bottom"]
def gB(n:Nat):Sg->Out:=(aU (uM (dT (aH Vs (aj 1) (dC (.int 0)))) (lD "NoFraction" (ai (dC (.str "the bottom of a fraction is never 0")) az)) dW)
  (aU (iF 2 (bz 2 aI (ai (aj 0) (ai (aj 1) az))))
  (aU (uM (dT (aH ltI (aj 1) (dC (.int 0)))) (iF 2 (dUn ahf (aj 2))) dW)
  (gj (iG (ai (aH iC (aj 0) (aj 2)) (ai (aH iC (aj 1) (aj 2)) az)))))))
def gP(as:`Û):cR:=nu (gB 0 (cB K0 as))
def JA(t b:Int)(h:b≠0)(hb:b.natAbs<2^9000):gP [.val (.int t),.val (.int b)]= .ok (.tup [.int (EU t b),.int (G4 t b)]):=by
 have d1:∀x,iC (.int x) (.int (xB b (ľ t b)))= .ok (.int (x.fdiv (xB b (ľ t b)))):=λ x=>zc _ _ (CB (YV h) (U6 h hb));by_cases hn:b<0
 ·have e:xB b (ľ t b)= -(ľ t b:Int):=by simp[xB,hn]
  rw[e] at d1;simp[gP,gB,cB,h,hn,aI,d1,EU,G4,e]
 ·have e:xB b (ľ t b)=(ľ t b:Int):=by simp[xB,hn]
  rw[e] at d1;simp[gP,gB,cB,h,hn,aI,d1,EU,G4,e]
noncomputable def fq(p:Int×Int):D:= .tup [.int p.1,.int p.2]
def ix0(p:Int×Int):cC (fq p) (.int 0)= .ok (.int p.1):=rfl
def ix1(p:Int×Int):cC (fq p) (.int 1)= .ok (.int p.2):=rfl
structure Low(n:Nat)(p:Int×Int):Prop where
 pos:1<=p.2
 gcd:ľ p.1 p.2=1
 top:p.1.natAbs<2^n
 bot:p.2.natAbs<2^n
noncomputable abbrev acu:List Str:=["one","other"]
noncomputable abbrev FO:List Str:=["one","other"]
def pJ(n:Nat):Sg->Out:=(gj (bz 2 gP (ai (aH Ic (aH ie (aH cC (aj 0) (dC (.int 0))) (aH cC (aj 1) `Ì)) (aH ie (aH cC (aj 1) (dC (.int 0))) (aH cC (aj 0) `Ì))) (ai (aH ie (aH cC (aj 0) `Ì) (aH cC (aj 1) `Ì)) az))))
def pM(as:`Û):cR:=nu (pJ 0 (cB acu as))
noncomputable abbrev Gh:List Str:=["self","way","thrown","straight"]
noncomputable abbrev nG:List Str:=["self","way"]
def dh(n:Nat):Sg->Out:=(aU (iF 2 (iG (ai (aH Vz (aj 1) (tR "slant" (aj 0))) (ai (tR "share" (aj 0)) az))))
  (aU (iF 3 (iG (ai (aj 1) (ai (bz 2 pM (ai (dC (.gt [.int 1,.int 1])) (ai (tR "share" (aj 0)) az))) az))))
  (rV (mL (Yb A1 (ai (ze (vH (ai (aj 2) (ai (aj 3) az)))) az))))))
def bZ(as:`Û):cR:=nu (dh 0 (cB Gh as))
noncomputable abbrev BN:List Str:=["self","way"]
noncomputable abbrev kE:List Str:=["self","way"]
def eE(n:Nat):Sg->Out:=(rV (mL (vH (ai (iG (ai (aj 1) (ai (tR "share" (aj 0)) az))) az))))
def eT(as:`Û):cR:=nu (eE 0 (cB BN as))
noncomputable abbrev Gf:List Str:=["self","way"]
noncomputable abbrev nE:List Str:=["self","way"]
def gC(n:Nat):Sg->Out:=(rV (mL (vH az)))
def gQ(as:`Û):cR:=nu (gC 0 (cB Gf as))
def tY:List (String×(List Slot->cR)):=[("Empty",dG),("Mirror",bX),("Half",bZ),("Filter",eT),("Wall",gQ),("Fibre",dG)]
noncomputable abbrev Ui:List Str:=["place","way","there"]
noncomputable abbrev yz:List Str:=["place","way"]
def j5(n:Nat):Sg->Out:=(aU (iF 2 (bz 3 k9 (ai (aH cC (aj 0) (dC (.int 0))) (ai (aH cC (aj 0) `Ì) (ai (aj 1) az)))))
  (gj (iG (ai (aH cC (aj 2) (dC (.int 0))) (ai (aH cC (aj 2) `Ì) (ai (aj 1) az))))))
def dU(as:`Û):cR:=nu (j5 0 (cB Ui as))
noncomputable abbrev Ul:List Str:=["table","p","place","leads"]
noncomputable abbrev yF:List Str:=["table","p"]
def iY(n:Nat):Sg->Out:=(aU (qi (bz 2 cI (ai (aj 0) (ai (aj 1) az))))
  (aU (uM (rN (dT (bz 2 fT (ai (aj 0) (ai (aj 1) az))))) (rV (mL (vH az))) dW)
  (aU (iF 2 (lu (jl 2 jV (aj 0) (ai (aH cC (aj 1) (dC (.int 0))) (ai (aH cC (aj 1) `Ì) az)))))
  (aU (uM (dT (aH HD (aj 2) (dC .cU))) (iF 2 (iG (ai (aH cC (aj 1) (dC (.int 0))) (ai (aH cC (aj 1) `Ì) az)))) dW)
  (aU (iF 3 (lu (jl 1 tY (lu (jl 2 vd (aj 0) (ai (aH cC (aj 1) (dC (.int 0))) (ai (aH cC (aj 1) `Ì) az)))) (ai (aH cC (aj 1) (dC (.int 2))) az))))
  (rV (mL (Yb yt (ai (ze (gi false (gc (aj 3)) 2 [2] (jh 2 (aY (aD 0) (aY (aD 1) kj))) mV (iG (ai (bK 2 dU (ai (aj 2) (ai (aj 0) az))) (ai (aj 1) az))))) az)))))))))
def g9(as:`Û):cR:=nu (iY 0 (cB Ul as))
noncomputable abbrev Xs:List Str:=["_law_one_here","_law_other"]
noncomputable abbrev Bh:List Str:=["_law_one_here","_law_other"]
def mW(n:Nat):Sg->Out:=(gj (bz 2 i9 (ai (aH oV (aH ie (aH cC (aj 0) (dC (.int 0))) (aH cC (aj 1) `Ì)) (aH ie (aH cC (aj 1) (dC (.int 0))) (aH cC (aj 0) `Ì))) (ai (aH ie (aH cC (aj 0) `Ì) (aH cC (aj 1) `Ì)) az))))
def k7(as:`Û):cR:=nu (mW 0 (cB Xs as))
noncomputable abbrev Xu:List Str:=["_law_table_here","_law_p","_law_back","_law_cell","_law_end"]
noncomputable abbrev Bj:List Str:=["_law_table_here","_law_p"]
def mX(n:Nat):Sg->Out:=(aU (iF 2 (bz 1 b7 (ai (aj 1) az)))
  (aU (uM (cOr (rN (dT (fM Uz ltI (dC (.int 0)) (aH cC (aj 2) (dC (.int 0))) (lu (jl 0 oX (aj 0) az))))) (rN (dT (fM Uz ltI (dC (.int 0)) (aH cC (aj 2) `Ì) (lu (jl 0 mJ (aj 0) az)))))) (gj (dC .cU)) dW)
  (aU (iF 3 (lu (jl 2 vd (aj 0) (ai (aH cC (aj 2) (dC (.int 0))) (ai (aH cC (aj 2) `Ì) az)))))
  (aU (iF 4 (lu (jl 2 jV (aj 0) (ai (aH cC (aj 2) (dC (.int 0))) (ai (aH cC (aj 2) `Ì) az)))))
  (aU (uM (dT (DR mt ["Wall","Filter"] (aj 3))) (gj (dC (.bl false))) dW)
  (gj (dOr (aH HD (aj 4) (dC .cU)) (DR mt ["Fibre"] (lu (jl 2 vd (aj 0) (ai (aH cC (aj 4) (dC (.int 0))) (ai (aH cC (aj 4) `Ì) az))))))))))))
def mZ(as:`Û):cR:=nu (mX 0 (cB Xu as))
noncomputable abbrev aeq:List Str:=["_law_script","_law_table_here","_law_passes","_law_come","_law_p","_law_there","_law_share_here","_law_top","_law_bottom","_law_full_here"]
noncomputable abbrev W2:List Str:=["_law_script"]
def Ae(n:Nat):Sg->Out:=(aU (uM (dT (aH vo (iG (ai (bz 1 b7 (ai (aj 4) az)) (ai (aj 6) az))) (bz 2 g9 (ai (aj 1) (ai (bz 1 b7 (ai (aj 5) az)) az))))) (gj (dC (.bl false))) dW)
  (Ei 3 (om 3) (aj 5) (pX 2 k7 (ai (xR (ju 3) (aj 5) (iG (ai (dC (.int 0)) (ai `Ì az)))) (ai (aj 6) az)))))
def Ad(n:Nat):Sg->Out:=(iL (gc (bz 2 g9 (ai (aj 1) (ai (aj 4) az)))) (jh 2 (aY (aD 5) (aY (aD 6) kj))) (Ae n))
def Ac(n:Nat):Sg->Out:=(aU (Rv (xR (ju 3) (aj 4) (iG (ai (dC (.int 0)) (ai `Ì az)))) (jh 2 (aY (aD 7) (aY (aD 8) kj))))
  (aU (iF 9 (bz 2 mZ (ai (aj 1) (ai (aj 4) az))))
  (aU (uM (JL (dT (aH HD (aj 9) (dC .cU))) (dT (aH RN (aj 7) (dC (.int 0))))) (gj (dC (.bl false))) dW)
  (uM (JL (dT (aH ER (aj 9) (dC .cU))) (cOr (dT (aH RN (aj 9) (aH Vs (aj 7) (aj 8)))) (dT (aH gtI (aj 7) (aj 8))))) (gj (dC (.bl false))) dW))))
def CK(n:Nat):Sg->Out:=(aU (iF 1 (bz 1 g8 (ai (aj 0) az)))
  (aU (iF 2 (bz 1 dD (ai (aj 1) az)))
  (aU (uL 3 (λ _=> .ok (.k (.t []) [])))
  (aU (iL (gc (aj 2)) (aD 4) (Ad n))
  (aU (iL (gc (aj 2)) (aD 4) (Ac n))
  (gj (dC (.bl true))))))))
def uY(as:`Û):cR:=nu (CK 0 (cB aeq as))
def fm(x y:Int)(h:0<y):0<=x.fmod y/\x.fmod y<y:=⟨Int.fmod_nonneg_of_pos x h,Int.fmod_lt_of_pos x h⟩
def rq(r:Rat):D:=fq (Vo r)
structure Sh(r:Rat):Prop where
 t0:0<r.num
 tb:r.num<r.den
 s:r.den<128
def V7{s:Int}(h:s=1\/s=3):dN [.val (.int s)]= .ok .cU:=by rcases h with rfl|rfl<;>rfl
def af8(r:Rat):k6 [.val (.gt [.int 0,.int 1]),.val (rq r)]= .ok (.bl (decide (0<r.num))):=by simp[k6,mC,cB,rq,fq,Vo,cC,vJ,vA]
def af7(r:Rat):k6 [.val (rq r),.val (.gt [.int 1,.int 1])]= .ok (.bl (decide (r.num<r.den))):=by simp[k6,mC,cB,rq,fq,Vo,cC,vJ,vA]
def Ig{r:Rat}(h:Sh r):cH [.val (rq r)]= .ok .cU:=by simp[cH,cF,cB,af8,af7,h.t0,h.tb]
def Ie:1000000<Đ:=by unfold Đ;decide
def alm:¬(Ąo "share"=Ąo "slant"):=by decide
def Bu(r:Rat):nt (rq r)=true:=by simp[rq,fq]
def Xr(r:Rat):nb (rq r)=true:=by simp[rq,fq,nb,vp]
def Us{s:Int}(h:s=1\/s=3):ng "Mirror" ["slant"] (bY [.par (.o "Mirror" [] []),.val (.int s)])= .ok (.obj "Mirror" ["slant"] [.int s]):=by rcases h with rfl|rfl<;>rfl
def acB{s:Int}{r:Rat}(h:s=1\/s=3)(hs:Sh r):ng "Half" ["slant","share"] (bL [.par (.o "Half" [] []),.val (.int s),.val (rq r)])= .ok (.obj "Half" ["slant","share"] [.int s,rq r]):=by
 have e:bL [.par (.o "Half" [] []),.val (.int s),.val (rq r)]= .RH .cU [(0,.o "Half" ["slant","share"] [.int s,rq r])]:=by simp[bL,b9,cB,V7 h,Ig hs,om,xY,Bb,vC,ī,fK,alm,Bu]
 rw[e];simp[ng]
def Ut{r:Rat}(hs:Sh r):ng "Filter" ["share"] (br [.par (.o "Filter" [] []),.val (rq r)])= .ok (.obj "Filter" ["share"] [rq r]):=by
 have e:br [.par (.o "Filter" [] []),.val (rq r)]= .RH .cU [(0,.o "Filter" ["share"] [rq r])]:=by simp[br,bJ,cB,Ig hs,om,xY,Bb,vC,ī,fK,Bu]
 rw[e];simp[ng]
def acr{x:Str}(h:x="a"\/x="ab"):dB [.val (.str x)]= .ok .cU:=by
 have hl:x.length<=Đ:=ģ (show x.length<=2 by rcases h with rfl|rfl<;>decide) (ũ (āl `Â Ie));have ia:Sj ⟨#[97]⟩ "abcdefghijklmnopqrstuvwxyz"=true:=by decide+kernel
 have ib:Sj ⟨#[98]⟩ "abcdefghijklmnopqrstuvwxyz"=true:=by decide+kernel
 have l1:(("a":Str).length:Int)=1:=by decide
 have l2:(("ab":Str).length:Int)=2:=by decide
 have s1:signs "a"=[.str ⟨#[97]⟩]:=rfl;have s2:signs "ab"=[.str ⟨#[97]⟩,.str ⟨#[98]⟩]:=rfl;rcases h with rfl|rfl
 ·simp[dB,dg,cB,ig,hl,l1,abI,s1,uW,jY,E1,inA,ia,Zw,bools]
 ·simp[dB,dg,cB,ig,hl,l2,abI,s2,uW,jY,E1,inA,ia,ib,Zw,bools]
def XE{x:Str}(h:x="a"\/x="ab"):ng "Fibre" ["name"] (aS [.par (.o "Fibre" [] []),.val (.str x)])= .ok (.obj "Fibre" ["name"] [.str x]):=by
 have e:aS [.par (.o "Fibre" [] []),.val (.str x)]= .RH .cU [(0,.o "Fibre" ["name"] [.str x])]:=by simp[aS,bB,cB,acr h,om,xY,Bb,vC,ī,fK]
 rw[e];simp[ng]
inductive Sp where
 |e|w|m (s:Int)|h (s:Int) (r:Rat)|f (r:Rat)|b (n:Str)
def oD:Sp->D
 | .e=> .obj "Empty" [] []
 | .w=> .obj "Wall" [] []
 | .m s=> .obj "Mirror" ["slant"] [.int s]
 | .h s r=> .obj "Half" ["slant","share"] [.int s,rq r]
 | .f r=> .obj "Filter" ["share"] [rq r]
 | .b n=> .obj "Fibre" ["name"] [.str n]
def Sp.ok:Sp->Prop
 | .b n=>n="a"\/n="ab"
 | .m s=>s=1\/s=3
 | .h s r=>(s=1\/s=3)/\Sh r
 | .f r=>Sh r
 |_=>True
def aen(c:Sp):nt (oD c)=true:=by cases c<;>simp[oD,nt,ly,Bu]
def alr(c:Sp):nb (oD c)=true:=by cases c<;>simp[oD,nb,vp,Xr]
noncomputable def xZ:Sp->Option Str
 | .b n=>some n
 |_=>none
def Se(c:Sp):zX mt ["Fibre"] (oD c)= .ok (.bl (xZ c).isSome):=by cases c<;>simp[zX,kinds,mt,oD,xZ,ī]
noncomputable abbrev Pt:=Int×Int
abbrev PL:=List (Str×List Pt)
noncomputable def pD(p:Pt):D:= .tup [.int p.1,.int p.2]
noncomputable def fO:PL->Str->Pt->PL
 |[],n,p=>[(n,[p])]
 |e::r,n,p=>if e.1=n then (e.1,e.2++[p])::r else e::fO r n p
noncomputable def qK(pl:PL):List gO:=pl.map λ e=>Sum.inr e.1
noncomputable def qL(pl:PL):List M:=pl.map λ e=>M.l (e.2.map pD)
noncomputable def qM(pl:PL):M:= .q (.s (qK pl)) (qL pl)
def Lg(pl:PL):(qK pl).length=pl.length:=by simp[qK]
def ahp(pl:PL):(qL pl).length=pl.length:=by simp[qL]
theorem Yn(n:Str)(p:Pt):∀pl:PL,(∃(j:Nat) (e:Str×List Pt),e∈pl/\Vq (qK pl) (.inr n)=some j/\(qL pl)[j]? =some (.l (e.2.map pD))/\qK (fO pl n p)=qK pl/\qL (fO pl n p)=(qL pl).set j (.l (e.2.map pD++[pD p])))\/(Vq (qK pl) (.inr n)=none/\qK (fO pl n p)=qK pl++[.inr n]/\qL (fO pl n p)=qL pl++[.l [pD p]])
 |[]=> .inr ⟨rfl,rfl,rfl⟩
 |e::pl=>by
  by_cases q:e.1=n
  ·refine .inl ⟨0,e,.head _,?_,rfl,?_,?_⟩
   ·simp[Vq,qK,Āw,q]
   ·simp[fO,q,qK]
   ·simp[fO,q,qL]
  ·have q':¬((Sum.inr e.1:gO)= .inr n):=λ z=>q (Sum.inr.inj z);have hx:Vq (qK (e::pl)) (.inr n)=(Vq (qK pl) (.inr n)).map (· +1):=by show List.findIdx? _ (Sum.inr e.1::qK pl)=_;rw[Āw];simp only[q',decide_false];rfl
   have ha:fO (e::pl) n p=e::fO pl n p:=by simp[fO,q]
   rw[hx,ha];rcases Yn n p pl with ⟨j,e',h0,h1,h2,h3,h4⟩|⟨h1,h2,h3⟩
   ·refine .inl ⟨j+1,e',.tail _ h0,by rw[h1];rfl,by simpa[qL] using h2,?_,?_⟩
    ·show Sum.inr e.1::qK (fO pl n p)=Sum.inr e.1::qK pl;rw[h3]
    ·show M.l (e.2.map pD)::qL (fO pl n p)=(M.l (e.2.map pD)::qL pl).set (j+1) _;rw[h4,Ų]
   ·refine .inr ⟨by rw[h1];rfl,?_,?_⟩
    ·show Sum.inr e.1::qK (fO pl n p)=Sum.inr e.1::qK pl++[.inr n];rw[h2];rfl
    ·show M.l (e.2.map pD)::qL (fO pl n p)=M.l (e.2.map pD)::qL pl++[.l [pD p]];rw[h3];rfl
structure Sm(pl:PL)(k:Nat):Prop where
 l:pl.length<=k
 e:∀e∈pl,e.2.length<=k
theorem Gr{n:Str}{p:Pt}:∀{pl:PL} {e:Str×List Pt},e∈fO pl n p->e∈pl\/e=(n,[p])\/∃f∈pl,f.1=n/\e=(n,f.2++[p])
 |[],e,h=>by simp[fO] at h;exact .inr (.inl h)
 |f::pl,e,h=>by
  unfold fO at h;split at h
  ·rename_i q;rcases Ć.mp h with rfl|h
   ·exact .inr (.inr ⟨f,.head _,q,by rw[q]⟩)
   ·exact .inl (.tail _ h)
  ·rcases Ć.mp h with rfl|h
   ·exact .inl (.head _)
   ·rcases Gr h with h|h|⟨g,h1,h2⟩
    ·exact .inl (.tail _ h)
    ·exact .inr (.inl h)
    ·exact .inr (.inr ⟨g,.tail _ h1,h2⟩)
theorem RZ(n:Str)(p:Pt):∀pl:PL,(fO pl n p).length<=pl.length+1
 |[]=>by simp[fO]
 |e::pl=>by have:=RZ n p pl;unfold fO;split<;>simp only[Ė]<;>omega
def Sm.add{pl:PL}{k:Nat}(h:Sm pl k)(n:Str)(p:Pt):Sm (fO pl n p) (k+1):=by
 refine ⟨ģ (RZ n p pl) (by have:=h.l;omega),λ e he=>?_⟩;rcases Gr he with z|rfl|⟨f,hf,_,rfl⟩
 ·have:=h.e e z;omega
 ·simp
 ·have:=h.e f hf;simp;omega
def Wb{pl:PL}{k:Nat}(h:Sm pl k)(hk:k<1000)(s0 s3:Slot)(n:Str)(x y:Int):
  wc 1 (tR "name" (aj 5)) (iG (ai (aj 4) (ai (aj 2) az))) [s0,.own (qM pl),.val (.int y),s3,.val (.int x),.val (oD (.b n))]= .nx [s0,.own (qM (fO pl n (x,y))),.val (.int y),s3,.val (.int x),.val (oD (.b n))]:=by
 have l1:(qK pl).length<1000000:=by rw[Lg];have:=h.l;omega
 have l2:(qK pl).length=(qL pl).length:=by rw[Lg,ahp]
 have fn:rB "name" (oD (.b n))= .ok (.str n):=rfl;have kn:Ln (.str n)=some (.inr n):=rfl;have np:nt (pD (x,y))=true:=by simp[pD]
 have ed:D.tup [.int x,.int y]=pD (x,y):=rfl;unfold wc qM;rcases Yn n (x,y) pl with ⟨j,e',h0,h1,h2,h3,h4⟩|⟨h1,h2,h3⟩
 ·have le:=h.e e' h0;rw[h3,h4];generalize qK pl=K at*;generalize qL pl=L at*;have dm:xQ K L (.inr n)= .q (.s K) L:=by unfold xQ;rw[h1]
  have di:CC K (.inr n)=j:=by unfold CC;rw[h1];rfl
  have lm:(e'.2.map pD).length<1000000:=by simp;omega
  simp[fn,kn,l1,l2,dm,di,zy,HE,h2,UN,xY,nD,Vi,np,ed,V8,Wh];have:e'.2.length<1000000:=by omega
  simp[this];omega
 ·rw[h2,h3];generalize qK pl=K at*;generalize qL pl=L at*;have dm:xQ K L (.inr n)= .q (.s (K++[.inr n])) (L++[.l []]):=by unfold xQ;rw[h1]
  have di:CC K (.inr n)=L.length:=by unfold CC;rw[h1, <-l2];rfl
  have g0:(L++[M.l []])[L.length]? =some (.l []):=by simp
  have st:(L++[M.l []]).set L.length (.l [pD (x,y)])=L++[.l [pD (x,y)]]:=by simp[Ąs]
  simp[fn,kn,l1,l2,dm,di,zy,HE,UN,xY,nD,Vi,np,ed,V8,Wh];omega
abbrev EV:=List (Str×Pt)
noncomputable def zG(y:Int):Nat->List Sp->EV
 |_,[]=>[]
 |k,c::r=>match xZ c with
  |some n=>(n,((k:Int),y))::zG y (k+1) r
  |none=>zG y (k+1) r
noncomputable def Aw:Nat->List (List Sp)->EV
 |_,[]=>[]
 |k,r::l=>zG k 0 r++Aw (k+1) l
noncomputable def jP:PL->EV->PL
 |pl,[]=>pl
 |pl,e::ev=>jP (fO pl e.1 e.2) ev
theorem JO:∀(a b:EV) (pl:PL),jP pl (a++b)=jP (jP pl a) b
 |[],b,pl=>rfl
 |e::a,b,pl=>by simp only[Ş,jP];exact JO a b _
theorem Sm.jP:∀{ev:EV} {pl:PL} {k:Nat},Sm pl k->Sm (jP pl ev) (k+ev.length)
 |[],pl,k,h=>h
 |e::ev,pl,k,h=>by have:=Sm.jP (ev:=ev) (h.add e.1 e.2);rw[Ė,show k+(ev.length+1)=k+1+ev.length by omega];exact this
theorem G9(y:Int):∀(r:List Sp) (k:Nat),(zG y k r).length<=r.length
 |[],k=>Ĉ _
 |c::r,k=>by have:=G9 y r (k+1);unfold zG;cases xZ c<;>simp only[Ė]<;>omega
theorem y9(y:Int)(s0 s3:Slot):∀(r:List Sp) (k:Nat) (pl:PL) (m:Nat) (s4 s5:Slot),Sm pl m->m+r.length<1000->∃t4 t5,gf (jh 2 (aY (aD 4) (aY (aD 5) kj))) (dO 0) (oK k (r.map oD)) [s0,.own (qM pl),.val (.int y),s3,s4,s5]= .nx [s0,.own (qM (jP pl (zG y k r))),.val (.int y),s3,t4,t5]
 |[],_,pl,m,s4,s5,_,_=>⟨s4,s5,rfl⟩
 |c::r,k,pl,m,s4,s5,h,hm=>by
  rw[Ė] at hm;have ii:=Se c;cases q:xZ c with
  |none=>
   obtain ⟨t4,t5,e⟩:=y9 y s0 s3 r (k+1) pl m (.val (.int k)) (.val (oD c)) h `À;refine ⟨t4,t5,?_⟩;have ev:zG y k (c::r)=zG y (k+1) r:=by simp only[zG,q]
   rw[q] at ii;rw[ev, <-e];have st:dO 0 [s0,.own (qM pl),.val (.int y),s3,.val (.int k),.val (oD c)]= .nx [s0,.own (qM pl),.val (.int y),s3,.val (.int k),.val (oD c)]:=by simp only[dO];simp[ii]
   simp only[ą,oK,gf];simp[st]
  |some n=>
   have ec:c= .b n:=by cases c<;>simp[xZ] at q;rw[q]
   subst ec;obtain ⟨t4,t5,e⟩:=y9 y s0 s3 r (k+1) (fO pl n (k,y)) (m+1) (.val (.int k)) (.val (oD (.b n))) (h.add _ _) `À;refine ⟨t4,t5,?_⟩;have ev:zG y k (.b n::r)=(n,((k:Int),y))::zG y (k+1) r:=by simp only[zG,xZ]
   rw[ev,jP, <-e];have st:dO 0 [s0,.own (qM pl),.val (.int y),s3,.val (.int k),.val (oD (.b n))]= .nx [s0,.own (qM (fO pl n (k,y))),.val (.int y),s3,.val (.int k),.val (oD (.b n))]:=by have sa:=Wb h `À s0 s3 n k y;rw[q] at ii;simp only[dO];generalize oD (.b n)=d at*;simp[ii,sa]
   simp only[ą,oK,gf];simp[st]
def gr(rows:`Í):List D:=rows.map λ r=>D.tup (r.map oD)
theorem EW(s0:Slot):∀(l:`Í) (k:Nat) (pl:PL) (m:Nat) (s2 s3 s4 s5:Slot),Sm pl m->m+16*l.length<1000->(∀r∈l,r.length<=16)->∃t2 t3 t4 t5,gf (jh 2 (aY (aD 2) (aY (aD 3) kj))) (iT 0) (oK k (gr l)) [s0,.own (qM pl),s2,s3,s4,s5]= .nx [s0,.own (qM (jP pl (Aw k l))),t2,t3,t4,t5]
 |[],_,pl,m,s2,s3,s4,s5,_,_,_=>⟨s2,s3,s4,s5,rfl⟩
 |r::l,k,pl,m,s2,s3,s4,s5,h,hm,hr=>by
  rw[Ė] at hm;have lr:=hr r (.head _);have le:=G9 k r 0;obtain ⟨u4,u5,e1⟩:=y9 k s0 (.val (.tup (r.map oD))) r 0 pl m s4 s5 h `À;have h2:Sm (jP pl (zG k 0 r)) (m+16):=by have q:=h.jP (ev:=zG k 0 r);exact ⟨ģ q.l `À,λ e he=>ģ (q.e e he) `À⟩
  obtain ⟨t2,t3,t4,t5,e⟩:=EW s0 l (k+1) (jP pl (zG k 0 r)) (m+16) (.val (.int k)) (.val (.tup (r.map oD))) u4 u5 h2 `À λ x hx=>hr x (.tail _ hx);refine ⟨t2,t3,t4,t5,?_⟩;rw[Aw,JO, <-e];have st:iT 0 [s0,.own (qM pl),.val (.int k),.val (.tup (r.map oD)),s4,s5]= .nx [s0,.own (qM (jP pl (zG k 0 r))),.val (.int k),.val (.tup (r.map oD)),u4,u5]:=by simp only[iT,iL,Jq];simp[Sw,e1]
  simp only[gr,ą,oK,gf];simp[st]
theorem Xj:∀l:List Pt,ly (l.map pD)=true
 |[]=>rfl
 |p::l=>by simp[ly,pD,Xj l]
theorem RL:∀pl:PL,F3 (qL pl)=true
 |[]=>rfl
 |e::pl=>by show (yI (.l (e.2.map pD))&&F3 (qL pl))=true;rw[RL pl];simp[yI,Xj]
def Wz{rows:`Í}(hl:rows.length<=16)(hr:∀r∈rows,r.length<=16):cP [.val (.tup (gr rows))]= .new (qM (jP [] (Aw 0 rows))):=by obtain ⟨t2,t3,t4,t5,e⟩:=EW (.val (.tup (gr rows))) rows 0 [] 0 .no .no .no .no ⟨Ĉ _,λ _ z=>nomatch z⟩ `À hr;have n0:=RL (jP [] (Aw 0 rows));have q0:qM []= .q (.s []) []:=rfl;rw[q0] at e;simp only[cP,cM,cB];simp[iL,Jq,Sw,XJ,e,yI,F3,A7,qM,n0]
noncomputable def itD(pl:PL):List D:=pl.map λ e=>D.tup [.str e.1,.lst (e.2.map pD)]
theorem aey:∀pl:PL,uD (qL pl)=pl.map λ e=>D.lst (e.2.map pD)
 |[]=>rfl
 |e::pl=>by show Jz (.l (e.2.map pD))::uD (qL pl)=_;rw[aey pl];rfl
theorem YU:∀pl:PL,xA (qL pl)=true
 |[]=>rfl
 |e::pl=>by show (z7 (.l (e.2.map pD))&&xA (qL pl))=true;rw[YU pl];rfl
theorem Vv:∀pl:PL,((qK pl).zip (pl.map λ e=>D.lst (e.2.map pD))).map (λ p=>D.tup [kD p.1,p.2])=itD pl
 |[]=>rfl
 |e::pl=>by show D.tup [.str e.1,.lst (e.2.map pD)]::((qK pl).zip (pl.map λ e=>D.lst (e.2.map pD))).map (λ p=>D.tup [kD p.1,p.2])=_;rw[Vv pl];rfl
def acY(pl:PL):GR (.r6 (.s (qK pl)) (uD (qL pl)))= .ok (itD pl):=by simp only[GR];rw[aey,if_pos (by rw[Lg,ė]),Vv]
def Xm(p:Pt):nt (pD p)=true/\nb (pD p)=true:=by simp[pD,nb,vp]
abbrev KX:=List (List gO)×List D
noncomputable def kk(p:Pt):List gO:=[.inl p.1,.inl p.2]
def aht{p q:Pt}:kk p=kk q ↔ p=q:=by simp only[kk,Ŗ,Sum.inl.injEq,and_true];exact ⟨λ h=>ąq h.1 h.2,λ h=>by rw[h];exact ⟨rfl,rfl⟩⟩
structure Dm(ks:List (List gO))(xs:List D)(A:Pt->Option Pt):Prop where
 len:ks.length=xs.length
 get:∀p,nK ks xs (kk p)=(A p).map pD
 ok:∀d∈xs,∃p,d=pD p
theorem Bt:∀{xs:List D},(∀d∈xs,∃p,d=pD p)->ly xs=true/\vp xs=true
 |[],_=>⟨rfl,rfl⟩
 |d::xs,h=>by obtain ⟨p,rfl⟩:=h d (.head _);have:=Bt λ d hd=>h d (.tail _ hd);simp[ly,vp,Xm,this]
noncomputable def upA(A:Pt->Option Pt)(p q:Pt):Pt->Option Pt:=λ r=>if r=p then some q else A r
def qx(n k:List gO)(d:D)(ks:List (List gO))(xs:List D):nK (n::ks) (d::xs) k=if n=k then some d else nK ks xs k:=by unfold nK;by_cases h:n=k<;>simp[Ćc,h]
theorem Ju(k k':List gO)(d:D):∀(ks:List (List gO)) (xs:List D),ks.length=xs.length->(ks.any λ n=>decide (n=k))=false->nK (ks++[k]) (xs++[d]) k'=if k=k' then some d else nK ks xs k'
 |[],[],_,_=>by rw[Ŧ,Ŧ,qx]
 |n::ks,x::xs,h,ha=>by
  simp only[ŏ,Bool.or_eq_false_iff,decide_eq_false_iff_not] at ha;rw[Ş,Ş,qx,qx,Ju k k' d ks xs (by simpa using h) ha.2];by_cases q:n=k'
  ·have:¬k=k':=λ z=>ha.1 (q.trans z.symm);simp[q,this]
  ·simp[q]
 |[],_::_,h,_=>by simp at h
 |_::_,[],h,_=>by simp at h
theorem Jt(k k':List gO)(d:D):∀(ks:List (List gO)) (xs:List D),ks.length=xs.length->nK ks ((ks.zip xs).map λ kv=>if kv.1=k then d else kv.2) k'=if k=k'/\(ks.any λ n=>decide (n=k))=true then some d else nK ks xs k'
 |[],[],_=>by simp[nK]
 |n::ks,x::xs,h=>by
  rw[ĥ,ą,qx,qx,Jt k k' d ks xs (by simpa using h)];by_cases q:n=k'
  ·subst q;by_cases q2:n=k
   ·subst q2;simp
   ·have:¬k=n:=λ z=>q2 z.symm;simp[q2,this]
  ·by_cases q2:k=k'
   ·subst q2;simp only[q,if_false,ŏ,decide_false,ăv]
   ·simp[q,q2]
 |[],_::_,h=>by simp at h
 |_::_,[],h=>by simp at h
def Dm.put{ks:List (List gO)}{xs:List D}{A:Pt->Option Pt}(h:Dm ks xs A)(hl:ks.length<100000)(p q:Pt):∃ks' xs',uN (kk p) (pD q) (.k (.t ks) xs)=some (.k (.t ks') xs')/\ks'.length<=ks.length+1/\Dm ks' xs' (upA A p q):=by
 refine ⟨vU ks (kk p),A3 ks xs (kk p) (pD q),?_,?_,?_⟩
 ·simp only[uN];rw[if_pos ⟨(Xm q).1,by omega⟩]
 ·unfold vU;split<;>simp
 ·have e:∀r,(upA A p q r).map pD=if kk p=kk r then some (pD q) else (A r).map pD:=λ r=>by
   unfold upA;by_cases z:r=p
   ·subst z;simp
   ·have:¬kk p=kk r:=λ w=>z (aht.mp w).symm;simp[z,this]
  unfold vU A3;by_cases a:(ks.any λ n=>decide (n=kk p))=true
  ·rw[if_pos a,if_pos a];refine ⟨by simp[h.len],λ r=>?_,λ d hd=>?_⟩
   ·rw[Jt _ _ _ _ _ h.len,e,h.get];simp[a]
   ·obtain ⟨kv,hkv,rfl⟩:=Į.mp hd;by_cases z:kv.1=kk p
    ·exact ⟨q,by simp[z]⟩
    ·obtain ⟨s,es⟩:=h.ok kv.2 (Ău hkv).2;exact ⟨s,by simp[z,es]⟩
  ·rw[if_neg a,if_neg a];refine ⟨by simp[h.len],λ r=>?_,λ d hd=>?_⟩
   ·rw[Ju _ _ _ _ _ h.len (Bool.eq_false_iff.mpr a),e,h.get]
   ·rcases İ.mp hd with hd|hd
    ·exact h.ok d hd
    ·exact ⟨q,by simpa using hd⟩
def R4(p:Pt):Jf (pD p)=some (kk p):=rfl
noncomputable def AF:PL->(Pt->Option Pt)->Pt->Option Pt
 |[],A=>A
 |(_,[p,q])::pl,A=>AF pl (upA (upA A p q) q p)
 |_::pl,A=>AF pl A
def p6(pl:PL):Prop:=∀e∈pl,∃p q,e.2=[p,q]
theorem E0(s0:Slot):∀(pl:PL) (ks:List (List gO)) (xs:List D) (A:Pt->Option Pt) (s2 s3:Slot),ks.length+2*pl.length<90000->Dm ks xs A->p6 pl->∃ks' xs' t2 t3,gf (jh 2 (aY (aD 2) (aY (aD 3) kj))) (kg 0) (itD pl) [s0,.own (.k (.t ks) xs),s2,s3]= .nx [s0,.own (.k (.t ks') xs'),t2,t3]/\Dm ks' xs' (AF pl A)
 |[],ks,xs,A,s2,s3,_,hx,_=>⟨ks,xs,s2,s3,rfl,hx⟩
 |(n,l)::pl,ks,xs,A,s2,s3,hl,hx,h2=>by
  rw[Ė] at hl;obtain ⟨p,q,rfl⟩:∃p q,l=[p,q]:=h2 _ (.head _);obtain ⟨k1,x1,e1,g1,f1⟩:=hx.put `À p q;obtain ⟨k2,x2,e2,g2,f2⟩:=f1.put `À q p;obtain ⟨ks',xs',t2,t3,ih,f⟩:=E0 s0 pl k2 x2 _ (.val (.str n)) (.val (.lst ([p,q].map pD))) `À f2 λ e he=>h2 e (.tail _ he);refine ⟨ks',xs',t2,t3,?_,f⟩;have ln:ig [.lst ([p,q].map pD)]= .ok (.int 2):=by simp[ig,vV]
  have st:kg 0 [s0,.own (.k (.t ks) xs),.val (.str n),.val (.lst ([p,q].map pD))]= .nx [s0,.own (.k (.t k2) x2),.val (.str n),.val (.lst ([p,q].map pD))]:=by
   have i0:cC (.lst ([p,q].map pD)) (.int 0)= .ok (pD p):=by simp[cC,vJ,vA]
   have i1:cC (.lst ([p,q].map pD)) (.int 1)= .ok (pD q):=by simp[cC,vJ,vA]
   have kp:=R4 p;have kq:=R4 q;simp only[kg];generalize D.lst ([p,q].map pD)=d at*;generalize pD p=dp at*;generalize pD q=dq at*;simp[ln,Ei,om,V8,i0,i1,kp,kq,xY,HE,nD,e1,e2,Wh]
  rw[<-ih,show itD ((n,[p,q])::pl)=D.tup [.str n,.lst ([p,q].map pD)]::itD pl from rfl];simp only[gf];generalize D.lst ([p,q].map pD)=d at*;simp[st]
noncomputable def places(pl:PL):List Pt:=pl.flatMap (·.2)
theorem HB:∀{pl:PL} {A:Pt->Option Pt} {r:Pt},p6 pl->r∉places pl->AF pl A r=A r
 |[],A,r,_,_=>rfl
 |(n,l)::pl,A,r,h2,h=>by obtain ⟨p,q,rfl⟩:∃p q,l=[p,q]:=h2 _ (.head _);simp only[places,ň,İ,Ć,ķ,or_false,not_or] at h;rw[AF,HB (λ e he=>h2 e (.tail _ he)) h.2];simp[upA,h.1.1,h.1.2]
theorem afz:∀{pl:PL} {A:Pt->Option Pt} {n:Str} {p q:Pt},p6 pl->(places pl).Nodup->(n,[p,q])∈pl->AF pl A p=some q/\AF pl A q=some p
 |(m,l)::pl,A,n,p,q,h2,nd,h=>by
  have t2:p6 pl:=λ e he=>h2 e (.tail _ he);obtain ⟨u,v,rfl⟩:∃p q,l=[p,q]:=h2 _ (.head _);simp only[places,ň] at nd;obtain ⟨n1,n2,n3⟩:=Āf.mp nd;rw[AF];rcases Ć.mp h with e|h
  ·cases e;have d1:p∉places pl:=λ z=>n3 p `Ó p z rfl;have d2:q∉places pl:=λ z=>n3 q `Ó q z rfl;have pq:¬p=q:=λ z=>by simp[z] at n1
   rw[HB t2 d1,HB t2 d2];simp[upA,pq]
  ·exact afz t2 n2 h
def has(pl:PL)(n:Str)(p:Pt):Prop:=∃l,(n,l)∈pl/\p∈l
theorem has_add{n m:Str}{p q:Pt}:∀{pl:PL},has (fO pl n p) m q ↔ has pl m q\/(m=n/\q=p)
 |[]=>by
  constructor
  ·rintro ⟨l,h,hq⟩
   simp[fO] at h;obtain ⟨rfl,rfl⟩:=h;exact .inr ⟨rfl,by simpa using hq⟩
  ·rintro (⟨l,h,_⟩|⟨rfl,rfl⟩)
   ·cases h
   ·exact ⟨[q],by simp[fO],by simp⟩
 |(k,l)::pl=>by
  by_cases z:k=n
  ·subst z;have e:fO ((k,l)::pl) k p=(k,l++[p])::pl:=by simp[fO]
   rw[e];constructor
   ·rintro ⟨l',h,hq⟩
    rcases Ć.mp h with h|h
    ·cases h;rcases İ.mp hq with hq|hq
     ·exact .inl ⟨l,.head _,hq⟩
     ·exact .inr ⟨rfl,by simpa using hq⟩
    ·exact .inl ⟨l',.tail _ h,hq⟩
   ·rintro (⟨l',h,hq⟩|⟨rfl,rfl⟩)
    ·rcases Ć.mp h with h|h
     ·cases h;exact ⟨_,.head _,Ăq _ hq⟩
     ·exact ⟨l',.tail _ h,hq⟩
    ·exact ⟨_,.head _,by simp⟩
  ·have e:fO ((k,l)::pl) n p=(k,l)::fO pl n p:=by simp[fO,z]
   rw[e];have ih:=has_add (n:=n) (m:=m) (p:=p) (q:=q) (pl:=pl);constructor
   ·rintro ⟨l',h,hq⟩
    rcases Ć.mp h with h|h
    ·cases h;exact .inl ⟨l,.head _,hq⟩
    ·rcases ih.mp ⟨l',h,hq⟩ with ⟨l2,h2,h3⟩|h2
     ·exact .inl ⟨l2,.tail _ h2,h3⟩
     ·exact .inr h2
   ·rintro (⟨l',h,hq⟩|h2)
    ·rcases Ć.mp h with h|h
     ·cases h;exact ⟨l,.head _,hq⟩
     ·obtain ⟨l2,h2,h3⟩:=ih.mpr (.inl ⟨l',h,hq⟩);exact ⟨l2,.tail _ h2,h3⟩
    ·obtain ⟨l2,h2,h3⟩:=ih.mpr (.inr h2);exact ⟨l2,.tail _ h2,h3⟩
theorem Jr{m:Str}{q:Pt}:∀{ev:EV} {pl:PL},has (jP pl ev) m q ↔ has pl m q\/(m,q)∈ev
 |[],pl=>by simp[jP]
 |e::ev,pl=>by
  rw[jP,Jr (ev:=ev),has_add,Ć];constructor
  ·rintro ((h|⟨h1,h2⟩)|h)
   ·exact .inl h
   ·exact .inr (.inl (ąq h1 h2))
   ·exact .inr (.inr h)
  ·rintro (h|h|h)
   ·exact .inl (.inl h)
   ·subst h;exact .inl (.inr ⟨rfl,rfl⟩)
   ·exact .inr h
theorem Bc(n:Str)(p:Pt):∀pl:PL,(places (fO pl n p)).Perm (p::places pl)
 |[]=>by simp[fO,places]
 |(k,l)::pl=>by
  unfold fO;split
  ·simp only[places,ň,Ċ];exact (Ăp (l₁:=l) (l₂:=pl.flatMap (·.2)))
  ·simp only[places,ň];exact ((Bc n p pl).append_left l).trans Ăp
theorem zw:∀(ev:EV) (pl:PL),(places (jP pl ev)).Perm (ev.map (·.2)++places pl)
 |[],pl=> .refl _
 |e::ev,pl=>by refine (zw ev _).trans (((Bc e.1 e.2 pl).append_left _).trans ?_);exact Ăp
structure Rw(rows:`Í)(w h:Nat):Prop where
 len:rows.length=h
 row:∀r∈rows,r.length=w
 cell:∀r∈rows,∀c∈r,c.ok
 w1:1<=w/\w<=16
 h1:1<=h/\h<=16
noncomputable def ce(rows:`Í)(x y:Int):Sp:=(rows.getD y.toNat []).getD x.toNat .e
theorem Gp{y:Int}{n:Str}{p:Pt}:∀{r:List Sp} {k:Nat},(n,p)∈zG y k r ↔ p.2=y/\∃i:Nat,i<r.length/\p.1=((k+i:Nat):Int)/\r.getD i .e= .b n
 |[],k=>by simp[zG]
 |c::r,k=>by
  have ih:=Gp (y:=y) (n:=n) (p:=p) (r:=r) (k:=k+1);have go:(p.2=y/\∃i:Nat,i<(c::r).length/\p.1=((k+i:Nat):Int)/\(c::r).getD i .e= .b n)↔(p=((k:Int),y)/\c= .b n)\/(p.2=y/\∃i:Nat,i<r.length/\p.1=((k+1+i:Nat):Int)/\r.getD i .e= .b n):=by
   constructor
   ·rintro ⟨h1,i,h2,h3,h4⟩
    cases i with
    |zero=>exact .inl ⟨ąq (by simpa using h3) h1,by simpa using h4⟩
    |succ i=>exact .inr ⟨h1,i,by simpa using h2,by rw[h3];congr 1;omega,by simpa using h4⟩
   ·rintro (⟨rfl,rfl⟩|⟨h1,i,h2,h3,h4⟩)
    ·exact ⟨rfl,0,by simp,by simp,rfl⟩
    ·exact ⟨h1,i+1,by simpa using h2,by rw[h3];congr 1;omega,by simpa using h4⟩
  have e0:zG y k (c::r)=(match xZ c with
   |some n=>(n,((k:Int),y))::zG y (k+1) r
   |none=>zG y (k+1) r):=rfl
  rw[go, <-ih,e0];cases q:xZ c with
  |none=>
   have:c≠.b n:=λ z=>by subst z;cases q
   simp[this]
  |some m=>
   have ec:c= .b m:=by cases c<;>simp[xZ] at q;rw[q]
   subst ec;simp only[Ć,ŭ,Sp.b.injEq];constructor
   ·rintro (⟨h1,h2⟩|h)
    ·exact .inl ⟨h2,h1.symm⟩
    ·exact .inr h
   ·rintro (⟨h1,h2⟩|h)
    ·exact .inl ⟨h2.symm,h1⟩
    ·exact .inr h
theorem RT{n:Str}{p:Pt}:∀{l:`Í} {k:Nat},(n,p)∈Aw k l ↔ ∃j:Nat,j<l.length/\(n,p)∈zG ((k+j:Nat):Int) 0 (l.getD j [])
 |[],k=>by simp[Aw]
 |r::l,k=>by
  rw[Aw,İ,RT (l:=l)];constructor
  ·rintro (h|⟨j,h1,h2⟩)
   ·exact ⟨0,by simp,by simpa using h⟩
   ·exact ⟨j+1,by simpa using h1,by rw[show k+(j+1)=k+1+j by omega];simpa using h2⟩
  ·rintro ⟨j,h1,h2⟩
   cases j with
   |zero=>exact .inl (by simpa using h2)
   |succ j=>exact .inr ⟨j,by simpa using h1,by rw[show k+1+j=k+(j+1) by omega];simpa using h2⟩
noncomputable def pC(w h x y:Int):Bool:=decide (0<=x)&&decide (x<w)&&(decide (0<=y)&&decide (y<h))
def jJ{w h x y:Int}:pC w h x y=true ↔(0<=x/\x<w)/\0<=y/\y<h:=by simp[pC]
def ahj{rows:`Í}{w h:Nat}(R:Rw rows w h){n:Str}{x y:Int}:(n,(x,y))∈Aw 0 rows ↔ pC w h x y=true/\ce rows x y= .b n:=by
 rw[RT,jJ];have rl:∀j,j<rows.length->(rows.getD j []).length=w:=λ j hj=>by
  have:rows.getD j []=rows[j]:=by simp[List.getD,hj]
  rw[this];exact R.row _ (ġ hj)
 constructor
 ·rintro ⟨j,h1,h2⟩
  obtain ⟨e1,i,h3,e2,e3⟩:=Gp.mp h2;simp only at e1 e2;have hw:=rl j h1;have hh:=R.len;refine ⟨by omega,?_⟩;unfold ce;rw[show y.toNat=j by omega,show x.toNat=i by omega];exact e3
 ·rintro ⟨hb,e⟩
  have hh:=R.len;have hw:=rl y.toNat `À;refine ⟨y.toNat,by omega,Gp.mpr ⟨by show y=_;omega,x.toNat,by omega,by show x=_;omega,e⟩⟩
theorem Xp(y:Int):∀(r:List Sp) (k:Nat),((zG y k r).map (·.2)).Nodup/\∀p∈(zG y k r).map (·.2),(k:Int)<=p.1/\p.2=y
 |[],k=>by simp[zG]
 |c::r,k=>by
  obtain ⟨h1,h2⟩:=Xp y r (k+1);unfold zG;cases xZ c with
  |none=>exact ⟨h1,λ p hp=>⟨by have:=(h2 p hp).1;omega,(h2 p hp).2⟩⟩
  |some n=>
   simp only[ą];refine ⟨ń.mpr ⟨λ z=>?_,h1⟩,λ p hp=>?_⟩
   ·have:=(h2 _ z).1;simp only at this;omega
   ·rcases Ć.mp hp with rfl|hp
    ·exact ⟨Int.le_refl _,rfl⟩
    ·exact ⟨by have:=(h2 p hp).1;omega,(h2 p hp).2⟩
theorem Xq:∀(l:`Í) (k:Nat),((Aw k l).map (·.2)).Nodup/\∀p∈(Aw k l).map (·.2),(k:Int)<=p.2
 |[],k=>by simp[Aw]
 |r::l,k=>by
  obtain ⟨h1,h2⟩:=Xq l (k+1);obtain ⟨h3,h4⟩:=Xp k r 0;rw[Aw,List.map_append];refine ⟨Āf.mpr ⟨h3,h1,λ a ha b hb e=>?_⟩,λ p hp=>?_⟩
  ·subst e;have a1:=(h4 a ha).2;have a2:=h2 a hb;omega
  ·rcases İ.mp hp with hp|hp
   ·have:=(h4 p hp).2;omega
   ·have:=h2 p hp;omega
def Ej(rows:`Í):PL:=jP [] (Aw 0 rows)
noncomputable def En(rows:`Í):Pt->Option Pt:=AF (Ej rows) λ _=>none
def aef(rows:`Í):(places (Ej rows)).Nodup:=by have:=(zw (Aw 0 rows) []).nodup_iff.mpr (by simpa[places] using (Xq rows 0).1);exact this
def Bd{rows:`Í}{w h:Nat}(R:Rw rows w h){n:Str}{x y:Int}:has (Ej rows) n (x,y)↔ pC w h x y=true/\ce rows x y= .b n:=by unfold Ej;rw[Jr,ahj R];exact ⟨λ z=>z.elim (λ⟨_,z,_⟩=>nomatch z) id,.inr⟩
def K6{pl:PL}{p:Pt}:p∈places pl ↔ ∃n,has pl n p:=by unfold places has;rw[ů];exact ⟨λ⟨e,h1,h2⟩=>⟨e.1,e.2,h1,h2⟩,λ⟨n,l,h1,h2⟩=>⟨(n,l),h1,h2⟩⟩
def aeA{rows:`Í}{w h:Nat}(R:Rw rows w h)(T:p6 (Ej rows)){x y:Int}(hn:xZ (ce rows x y)=none):En rows (x,y)=none:=by unfold En;rw[HB T];intro z;obtain ⟨n,hz⟩:=K6.mp z;rw[((Bd R).mp hz).2] at hn;cases hn
def Y4{rows:`Í}{w h:Nat}(R:Rw rows w h)(T:p6 (Ej rows)){n:Str}{x y:Int}(hi:pC w h x y=true)(hc:ce rows x y= .b n):∃u v,En rows (x,y)=some (u,v)/\En rows (u,v)=some (x,y)/\pC w h u v=true/\ce rows u v= .b n:=by
 obtain ⟨l,h1,h2⟩:=(Bd R).mpr ⟨hi,hc⟩;obtain ⟨p,q,rfl⟩:∃p q,l=[p,q]:=T _ h1;obtain ⟨a1,a2⟩:=afz (A:=λ _=>none) T (aef rows) h1;simp only[Ć,ķ,or_false] at h2;rcases h2 with rfl|rfl
 ·have:=(Bd R (n:=n) (x:=q.1) (y:=q.2)).mp ⟨_,h1,by simp⟩;exact ⟨q.1,q.2,a1,a2,this⟩
 ·have:=(Bd R (n:=n) (x:=p.1) (y:=p.2)).mp ⟨_,h1,by simp⟩;exact ⟨p.1,p.2,a2,a1,this⟩
def ah9{rows:`Í}{w h:Nat}(R:Rw rows w h)(T:p6 (Ej rows)):∃ks xs,dw [.val (.tup (gr rows))]= .new (.k (.t ks) xs)/\Dm ks xs (En rows):=by
 have e:=Wz (rows:=rows) (by rw[R.len];exact R.h1.2) (λ r hr=>by rw[R.row r hr];exact R.w1.2);have sm:Sm (jP [] (Aw 0 rows)) (Aw 0 rows).length:=by have q:=Sm.jP (ev:=Aw 0 rows) (pl:=[]) (k:=0) ⟨Ĉ _,λ _ z=>nomatch z⟩;simpa using q
 have bd:∀(l:`Í) (k:Nat),(∀r∈l,r.length=w)->(Aw k l).length<=16*l.length:=by
  intro l;induction l with
  |nil=>intro k _;simp[Aw]
  |cons r l ih=>intro k q;have a:=G9 (k:Int) r 0;have b:=ih (k+1) λ x hx=>q x (.tail _ hx);have c:=q r (.head _);have:=R.w1.2;rw[Aw,ĩ,Ė];omega
 have bd0:=bd rows 0 R.row;have hh:=R.len;have h16:=R.h1.2;obtain ⟨ks,xs,t2,t3,el,f⟩:=E0 (.val (.tup (gr rows))) (Ej rows) [] [] (λ _=>none) .no .no (by have:=sm.l;unfold Ej;simp;omega) ⟨rfl,λ _=>rfl,λ _ z=>nomatch z⟩ T;have it:=acY (jP [] (Aw 0 rows));have fo:=YU (jP [] (Aw 0 rows));refine ⟨ks,xs,?_,f⟩;obtain ⟨n1,n2⟩:=Bt f.ok;unfold Ej at el;generalize jP [] (Aw 0 rows)=pl at*;have fr:Vr (qM pl)= .ok (.r6 (.s (qK pl)) (uD (qL pl))):=by unfold qM;simp[Vr,z7,Jz,fo]
 simp only[dw,fE,cB];simp[iL,Lv,e,fr,it,el,yI,n1,A7]
mutual
theorem aeB:∀(d:D),nb d=true->dn d=d
 | .tup xs,h=>by simp only[dn];rw[tQ xs (by simpa[nb] using h)]
 | .gt xs,h=>by simp only[dn];rw[tQ xs (by simpa[nb] using h)]
 | .lst xs,h=>by simp only[dn];rw[tQ xs (by simpa[nb] using h)]
 | .obj c ns xs,h=>by simp only[dn];rw[tQ xs (by simpa[nb] using h)]
 | .r6 ks xs,h=>by simp only[dn];rw[tQ xs (by simpa[nb] using h)]
 | .bor _ _,h=>by simp[nb] at h
 | .uF _ _ _,h=>by simp[nb] at h
 | .yb _ _ _ _,h=>by simp[nb] at h
 | .cU,_=>by simp[dn]
 | .bl _,_=>by simp[dn]
 | .int _,_=>by simp[dn]
 | .str _,_=>by simp[dn]
 | .exc _,_=>by simp[dn]
theorem tQ:∀(xs:List D),vp xs=true->xP xs=xs
 |[],_=>by simp[xP]
 |x::xs,h=>by simp only[vp,ħ] at h;simp only[xP];rw[aeB x h.1,tQ xs h.2]
end
def rs(rows:`Í):List (List D):=rows.map λ r=>r.map oD
def alQ(rows:`Í):gr rows=(rs rows).map D.tup:=by simp[gr,rs]
theorem KR:∀r:List Sp,ly (r.map oD)=true
 |[]=>rfl
 |c::r=>by simp[ly,aen c,KR r]
theorem KW:∀r:List Sp,vp (r.map oD)=true
 |[]=>rfl
 |c::r=>by simp[vp,alr c,KW r]
theorem KS:∀rows:List (List Sp),ly (gr rows)=true
 |[]=>rfl
 |r::rows=>by show (nt (.tup (r.map oD))&&ly (gr rows))=true;rw[KS rows];simp[KR]
theorem KY:∀rows:List (List Sp),vp (gr rows)=true
 |[]=>rfl
 |r::rows=>by show (nb (.tup (r.map oD))&&vp (gr rows))=true;rw[KY rows];simp[nb,KW]
def aip{f:List Sp->D}(hf:∀r,m7 [f r]= .ok (.tup (r.map oD))){rows:`Í}{src:D}(hs:oU src= .ok (rows.map f))(hl:rows.length<1000000)(s0:Slot):gi false (gc (aj 1)) 1 [] (aD 0) mV (pY m7 (ai (aj 0) az)) [s0,.val src]= .ok (gr rows):=by
 have e:gc (aj 1) [s0,.val src]= .ok (rows.map f):=by simp[hs]
 rw[nT,e,Res.bw,if_pos (by simpa using hl)];have b:uW false 1 [] [s0,.val src]=[.no]:=rfl;rw[b];have:∀rows:List (List Sp),jY (E1 (aD 0) mV (pY m7 (ai (aj 0) az)) [.no]) (rows.map f)= .ok (gr rows):=by
  intro rows;induction rows with
  |nil=>rfl
  |cons r rows ih=>
   simp only[ą,jY,ih];have:E1 (aD 0) mV (pY m7 (ai (aj 0) az)) [.no] (f r)= .ok (some (.tup (r.map oD))):=by simp[E1,hf r]
   rw[this];rfl
 exact this rows
def Kw{rows:List (List D)}{w:Nat}(hr0:∀r∈rows,r.length=w)(hw:1<=w/\w<=16)(hne:rows≠[]){r:List D}(hr:r.length=w):jC 0 [.val (.tup (rows.map D.tup)),.val (.tup r)]= .nx [.val (.tup (rows.map D.tup)),.val (.tup r)]:=by
 have e:∃r0,cC (.tup (rows.map D.tup)) (.int 0)= .ok (.tup r0)/\r0.length=w:=by
  match rows,hne,hr0 with
  |r0::rows,_,hr0=>exact ⟨r0,by simp[cC,vJ,vA],hr0 r0 (.head _)⟩
 obtain ⟨r0,e,l0⟩:=e;have lr:ig [.tup r]= .ok (.int (w:Int)):=by rw[<-hr];rfl
 have l0':ig [.tup r0]= .ok (.int (w:Int)):=by rw[<-l0];rfl
 have a1:(1:Int)<=w:=by omega
 have a2:(w:Int)<=16:=by omega
 simp only[jC];simp[e,lr,l0',fM,a1,a2,acq]
theorem A2{rows:List (List D)}{w:Nat}(hr0:∀r∈rows,r.length=w)(hw:1<=w/\w<=16)(hne:rows≠[]):∀(l:List (List D)) (s:Slot),(∀r∈l,r.length=w)->∃t,gf (aD 1) (jC 0) (l.map D.tup) [.val (.tup (rows.map D.tup)),s]= .nx [.val (.tup (rows.map D.tup)),t]
 |[],s,_=>⟨s,rfl⟩
 |r::l,s,q=>by obtain ⟨t,e⟩:=A2 hr0 hw hne l (.val (.tup r)) λ x hx=>q x (.tail _ hx);refine ⟨t,?_⟩;rw[<-e];simp only[ą,gf];simp[Kw hr0 hw hne (q r (.head _))]
def abD{rows:`Í}{w h:Nat}(R:Rw rows w h):cG [.val (.tup (gr rows))]= .ok .cU:=by
 have hr:∀r∈rs rows,r.length=w:=λ r hr=>by obtain ⟨r0,h0,rfl⟩:=Į.mp hr;rw[ė];exact R.row r0 h0
 have hne:rs rows≠[]:=λ z=>by
  have:(rs rows).length=h:=by simp[rs,R.len]
  rw[z] at this;have:=R.h1;simp at*;omega
 obtain ⟨t,e⟩:=A2 hr R.w1 hne (rs rows) .no hr;have lr:ig [.tup ((rs rows).map D.tup)]= .ok (.int (h:Int)):=by rw[<-R.len];simp[ig,vV,rs]
 have h1:=R.h1;have a1:(1:Int)<=h:=by omega
 have a2:(h:Int)<=16:=by omega
 rw[alQ];simp only[cG,dJ,cB];simp[lr,fM,a1,a2,iL,e]
def tb(rows:`Í)(ks:List (List gO))(xs:List D):D:= .obj "Table" ["grid","ends"] [.tup (gr rows),.r6 (.t ks) xs]
def ahH{f:List Sp->D}(hf:∀r,m7 [f r]= .ok (.tup (r.map oD))){rows:`Í}{src:D}(hs:oU src= .ok (rows.map f)){w h:Nat}(R:Rw rows w h)(T:p6 (Ej rows)):
  ∃ks xs,bC [.par (.o "Table" [] []),.val src]= .RH .cU [(0,.o "Table" ["grid","ends"] [.tup (gr rows),.r6 (.t ks) xs])]/\Dm ks xs (En rows):=by
 have c:=aip hf hs (by rw[R.len];have:=R.h1;omega) (.par (.o "Table" [] []));have e1:=abD R;obtain ⟨ks,xs,ee,dm⟩:=ah9 R T;obtain ⟨x1,x2⟩:=Bt dm.ok;have n1:=KS rows;have n2:=KY rows;have d1:xP [.tup (gr rows)]=[.tup (gr rows)]:=tQ _ (by simp[vp,nb,n2]);refine ⟨ks,xs,?_,dm⟩;generalize gr rows=g at*;have tu:m7 [.lst g]= .ok (.tup g):=rfl;have fg:rB "grid" (.yb true "Table" ["grid"] [.tup g])= .ok (.tup g):=by simp[rB]
 have s1:qh 0 vC "grid" (pY m7 (ai (ze (gi false (gc (aj 1)) 1 [] (aD 0) mV (pY m7 (ai (aj 0) az)))) az)) [.par (.o "Table" [] []),.val src]= .nx [.par (.o "Table" ["grid"] [.tup g]),.val src]:=by unfold qh;rw[SG,g5,rM,c];simp[tu,om,xY,Bb,vC,n1,ī]
 have s2:qi (pX 1 cG (ai (tR "grid" (ju 0)) az)) [.par (.o "Table" ["grid"] [.tup g]),.val src]= .nx [.par (.o "Table" ["grid"] [.tup g]),.val src]:=by simp[lend,fg,d1,e1,nbA,nb]
 have s3:qh 0 vC "ends" (pX 1 dw (ai (tR "grid" (ju 0)) az)) [.par (.o "Table" ["grid"] [.tup g]),.val src]= .nx [.par (.o "Table" ["grid","ends"] [.tup g,.r6 (.t ks) xs]),.val src]:=by unfold qh;simp[lend,fg,d1,ee,nbA,JS,x2,Vr,z7,Jz,om,xY,Bb,vC,nt,x1,ī];rw[if_neg (by decide+kernel)];rfl
 rw[bC,bO,show cB qm [.par (.o "Table" [] []),.val src]=[.par (.o "Table" [] []),.val src] from rfl,bN,s1,cT,bN,s2,cT,s3];rfl
def Cv(g e:D):rB "grid" (.obj "Table" ["grid","ends"] [g,e])= .ok g:=by simp[rB]
def yY{n:Nat}{z:Int}(h0:0<=z)(h1:z<n):vA n z=some z.toNat:=by unfold vA;rw[if_pos h0,if_pos h1]
def alg(rows:`Í){ks:List (List gO)}{xs:List D}(h1:ly xs=true):nt (tb rows ks xs)=true:=by simp[tb,nt,ly,KS,h1]
def alq(rows:`Í){ks:List (List gO)}{xs:List D}(h1:vp xs=true):nb (tb rows ks xs)=true:=by simp[tb,nb,vp,KY,h1]
section
variable{rows:`Í}{w h:Nat}{ks:List (List gO)}{xs:List D}
def abi(R:Rw rows w h):cJ [.val (tb rows ks xs)]= .ok (.int w):=by
 have e:∃r0,cC (.tup (gr rows)) (.int 0)= .ok (.tup r0)/\r0.length=w:=by
  match rows,R with
  |[],R=>have:=R.len;have:=R.h1;simp at*;omega
  |r0::rows,R=>exact ⟨r0.map oD,by simp[gr,cC,vJ,vA],by rw[ė];exact R.row r0 (.head _)⟩
 obtain ⟨r0,e,l0⟩:=e;have l0':ig [.tup r0]= .ok (.int (w:Int)):=by rw[<-l0];rfl
 simp only[cJ,dM,cB];simp[tb,Cv,e,l0']
def YH(R:Rw rows w h):bW [.val (tb rows ks xs)]= .ok (.int h):=by
 have lr:ig [.tup (gr rows)]= .ok (.int (h:Int)):=by rw[<-R.len];simp[ig,vV,gr]
 simp only[bW,cN,cB];simp[tb,Cv,lr]
def akK(R:Rw rows w h):ja 0 oX (tb rows ks xs) (.ok [])= .ok (.d (.int w)):=by have:=abi (ks:=ks) (xs:=xs) R;simp only[ja,nh,oX,tb];simp only[tb] at this;simp[ī,this]
def akM(R:Rw rows w h):ja 0 mJ (tb rows ks xs) (.ok [])= .ok (.d (.int h)):=by have:=YH (ks:=ks) (xs:=xs) R;simp only[ja,nh,mJ,tb];simp only[tb] at this;simp[ī,this]
def abX(R:Rw rows w h)(x y:Int):bh [.val (tb rows ks xs),.val (.int x),.val (.int y)]= .ok (.bl (pC w h x y)):=by have e1:=akK (ks:=ks) (xs:=xs) R;have e2:=akM (ks:=ks) (xs:=xs) R;simp only[bh,bI,cB];generalize tb rows ks xs=t at*;by_cases a:0<=x<;>by_cases b:x<w<;>by_cases c:0<=y<;>by_cases d:y<h<;>simp[a,b,c,d,Uz,ltI,fM,e1,e2,pC]
def akL(R:Rw rows w h)(x y:Int):ja 2 jW (tb rows ks xs) (.ok [.int x,.int y])= .ok (.d (.bl (pC w h x y))):=by have:=abX (ks:=ks) (xs:=xs) R x y;simp only[ja,nh,jW,tb];simp only[tb] at this;simp[ī,this]
def amd(R:Rw rows w h)(x y:Int):aR [.val (tb rows ks xs),.val (.int x),.val (.int y)]=if pC w h x y=true then .ok .cU else .err "NoPlace":=by
 have e:=akL (ks:=ks) (xs:=xs) R x y;simp only[aR,aX,cB];generalize tb rows ks xs=t at*;cases q:pC w h x y with
 |true=>simp[e,q]
 |false=>simp[e,q,lD]
def akO(R:Rw rows w h)(x y:Int):ja 2 ji (tb rows ks xs) (.ok [.int x,.int y])=if pC w h x y=true then .ok (.d .cU) else .err "NoPlace":=by
 have e:=amd (ks:=ks) (xs:=xs) R x y;simp only[ja,nh,ji,tb];simp only[tb] at e;cases q:pC w h x y with
 |true=>rw[q] at e;simp[ī,e]
 |false=>rw[q] at e;simp[ī,e]
def YW(g e:D):rB "ends" (.obj "Table" ["grid","ends"] [g,e])= .ok e:=by
 have:((("ends":Str)=="grid")=false):=by decide+kernel
 simp[rB,ī,this]
noncomputable def oP:Option Pt->D
 |some p=>pD p
 |none=> .cU
def agz(R:Rw rows w h)(dm:Dm ks xs (En rows)){x y:Int}(i:pC w h x y=true):ja 2 jV (tb rows ks xs) (.ok [.int x,.int y])= .ok (.d (oP (En rows (x,y)))):=by
 have e:=akO (ks:=ks) (xs:=xs) R x y;rw[i,if_pos rfl] at e;have g:Sk (.r6 (.t ks) xs) (.tup [.int x,.int y])= .ok (oP (En rows (x,y))):=by have g0:nK ks xs [.inl x,.inl y]=_:=dm.get (x,y);simp only[Sk,Vt,Jf,Cc,Ln];rw[g0];cases En rows (x,y)<;>rfl
 have q:bg [.val (tb rows ks xs),.val (.int x),.val (.int y)]= .ok (oP (En rows (x,y))):=by simp only[bg,bH,cB];have f:rB "ends" (tb rows ks xs)= .ok (.r6 (.t ks) xs):=YW _ _;generalize tb rows ks xs=t at*;simp[e,Zd,f,Vt,g]
 simp only[ja,nh,jV,tb];simp only[tb] at q;simp[ī,q]
def abM(R:Rw rows w h){x y:Int}(i:pC w h x y=true):ja 2 vd (tb rows ks xs) (.ok [.int x,.int y])= .ok (.d (oD (ce rows x y))):=by
 have e:=akO (ks:=ks) (xs:=xs) R x y;rw[i,if_pos rfl] at e;have hb:=jJ.mp i;have hy:y.toNat<rows.length:=by rw[R.len];omega
 have hr:=R.row _ (ġ hy);have hx:x.toNat<rows[y.toNat].length:=by omega
 have e1:cC (.tup (gr rows)) (.int y)= .ok (.tup (rows[y.toNat].map oD)):=by simp only[cC,vJ];rw[yY hb.2.1 (by simp[gr];omega)];simp[gr,hy]
 have e2:cC (.tup (rows[y.toNat].map oD)) (.int x)= .ok (oD (ce rows x y)):=by simp only[cC,vJ];rw[yY hb.1.1 (by simp;omega)];simp[ce,hy,hx]
 have q:dF [.val (tb rows ks xs),.val (.int x),.val (.int y)]= .ok (oD (ce rows x y)):=by simp only[dF,fH,cB];have f:rB "grid" (tb rows ks xs)= .ok (.tup (gr rows)):=Cv _ _;generalize tb rows ks xs=t at*;simp[e,f,e1,e2]
 simp only[ja,nh,vd,tb];simp only[tb] at q;simp[ī,q]
end
structure Tb(t:D)(rows:`Í)(w h:Nat):Prop where
 R:Rw rows w h
 two:p6 (Ej rows)
 nt:nt t=true
 nb:nb t=true
 rw:ja 0 oX t (.ok [])= .ok (.d (.int w))
 rh:ja 0 mJ t (.ok [])= .ok (.d (.int h))
 rp:∀x y:Int,ja 2 jW t (.ok [.int x,.int y])= .ok (.d (.bl (pC w h x y)))
 akN:∀x y:Int,pC w h x y=true->ja 2 jV t (.ok [.int x,.int y])= .ok (.d (oP (En rows (x,y))))
 Wi:∀x y:Int,pC w h x y=true->ja 2 vd t (.ok [.int x,.int y])= .ok (.d (oD (ce rows x y)))
def aoq{rows:`Í}{w h:Nat}{ks:List (List gO)}{xs:List D}(R:Rw rows w h)(T:p6 (Ej rows))(dm:Dm ks xs (En rows)):Tb (tb rows ks xs) rows w h:=⟨R,T,alg rows (Bt dm.ok).1,alq rows (Bt dm.ok).2,akK R,akM R,akL R,λ _ _ i=>agz R dm i,λ _ _ i=>abM R i⟩
def Am(k:`Î):nt (tupI k)=true:=by simp only[tupI,aha];exact F1 _ (λ x=>by simp) k
def sP(ns:List (List Int)):ly (ns.map tupI)=true:=F1 _ Am ns
def ahJ{t:D}{rows:`Í}{w h:Nat}(T:Tb t rows w h)(x y z:Int):fT [.val t,.val (tupI [x,y,z])]= .ok (.bl (pC w h x y)):=by simp only[fT,fN,cB,tupI];simp[T.rp,cC,vJ,vA]
noncomputable def bk(x y z:Int):List Int:=if z=0 then [x- 1,y,2] else if z=1 then [x,y+1,3] else if z=2 then [x+1,y,0] else [x,y- 1,1]
def ak8(z:Int)(hz:z=0\/z=1\/z=2\/z=3):jT [.val (.int z)]= .ok (.int (if z=0 then 2 else if z=1 then 3 else if z=2 then 0 else 1)):=by rcases hz with rfl|rfl|rfl|rfl<;>rfl
def aeL(x y z:Int):k9 [.val (.int x),.val (.int y),.val (.int z)]= .ok (if z=0 then tupI [x+1,y] else if z=1 then tupI [x,y- 1] else if z=2 then tupI [x- 1,y] else tupI [x,y+1]):=by
 simp only[k9,kY,cB];by_cases a:z=0
 ·simp[a,tupI,Ax]
 ·by_cases b:z=1
  ·simp[b,tupI,Ax]
  ·by_cases c:z=2
   ·simp[c,tupI,Ax]
   ·simp[a,b,c,tupI,Ax]
def Zu(x y z:Int)(hz:z=0\/z=1\/z=2\/z=3):b7 [.val (tupI [x,y,z])]= .ok (tupI (bk x y z)):=by have e1:=ak8 z hz;simp only[b7,eY,cB];rcases hz with rfl|rfl|rfl|rfl<;>simp[e1,aeL,cC,vJ,vA,bk,tupI]
noncomputable def isP(w h:Int):List Int->Bool
 |[x,y,z]=>(decide (z=0)||decide (z=1)||decide (z=2)||decide (z=3))&&(pC w h x y||match bk x y z with
  |[u,v,_]=>pC w h u v
  |_=>false)
 |_=>false
def ael{t:D}{rows:`Í}{w h:Nat}(T:Tb t rows w h)(x y z:Int)(hz:z=0\/z=1\/z=2\/z=3):cQ [.val t,.val (tupI [x,y,z])]= .ok (.bl (match bk x y z with
  |[u,v,_]=>pC w h u v
  |_=>false)):=by
 have e1:=Zu x y z hz;simp only[cQ,fF,cB];rcases hz with rfl|rfl|rfl|rfl<;>simp[e1,bk,ahJ T]
def agV{t:D}{rows:`Í}{w h:Nat}(T:Tb t rows w h)(x y z:Int):cI [.val t,.val (tupI [x,y,z])]=if isP w h [x,y,z]=true then .ok .cU else .err "NoPass":=by
 have i2:cC (tupI [x,y,z]) (.int 2)= .ok (.int z):=rfl;by_cases hz:z=0\/z=1\/z=2\/z=3
 ·have nz:sQ (.int z) (.gt [.int 0,.int 1,.int 2,.int 3])= .ok (.bl false):=by rcases hz with rfl|rfl|rfl|rfl<;>rfl
  have e1:=ahJ T x y z;have e2:=ael T x y z hz;have wz:(decide (z=0)||decide (z=1)||decide (z=2)||decide (z=3))=true:=by rcases hz with rfl|rfl|rfl|rfl<;>rfl
  simp only[cI,c9,cB,isP,wz,Bool.true_and];generalize (match bk x y z with
   |[u,v,_]=>pC w h u v
   |_=>false)=o at*
  generalize pC w h x y=i at*;cases i<;>cases o<;>simp[i2,nz,e1,e2]
 ·have nz:sQ (.int z) (.gt [.int 0,.int 1,.int 2,.int 3])= .ok (.bl true):=by simp only[not_or] at hz;simp[sQ,vV,tK,inF,eqF,hz.1,hz.2.1,hz.2.2.1,hz.2.2.2];omega
  have wz:(decide (z=0)||decide (z=1)||decide (z=2)||decide (z=3))=false:=by simp only[not_or] at hz;simp[hz.1,hz.2.1,hz.2.2.1,hz.2.2.2]
  simp only[cI,c9,cB,isP,wz,Bool.false_and];simp[i2,nz]
def We{n:Nat}(h:n<=16):C4 [.int n]= .ok (f9 0 n):=by simp only[C4];rw[if_pos (by constructor<;>omega)];simp
def Ys{f:`Æ}{Γ:Sg}{n:Nat}(e:f Γ= .ok [.int n])(h:n<=16):gS f Γ= .ok (f9 0 n):=by unfold gS;rw[e,Res.bw,We h]
def Up(l:List (List Int)):Prop:=l.Pairwise λ a b=>gu a b=true
def Up.nodup{l:List (List Int)}(h:Up l):l.Nodup:=h.imp λ q e=>by rw[e,I0] at q;cases q
theorem aeG:∀{l:List (List Int)},(∀n∈l,n.length=3)->d3s (l.map tupI)=some l
 |[],_=>rfl
 |n::l,h=>by
  have h3:=h n (.head _);have ih:=aeG λ m hm=>h m (.tail _ hm);match n,h3 with
  |[a,b,c],_=>have e:d3 (tupI [a,b,c])=some [a,b,c]:=rfl;simp only[ą,d3s,e,ih]
theorem adS{α β:Type}(f:α->β):∀l:List α,l.zip (l.map f)=l.map λ n=>(n,f n)
 |[]=>rfl
 |n::l=>by simp[adS f l]
def Kv{l m:List (List Int)}(h3:∀n∈l,n.length=3)(hl:l.length<4096)(nd:l.Nodup)(up:Up m)(hm:∀n,n∈l ↔ n∈m):yq [.lst (l.map tupI)]= .ok (m.map tupI):=by
 have z:=adS tupI l;have e:srt (l.zip (l.map tupI))=m.map λ n=>(n,tupI n):=by
  refine yi ((sj _).trans ?_) (Ku ?_) ?_
  ·rw[z];exact ((List.perm_ext_iff_of_nodup nd up.nodup).mpr hm).map _
  ·rw[z,ŋ];simpa[Ăj] using nd
  ·exact Ť.mpr (List.Pairwise.imp (λ h=>h) up)
 show D6 (l.map tupI)=_;unfold D6;rw[aeG h3];simp only;rw[if_pos ⟨hl,nd⟩,e,ŋ];rfl
noncomputable def zs(lo:Int)(n:Nat):List Int:=(ĭ n).map λ(k:Nat)=>lo+k
def Gn{lo:Int}{n:Nat}{x:Int}:x∈zs lo n ↔ lo<=x/\x<lo+n:=by
 unfold zs;rw[Į];constructor
 ·rintro ⟨k,hk,rfl⟩
  have:=Āj.mp hk;omega
 ·intro h;exact ⟨(x- lo).toNat,Āj.mpr `À,by omega⟩
def adR(lo:Int)(n:Nat):(zs lo n).Pairwise (· < ·):=Ť.mpr (List.pairwise_lt_range.imp λ h=>by omega)
noncomputable def four(x y:Int):List (List Int):=[[x,y,0],[x,y,1],[x,y,2],[x,y,3]]
noncomputable def box(a b:Int)(n m:Nat):List (List Int):=(zs a n).flatMap λ x=>(zs b m).flatMap λ y=>four x y
def ao9{a b c d e f:Int}(h:a<d):gu [a,b,c] [d,e,f]=true:=by
 have:a≠d:=by omega
 simp[gu,this,h]
def ao8{a b c e f:Int}(h:b<e):gu [a,b,c] [a,e,f]=true:=by
 have:b≠e:=by omega
 simp[gu,this,h]
def qp{x y:Int}{p:`Î}:p∈four x y ↔ ∃z:Int,(0<=z/\z<4)/\p=[x,y,z]:=by
 constructor
 ·intro h;simp only[four,Ć,ķ,or_false] at h;rcases h with rfl|rfl|rfl|rfl
  ·exact ⟨0,by omega,rfl⟩
  ·exact ⟨1,by omega,rfl⟩
  ·exact ⟨2,by omega,rfl⟩
  ·exact ⟨3,by omega,rfl⟩
 ·rintro ⟨z,hz,rfl⟩
  have:z=0\/z=1\/z=2\/z=3:=by omega
  rcases this with rfl|rfl|rfl|rfl<;>simp[four]
def Gq{a b:Int}{n m:Nat}{p:`Î}:p∈box a b n m ↔ ∃x y z:Int,p=[x,y,z]/\(a<=x/\x<a+n)/\(b<=y/\y<b+m)/\0<=z/\z<4:=by
 unfold box;constructor
 ·intro h;obtain ⟨x,hx,h⟩:=ů.mp h;obtain ⟨y,hy,h⟩:=ů.mp h;obtain ⟨z,hz,rfl⟩:=qp.mp h;exact ⟨x,y,z,rfl,Gn.mp hx,Gn.mp hy,hz⟩
 ·rintro ⟨x,y,z,rfl,hx,hy,hz⟩
  exact ů.mpr ⟨x,Gn.mpr hx,ů.mpr ⟨y,Gn.mpr hy,qp.mpr ⟨z,hz,rfl⟩⟩⟩
def LQ(a b:Int)(n m:Nat):Up (box a b n m):=by
 refine List.pairwise_flatMap.mpr ⟨λ x _=>List.pairwise_flatMap.mpr ⟨λ y _=>?_,(adR b m).imp λ h p hp q hq=>?_⟩,(adR a n).imp λ h p hp q hq=>?_⟩
 ·simp[four,gu]
 ·obtain ⟨z,_,rfl⟩:=qp.mp hp;obtain ⟨z',_,rfl⟩:=qp.mp hq;exact ao8 h
 ·obtain ⟨y,_,hp⟩:=ů.mp hp;obtain ⟨y',_,hq⟩:=ů.mp hq;obtain ⟨z,_,rfl⟩:=qp.mp hp;obtain ⟨z',_,rfl⟩:=qp.mp hq;exact ao9 h
def Gx(a b:Int)(n m:Nat):(box a b n m).length=n*(m*4):=by
 have h:∀(l:`Î) (f:Int->List (List Int)) (k:Nat),(∀x,(f x).length=k)->(l.flatMap f).length=l.length*k:=by
  intro l f k hk;induction l with
  |nil=>simp
  |cons x l ih=>simp[ih,hk,Nat.succ_mul,ąr]
 unfold box;rw[h _ _ (m*4) λ x=>by rw[h _ _ 4 λ y=>rfl];simp[zs]];simp[zs]
noncomputable def DU(w h:Nat):List (List Int):=(box (-1) (-1) (w+2) (h+2)).filter (isP w h)
noncomputable def PI(w h:Nat):List (List Int):=box 0 0 w h
noncomputable def nO:List Int->List Int
 |[x,y,z]=>bk x y z
 |p=>p
noncomputable def cin(w h:Int):List Int->Bool
 |x::y::_=>pC w h x y
 |_=>false
noncomputable def IN(w h:Nat):List (List Int):=(DU w h).filter λ p=>!cin w h (nO p)
noncomputable def OU(w h:Nat):List (List Int):=(DU w h).filter λ p=>!cin w h p
def Sx(w h:Nat):Up (DU w h):=āi _ (LQ _ _ _ _)
def aeu(w h:Nat):Up (IN w h):=āi _ (Sx w h)
def aem(w h:Nat):Up (OU w h):=āi _ (Sx w h)
def GS{w h x y z:Int}:isP w h [x,y,z]=true ↔(0<=z/\z<4)/\(cin w h [x,y,z]=true\/cin w h (nO [x,y,z])=true):=by
 have e:∃u v t,bk x y z=[u,v,t]:=by unfold bk;(repeat' split)<;>exact ⟨_,_,_,rfl⟩
 obtain ⟨u,v,t,e⟩:=e;simp only[isP,nO,e,cin,ħ,Ąr,decide_eq_true_eq];constructor
 ·rintro ⟨a,b⟩;exact ⟨by omega,b⟩
 ·rintro ⟨a,b⟩;exact ⟨by omega,b⟩
def qH{x y z:Int}(hz:0<=z/\z<4):∃u v t:Int,nO [x,y,z]=[u,v,t]/\(0<=t/\t<4)/\nO [u,v,t]=[x,y,z]/\(x- 1<=u/\u<=x+1)/\(y- 1<=v/\v<=y+1):=by
 have:z=0\/z=1\/z=2\/z=3:=by omega
 rcases this with rfl|rfl|rfl|rfl
 ·exact ⟨x- 1,y,2,rfl,by omega,by simp[nO,bk],by omega,by omega⟩
 ·exact ⟨x,y+1,3,rfl,by omega,by simp[nO,bk],by omega,by omega⟩
 ·exact ⟨x+1,y,0,rfl,by omega,by simp[nO,bk],by omega,by omega⟩
 ·exact ⟨x,y- 1,1,rfl,by omega,by simp[nO,bk],by omega,by omega⟩
def jd{w h:Nat}{p:`Î}:p∈DU w h ↔ ∃x y z:Int,p=[x,y,z]/\(0<=z/\z<4)/\(cin w h p=true\/cin w h (nO p)=true):=by
 unfold DU;rw[ĺ];constructor
 ·rintro ⟨h1,h2⟩
  obtain ⟨x,y,z,rfl,_⟩:=Gq.mp h1;exact ⟨x,y,z,rfl,GS.mp h2⟩
 ·rintro ⟨x,y,z,rfl,hz,h2⟩
  refine ⟨Gq.mpr ⟨x,y,z,rfl,?_⟩,GS.mpr ⟨hz,h2⟩⟩;obtain ⟨u,v,t,e,_,_,hu,hv⟩:=qH (x:=x) (y:=y) hz;rw[e] at h2;simp only[cin,jJ] at h2;omega
def yM{w h:Nat}{p:`Î}:p∈PI w h ↔ ∃x y z:Int,p=[x,y,z]/\(0<=z/\z<4)/\cin w h p=true:=by
 unfold PI;rw[Gq];constructor
 ·rintro ⟨x,y,z,rfl,hx,hy,hz⟩
  exact ⟨x,y,z,rfl,hz,jJ.mpr `À⟩
 ·rintro ⟨x,y,z,rfl,hz,hc⟩
  have:=jJ.mp hc;exact ⟨x,y,z,rfl,by omega,by omega,hz⟩
def K7{w h:Nat}{p:`Î}:p∈(PI w h).filter (λ p=>!cin w h (nO p))↔ p∈IN w h:=by
 unfold IN;rw[ĺ,ĺ,yM,jd];constructor
 ·rintro ⟨⟨x,y,z,rfl,hz,hc⟩,h2⟩
  exact ⟨⟨x,y,z,rfl,hz,.inl hc⟩,h2⟩
 ·rintro ⟨⟨x,y,z,rfl,hz,hc⟩,h2⟩
  refine ⟨⟨x,y,z,rfl,hz,?_⟩,h2⟩;rcases hc with hc|hc
  ·exact hc
  ·rw[hc] at h2;cases h2
def XH{w h:Nat}{p:`Î}:p∈(IN w h).map nO ↔ p∈OU w h:=by
 unfold OU;rw[Į,ĺ,jd];constructor
 ·rintro ⟨q,hq,rfl⟩
  obtain ⟨h1,h2⟩:=ĺ.mp (K7.mpr hq);obtain ⟨x,y,z,rfl,hz,hc⟩:=yM.mp h1;obtain ⟨u,v,t,e,ht,e2,_⟩:=qH (x:=x) (y:=y) hz;rw[e] at h2 ⊢;exact ⟨⟨u,v,t,rfl,ht,.inr (by rw[e2];exact hc)⟩,h2⟩
 ·rintro ⟨⟨x,y,z,rfl,hz,hc⟩,h2⟩
  obtain ⟨u,v,t,e,ht,e2,_⟩:=qH (x:=x) (y:=y) hz;have hc2:cin w h (nO [x,y,z])=true:=by
   rcases hc with hc|hc
   ·rw[hc] at h2;cases h2
   ·exact hc
  rw[e] at hc2;refine ⟨[u,v,t],K7.mp (ĺ.mpr ⟨yM.mpr ⟨u,v,t,rfl,ht,hc2⟩,?_⟩),e2⟩;rw[e2];exact h2
def RU{w h:Nat}{p:`Î}:p∈PI w h++OU w h ↔ p∈DU w h:=by
 unfold OU;rw[İ,ĺ,yM,jd];constructor
 ·rintro (⟨x,y,z,rfl,hz,hc⟩|⟨hd,_⟩)
  ·exact ⟨x,y,z,rfl,hz,.inl hc⟩
  ·exact hd
 ·rintro ⟨x,y,z,rfl,hz,hc⟩
  by_cases q:cin w h [x,y,z]=true
  ·exact .inl ⟨x,y,z,rfl,hz,q⟩
  ·exact .inr ⟨⟨x,y,z,rfl,hz,hc⟩,by simp[q]⟩
def du3{w h:Nat}:∀p∈DU w h,p.length=3:=λ p hp=>by obtain ⟨x,y,z,rfl,_⟩:=jd.mp hp;rfl
def SI{w h:Nat}{p:`Î}(hp:p∈DU w h):nO (nO p)=p:=by obtain ⟨x,y,z,rfl,hz,_⟩:=jd.mp hp;obtain ⟨u,v,t,e,_,e2,_⟩:=qH (x:=x) (y:=y) hz;rw[e,e2]
def aep{w h:Nat}{l:List (List Int)}(hl:∀p∈l,p∈DU w h)(nd:l.Nodup):(l.map nO).Nodup:=by
 refine List.Pairwise.of_map (S:=λ a b=>a≠b) nO (λ a b q e=>q (by rw[e])) ?_
 rw[ŋ]
 have:l.map (nO∘nO)=l:=by
  conv=>rhs;rw[<-ąx l]
  exact Āi λ p hp=>SI (hl p hp)
 rw[this]
 exact nd
theorem xS{e:D->Res (Option D)}(p:List Int->Bool):∀{l:List (List Int)},(∀n∈l,e (tupI n)= .ok (if p n=true then some (tupI n) else none))->jY e (l.map tupI)= .ok ((l.filter p).map tupI)
 |[],_=>rfl
 |n::l,h=>by
  simp only[ą,jY];rw[h n (.head _),xS p λ m hm=>h m (.tail _ hm),List.filter_cons];by_cases q:p n=true
  ·simp[q]
  ·simp[q]
theorem E6{e:D->Res (Option D)}(f:List Int->List Int):∀{l:List (List Int)},(∀n∈l,e (tupI n)= .ok (some (tupI (f n))))->jY e (l.map tupI)= .ok ((l.map f).map tupI)
 |[],_=>rfl
 |n::l,h=>by simp only[ą,jY];rw[h n (.head _),E6 f λ m hm=>h m (.tail _ hm)];rfl
def aoO{t:D}{xs:List D}(hl:xs.length<100000)(x y:Int):lQ 0 [.val t,.own (.l xs),.val (.int x),.val (.int y)]= .nx [.val t,.own (.l (xs++(four x y).map tupI)),.val (.int x),.val (.int y)]:=by
 have c:gi false (gc (dC (.gt [.int 0,.int 1,.int 2,.int 3]))) 1 [2,3] (aD 0) mV (iG (ai (aj 1) (ai (aj 2) (ai (aj 0) az)))) [.val t,.own (.l xs),.val (.int x),.val (.int y)]= .ok ((four x y).map tupI):=rfl;rw[lQ,Fy,c];have e:YZ ((four x y).map tupI) (.l xs)=some (.l (xs++(four x y).map tupI)):=by rw[YZ,if_pos ⟨by simp[four];omega,sP _⟩]
 simp only[om,zy,xY];simp[UN,e]
theorem El{t:D}(x:Int):∀(ys:`Î) (l:List (List Int)) (s:Slot),l.length+4*ys.length<100000->∃s',gf (aD 3) (lQ 0) (ys.map D.int) [.val t,.own (.l (l.map tupI)),.val (.int x),s]= .nx [.val t,.own (.l ((l++ys.flatMap λ y=>four x y).map tupI)),.val (.int x),s']
 |[],l,s,_=>⟨s,by simp[gf]⟩
 |y::ys,l,s,h=>by rw[Ė] at h;obtain ⟨s',e⟩:=El (t:=t) x ys (l++four x y) (.val (.int y)) (by simp[four];omega);refine ⟨s',?_⟩;have st:=aoO (t:=t) (xs:=l.map tupI) (by simp;omega) x y;rw[<-List.map_append] at st;rw[ň, <-Ċ, <-e];simp only[ą,gf];simp only[qR,Ų,Āu];rw[st]
def Jo(lo:Int)(n:Nat):f9 lo n=(zs lo n).map D.int:=by simp[f9,zs,Ăj]
def Lf(lo:Int)(n:Nat):(zs lo n).length=n:=by simp[zs]
theorem Ek{t:D}{rows:`Í}{w h:Nat}(T:Tb t rows w h)(hh:h<=16):∀(xs:`Î) (l:List (List Int)) (s s2:Slot),l.length+64*xs.length<100000->∃u v,gf (aD 2) (lP 0) (xs.map D.int) [.val t,.own (.l (l.map tupI)),s,s2]= .nx [.val t,.own (.l ((l++xs.flatMap λ x=>(zs 0 h).flatMap λ y=>four x y).map tupI)),u,v]
 |[],l,s,s2,_=>⟨s,s2,by simp[gf]⟩
 |x::xs,l,s,s2,hl=>by
  rw[Ė] at hl;obtain ⟨v,e1⟩:=El (t:=t) x (zs 0 h) l s2 (by rw[Lf];omega);have st:lP 0 [.val t,.own (.l (l.map tupI)),.val (.int x),s2]= .nx [.val t,.own (.l ((l++(zs 0 h).flatMap λ y=>four x y).map tupI)),.val (.int x),v]:=by
   have r:gS (ai (lu (jl 0 mJ (aj 0) az)) az) [.val t,.own (.l (l.map tupI)),.val (.int x),s2]= .ok ((zs 0 h).map D.int):=by rw[<-Jo];exact Ys (by simp[T.rh]) hh
   rw[lP,iL,r,ql,e1]
  have lf:((zs 0 h).flatMap λ y=>four x y).length<=64:=by
   have q:∀l:List Int,(l.flatMap λ y=>four x y).length=4*l.length:=λ l=>by
    induction l with
    |nil=>rfl
    |cons a l ih=>rw[ň,ĩ,ih];simp only[four,Ė,ť];omega
   rw[q,Lf];omega
  obtain ⟨u,v',e⟩:=Ek T hh xs (l++(zs 0 h).flatMap λ y=>four x y) (.val (.int x)) v (by rw[ĩ];omega);refine ⟨u,v',?_⟩;rw[ň, <-Ċ, <-e];simp only[ą,gf];simp only[qR,Ų,Āu];rw[st]
def aeg{t:D}{rows:`Í}{w h:Nat}(T:Tb t rows w h)(hw:w<=16)(hh:h<=16):cg [.val t]= .new (.l ((PI w h).map tupI)):=by
 obtain ⟨u,v,e⟩:=Ek T hh (zs 0 w) [] .no .no (by rw[Lf];simp;omega);have r:gS (ai (lu (jl 0 oX (aj 0) az)) az) [.val t,.own (.l []),.no,.no]= .ok ((zs 0 w).map D.int):=by rw[<-Jo];exact Ys (by simp[T.rw]) hw
 rw[Ŧ] at e;rw[cg,fD,show cB zA [.val t]=[.val t,.no,.no,.no] from rfl,bN];have s1:uL 1 (mL (vH az)) [.val t,.no,.no,.no]= .nx [.val t,.own (.l []),.no,.no]:=rfl;have n:yI (.l ((PI w h).map tupI))=true:=by rw[Iz];exact sP _
 rw[s1,cT,bN,iL,r,ql];rw[show ([]:List (List Int)).map tupI=[] from rfl] at e;rw[e,cT];rfl
def ak6{t:D}{rows:`Í}{w h:Nat}(T:Tb t rows w h){p:`Î}(hp:p∈DU w h):cQ [.val t,.val (tupI p)]= .ok (.bl (cin w h (nO p))):=by
 obtain ⟨x,y,z,rfl,hz,_⟩:=jd.mp hp;have e:∃u v s,bk x y z=[u,v,s]:=by unfold bk;(repeat' split)<;>exact ⟨_,_,_,rfl⟩
 obtain ⟨u,v,s,e⟩:=e;rw[ael T x y z `À];simp only[nO,e,cin]
def Hq{w h:Nat}{p:`Î}(hp:p∈DU w h):b7 [.val (tupI p)]= .ok (tupI (nO p)):=by obtain ⟨x,y,z,rfl,hz,_⟩:=jd.mp hp;exact Zu x y z `À
def aeh{w h:Nat}{p:`Î}(hp:p∈PI w h):p∈DU w h:=by obtain ⟨x,y,z,rfl,hz,hc⟩:=yM.mp hp;exact jd.mpr ⟨x,y,z,rfl,hz,.inl hc⟩
def aev{w h:Nat}{p:`Î}(hp:p∈IN w h):p∈DU w h:=(ĺ.mp hp).1
def ak7{w h:Nat}{p:`Î}(hp:p∈OU w h):p∈DU w h:=(ĺ.mp hp).1
def XX{w h:Nat}(hw:w<=16)(hh:h<=16):(PI w h).length<=1024:=by unfold PI;rw[Gx];exact ģ (Āq hw (Āq hh (Ĉ 4))) `Â
def XY{w h:Nat}(hw:w<=16)(hh:h<=16):(DU w h).length<=1296:=by refine ģ (ŵ _ _) ?_;rw[Gx];exact ģ (Āq (show w+2<=18 by omega) (Āq (show h+2<=18 by omega) (Ĉ 4))) `Â
def alI{t:D}{rows:`Í}{w h:Nat}(T:Tb t rows w h)(hw:w<=16)(hh:h<=16):jB [.val t]= .new (.l ((IN w h).map tupI)):=by
 have e1:=aeg T hw hh;have nt1:ly [t]=true:=by simp[T.nt]
 have ln:=XX hw hh;have i:gc (bK 1 cg (ai (aj 0) az)) [.val t]= .ok ((PI w h).map tupI):=by simp[nt1,e1,T.nt]
 have c:gi false (gc (bK 1 cg (ai (aj 0) az))) 1 [0] (aD 0) (rN (dT (bK 2 cQ (ai (aj 1) (ai (aj 0) az))))) (aj 0) [.val t]= .ok (((PI w h).filter λ p=>!cin w h (nO p)).map tupI):=by rw[nT,i,Res.bw,if_pos (by rw[ė];omega)];refine xS _ λ n hn=>?_;have e2:=ak6 T (aeh hn);have b:uW false 1 [0] [.val t]=[.no,.val t]:=rfl;have n1:=Am n;rw[b];generalize tupI n=d at*;simp only[E1,qR];simp[e2,T.nt,n1];generalize cin w h (nO n)=q;cases q<;>rfl
 have s:=Kv (l:=(PI w h).filter λ p=>!cin w h (nO p)) (m:=IN w h) (λ n hn=>du3 n (aeh (ĺ.mp hn).1)) (ĸ (ŵ _ _) `À) (āi _ (LQ _ _ _ _).nodup) (aeu w h) λ n=>K7;have n:yI (.l ((IN w h).map tupI))=true:=by rw[Iz];exact sP _
 rw[jB,mY,show cB IF [.val t]=[.val t] from rfl,yw,Gv,Aq,g5,rM,c];simp only[Res.bw,mU];rw[s];simp only[Res.bw,ql];rw[if_pos n];rfl
def agX{t:D}{rows:`Í}{w h:Nat}(T:Tb t rows w h)(hw:w<=16)(hh:h<=16):iZ [.val t]= .new (.l ((OU w h).map tupI)):=by
 have e1:=alI T hw hh;have ln:=XY hw hh;have li:(IN w h).length<=1296:=ģ (ŵ _ _) ln;have i:gc (bK 1 jB (ai (aj 0) az)) [.val t]= .ok ((IN w h).map tupI):=by simp[e1,T.nt]
 have c:gi false (gc (bK 1 jB (ai (aj 0) az))) 1 [] (aD 0) mV (bK 1 b7 (ai (aj 0) az)) [.val t]= .ok (((IN w h).map nO).map tupI):=by rw[nT,i,Res.bw,if_pos (by rw[ė];omega)];refine E6 _ λ n hn=>?_;have e2:=Hq (aev hn);have b:uW false 1 [] [.val t]=[.no]:=rfl;have n1:=Am n;rw[b];generalize tupI n=d at*;simp only[E1,qR,Zp];simp[e2,n1]
 have s:=Kv (l:=(IN w h).map nO) (m:=OU w h) (λ n hn=>du3 n (ak7 (XH.mp hn))) (by rw[ė];omega) (aep (λ p hp=>aev hp) (aeu w h).nodup) (aem w h) λ n=>XH;have n:yI (.l ((OU w h).map tupI))=true:=by rw[Iz];exact sP _
 rw[iZ,jZ,show cB Eu [.val t]=[.val t] from rfl,yw,Gv,Aq,g5,rM,c];simp only[Res.bw,mU];rw[s];simp only[Res.bw,ql];rw[if_pos n];rfl
def aiw{t:D}{rows:`Í}{w h:Nat}(T:Tb t rows w h)(hw:w<=16)(hh:h<=16):dD [.val t]= .new (.l ((DU w h).map tupI)):=by
 have e1:=aeg T hw hh;have e2:=agX T hw hh;have ln:=XY hw hh;have lp:=XX hw hh;have lo:(OU w h).length<=1296:=ģ (ŵ _ _) ln;have c:lOp Zj (bK 1 cg (ai (aj 0) az)) (bK 1 iZ (ai (aj 0) az)) [.val t]= .ok ((PI w h++OU w h).map tupI):=by
  have sz:((PI w h).map tupI).length+((OU w h).map tupI).length<=Đ:=by simp only[ė];exact ģ (show _<=2320 by omega) (by decide+kernel)
  simp[e1,e2,T.nt,Zj,Vh];simpa using sz
 have nd:(PI w h++OU w h).Nodup:=Āf.mpr ⟨(LQ _ _ _ _).nodup,(aem w h).nodup,λ a ha b hb e=>by subst e;obtain ⟨_,_,_,_,_,hc⟩:=yM.mp ha;have:=(ĺ.mp hb).2;rw[hc] at this;cases this⟩;have s:=Kv (l:=PI w h++OU w h) (m:=DU w h) (λ n hn=>du3 n (RU.mp hn)) (by rw[ĩ];omega) nd (Sx w h) λ n=>RU;have n:yI (.l ((DU w h).map tupI))=true:=by rw[Iz];exact sP _
 rw[dD,fG,show cB wB [.val t]=[.val t] from rfl,yw,Gv,Aq,g5,rM,c];simp only[Res.bw,mU];rw[s];simp only[Res.bw,ql];rw[if_pos n];rfl
def sD:Option Rat->D
 |none=> .gt [.int 1,.int 1]
 |some r=>rq r
noncomputable def sV:Option Rat->Rat
 |none=>1
 |some r=>r
abbrev W4(z:Int):Prop:=z=0\/z=1\/z=2\/z=3
noncomputable def RG(z:Int):Int:=if z=0 then 2 else if z=1 then 3 else if z=2 then 0 else 1
noncomputable def xr(z s:Int):Int:=if s=1 then (if z=0 then 1 else if z=1 then 0 else if z=2 then 3 else 2) else (if z=0 then 3 else if z=1 then 2 else if z=2 then 1 else 0)
noncomputable def lead:Sp->Int->List (Int×Option Rat)
 | .e,z=>[(z,none)]
 | .w,_=>[]
 | .m s,z=>[(xr z s,none)]
 | .h s r,z=>[(xr z s,some r),(z,some (1- r))]
 | .f r,z=>[(z,some r)]
 | .b _,z=>[(z,none)]
def eL(a:Int×Option Rat):D:= .tup [.int a.1,sD a.2]
theorem W4.RG{z:Int}(h:W4 z):W4 (RG z):=by rcases h with rfl|rfl|rfl|rfl<;>decide
def FT{z:Int}(h:W4 z):RG (RG z)=z:=by rcases h with rfl|rfl|rfl|rfl<;>rfl
def SX{z s:Int}(hz:W4 z)(hs:s=1\/s=3):Vz (.int z) (.int s)= .ok (.int (xr z s))/\W4 (xr z s)/\xr z s≠z/\xr (RG (xr z s)) s=RG z:=by rcases hz with rfl|rfl|rfl|rfl<;>rcases hs with rfl|rfl<;>exact ⟨rfl,by decide,by decide,by decide⟩
def V0(r:Rat):(EU (1*r.den- r.num*1) ((1:Int)*r.den),G4 (1*r.den- r.num*1) ((1:Int)*r.den))=Vo (1- r):=by have:=F4 (1*r.den- r.num*1) (1*r.den) (Nat.mul_ne_zero `Â r.den_nz);rw[Rat.sub_def];have e1:(1:Rat).num=1:=rfl;have e2:(1:Rat).den=1:=rfl;simp only[e1,e2];rw[show ((1:Int)*(r.den:Int))=((1*r.den:Nat):Int) by simp] at*;simpa using this
def acE{r:Rat}(h:Sh r):pM [.val (.gt [.int 1,.int 1]),.val (rq r)]= .ok (rq (1- r)):=by
 have hd:(r.den:Int)≠0:=by have:=r.den_nz;omega
 have f:=JA (1*r.den- r.num*1) (1*r.den) `À (by have:=h.s;refine Ē (show _<2^7 by omega) (Ń `Â `Â));have e:=V0 r;have a:cC (.gt [.int 1,.int 1]) (.int 0)= .ok (.int 1):=rfl;have b:cC (.gt [.int 1,.int 1]) (.int 1)= .ok (.int 1):=rfl;have c0:cC (rq r) (.int 0)= .ok (.int r.num):=rfl;have c1:cC (rq r) (.int 1)= .ok (.int r.den):=rfl;simp only[pM,pJ,cB];generalize rq r=d at*;simp[a,b,c0,c1] at f ⊢;simp at e;rw[f];rw[show (EU ((r.den:Int) - r.num) r.den)=(1- r).num from congrArg Prod.fst e,show (G4 ((r.den:Int) - r.num) r.den)=((1- r).den:Int) from congrArg Prod.snd e];rfl
def acL{c:Sp}(hc:c.ok){z:Int}(hz:W4 z):∃l:List (Int×Option Rat),l.Perm (lead c z)/\ja 1 tY (oD c) (.ok [.int z])= .ok (.l (l.map eL)):=by
 cases c with
 |e=>exact ⟨_,.refl _,rfl⟩
 |w=>exact ⟨_,.refl _,rfl⟩
 |b n=>exact ⟨_,.refl _,rfl⟩
 |f r=>exact ⟨_,.refl _,rfl⟩
 |m s=>
  refine ⟨_,.refl _,?_⟩;obtain ⟨x1,_⟩:=SX hz hc;have f:rB "slant" (.obj "Mirror" ["slant"] [.int s])= .ok (.int s):=by simp[rB]
  have:bX [.val (.obj "Mirror" ["slant"] [.int s]),.val (.int z)]= .new (.l [.tup [.int (xr z s),.gt [.int 1,.int 1]]]):=by simp only[bX,cO,cB];simp[f,x1,nt,ly]
  simp[ja,nh,tY,oD,ī,this,lead,eL,sD]
 |h s r=>
  obtain ⟨x1,_,x3,_⟩:=SX hz hc.1;have m:=acE hc.2;have f:rB "slant" (.obj "Half" ["slant","share"] [.int s,rq r])= .ok (.int s):=by simp[rB]
  have f2:rB "share" (.obj "Half" ["slant","share"] [.int s,rq r])= .ok (rq r):=by
   have:((("share":Str)=="slant")=false):=by decide+kernel
   simp[rB,ī,this]
  have n1:=Bu r;have n2:=Bu (1- r);have w0:z<xr z s\/xr z s<z:=by omega
  by_cases lt:z<xr z s
  ·refine ⟨[(z,some (1- r)),(xr z s,some r)],.swap _ _ _,?_⟩;have:bZ [.val (.obj "Half" ["slant","share"] [.int s,rq r]),.val (.int z)]= .new (.l [.tup [.int z,rq (1- r)],.tup [.int (xr z s),rq r]]):=by
    simp only[bZ,dh,cB];generalize D.obj "Half" ["slant","share"] [.int s,rq r]=o at*;generalize rq (1- r)=d1 at*;generalize rq r=d0 at*;have:z≠xr z s:=by omega
    simp[f,f2,x1,m,A1,Vh,ltT,this,lt,n1,n2]
   simp[ja,nh,tY,oD,ī,this,eL,sD]
  ·refine ⟨_,.refl _,?_⟩;have:bZ [.val (.obj "Half" ["slant","share"] [.int s,rq r]),.val (.int z)]= .new (.l [.tup [.int (xr z s),rq r],.tup [.int z,rq (1- r)]]):=by
    simp only[bZ,dh,cB];generalize D.obj "Half" ["slant","share"] [.int s,rq r]=o at*;generalize rq (1- r)=d1 at*;generalize rq r=d0 at*;have:z≠xr z s:=by omega
    simp[f,f2,x1,m,A1,Vh,ltT,this,lt,n1,n2]
   simp[ja,nh,tY,oD,ī,this,lead,eL,sD]
noncomputable def lv(x y v:Int):List Int:=if v=0 then [x+1,y,v] else if v=1 then [x,y- 1,v] else if v=2 then [x- 1,y,v] else [x,y+1,v]
def ahr(x y v:Int):dU [.val (.tup [.int x,.int y]),.val (.int v)]= .ok (tupI (lv x y v)):=by
 have e:=aeL x y v;simp only[dU,j5,cB];unfold lv;by_cases a:v=0
 ·rw[if_pos a] at e;rw[if_pos a];simp[e,cC,vJ,vA,tupI]
 ·by_cases b:v=1
  ·rw[if_neg a,if_pos b] at e;rw[if_neg a,if_pos b];simp[e,cC,vJ,vA,tupI]
  ·by_cases c:v=2
   ·rw[if_neg a,if_neg b,if_pos c] at e;rw[if_neg a,if_neg b,if_pos c];simp[e,cC,vJ,vA,tupI]
   ·rw[if_neg a,if_neg b,if_neg c] at e;simp[e,a,b,c,cC,vJ,vA,tupI]
def ahl(x y v:Int):∃a b,lv x y v=[a,b,v]:=by
 unfold lv;split
 ·exact ⟨_,_,rfl⟩
 ·split
  ·exact ⟨_,_,rfl⟩
  ·split<;>exact ⟨_,_,rfl⟩
def Zs{x y v:Int}(h:W4 v):nO (lv x y v)=[x,y,RG v]:=by rcases h with rfl|rfl|rfl|rfl<;>simp[lv,nO,bk,RG]
def aeK{x y z:Int}(h:W4 z):nO [x,y,z]=lv x y (RG z):=by rcases h with rfl|rfl|rfl|rfl<;>simp[lv,nO,bk,RG]
def XO{x y v x' y' v':Int}(h:W4 v)(h':W4 v')(e:lv x y v=lv x' y' v'):x=x'/\y=y'/\v=v':=by have:=congrArg nO e;rw[Zs h,Zs h'] at this;simp only[Ŗ,and_true] at this;refine ⟨this.1,this.2.1,?_⟩;rw[<-FT h,this.2.2,FT h']
def WC{α β:Type}(f:α->β):∀{l l':List β},l.Perm l'->∀m:List α,l'=m.map f->∃m':List α,m'.Perm m/\l=m'.map f:=by
 intro l l' h;induction h with
 |nil=>intro m e;exact ⟨m,.refl _,e⟩
 |cons x _ ih=>
  intro m e;cases m with
  |nil=>cases e
  |cons a m=>rw[ą,Ŗ] at e;obtain ⟨m',p,q⟩:=ih m e.2;exact ⟨a::m',p.cons a,by rw[ą, <-e.1, <-q]⟩
 |swap x y l=>
  intro m e;match m,e with
  |a::b::m,e=>simp only[ą,Ŗ] at e;exact ⟨b::a::m,.swap _ _ _,by simp only[ą];rw[e.1,e.2.1,e.2.2]⟩
 |trans _ _ ih1 ih2=>intro m e;obtain ⟨m1,p1,e1⟩:=ih2 m e;obtain ⟨m2,p2,e2⟩:=ih1 m1 e1;exact ⟨m2,p2.trans p1,e2⟩
abbrev PS:=List Int×Option Rat
def eP(a:PS):D:= .tup [tupI a.1,sD a.2]
def Xl(s:Option Rat):nt (sD s)=true/\nb (sD s)=true:=by
 cases s with
 |none=>simp[sD,nt,ly,nb,vp]
 |some r=>exact ⟨Bu r,Xr r⟩
theorem Xk:∀l:List PS,ly (l.map eP)=true
 |[]=>rfl
 |a::l=>by simp[eP,Am,Xl,Xk l]
theorem aek:∀{m:List PS},(∀a∈m,a.1.length=3)->p3s (m.map eP)=some (m.map (·.1))
 |[],_=>rfl
 |a::m,h=>by
  have h3:=h a (.head _);have ih:=aek λ b hb=>h b (.tail _ hb);have e:p3 (eP a)=some a.1:=by
   obtain ⟨k,s⟩:=a;match k,h3 with
   |[x,y,z],_=>rfl
  simp only[ą,p3s,e,ih]
def abz{m:List PS}(h3:∀a∈m,a.1.length=3)(hl:m.length<64)(nd:(m.map (·.1)).Nodup):∃m':List PS,m'.Perm m/\yt [.lst (m.map eP)]= .ok (m'.map eP):=by
 have z:(m.map (·.1)).zip (m.map eP)=m.map λ a=>(a.1,eP a):=by rw[List.zip_map']
 obtain ⟨m',p,e⟩:=WC (λ a:PS=>(a.1,eP a)) (sj ((m.map (·.1)).zip (m.map eP))) m z;refine ⟨m',p,?_⟩;show yr (m.map eP)=_;unfold yr;rw[aek h3];simp only;rw[if_pos ⟨by simpa using hl,nd⟩,e,ŋ];rfl
def Vn(rows:`Í)(x y:Int):Pt:=(En rows (x,y)).getD (x,y)
noncomputable def G(rows:`Í)(w h:Nat):List Int->List PS
 |[x,y,z]=>if pC w h x y=true then (lead (ce rows x y) z).map λ a=>(lv (Vn rows x y).1 (Vn rows x y).2 a.1,a.2) else []
 |_=>[]
def G3(rows:`Í)(w h:Nat)(x y z:Int):G rows w h [x,y,z]=if pC w h x y=true then (lead (ce rows x y) z).map λ a=>(lv (Vn rows x y).1 (Vn rows x y).2 a.1,a.2) else []:=rfl
def Gy{c:Sp}(hc:c.ok){z:Int}(hz:W4 z):(∀a∈lead c z,W4 a.1)/\((lead c z).map (·.1)).Nodup/\(lead c z).length<=2:=by
 cases c with
 |m s=>obtain ⟨_,x2,x3,_⟩:=SX hz hc;exact ⟨by simpa[lead] using x2,by simp[lead],by simp[lead]⟩
 |h s r=>obtain ⟨_,x2,x3,_⟩:=SX hz hc.1;exact ⟨by simp[lead,x2,hz],by simp[lead,x3],by simp[lead]⟩
 |_=>exact ⟨by simp[lead,hz],by simp[lead],by simp[lead]⟩
def alb{t:D}{rows:`Í}{w h:Nat}(T:Tb t rows w h){p:`Î}(hp:p∈DU w h):∃l:List PS,l.Perm (G rows w h p)/\g9 [.val t,.val (tupI p)]= .new (.l (l.map eP)):=by
 obtain ⟨x,y,z,rfl,hz0,hc0⟩:=jd.mp hp;have hz:W4 z:=by unfold W4;omega
 have e1:cI [.val t,.val (tupI [x,y,z])]= .ok .cU:=by rw[agV T,if_pos (GS.mpr ⟨hz0,hc0⟩)]
 have e2:=ahJ T x y z;have i0:cC (tupI [x,y,z]) (.int 0)= .ok (.int x):=rfl;have i1:cC (tupI [x,y,z]) (.int 1)= .ok (.int y):=rfl;have i2:cC (tupI [x,y,z]) (.int 2)= .ok (.int z):=rfl;rw[g9,iY,G3];by_cases i:pC w h x y=true
 ·rw[i] at e2;rw[if_pos i];have e3:=T.akN x y i;have e4:=T.Wi x y i;have ck:(ce rows x y).ok:=by
   have hb:=jJ.mp i;have hy:y.toNat<rows.length:=by rw[T.R.len];omega
   have hr:=T.R.row _ (ġ hy);have hx:x.toNat<rows[y.toNat].length:=by omega
   have:ce rows x y=rows[y.toNat][x.toNat]:=by simp[ce,hy,hx]
   rw[this];exact T.R.cell _ (ġ hy) _ (ġ hx)
  obtain ⟨l,pm,el⟩:=acL ck hz;obtain ⟨w4,nd,l2⟩:=Gy ck hz;generalize e:Vn rows x y=q;have cp:∀s0 s1:Slot,gi false (gc (aj 3)) 2 [2] (jh 2 (aY (aD 0) (aY (aD 1) kj))) mV (iG (ai (bK 2 dU (ai (aj 2) (ai (aj 0) az))) (ai (aj 1) az))) [s0,s1,.val (pD q),.val (.lst (l.map eL))]= .ok ((l.map λ a=>(lv q.1 q.2 a.1,a.2)).map eP):=λ s0 s1=>by
   have i:gc (aj 3) [s0,s1,.val (pD q),.val (.lst (l.map eL))]= .ok (l.map eL):=rfl;rw[nT,i,Res.bw,if_pos (by rw[ė,pm.length_eq];omega)];have b:uW false 2 [2] [s0,s1,.val (pD q),.val (.lst (l.map eL))]=[.no,.no,.val (pD q)]:=rfl;rw[b];have:∀l:List (Int×Option Rat),jY (E1 (jh 2 (aY (aD 0) (aY (aD 1) kj))) mV (iG (ai (bK 2 dU (ai (aj 2) (ai (aj 0) az))) (ai (aj 1) az))) [.no,.no,.val (pD q)]) (l.map eL)= .ok ((l.map λ a=>(lv q.1 q.2 a.1,a.2)).map eP):=by
    intro l;induction l with
    |nil=>rfl
    |cons a l ih=>
     have e:=ahr q.1 q.2 a.1;have n:=Xl a.2;have np:nt (pD q)=true:=(Xm q).1;rw[show D.tup [.int q.1,.int q.2]=pD q from rfl] at e;simp only[ą,jY,ih];have:E1 (jh 2 (aY (aD 0) (aY (aD 1) kj))) mV (iG (ai (bK 2 dU (ai (aj 2) (ai (aj 0) az))) (ai (aj 1) az))) [.no,.no,.val (pD q)] (eL a)= .ok (some (eP (lv q.1 q.2 a.1,a.2))):=by unfold eL eP;generalize pD q=d at*;generalize sD a.2=d2 at*;simp[E1,e,np]
     rw[this];rfl
   exact this l
  have pm2:=pm.map λ a=>(lv q.1 q.2 a.1,a.2);obtain ⟨m',p',es⟩:=abz (m:=l.map λ a=>(lv q.1 q.2 a.1,a.2)) (λ a ha=>by
   obtain ⟨b,_,rfl⟩:=Į.mp ha;obtain ⟨u,v,e⟩:=ahl q.1 q.2 b.1;simp[e]) (by rw[ė,pm.length_eq];omega) (by
   rw[ŋ];have nd':(l.map (·.1)).Nodup:=(pm.map (·.1)).nodup_iff.mpr nd;have w4':∀a∈l,W4 a.1:=λ a ha=>w4 a (pm.mem_iff.mp ha);exact (Ť.mpr ((Ť.mp nd').imp_of_mem λ ha hb hne e=>hne (XO (w4' _ ha) (w4' _ hb) e).2.2)))
  refine ⟨m',p'.trans pm2,?_⟩;have nn:=Xk m';have fin:∀s0 s1:Slot,Yb yt (ai (ze (gi false (gc (aj 3)) 2 [2] (jh 2 (aY (aD 0) (aY (aD 1) kj))) mV (iG (ai (bK 2 dU (ai (aj 2) (ai (aj 0) az))) (ai (aj 1) az))))) az) [s0,s1,.val (pD q),.val (.lst (l.map eL))]= .ok (m'.map eP):=λ s0 s1=>by rw[Aq,g5,rM,cp];simp only[Res.bw,mU];exact es
  generalize Yb yt (ai (ze (gi false (gc (aj 3)) 2 [2] (jh 2 (aY (aD 0) (aY (aD 1) kj))) mV (iG (ai (bK 2 dU (ai (aj 2) (ai (aj 0) az))) (ai (aj 1) az))))) az)=L at*;unfold Vn at e;cases en:En rows (x,y) with
  |none=>rw[en] at e e3;simp only[Ąc] at e;subst e;have Yr:HD .cU .cU= .ok (.bl true):=rfl;have d:pD (x,y)= .tup [.int x,.int y]:=rfl;rw[d] at fin;simp only[oP] at e3;simp only[cB];simp[e1,e2,i0,i1,i2,e3,Yr,e4,el,fin,nn]
  |some q'=>rw[en] at e e3;simp only[Ąg] at e;subst e;have Yr:HD (pD q') .cU= .ok (.bl false):=rfl;simp only[oP] at e3;simp only[cB];generalize pD q'=d at*;simp[e1,e2,i0,i1,i2,e3,Yr,e4,el,fin,nn]
 ·have i':pC w h x y=false:=by simpa using i
  rw[i'] at e2;rw[if_neg i];refine ⟨[],.refl _,?_⟩;simp only[cB];simp[e1,e2]
def Zh{rows:`Í}{w h:Nat}(R:Rw rows w h){x y:Int}(i:pC w h x y=true):(ce rows x y).ok:=by
 have hb:=jJ.mp i;have hy:y.toNat<rows.length:=by rw[R.len];omega
 have hr:=R.row _ (ġ hy);have hx:x.toNat<rows[y.toNat].length:=by omega
 have:ce rows x y=rows[y.toNat][x.toNat]:=by simp[ce,hy,hx]
 rw[this];exact R.cell _ (ġ hy) _ (ġ hx)
def akY{rows:`Í}{w h:Nat}(R:Rw rows w h)(T:p6 (Ej rows)){x y:Int}(i:pC w h x y=true):∃u v,Vn rows x y=(u,v)/\pC w h u v=true/\Vn rows u v=(x,y)/\ce rows u v=ce rows x y:=by
 cases q:xZ (ce rows x y) with
 |none=>
  have e:=aeA R T q;have e2:Vn rows x y=(x,y):=by unfold Vn;rw[e];rfl
  exact ⟨x,y,e2,i,e2,rfl⟩
 |some n=>
  have ec:ce rows x y= .b n:=by generalize ce rows x y=c at*;cases c<;>simp[xZ] at q;rw[q]
  obtain ⟨u,v,e1,e2,e3,e4⟩:=Y4 R T i ec;refine ⟨u,v,by unfold Vn;rw[e1];rfl,e3,by unfold Vn;rw[e2];rfl,by rw[e4,ec]⟩
def Uy{c:Sp}(hc:c.ok){z v:Int}{s:Option Rat}(hz:W4 z)(h:(v,s)∈lead c z):(RG z,s)∈lead c (RG v):=by
 cases c with
 |m a=>obtain ⟨_,_,_,x4⟩:=SX hz hc;simp only[lead,Ć,ķ,or_false,ŭ] at h ⊢;rw[h.1,h.2];exact ⟨x4.symm,rfl⟩
 |h a r=>
  obtain ⟨_,_,_,x4⟩:=SX hz hc.1;simp only[lead,Ć,ķ,or_false,ŭ] at h ⊢;rcases h with ⟨h1,h2⟩|⟨h1,h2⟩
  ·rw[h1,h2];exact .inl ⟨x4.symm,rfl⟩
  ·rw[h1,h2];exact .inr ⟨rfl,rfl⟩
 |w=>simp[lead] at h
 |_=>simp only[lead,Ć,ķ,or_false,ŭ] at h ⊢;rw[h.1,h.2];exact ⟨rfl,rfl⟩
def CA{w h:Nat}{p:`Î}(hp:p∈DU w h):nO p∈DU w h:=by obtain ⟨x,y,z,rfl,hz,hc⟩:=jd.mp hp;obtain ⟨u,v,t,e,ht,e2,_⟩:=qH (x:=x) (y:=y) hz;rw[e] at hc ⊢;exact jd.mpr ⟨u,v,t,rfl,ht,by rw[e2];exact hc.symm⟩
def Al{rows:`Í}{w h:Nat}(R:Rw rows w h)(T:p6 (Ej rows)){p q:`Î}{s:Option Rat}(hp:p∈DU w h)(hq:(q,s)∈G rows w h p):q∈DU w h/\(nO p,s)∈G rows w h (nO q):=by
 obtain ⟨x,y,z,rfl,hz0,hc0⟩:=jd.mp hp;have hz:W4 z:=by unfold W4;omega
 rw[G3] at hq;by_cases i:pC w h x y=true
 ·rw[if_pos i] at hq;obtain ⟨a,ha,e⟩:=Į.mp hq;obtain ⟨u,v,e1,e2,e3,e4⟩:=akY R T i;rw[e1] at e;simp only[ŭ] at e;obtain ⟨rfl,rfl⟩:=e;have w4:=(Gy (Zh R i) hz).1 a ha;have wo:=w4.RG;have b:=Zs (x:=u) (y:=v) w4;have hd:nO (lv u v a.1)∈DU w h:=by rw[b];exact jd.mpr ⟨u,v,_,rfl,by unfold W4 at wo;omega,.inl (by simpa[cin] using e2)⟩
  have dd:lv u v a.1∈DU w h:=by have:=CA hd;rw[b,aeK wo,FT w4] at this;exact this
  refine ⟨dd,?_⟩;rw[b,G3,if_pos e2,e3,e4,aeK hz];exact Į.mpr ⟨(RG z,a.2),Uy (Zh R i) hz ha,rfl⟩
 ·rw[if_neg i] at hq;cases hq
def aiQ{rows:`Í}{w h:Nat}(R:Rw rows w h){p:`Î}(hp:p∈DU w h):((G rows w h p).map (·.1)).Nodup/\(G rows w h p).length<=2:=by
 obtain ⟨x,y,z,rfl,hz0,hc0⟩:=jd.mp hp;have hz:W4 z:=by unfold W4;omega
 rw[G3];by_cases i:pC w h x y=true
 ·rw[if_pos i];obtain ⟨w4,nd,l2⟩:=Gy (Zh R i) hz;rw[ŋ,ė];exact ⟨Ť.mpr ((Ť.mp nd).imp_of_mem λ ha hb hne e=>hne (XO (w4 _ ha) (w4 _ hb) e).2.2),l2⟩
 ·rw[if_neg i];simp
noncomputable def gl(l:List PS):Lt:=l.map λ a=>(a.1,sV a.2)
noncomputable def tot:Lt->Rat
 |[]=>0
 |a::l=>a.2+tot l
noncomputable def SU(f:List Int->Rat):List (List Int)->Rat
 |[]=>0
 |p::l=>f p+SU f l
theorem AY(f:List Int->Lt)(q:`Î):∀l:List (List Int),fj (l.flatMap f) q=SU (λ p=>fj (f p) q) l
 |[]=>rfl
 |p::l=>by rw[ň,vR,AY f q l];rfl
theorem JP{f g:List Int->Rat}:∀{l:List (List Int)},(∀p∈l,f p=g p)->SU f l=SU g l
 |[],_=>rfl
 |p::l,h=>by simp only[SU];rw[h p (.head _),JP λ q hq=>h q (.tail _ hq)]
def adI{f:List Int->Rat}{l m:List (List Int)}(h:l.Perm m):SU f l=SU f m:=by
 induction h with
 |nil=>rfl
 |cons x _ ih=>simp only[SU];rw[ih]
 |swap x y l=>simp only[SU];rw[<-Ő,Ąq (f y),Ő]
 |trans _ _ a b=>exact a.trans b
theorem aaZ(f:List Int->Rat)(g:List Int->List Int):∀l:List (List Int),SU f (l.map g)=SU (λ p=>f (g p)) l
 |[]=>rfl
 |p::l=>by simp only[ą,SU];rw[aaZ f g l]
theorem aa0(f g:List Int->Rat):∀l:List (List Int),SU (λ p=>f p+g p) l=SU f l+SU g l
 |[]=>(Āg 0).symm
 |p::l=>by simp only[SU];rw[aa0 f g l,Ő,Ő, <-Ő (g p),Ąq (g p) (SU f l),Ő]
theorem Hu{f:List Int->Rat}:∀{l:List (List Int)},(∀p∈l,f p=0)->SU f l=0
 |[],_=>rfl
 |p::l,h=>by simp only[SU];rw[h p (.head _),Hu λ q hq=>h q (.tail _ hq),Āg]
theorem aaY(k:`Î)(r:Rat):∀{l:List (List Int)},l.Nodup->k∈l->SU (λ p=>if k=p then r else 0) l=r
 |p::l,nd,h=>by
  rw[ń] at nd;simp only[SU];rcases Ć.mp h with rfl|h
  ·rw[if_pos rfl,Hu (f:=λ p=>if k=p then r else 0) λ q hq=>if_neg λ z:k=q=>nd.1 (by rw[z];exact hq),Āg]
  ·rw[if_neg λ z:k=p=>nd.1 (by rw[<-z];exact h),aaY k r nd.2 h,ăg]
theorem aaX{D:List (List Int)}(nd:D.Nodup):∀{L:Lt},(∀a∈L,a.1∈D)->SU (λ p=>fj L p) D=tot L
 |[],_=>Hu λ _ _=>rfl
 |a::L,h=>by simp only[fj,tot];rw[aa0,aaY a.1 a.2 nd (h a (.head _)),aaX nd λ b hb=>h b (.tail _ hb)]
def Ib{L:Lt}{q:`Î}(h:∀a∈L,a.1≠q):fj L q=0:=by
 induction L with
 |nil=>rfl
 |cons a L ih=>simp only[fj];rw[if_neg (h a (.head _)),ih λ b hb=>h b (.tail _ hb),Āg]
theorem AX{q:`Î}{s:Option Rat}:∀{l:List PS},(l.map (·.1)).Nodup->(q,s)∈l->fj (gl l) q=sV s
 |a::l,nd,h=>by
  rw[ą,ń] at nd;show (if a.1=q then sV a.2 else 0)+fj (gl l) q=sV s;rcases Ć.mp h with rfl|h
  ·rw[if_pos rfl,Ib,Āg];intro b hb e;obtain ⟨c,hc,rfl⟩:=Į.mp hb;exact nd.1 (Į.mpr ⟨c,hc,e⟩)
  ·rw[if_neg λ z=>nd.1 (Į.mpr ⟨_,h,z.symm⟩),AX nd.2 h,ăg]
def XG{l:List PS}{q:`Î}(h:∀s,(q,s)∉l):fj (gl l) q=0:=Ib λ a ha e=>by obtain ⟨c,hc,rfl⟩:=Į.mp ha;exact h c.2 (by rw[<-e];exact hc)
def alS{rows:`Í}{w h:Nat}(R:Rw rows w h)(T:p6 (Ej rows)){p q:`Î}(hp:p∈DU w h)(hq:q∈DU w h):fj (gl (G rows w h p)) q=fj (gl (G rows w h (nO q))) (nO p):=by
 by_cases z:∃s,(q,s)∈G rows w h p
 ·obtain ⟨s,hs⟩:=z;rw[AX (aiQ R hp).1 hs,AX (aiQ R (CA hq)).1 (Al R T hp hs).2]
 ·rw[XG λ s hs=>z ⟨s,hs⟩,XG λ s hs=>z ⟨s,?_⟩];have:=(Al R T (CA hq) hs).2;rw[SI hp,SI hq] at this;exact this
noncomputable def EN(rows:`Í)(w h:Nat):Lt:=(DU w h).flatMap λ p=>gl (G rows w h p)
def aiq{rows:`Í}{w h:Nat}(R:Rw rows w h)(T:p6 (Ej rows)){q:`Î}(hq:q∈DU w h):fj (EN rows w h) q=tot (gl (G rows w h (nO q))):=by
 have nd:=(Sx w h).nodup;have pm:((DU w h).map nO).Perm (DU w h):=(List.perm_ext_iff_of_nodup (aep (λ p hp=>hp) nd) nd).mpr λ p=>by rw[Į];exact ⟨λ⟨q,hq,e⟩=>e▸CA hq,λ hp=>⟨nO p,CA hp,SI hp⟩⟩
 unfold EN;rw[AY,JP λ p hp=>alS R T hp hq, <-aaZ (λ p=>fj (gl (G rows w h (nO q))) p) nO,adI pm,aaX nd];intro a ha;obtain ⟨c,hc,rfl⟩:=Į.mp ha;exact (Al R T (CA hq) hc).1
def akk(rows:`Í)(w h:Nat)(x y z:Int):tot (gl (G rows w h [x,y,z]))=if pC w h x y=true then (match ce rows x y with
  | .w=>0
  | .f r=>r
  |_=>1) else 0:=by
 rw[G3];by_cases i:pC w h x y=true
 ·rw[if_pos i,if_pos i];cases ce rows x y with
  |h s r=>simp only[lead,ą,Ăa,gl,tot,sV];rw[Āg,Ąq,Rat.sub_add_cancel]
  |w=>rfl
  |_=>simp only[lead,ą,Ăa,gl,tot,sV];rw[Āg]
 ·rw[if_neg i,if_neg i];rfl
def aer{a b:Int}(ha:0<=a)(hb:1<=b)(hs:b.natAbs<2^9000):i9 [.val (.int a),.val (.int b)]= .ok (fq (EU a b,G4 a b)):=by
 have e:xB b (ľ a b)=(ľ a b:Int):=by unfold xB;rw[if_neg `À]
 simp only[i9];rw[if_pos ⟨ha,hb,hs⟩];unfold EU G4;rw[e];rfl
def ahh{x y:Int}{n m:Nat}(hx:x.natAbs<2^n)(hy:y.natAbs<2^m)(hn:n<=1000000)(hm:m<=1000000):ie (.int x) (.int y)= .ok (.int (x*y)):=BP _ _ (K3 hx hy (ģ hn `Â) (ģ hm `Â))
structure IsR(x:D)(r:Rat):Prop where
 i0:cC x (.int 0)= .ok (.int r.num)
 i1:cC x (.int 1)= .ok (.int (r.den:Int))
def Yq(r:Rat):IsR (rq r) r:=⟨rfl,rfl⟩
def U9{c k:Nat}{r:Rat}(h:Sz c k r):((r.den:Int)).natAbs<2^(7*k):=by simpa using h.bot
def al3{c k d j:Nat}{r s:Rat}(h:Sz c k r)(g:Sz d j s)(hk:k+j<=1200):((r.den:Int)*s.den).natAbs<2^9000:=by rw[ăn];exact Ē (Gk (U9 h) (U9 g)) (Ń `Â `À)
def acH{x y:D}{r s:Rat}{c d k j:Nat}(hx:IsR x r)(hy:IsR y s)(h:Sz c k r)(g:Sz d j s)(hk:k+j<=1200)(hc:c<=1000)(hd:d<=1000):k7 [.val x,.val y]= .ok (rq (r+s)):=by have m1:=ahh h.top (U9 g) `À `À;have m2:=ahh g.top (U9 h) `À `À;have m3:=ahh (U9 h) (U9 g) `À `À;have f:=aer (a:=r.num*s.den+s.num*r.den) (b:=(r.den:Int)*s.den) (Int.add_nonneg (Ăi h.nn `À) (Ăi g.nn `À)) (ąy (dpos r) (dpos s)) (al3 h g hk);simp only[k7,mW,cB];simp[hx.i0,hx.i1,hy.i0,hy.i1,m1,m2,m3,f];rw[Zx r s];rfl
noncomputable def JT(l:Lt):List (List gO):=l.map λ p=>p.1.map Sum.inl
def Vm(l:Lt):List D:=l.map λ p=>rq p.2
def GV{a b:`Î}:(a.map (Sum.inl:Int->gO)=b.map Sum.inl)↔ a=b:=by
 constructor
 ·intro h;exact List.map_inj_right (λ x y z=>Sum.inl.inj z)|>.mp h
 ·rintro rfl;rfl
theorem EH:∀k:List Int,Cc (k.map D.int)=some (k.map Sum.inl)
 |[]=>rfl
 |x::k=>by simp[Cc,Ln,EH k]
def Lm(k:`Î):Jf (tupI k)=some (k.map Sum.inl):=EH k
def adT(d:Lt):(JT d).zip (Vm d)=d.map λ p=>(p.1.map Sum.inl,rq p.2):=by simp[JT,Vm,List.zip_map',Ăj]
def YK:∀(d:Lt) (k:`Î),nK (JT d) (Vm d) (k.map Sum.inl)=(zZ d k).map rq:=by
 intro d k;unfold nK;rw[adT];induction d with
 |nil=>rfl
 |cons p d ih=>
  rw[lG,ą,Ĭ];by_cases h:p.1=k
  ·simp[h]
  ·have:¬(p.1.map (Sum.inl:Int->gO)=k.map Sum.inl):=λ z=>h (GV.mp z);simp only[this,decide_false,h,if_false];exact ih
def aeM(d:Lt)(k:`Î):((JT d).any λ n=>decide (n=k.map Sum.inl))=d.any λ p=>decide (p.1=k):=by simp only[JT,List.any_map,Ăj,GV]
def abH(d:Lt)(k:`Î)(r:Rat):vU (JT d) (k.map Sum.inl)=JT (pN d k r):=by
 unfold vU pN;rw[aeM];split
 ·simp only[JT,ŋ];apply Āi;intro p _;simp only[ăz];split<;>rfl
 ·simp[JT]
def abG(d:Lt)(k:`Î)(r:Rat):A3 (JT d) (Vm d) (k.map Sum.inl) (rq r)=Vm (pN d k r):=by
 unfold A3 pN;rw[aeM];split
 ·rw[adT];simp only[Vm,ŋ];apply Āi;intro p _;simp only[ăz,GV];split<;>rfl
 ·simp[Vm]
def al4(r:Rat):dn (rq r)=rq r:=by simp[rq,fq,dn,xP]
def XF{d:Lt}{k:`Î}{v:Rat}{p:List Int×Rat}(h:p∈pN d k v):p∈d\/p.2=v/\p.1=k:=by
 unfold pN at h;split at h
 ·obtain ⟨q,hq,e⟩:=Į.mp h;by_cases hk:q.1=k
  ·rw[if_pos hk] at e;subst e;exact .inr ⟨rfl,hk⟩
  ·rw[if_neg hk] at e;subst e;exact .inl hq
 ·rcases İ.mp h with h|h
  ·exact .inl h
  ·simp at h;subst h;exact .inr ⟨rfl,rfl⟩
def XW(d:Lt)(k:`Î)(v:Rat):(pN d k v).length<=d.length+1:=by unfold pN;split<;>simp
def AV(d:Lt)(k:`Î):(zZ d k=none/\jc d k=0)\/∃p∈d,zZ d k=some p.2/\jc d k=p.2:=by
 unfold jc zZ;cases h:d.find? λ p=>decide (p.1=k) with
 |none=>exact .inl ⟨rfl,rfl⟩
 |some p=>exact .inr ⟨p,List.mem_of_find?_eq_some h,rfl,rfl⟩
noncomputable def zt:D:= .tup [.int 0,.int 1]
def VZ{d:Lt}{c m:Nat}(h:∀p∈d,Sz c m p.2)(hm:1<=m)(k:`Î):Sz c m (jc d k):=by
 rcases AV d k with ⟨_,h2⟩|⟨p,hp,_,h2⟩
 ·rw[h2];exact Sz.zero.mono (Ĉ _) hm
 ·rw[h2];exact h p hp
def dR(d:Lt):M:= .k (.t (JT d)) (Vm d)
def agE{d:Lt}{k:`Î}{v:Rat}(hl:d.length<1000000):uN (k.map Sum.inl) (rq v) (dR d)=some (dR (pN d k v)):=by simp only[dR,uN];rw[if_pos ⟨Bu v,by simpa[JT] using hl⟩,abH d k v,abG]
def YI(d:Lt)(k:`Î):((zZ d k).map rq).getD zt=rq (jc d k):=by
 rcases AV d k with ⟨h1,h2⟩|⟨p,_,h1,h2⟩
 ·rw[h1,h2];rfl
 ·rw[h1,h2];rfl
def ahF(s:Option Rat):IsR (sD s) (sV s):=by
 cases s with
 |none=>exact ⟨rfl,rfl⟩
 |some r=>exact Yq r
def agp{d:Lt}{k:`Î}{r:Rat}{c m:Nat}(hd:∀p∈d,Sz c m p.2)(hr:Sz c 1 r)(hm:1<=m):∀p∈pN d k (jc d k+r),Sz c (m+1) p.2:=by
 intro p hp;rcases XF hp with h|h
 ·exact (hd p h).mono (Ĉ _) `À
 ·rw[h.1];exact (VZ hd hm k).add hr hm (Ĉ _)
def agq:Sz 0 1 1:=⟨by decide,by decide,by decide⟩
def Sh.sz{r:Rat}(h:Sh r):Sz 0 1 r/\Sz 0 1 (1- r):=by
 have t0:=h.t0;have tb:=h.tb;have s:=h.s;have h7:r.num.natAbs<2^(8*1+0):=Ē (show r.num.natAbs<128 by omega) `Â;refine ⟨⟨by omega,h7,h.s⟩,?_⟩;have e:=V0 r;rw[show (1:Int)*r.den- r.num*1=r.den- r.num by omega,Int.one_mul] at e;have hb:(r.den:Int)≠0:=by omega
 refine ⟨Xh e `À `À,?_,?_⟩
 ·exact ĸ (Xi e hb) (Ē (show _<128 by omega) `Â)
 ·exact ĸ (LG e hb) (by simpa using s)
def acM{c:Sp}(hc:c.ok){z:Int}:∀a∈lead c z,Sz 0 1 (sV a.2):=by
 intro a ha;cases c with
 |h s r=>
  simp only[lead,Ć,ķ,or_false] at ha;rcases ha with rfl|rfl
  ·exact (Sh.sz hc.2).1
  ·exact (Sh.sz hc.2).2
 |f r=>simp only[lead,Ć,ķ,or_false] at ha;subst ha;exact (Sh.sz hc).1
 |w=>simp[lead] at ha
 |_=>simp only[lead,Ć,ķ,or_false] at ha;subst ha;exact agq
def amU{rows:`Í}{w h:Nat}(R:Rw rows w h){p:`Î}(hp:p∈DU w h):∀a∈G rows w h p,Sz 0 1 (sV a.2):=by
 obtain ⟨x,y,z,rfl,hz0,hc0⟩:=jd.mp hp;intro a ha;rw[G3] at ha;by_cases i:pC w h x y=true
 ·rw[if_pos i] at ha;obtain ⟨b,hb,rfl⟩:=Į.mp ha;exact acM (Zh R i) b hb
 ·rw[if_neg i] at ha;cases ha
def Kq{l m:Lt}(h:l.Perm m)(q:`Î):fj l q=fj m q:=by
 induction h with
 |nil=>rfl
 |cons x _ ih=>simp only[fj];rw[ih]
 |swap x y l=>simp only[fj];rw[<-Ő,Ąq (if y.1=q then y.2 else 0),Ő]
 |trans _ _ a b=>exact a.trans b
theorem JD:∀k:List Int,Ąa (C6 (k.map D.int)) (C6 (k.map D.int))=true
 |[]=>by simp[C6,Ąa]
 |x::k=>by simp[C6,py,Ąk,Ąa,JD k]
def aie(a:PS):LF (eP a) (eP a)=true:=by obtain ⟨k,s⟩:=a;have:=JD k;cases s<;>simp[LF,eP,sD,rq,fq,tupI,py,C6,Ąk,Ąa,this]
def Xc(a:PS)(n:Nat):jb (n+3) (eP a)=true:=by obtain ⟨k,s⟩:=a;cases s<;>simp[jb,eP,sD,rq,fq,tupI]
def acm{a:PS}{l:List PS}(h:a∈l):vo (eP a) (.lst (l.map eP))= .ok (.bl false):=by
 have e1:jb 12 (.lst (l.map eP))=true:=by simp only[jb,List.all_map,Ĳ,ăz];exact λ b _=>Xc b 8
 have e2:((l.map eP).any λ d=>LF d (eP a))=true:=List.any_eq_true.mpr ⟨eP a,Į.mpr ⟨a,h,rfl⟩,aie a⟩;show (if jb 12 (eP a)=true/\jb 12 (.lst (l.map eP))=true then Res.ok (D.bl (!(l.map eP).any λ d=>LF d (eP a))) else .bad)=_;rw[if_pos ⟨Xc a 9,e1⟩,e2];rfl
section
variable{t:D}{rows:`Í}{w h:Nat}(T:Tb t rows w h)
include T
def ala{s0 s2 s7 s8 s9:Slot}{d:Lt}{m:Nat}{p q:`Î}{s:Option Rat}(hp:p∈DU w h)(hq:(q,s)∈G rows w h p)(hd:∀p∈d,Sz 0 m p.2)(hm:1<=m)(hm2:m<=1199)(hl:d.length<1000000):
  Ae 0 [s0,.val t,s2,.own (dR d),.val (tupI p),.val (tupI q),.val (sD s),s7,s8,s9]= .nx [s0,.val t,s2,.own (dR (pN d q (jc d q+sV s))),.val (tupI p),.val (tupI q),.val (sD s),s7,s8,s9]:=by
 obtain ⟨dq,mq⟩:=Al T.R T.two hp hq;have b1:=Hq hp;have b2:=Hq dq;obtain ⟨l,pm,eg⟩:=alb T (CA dq);have ni:=acm (pm.mem_iff.mpr mq);have sz:=amU T.R hp _ hq;have e:=acH (Yq (jc d q)) (ahF s) (VZ hd hm q) sz `À `Â `Â;have p0:=agE (k:=q) (v:=jc d q+sV s) hl;have e0:lend (dR d)= .uF true (.t (JT d)) (Vm d):=by simp[dR,lend]
 have e1:ES (.uF true (.t (JT d)) (Vm d)) (tupI q) zt= .ok (rq (jc d q)):=by simp only[ES,Vt,Lm,YK,YI]
 have kq:=Lm q;have ns:=Xl s;have dsd:dn (sD s)=sD s:=aeB _ ns.2;have drq:=al4 (jc d q);have nbr:=Xr (jc d q+sV s);have ni':vo (.tup [tupI (nO p),sD s]) (.lst (l.map eP))= .ok (.bl false):=ni;have zz:D.tup [.int 0,.int 1]=zt:=rfl;clear ni;generalize tupI p=dp at*;generalize tupI q=dq' at*;generalize sD s=ds at*;generalize tupI (nO p)=bp at*;generalize tupI (nO q)=bq at*;generalize l.map eP=dl at*;have s1:uM (dT (aH vo (iG (ai (bz 1 b7 (ai (aj 4) az)) (ai (aj 6) az))) (bz 2 g9 (ai (aj 1) (ai (bz 1 b7 (ai (aj 5) az)) az))))) (gj (dC (.bl false))) dW [s0,.val t,s2,.own (dR d),.val dp,.val dq',.val ds,s7,s8,s9]= .nx [s0,.val t,s2,.own (dR d),.val dp,.val dq',.val ds,s7,s8,s9]:=by simp[b1,b2,eg,ni']
 have e2:(pX 2 k7 (ai (xR (ju 3) (aj 5) (iG (ai (dC (.int 0)) (ai `Ì az)))) (ai (aj 6) az))) [s0,.val t,s2,.own (dR d),.val dp,.val dq',.val ds,s7,s8,s9]= .ok (rq (jc d q+sV s)):=by
  have g:xR (ju 3) (aj 5) (iG (ai (dC (.int 0)) (ai `Ì az))) [s0,.val t,s2,.own (dR d),.val dp,.val dq',.val ds,s7,s8,s9]= .ok (rq (jc d q)):=by rw[<-e1];simp[xR,e0,Vt,zt]
  simp only[LH,g5,g];simp[xP,drq,dsd,e,nbA,nbr]
 rw[Ae,bN,s1,cT];simp only[Ei,e2];simp[om,kq,xY,p0]
include T
theorem ad4{s0 s2 s7 s8 s9:Slot}{p:`Î}(hp:p∈DU w h):∀(l:List PS) (d:Lt) (m:Nat) (s5 s6:Slot),(∀a∈l,a∈G rows w h p)->(∀p∈d,Sz 0 m p.2)->1<=m->m+l.length<=1200->d.length<=m->∃t5 t6,gf (jh 2 (aY (aD 5) (aY (aD 6) kj))) (Ae 0) (l.map eP) [s0,.val t,s2,.own (dR d),.val (tupI p),s5,s6,s7,s8,s9]= .nx [s0,.val t,s2,.own (dR (YM d (gl l))),.val (tupI p),t5,t6,s7,s8,s9]/\(∀p∈YM d (gl l),Sz 0 (m+l.length) p.2)/\(YM d (gl l)).length<=m+l.length
 |[],d,m,s5,s6,_,hd,_,_,hl=>⟨s5,s6,rfl,hd,hl⟩
 |a::l,d,m,s5,s6,ha,hd,hm,hs,hl=>by simp only[Ė] at hs;have st:=ala T (s0:=s0) (s2:=s2) (s7:=s7) (s8:=s8) (s9:=s9) (q:=a.1) (s:=a.2) hp (ha a (.head _)) hd hm `À `À;have ln:=XW d a.1 (jc d a.1+sV a.2);have sz:=agp (k:=a.1) hd (amU T.R hp a (ha a (.head _))) hm;obtain ⟨t5,t6,e,z1,z2⟩:=ad4 hp l (pN d a.1 (jc d a.1+sV a.2)) (m+1) (.val (tupI a.1)) (.val (sD a.2)) (λ b hb=>ha b (.tail _ hb)) sz `À `À `À;have eg:YM d (gl (a::l))=YM (pN d a.1 (jc d a.1+sV a.2)) (gl l):=rfl;rw[eg,Ė,show m+(l.length+1)=m+1+l.length by omega];refine ⟨t5,t6,?_,z1,z2⟩;rw[<-e,ą];simp only[gf,eP];simp[st]
theorem Sv{s0 s2 s7 s8 s9:Slot}:∀(ps:List (List Int)) (d:Lt) (m:Nat) (s4 s5 s6:Slot),(∀p∈ps,p∈DU w h)->(∀p∈d,Sz 0 m p.2)->1<=m->m+2*ps.length<=1200->d.length<=m->∃d' t4 t5 t6,gf (aD 4) (Ad 0) (ps.map tupI) [s0,.val t,s2,.own (dR d),s4,s5,s6,s7,s8,s9]= .nx [s0,.val t,s2,.own (dR d'),t4,t5,t6,s7,s8,s9]/\∀q,jc d' q=jc d q+fj (ps.flatMap λ p=>gl (G rows w h p)) q
 |[],d,m,s4,s5,s6,_,_,_,_,_=>⟨d,s4,s5,s6,rfl,λ q=>(Āg _).symm⟩
 |p::ps,d,m,s4,s5,s6,hps,hd,hm,hs,hl=>by
  simp only[Ė] at hs;have hp:=hps p (.head _);obtain ⟨l,pm,eg⟩:=alb T hp;have l2:=(aiQ T.R hp).2;have ll:=pm.length_eq;obtain ⟨t5,t6,e1,z1,z2⟩:=ad4 T (s0:=s0) (s2:=s2) (s7:=s7) (s8:=s8) (s9:=s9) hp l d m s5 s6 (λ a ha=>pm.mem_iff.mp ha) hd hm `À hl;obtain ⟨d',u4,u5,u6,e2,v⟩:=Sv (s0:=s0) (s2:=s2) (s7:=s7) (s8:=s8) (s9:=s9) ps (YM d (gl l)) (m+l.length) (.val (tupI p)) t5 t6 (λ q hq=>hps q (.tail _ hq)) z1 `À `À z2;refine ⟨d',u4,u5,u6,?_,λ q=>?_⟩
  ·rw[<-e2];have st:Ad 0 [s0,.val t,s2,.own (dR d),.val (tupI p),s5,s6,s7,s8,s9]= .nx [s0,.val t,s2,.own (dR (YM d (gl l))),.val (tupI p),t5,t6,s7,s8,s9]:=by rw[<-e1,Ad];generalize tupI p=dp at*;simp[iL,eg]
   simp only[ą,gf];simp[st]
  ·have pe:fj (gl l) q=fj (gl (G rows w h p)) q:=Kq (pm.map _) q;rw[v q,Sn,ň,vR,pe,Ő]
noncomputable def Cs:Sp->Bool
 | .w=>false
 | .f _=>false
 |_=>true
omit T in
def ahE(c:Sp):zX mt ["Wall","Filter"] (oD c)= .ok (.bl (!Cs c)):=by cases c<;>simp[zX,kinds,mt,oD,Cs,ī]
def ahX{p:`Î}(hp:p∈DU w h){u v s:Int}(e:nO p=[u,v,s]):mZ [.val t,.val (tupI p)]= .ok (if pC w h u v=true then .bl (Cs (ce rows u v)) else .cU):=by
 have b1:=Hq hp;rw[e] at b1;have i0:cC (tupI [u,v,s]) (.int 0)= .ok (.int u):=rfl;have i1:cC (tupI [u,v,s]) (.int 1)= .ok (.int v):=rfl;have ew:=T.rw;have eh:=T.rh;generalize tupI [u,v,s]=db at*;generalize tupI p=dp at*;simp only[mZ,mX,cB];by_cases i:pC w h u v=true
 ·rw[if_pos i];have hb:=jJ.mp i;have e3:=T.akN u v i;have e4:=T.Wi u v i;have iw:=ahE (ce rows u v);cases q:Cs (ce rows u v) with
  |false=>rw[q] at iw;generalize oD (ce rows u v)=dc at*;generalize oP (En rows (u,v))=de at*;simp[b1,i0,i1,fM,hb.1.1,hb.1.2,hb.2.1,hb.2.2,ew,eh,e3,e4,iw]
  |true=>
   rw[q] at iw;cases q2:En rows (u,v) with
   |none=>rw[q2] at e3;simp only[oP] at e3;have Yr:HD .cU .cU= .ok (.bl true):=rfl;generalize oD (ce rows u v)=dc at*;simp[b1,i0,i1,fM,hb.1.1,hb.1.2,hb.2.1,hb.2.2,ew,eh,e3,e4,iw,Yr]
   |some a=>
    have nn:xZ (ce rows u v)≠none:=λ z=>by rw[aeA T.R T.two z] at q2;cases q2
    obtain ⟨n,hn⟩:=Option.ne_none_iff_exists'.mp nn;have ec:ce rows u v= .b n:=by generalize ce rows u v=c at*;cases c<;>simp[xZ] at hn;rw[hn]
    obtain ⟨x,y,e5,_,e7,e8⟩:=Y4 T.R T.two i ec;rw[q2] at e5;cases e5;rw[q2] at e3;simp only[oP] at e3;have Yr:HD (pD (x,y)) .cU= .ok (.bl false):=rfl;have j0:cC (pD (x,y)) (.int 0)= .ok (.int x):=rfl;have j1:cC (pD (x,y)) (.int 1)= .ok (.int y):=rfl;have e6:=T.Wi x y e7;have i5:=Se (ce rows x y);rw[e8] at i5 e6;generalize oD (ce rows u v)=dc at*;generalize oD (.b n)=dn at*;generalize pD (x,y)=dq at*;simp[b1,i0,i1,fM,hb.1.1,hb.1.2,hb.2.1,hb.2.2,ew,eh,e3,e4,iw,Yr,j0,j1,e6,i5,xZ]
 ·rw[if_neg i];have hb:¬((0<=u/\u<w)/\0<=v/\v<h):=λ z=>i (jJ.mpr z);by_cases a1:0<=u
  ·by_cases a2:u<w
   ·by_cases a3:0<=v
    ·by_cases a4:v<h
     ·exact absurd ⟨⟨a1,a2⟩,a3,a4⟩ hb
     ·simp[b1,i0,i1,fM,a1,a2,a3,a4,ew,eh]
    ·simp[b1,i0,i1,fM,a1,a2,a3,ew,eh]
   ·simp[b1,i0,i1,fM,a1,a2,ew,eh]
  ·simp[b1,i0,i1,fM,a1,ew,eh]
def abx{s0 s2 s5 s6 s7 s8 s9:Slot}{d:Lt}(hv:∀q∈DU w h,jc d q=tot (gl (G rows w h (nO q)))){p:`Î}(hp:p∈DU w h):
  ∃t7 t8 t9,Ac 0 [s0,.val t,s2,.own (dR d),.val (tupI p),s5,s6,s7,s8,s9]= .nx [s0,.val t,s2,.own (dR d),.val (tupI p),s5,s6,t7,t8,t9]:=by
 obtain ⟨x,y,z,rfl,hz,_⟩:=jd.mp hp;obtain ⟨u,v,s,eb,ht,_⟩:=qH (x:=x) (y:=y) hz;have hr:=hv _ hp;rw[eb,akk] at hr;have fu:=ahX T hp eb;have e0:lend (dR d)= .uF true (.t (JT d)) (Vm d):=by simp[dR,lend]
 have e1:ES (.uF true (.t (JT d)) (Vm d)) (tupI [x,y,z]) zt= .ok (rq (jc d [x,y,z])):=by simp only[ES,Vt,Lm,YK,YI]
 have kr:rq (jc d [x,y,z])= .tup [.int (jc d [x,y,z]).num,.int (jc d [x,y,z]).den]:=rfl;generalize jc d [x,y,z]=r at*;generalize tupI [x,y,z]=dp at*;have g:∀s9,xR (ju 3) (aj 4) (iG (ai (dC (.int 0)) (ai `Ì az))) [s0,.val t,s2,.own (dR d),.val dp,s5,s6,s7,s8,s9]= .ok (.tup [.int r.num,.int r.den]):=λ s9=>by rw[<-kr, <-e1];simp[xR,e0,Vt,zt]
 refine ⟨.val (.int r.num),.val (.int r.den),.val (if pC w h u v=true then .bl (Cs (ce rows u v)) else .cU),?_⟩;have s1:Rv (xR (ju 3) (aj 4) (iG (ai (dC (.int 0)) (ai `Ì az)))) (jh 2 (aY (aD 7) (aY (aD 8) kj))) [s0,.val t,s2,.own (dR d),.val dp,s5,s6,s7,s8,s9]= .nx [s0,.val t,s2,.own (dR d),.val dp,s5,s6,.val (.int r.num),.val (.int r.den),s9]:=by unfold Rv;rw[g];simp
 rw[Ac,bN,s1,cT];by_cases i:pC w h u v=true
 ·rw[if_pos i] at hr fu ⊢;have Yr:∀b,HD (.bl b) .cU= .ok (.bl false):=λ _=>rfl;have is1:∀b,ER (.bl b) .cU= .ok (.bl true):=λ _=>rfl;have nb:∀a b:Bool,RN (.bl a) (.bl b)= .ok (.bl (a !=b)):=λ a b=>by cases a<;>cases b<;>rfl
  have ck:=Zh T.R i;have fin:Cs (ce rows u v)=decide (r.num=(r.den:Int))/\¬(r.den:Int)<r.num:=by
   generalize ce rows u v=c at*;cases c with
   |w=>subst hr;exact ⟨by decide,by decide⟩
   |f a=>simp only at hr;subst hr;have:=ck.tb;exact ⟨by rw[show Cs (.f r)=false from rfl];symm;rw[decide_eq_false_iff_not];omega,by omega⟩
   |_=>have h1:r=1:=hr;subst h1;exact ⟨rfl,by decide⟩
  simp[fu,Yr,is1,fin.1,fin.2,nb]
 ·rw[if_neg i] at hr fu ⊢;have Yr:HD .cU .cU= .ok (.bl true):=rfl;have is1:ER .cU .cU= .ok (.bl false):=rfl;subst hr;simp[fu,Yr,is1]
theorem Ih{s0 s2:Slot}{d:Lt}(hv:∀q∈DU w h,jc d q=tot (gl (G rows w h (nO q)))):∀(ps:List (List Int)) (s4 s5 s6 s7 s8 s9:Slot),(∀p∈ps,p∈DU w h)->∃Γ,gf (aD 4) (Ac 0) (ps.map tupI) [s0,.val t,s2,.own (dR d),s4,s5,s6,s7,s8,s9]= .nx Γ
 |[],s4,s5,s6,s7,s8,s9,_=>⟨_,rfl⟩
 |p::ps,s4,s5,s6,s7,s8,s9,hp=>by obtain ⟨t7,t8,t9,st⟩:=abx T (s0:=s0) (s2:=s2) (s5:=s5) (s6:=s6) (s7:=s7) (s8:=s8) (s9:=s9) hv (hp p (.head _));obtain ⟨Γ,e⟩:=Ih (s0:=s0) (s2:=s2) hv ps (.val (tupI p)) s5 s6 t7 t8 t9 λ q hq=>hp q (.tail _ hq);refine ⟨Γ,?_⟩;rw[<-e];simp only[ą,gf];simp[st]
end
def ahq{w h:Nat}(hw:w<=8)(hh:h<=12):(DU w h).length<=560:=by refine ģ (ŵ _ _) ?_;rw[Gx];exact ģ (Āq (show w+2<=10 by omega) (Āq (show h+2<=14 by omega) (Ĉ 4))) `Â
def alA{t:D}{rows:`Í}{w h:Nat}(T:Tb t rows w h)(hw:w<=8)(hh:h<=12){dz:D}(e:g8 [.val dz]= .ok t):uY [.val dz]= .ok (.bl true):=by
 have ap:=aiw T `À `À;have ld:=ahq hw hh;obtain ⟨d,t4,t5,t6,e1,v⟩:=Sv T (s0:= .val dz) (s2:= .val (.lst ((DU w h).map tupI))) (s7:= .no) (s8:= .no) (s9:= .no) (DU w h) [] 1 .no .no .no (λ _ hp=>hp) (λ _ z=>nomatch z) `Â `À `Ó;obtain ⟨Γ,e2⟩:=Ih T (s0:= .val dz) (s2:= .val (.lst ((DU w h).map tupI))) (d:=d) (λ q hq=>by rw[v q, <-aiq T.R T.two hq];exact ăg _) (DU w h) t4 t5 t6 .no .no .no λ _ hp=>hp;have n0:yI (.k (.t []) [])=true:=by simp[yI]
 have d0:M.k (.t []) []=dR []:=rfl;rw[uY,CK,show cB aeq [.val dz]=[.val dz,.no,.no,.no,.no,.no,.no,.no,.no,.no] from rfl];generalize (DU w h).map tupI=L at*;have s1:iF 1 (bz 1 g8 (ai (aj 0) az)) [.val dz,.no,.no,.no,.no,.no,.no,.no,.no,.no]= .nx [.val dz,.val t,.no,.no,.no,.no,.no,.no,.no,.no]:=by simp[e]
 have s2:iF 2 (bz 1 dD (ai (aj 1) az)) [.val dz,.val t,.no,.no,.no,.no,.no,.no,.no,.no]= .nx [.val dz,.val t,.val (.lst L),.no,.no,.no,.no,.no,.no,.no]:=by simp[ap]
 have s3:uL 3 (λ _=> .ok (.k (.t []) [])) [.val dz,.val t,.val (.lst L),.no,.no,.no,.no,.no,.no,.no]= .nx [.val dz,.val t,.val (.lst L),.own (dR []),.no,.no,.no,.no,.no,.no]:=by rw[Eh,ql,if_pos n0];rfl
 have i1:∀s3 s4 s5 s6 s7 s8 s9:Slot,gc (aj 2) [.val dz,.val t,.val (.lst L),s3,s4,s5,s6,s7,s8,s9]= .ok L:=λ _ _ _ _ _ _ _=>rfl;rw[bN,s1,cT,bN,s2,cT,bN,s3,cT,bN,iL,i1,ql,e1,cT,bN,iL,i1,ql,e2,cT];rfl
def abE(c:Int):∃r,Sh r/\i7 [.val (.int c)]= .ok (rq r):=by
 have hb:=fm c 96 `Â;have ht:=fm (c.fdiv 96) (2+c.fmod 96- 1) `À;have m1:nI (.int (c.fdiv 96)) (.int (2+c.fmod 96- 1))= .ok (.int ((c.fdiv 96).fmod (2+c.fmod 96- 1))):=qo _ _ `À;obtain ⟨b,eb⟩:∃b:Nat,(b:Int)=2+c.fmod 96:=⟨(2+c.fmod 96).toNat,by omega⟩;generalize (c.fdiv 96).fmod (2+c.fmod 96- 1)=u at*;have b0:b≠0:=by omega
 have lo:=aer (a:=1+u) (b:=(b:Int)) `À `À (by have:b<2^64:=Ē (show b<128 by omega) `Â;simpa using aoN this);have e:=F4 (1+u) b b0;refine ⟨ąd (1+u) b b0,?_,?_⟩
 ·have g1:=G1 (1+u) b;have g2:=Su (1+u) b;rw[LA e] at g1;rw[V6 e] at g2;have gd:0<xB (b:Int) (ľ (1+u) b):=by have:=Sl (t:=1+u) (b:=(b:Int)) `À;unfold xB;rw[if_neg `À];omega
  have dl:=LG e `À;generalize ąd (1+u) b b0=r at*;generalize xB (b:Int) (ľ (1+u) b)=g at*;refine ⟨?_,?_,?_⟩
  ·exact Int.lt_of_not_ge λ z=>by have:=Ăi (show 0<= -r.num by omega) (show 0<=g by omega);rw[Int.neg_mul] at this;omega
  ·exact Int.lt_of_not_ge λ z=>by have:=Int.mul_le_mul_of_nonneg_right z (show 0<=g by omega);omega
  ·have:((b:Nat):Int).natAbs=b:=by simp
   omega
 ·rw[eb] at lo e;simp only[i7,iX,cB];simp[m1,lo];rw[e];rfl
def acD(c:Int):∃x,i8 [.val (.int c)]= .ok (.int x):=⟨_,by simp only[i8,kc,cB];simp;rfl⟩
def ady(c:Int):∃s:Sp,s.ok/\xZ s=none/\nQ [.val (.int c)]= .ok (oD s):=by
 have h2:=fm (c.fdiv 13) 2 `Â;have hs:∃s:Int,(s=1\/s=3)/\cC (.lst [.int 1,.int 3]) (.int ((c.fdiv 13).fmod 2))= .ok (.int s):=by
  have:(c.fdiv 13).fmod 2=0\/(c.fdiv 13).fmod 2=1:=by omega
  rcases this with q|q<;>rw[q]
  ·exact ⟨1,.inl rfl,rfl⟩
  ·exact ⟨3,.inr rfl,rfl⟩
 obtain ⟨s,hs,es⟩:=hs;obtain ⟨r,hr,er⟩:=abE (c.fdiv 26);have em:=Us hs;have eh:=acB hs hr;have ef:=Ut hr;simp only[nQ,pK,cB];by_cases a:c.fmod 13<3
 ·exact ⟨.e,trivial,rfl,by simp[es,a,oD]⟩
 ·by_cases b:c.fmod 13=3
  ·exact ⟨.w,trivial,rfl,by simp[es,a,b,oD]⟩
  ·by_cases d:c.fmod 13<7
   ·exact ⟨.h s r,⟨hs,hr⟩,rfl,by simp[es,a,b,d,er,eh,oD]⟩
   ·by_cases f:c.fmod 13<9
    ·exact ⟨.f r,hr,rfl,by simp[es,a,b,d,f,er,ef,oD]⟩
    ·exact ⟨.m s,hs,rfl,by simp[es,a,b,d,f,em,oD]⟩
theorem RK:∀zs:List Int,ly (zs.map D.int)=true
 |[]=>rfl
 |x::zs=>by simp[ly,RK zs]
def aiv(zs:`Î)(k:Nat):∃x,aK [.val (.lst (zs.map D.int)),.val (.int k)]= .ok (.int x):=by
 have ln:ig [.lst (zs.map D.int)]= .ok (.int zs.length):=by simp[ig,vV]
 by_cases h:k<zs.length
 ·have ix:cC (.lst (zs.map D.int)) (.int k)= .ok (.int zs[k]):=by
   have:vA (zs.map D.int).length (k:Int)=some k:=by rw[yY `À (by simp;omega)];simp
   simp only[cC,vJ,this,Ġ];rw[Ĝ,ā h];rfl
  refine ⟨zs[k],?_⟩;simp only[aK,b8,cB];generalize zs.map D.int=Z at*;have:k<zs.length:=h;simp[ln,ltI,this,ix]
 ·refine ⟨0,?_⟩;simp only[aK,b8,cB];generalize zs.map D.int=Z at*;have:¬k<zs.length:=h;simp[ln,ltI,this]
structure Fl(l:List Sp)(n:Nat):Prop where
 len:l.length=n
 ok:∀c∈l,c.ok
def F2(l:List Sp):Prop:=∀n:Str,(∀k:Nat,l[k]?≠some (Sp.b n))\/∃i j:Nat,i≠j/\∀k:Nat,l[k]? =some (Sp.b n)↔ k=i\/k=j
def ow(l:List Sp):M:= .l (l.map oD)
def Kz{l:List Sp}{n:Nat}(L:Fl l n){k:Int}(hk:0<=k/\k<n)(c:Sp){Γ:Sg}{fk f:`Ñ}(h4:Γ[4]? =some (.own (ow l)))(ek:fk Γ= .ok (.int k))(ef:f Γ= .ok (oD c)):
  yu 4 (om 4) fk f Γ= .nx (Γ.set 4 (.own (ow (l.set k.toNat c)))):=by
 have i:vA (l.map oD).length k=some k.toNat:=yY hk.1 (by simp[L.len];omega);have up:xY 4 [] (setM k (oD c)) Γ=some (Γ.set 4 (.own (ow (l.set k.toNat c)))):=by have nt0:=aen c;simp only[xY,h4];simp only[ow];rw[ė] at i;simp[setM,i,nt0,List.map_set]
 have pv:om 4 Γ= .ok []:=by simp[om,h4]
 unfold yu;rw[ef,ek,pv];simp[up]
theorem Fl.set{l:List Sp}{n:Nat}(L:Fl l n)(k:Nat){c:Sp}(hc:c.ok):Fl (l.set k c) n:=⟨by simp[L.len],λ d hd=>by
 rcases List.mem_or_eq_of_mem_set hd with z|z
 ·exact L.ok d z
 ·rw[z];exact hc⟩
def UP(k:Int)(n:Nat):f9 k (n+1)= .int k::f9 (k+1) n:=by simp only[f9];rw[List.range_succ_eq_map,ą,ŋ];refine congr (congrArg _ `Ó) (Āi λ x _=>?_);simp only[ăz];congr 1;omega
theorem YX{cs:`Î}{n:Nat}(s0 s2 s3:Slot)(hn:n<=1000000):∀(m k:Nat) (l:List Sp) (s5 s6 s7 s8:Slot),Fl l n->(∀c∈l,xZ c=none)->k+m<=cs.length->k+m<=n->∃l' t5,gf (aD 5) (mG 0) (f9 k m) [s0,.val (.lst (cs.map D.int)),s2,s3,.own (ow l),s5,s6,s7,s8]= .nx [s0,.val (.lst (cs.map D.int)),s2,s3,.own (ow l'),t5,s6,s7,s8]/\Fl l' n/\∀c∈l',xZ c=none
 |0,k,l,s5,s6,s7,s8,L,hc,_,_=>⟨l,s5,rfl,L,hc⟩
 |m+1,k,l,s5,s6,s7,s8,L,hc,h1,h2=>by
  have hk:k<cs.length:=by omega
  obtain ⟨x,ex⟩:=acD cs[k];obtain ⟨s,hs,hn0,es⟩:=ady x;have ix:cC (.lst (cs.map D.int)) (.int k)= .ok (.int cs[k]):=by
   have:vA (cs.map D.int).length (k:Int)=some k:=by rw[yY `À (by simp;omega)];simp
   simp only[cC,vJ,this,Ġ];rw[Ĝ,ā hk];rfl
  have st:=Kz L (k:=(k:Int)) `À s (Γ:=[s0,.val (.lst (cs.map D.int)),s2,s3,.own (ow l),.val (.int k),s6,s7,s8]) (fk:=aj 5) (f:=bK 1 nQ (ai (bK 1 i8 (ai (aH cC (aj 1) (aj 5)) az)) az)) rfl `Ó (by generalize D.lst (cs.map D.int)=dl at*;simp[ix,ex,es]);obtain ⟨l',t5,e,a,b⟩:=YX (cs:=cs) s0 s2 s3 hn m (k+1) (l.set k s) (.val (.int k)) s6 s7 s8 (L.set k hs) (λ c hc'=>by
   rcases List.mem_or_eq_of_mem_set hc' with z|z
   ·exact hc c z
   ·rw[z];exact hn0) `À `À
  refine ⟨l',t5,?_,a,b⟩;rw[<-e,UP,show (k:Int)+1=((k+1:Nat):Int) by omega];simp only[gf];have st':mG 0 [s0,.val (.lst (cs.map D.int)),s2,s3,.own (ow l),.val (.int k),s6,s7,s8]= .nx [s0,.val (.lst (cs.map D.int)),s2,s3,.own (ow (l.set k s)),.val (.int k),s6,s7,s8]:=by rw[mG,st];simp
  simp[st']
def amj{l:List Sp}{n:Nat}(L:Fl l n){k:Int}(hk:0<=k/\k<n):∃c,l[k.toNat]? =some c/\cC (lend (ow l)) (.int k)= .ok (oD c):=by
 have h:k.toNat<l.length:=by rw[L.len];omega
 refine ⟨l[k.toNat],ā h,?_⟩;have i:vA (l.map oD).length k=some k.toNat:=yY hk.1 (by simp[L.len];omega);simp only[ow,aho,cC,vJ,i,Ġ];rw[Ĝ,ā h];rfl
noncomputable def RM(j:Nat):Str:=if j=0 then "a" else "ab"
def aiT{l:List Sp}{n:Nat}(L:Fl l n)(f:F2 l){i j:Nat}{m:Str}(hi:i<n)(hj:j<n)(hij:i≠j){ci cj:Sp}(ei:l[i]? =some ci)(ej:l[j]? =some cj)(ni:xZ ci=none)(nj:xZ cj=none)(hm:∀k:Nat,l[k]?≠some (Sp.b m)):F2 ((l.set i (Sp.b m)).set j (Sp.b m))/\∀(k:Nat) (x:Str),((l.set i (Sp.b m)).set j (Sp.b m))[k]? =some (Sp.b x)->x=m\/l[k]? =some (Sp.b x):=by
 have hl:=L.len;have g:∀(k:Nat) (x:Str),((l.set i (Sp.b m)).set j (Sp.b m))[k]? =some (Sp.b x)↔(x=m/\(k=i\/k=j))\/l[k]? =some (Sp.b x):=λ k x=>by
  rw[List.getElem?_set,List.getElem?_set,List.length_set,hl];by_cases a:j=k
  ·subst a;rw[if_pos rfl,if_pos hj];constructor
   ·intro z;cases z;exact .inl ⟨rfl,.inr rfl⟩
   ·rintro (⟨rfl,_⟩|z)
    ·rfl
    ·rw[ej] at z;cases z;cases nj
  ·rw[if_neg a];by_cases b:i=k
   ·subst b;rw[if_pos rfl,if_pos hi];constructor
    ·intro z;cases z;exact .inl ⟨rfl,.inl rfl⟩
    ·rintro (⟨rfl,_⟩|z)
     ·rfl
     ·rw[ei] at z;cases z;cases ni
   ·rw[if_neg b];constructor
    ·exact .inr
    ·rintro (⟨_,z|z⟩|z)
     ·exact absurd z.symm b
     ·exact absurd z.symm a
     ·exact z
 refine ⟨λ x=>?_,λ k x z=>((g k x).mp z).imp And.left id⟩;by_cases q:x=m
 ·subst q;exact .inr ⟨i,j,hij,λ k=>by rw[g];exact ⟨λ z=>z.elim And.right λ z=>absurd z (hm k),λ z=> .inl ⟨rfl,z⟩⟩⟩
 ·rcases f x with z|⟨a,b,h1,h2⟩
  ·exact .inl λ k e=>((g k x).mp e).elim (λ y=>q y.1) (z k)
  ·exact .inr ⟨a,b,h1,λ k=>by rw[g, <-h2];exact ⟨λ z=>z.elim (λ y=>absurd y.1 q) id,.inr⟩⟩
def Cy{zs:`Î}{n:Nat}(hn:0<n)(hn2:n<=1000)(s1 s2 s3 s5 s7 s8:Slot){j:Nat}(hj:j<2){l:List Sp}(L:Fl l n)(f:F2 l)(hm:∀k:Nat,l[k]?≠some (Sp.b (RM j))):
  ∃l' t7 t8,iH 0 [.val (.lst (zs.map D.int)),s1,s2,s3,.own (ow l),s5,.val (.int j),s7,s8]= .nx [.val (.lst (zs.map D.int)),s1,s2,s3,.own (ow l'),s5,.val (.int j),t7,t8]/\Fl l' n/\F2 l'/\∀(k:Nat) (x:Str),l'[k]? =some (Sp.b x)->x=RM j\/l[k]? =some (Sp.b x):=by
 obtain ⟨a,ea⟩:=aiv zs (1+j);obtain ⟨b,eb⟩:=aiv zs (2+j);have ea':aK [.val (.lst (zs.map D.int)),.val (.int (1+j))]= .ok (.int a):=by rw[<-ea];simp
 have eb':aK [.val (.lst (zs.map D.int)),.val (.int (2+j))]= .ok (.int b):=by rw[<-eb];simp
 have nz:=RK zs;have hA:=fm (a.fdiv 3) n `À;have hB:=fm (b.fdiv 5) n `À;have m1:nI (.int (a.fdiv 3)) (.int n)= .ok (.int ((a.fdiv 3).fmod n)):=qo _ _ `À;have m2:nI (.int (b.fdiv 5)) (.int n)= .ok (.int ((b.fdiv 5).fmod n)):=qo _ _ `À;generalize (a.fdiv 3).fmod n=A at*;generalize (b.fdiv 5).fmod n=B at*;have ln:ig [lend (ow l)]= .ok (.int n):=by simp[ow,ig,vV,L.len]
 obtain ⟨ca,ga,xa⟩:=amj L hA;obtain ⟨cb,gb,xb⟩:=amj L hB;have ia:=Se ca;have ib:=Se cb;have nok:(Sp.b (RM j)).ok:=by
  have:j=0\/j=1:=by omega
  rcases this with rfl|rfl<;>simp[Sp.ok,RM]
 have fb:=XE nok;have fo:D.obj "Fibre" ["name"] [.str (RM j)]=oD (.b (RM j)):=rfl;rw[fo] at fb;have ij:cC (.lst [.str "a",.str "ab",.str "b"]) (.int j)= .ok (.str (RM j)):=by
  have:j=0\/j=1:=by omega
  rcases this with rfl|rfl<;>rfl
 have mf:∀(Γ:Sg),Γ[6]? =some (.val (.int j))->zd 1 "Fibre" ["name"] aS (ai (aH cC (ze (vH (ai (dC (.str "a")) (ai (dC (.str "ab")) (ai (dC (.str "b")) az))))) (aj 6)) az) Γ= .ok (oD (.b (RM j))):=λ Γ hΓ=>by unfold zd;simp only[g5,Hg,rM,Zc,ail,mU,CD,hΓ];simp[ij,fb]
 have JQ:Eg 7 (aH nI (aH iC (bK 2 aK (ai (aj 0) (ai (aH oV `Ì (aj 6)) az))) (dC (.int 3))) (pY ig (ai (ju 4) az))) [.val (.lst (zs.map D.int)),s1,s2,s3,.own (ow l),s5,.val (.int j),s7,s8]= .nx [.val (.lst (zs.map D.int)),s1,s2,s3,.own (ow l),s5,.val (.int j),.val (.int A),s8]:=by generalize ow l=O at*;generalize zs.map D.int=Z at*;simp[nz,ea',ln,m1]
 have s8':Eg 8 (aH nI (aH iC (bK 2 aK (ai (aj 0) (ai (aH oV (dC (.int 2)) (aj 6)) az))) (dC (.int 5))) (pY ig (ai (ju 4) az))) [.val (.lst (zs.map D.int)),s1,s2,s3,.own (ow l),s5,.val (.int j),.val (.int A),s8]= .nx [.val (.lst (zs.map D.int)),s1,s2,s3,.own (ow l),s5,.val (.int j),.val (.int A),.val (.int B)]:=by generalize ow l=O at*;generalize zs.map D.int=Z at*;simp[nz,eb',ln,m2]
 rw[iH,bN,JQ,cT,bN,s8',cT,abJ];have ce:∀q:Bool,q=(!decide (A=B)&&(!(xZ ca).isSome&&!(xZ cb).isSome))->(JL (dT (aH RN (aj 7) (aj 8))) (JL (rN (dT (DR mt ["Fibre"] (aH cC (ju 4) (aj 7))))) (rN (dT (DR mt ["Fibre"] (aH cC (ju 4) (aj 8))))))) [.val (.lst (zs.map D.int)),s1,s2,s3,.own (ow l),s5,.val (.int j),.val (.int A),.val (.int B)]= .ok q:=λ q hq=>by
  subst hq;generalize ow l=O at*;generalize zs.map D.int=Z at*;generalize oD ca=da at*;generalize oD cb=db at*;by_cases e:A=B
  ·simp[e]
  ·cases ea2:(xZ ca).isSome with
   |true=>rw[ea2] at ia;simp[e,xa,ia]
   |false=>rw[ea2] at ia;simp[e,xa,ia,xb,ib]
 cases q:(!decide (A=B)&&(!(xZ ca).isSome&&!(xZ cb).isSome)) with
 |false=>rw[ce false q.symm,ack];exact ⟨l,_,_,rfl,L,f,λ k x h=> .inr h⟩
 |true=>rw[ce true q.symm,acj];simp only[ħ,Bool.not_eq_true',decide_eq_false_iff_not,Option.isSome_eq_false_iff,Option.isNone_iff_eq_none] at q;have st1:=Kz L hA (.b (RM j)) (Γ:=[.val (.lst (zs.map D.int)),s1,s2,s3,.own (ow l),s5,.val (.int j),.val (.int A),.val (.int B)]) (fk:=aj 7) rfl `Ó (mf _ rfl);have L1:=L.set A.toNat nok;have st2:=Kz L1 hB (.b (RM j)) (Γ:=[.val (.lst (zs.map D.int)),s1,s2,s3,.own (ow (l.set A.toNat (.b (RM j)))),s5,.val (.int j),.val (.int A),.val (.int B)]) (fk:=aj 8) rfl `Ó (mf _ rfl);obtain ⟨f2,f3⟩:=aiT L f (i:=A.toNat) (j:=B.toNat) (m:=RM j) `À `À `À ga gb q.2.1 q.2.2 hm;refine ⟨(l.set A.toNat (.b (RM j))).set B.toNat (.b (RM j)),.val (.int A),.val (.int B),?_,L1.set _ nok,f2,f3⟩;rw[bN,st1];simp only[Ų,Āu,cT];rw[st2];rfl
noncomputable def ro(l:List Sp)(w h:Nat):List (List Sp):=(ĭ h).map λ y=>(l.drop (y*w)).take w
def lt_mul{w h x y:Nat}(hx:x<w)(hy:y<h):y*w+x<w*h:=by have:(y+1)*w<=h*w:=Nat.mul_le_mul_right w hy;rw[Nat.add_mul,Nat.one_mul] at this;rw[Nat.mul_comm w h];omega
def aeb{l:List Sp}{w h:Nat}(L:Fl l (w*h))(w1:1<=w/\w<=16)(h1:1<=h/\h<=16):Rw (ro l w h) w h:=by
 refine ⟨by simp[ro],λ r hr=>?_,λ r hr c hc=>?_,w1,h1⟩
 ·obtain ⟨y,hy,rfl⟩:=Į.mp hr;have hy:=Āj.mp hy;have:=lt_mul (w:=w) (h:=h) (x:=w- 1) (y:=y) `À hy;rw[Ī,ŝ,L.len];omega
 ·obtain ⟨y,_,rfl⟩:=Į.mp hr;exact L.ok c (ŀ (š hc))
def aeI{l:List Sp}{w h:Nat}(L:Fl l (w*h)){x y:Int}(i:pC w h x y=true):l[y.toNat*w+x.toNat]? =some (ce (ro l w h) x y):=by
 have hb:=jJ.mp i;have hy:y.toNat<h:=by omega
 have hx:x.toNat<w:=by omega
 have lt:=lt_mul hx hy;have e:(ro l w h).getD y.toNat []=(l.drop (y.toNat*w)).take w:=by simp[ro,Č,hy]
 unfold ce;rw[e,Č,List.getElem?_take,if_pos hx,List.getElem?_drop];rw[ā (by rw[L.len];exact lt)];rfl
structure Wf(pl:PL):Prop where
 nd:(pl.map (·.1)).Nodup
 ne:∀e∈pl,e.2≠[]
theorem Et(n:Str)(p:Pt):∀pl:PL,(fO pl n p).map (·.1)=if n∈pl.map (·.1) then pl.map (·.1) else pl.map (·.1)++[n]
 |[]=>by simp[fO]
 |e::pl=>by
  have ih:=Et n p pl;by_cases q:e.1=n
  ·simp[fO,q]
  ·have q':¬n=e.1:=λ z=>q z.symm;rw[show fO (e::pl) n p=e::fO pl n p by simp[fO,q],ą,ih];by_cases z:n∈pl.map (·.1)
   ·rw[if_pos z,if_pos (by rw[ą];exact .tail _ z)];rfl
   ·rw[if_neg z,if_neg (by simp only[ą,Ć,q',false_or];exact z)];rfl
def Wf.add{pl:PL}(h:Wf pl)(n:Str)(p:Pt):Wf (fO pl n p):=by
 refine ⟨?_,λ e he=>?_⟩
 ·rw[Et];split
  ·exact h.nd
  ·rename_i q;exact Āf.mpr ⟨h.nd,by simp,λ a ha b hb e=>by simp at hb;subst hb;subst e;exact q ha⟩
 ·rcases Gr he with z|rfl|⟨f,_,_,rfl⟩
  ·exact h.ne e z
  ·simp
  ·simp
theorem Wf.jP:∀{ev:EV} {pl:PL},Wf pl->Wf (jP pl ev)
 |[],_,h=>h
 |e::ev,_,h=>Wf.jP (ev:=ev) (h.add e.1 e.2)
def agd{l:List Pt}{a b:Pt}(nd:l.Nodup)(hab:a≠b)(h:∀x,x∈l ↔ x=a\/x=b):∃p q,l=[p,q]:=by
 match l,nd,h with
 |[],_,h=>exact absurd ((h a).mpr (.inl rfl)) `Ó
 |[x],_,h=>have e1:=(h a).mpr (.inl rfl);have e2:=(h b).mpr (.inr rfl);simp at e1 e2;exact absurd (e1.trans e2.symm) hab
 |[x,y],_,_=>exact ⟨x,y,rfl⟩
 |x::y::z::r,nd,h=>have hx:=(h x).mp `Ó;have hy:=(h y).mp `Ó;have hz:=(h z).mp `Ó;simp only[ń,Ć,not_or] at nd;rcases hx with rfl|rfl<;>rcases hy with rfl|rfl<;>rcases hz with rfl|rfl<;>simp_all
def agc{l:List Sp}{w h:Nat}(L:Fl l (w*h))(f:F2 l)(w1:1<=w/\w<=16)(h1:1<=h/\h<=16):p6 (Ej (ro l w h)):=by
 have R:=aeb L w1 h1;have wf:Wf (Ej (ro l w h)):=Wf.jP ⟨by simp,λ _ z=>nomatch z⟩;have nd:=aef (ro l w h);intro e he;have ndl:e.2.Nodup:=by
  have:List.Sublist e.2 (places (Ej (ro l w h))):=by unfold places;rw[List.flatMap_def];exact List.sublist_flatten_of_mem (Į.mpr ⟨e,he,rfl⟩)
  exact this.nodup nd
 have mem:∀x y:Int,(x,y)∈e.2 ↔ pC w h x y=true/\ce (ro l w h) x y= .b e.1:=λ x y=>by
  rw[<-Bd R];constructor
  ·exact λ z=>⟨e.2,he,z⟩
  ·rintro ⟨l',h1,h2⟩
   have:(e.1,l')=e:=by obtain ⟨a,ha,ea⟩:=ę.mp h1;obtain ⟨b,hb,eb⟩:=ę.mp he;have:a=b:=(ăt (by simpa using ha) wf.nd).mp (by rw[Ĝ,Ĝ,ā ha,ā hb,ea,eb];rfl);subst this;rw[<-ea,eb]
   rw[<-this];exact h2
 have idx:∀x y:Int,(x,y)∈e.2->l[y.toNat*w+x.toNat]? =some (.b e.1):=λ x y z=>by obtain ⟨i,c⟩:=(mem x y).mp z;rw[aeI L i,c]
 obtain ⟨p0,hp0⟩:=List.exists_mem_of_ne_nil _ (wf.ne e he);rcases f e.1 with z|⟨i,j,hij,hk⟩
 ·exact absurd (idx p0.1 p0.2 hp0) (z _)
 ·have il:∀k,k=i\/k=j->k<w*h:=λ k z=>by have:=(hk k).mpr z;rw[<-L.len];exact (Ď.mp this).1
  have hw:0<w:=by omega
  have pl:∀k,k<w*h->pC w h ((k%w:Nat):Int) ((k/ w:Nat):Int)=true:=λ k hk=>by have a:=Ąp k hw;have b:k/ w<h:=Nat.div_lt_of_lt_mul hk;generalize k%w=u at*;generalize k/ w=v at*;rw[jJ];omega
  have mk:∀k,k=i\/k=j->(((k%w:Nat):Int),((k/ w:Nat):Int))∈e.2:=λ k z=>by have b:=pl k (il k z);refine (mem _ _).mpr ⟨b,?_⟩;have c:=aeI L b;have hkk:=(hk k).mpr z;simp only[ăs] at c;rw[Ąh k w,hkk] at c;exact (ĝ c).symm
  refine agd (a:=(((i%w:Nat):Int),((i/ w:Nat):Int))) (b:=(((j%w:Nat):Int),((j/ w:Nat):Int))) ndl (λ z=>?_) λ x=>⟨λ hx=>?_,λ hx=>?_⟩
  ·simp only[ŭ] at z;have a:=Ąh i w;have b:=Ąh j w;have z1:i%w=j%w:=by omega
   have z2:i/ w=j/ w:=by omega
   rw[z1,z2,b] at a;exact hij a.symm
  ·obtain ⟨ii,_⟩:=(mem x.1 x.2).mp hx;have hb:=jJ.mp ii;have q:=(hk _).mp (idx x.1 x.2 hx);have hx':x.1.toNat<w:=by omega
   have m1:(x.2.toNat*w+x.1.toNat)%w=x.1.toNat:=by rw[ąr,Nat.add_mul_mod_self_right,Nat.mod_eq_of_lt hx']
   have m2:(x.2.toNat*w+x.1.toNat)/ w=x.2.toNat:=by rw[ąr,Nat.add_mul_div_right _ _ hw,Nat.div_eq_of_lt hx',Ąn]
   have ex:x=((((x.2.toNat*w+x.1.toNat)%w:Nat):Int),(((x.2.toNat*w+x.1.toNat)/ w:Nat):Int)):=by rw[m1,m2];exact ąq (by simp;omega) (by simp;omega)
   rcases q with q|q
   ·left;rw[ex,q]
   ·right;rw[ex,q]
  ·rcases hx with rfl|rfl
   ·exact mk i (.inl rfl)
   ·exact mk j (.inr rfl)
def ain(cs:`Î)(lo hi:Option Int):∃o:List Int,Hh (cs.map D.int) lo hi=o.map D.int/\o.length<=cs.length:=by
 refine ⟨Hh cs lo hi,?_,?_⟩
 ·unfold Hh;simp[ąa,ąb]
 ·unfold Hh;rw[Ī,ŝ];omega
def FE{n:Nat}(h:n<=1000):C4 [.int n]= .ok (f9 0 n):=by simp only[C4];rw[if_pos (by constructor<;>omega)];simp
theorem comp_const{e:D->Res (Option D)}{d:D}:∀{xs:List D},(∀x∈xs,e x= .ok (some d))->jY e xs= .ok (ļ xs.length d)
 |[],_=>rfl
 |x::xs,h=>by simp only[jY];rw[h x (.head _),comp_const λ y hy=>h y (.tail _ hy)];rfl
def aim{l:List Sp}{w h:Nat}(L:Fl l (w*h)){y:Nat}(hy:y<h)(hw:1<=w):Hh (l.map oD) (some ((y:Int)*w)) (some (((y:Int)+1)*w))=((l.drop (y*w)).take w).map oD:=by
 have lt:=lt_mul (w:=w) (h:=h) (x:=w- 1) (y:=y) `À hy;have e1:((y:Int)*w)=((y*w:Nat):Int):=by simp
 have e2:(((y:Int)+1)*w)=((y*w+w:Nat):Int):=by simp[Int.add_mul]
 have hl:=L.len;have sx:∀(n d k:Nat),CT n d (some (k:Int))=min k n:=λ n d k=>by simp only[CT];rw[if_neg `À];simp
 unfold Hh;rw[e1,e2,sx,sx,ė];rw[show min (y*w) l.length=y*w by omega,show min (y*w+w) l.length=y*w+w by omega,show y*w+w- y*w=w by omega,ąa,ąb]
def akw{l:List Sp}{w h:Nat}(L:Fl l (w*h))(w1:1<=w/\w<=8)(h1:1<=h/\h<=12)(s0 s1 s5 s6 s7 s8:Slot):gi true (gS (ai (aj 3) az)) 1 [4,2] (aD 0) mV (ze (DJ (aj 1) (dP (aH ie (aj 0) (aj 2))) (dP (aH ie (aH oV (aj 0) `Ì) (aj 2))))) [s0,s1,.val (.int w),.val (.int h),.own (ow l),s5,s6,s7,s8]= .ok ((ro l w h).map λ r=> .lst (r.map oD)):=by
 have i:gS (ai (aj 3) az) [s0,s1,.val (.int w),.val (.int h),.own (ow l),s5,s6,s7,s8]= .ok (f9 0 h):=by unfold gS;simp[FE (show h<=1000 by omega)]
 have b:uW true 1 [4,2] [s0,s1,.val (.int w),.val (.int h),.own (ow l),s5,s6,s7,s8]=[.no,.val (.bor true (l.map oD)),.val (.int w)]:=by simp[uW,ais,ow]
 have hh:h<1000000:=by omega
 rw[nT,i,Res.bw,if_pos (by rw[qu];exact hh),b];have e0:f9 0 h=(ĭ h).map λ(y:Nat)=>D.int (y:Int):=by simp[f9]
 rw[e0];unfold ro;rw[ŋ];have:∀ys:List Nat,(∀y∈ys,y<h)->jY (E1 (aD 0) mV (ze (DJ (aj 1) (dP (aH ie (aj 0) (aj 2))) (dP (aH ie (aH oV (aj 0) `Ì) (aj 2))))) [.no,.val (.bor true (l.map oD)),.val (.int w)]) (ys.map λ(y:Nat)=>D.int (y:Int))= .ok (ys.map λ y=> .lst (((l.drop (y*w)).take w).map oD)):=by
  intro ys;induction ys with
  |nil=>intro _;rfl
  |cons y ys ih=>
   intro hy;have c:=aim L (hy y (.head _)) w1.1;have m1:ie (.int (y:Int)) (.int w)= .ok (.int ((y:Int)*w)):=BO _ _ `À;have m2:ie (.int ((y:Int)+1)) (.int w)= .ok (.int (((y:Int)+1)*w)):=BO _ _ `À;simp only[ą,jY];rw[ih λ x hx=>hy x (.tail _ hx)];have:E1 (aD 0) mV (ze (DJ (aj 1) (dP (aH ie (aj 0) (aj 2))) (dP (aH ie (aH oV (aj 0) `Ì) (aj 2))))) [.no,.val (.bor true (l.map oD)),.val (.int w)] (.int y)= .ok (some (.lst (((l.drop (y*w)).take w).map oD))):=by generalize l.map oD=X at*;simp[E1,DJ,m1,m2,Vh,c]
   rw[this];rfl
 exact this _ λ y hy=>Āj.mp hy
theorem RO:∀rows:List (List Sp),vp (rows.map λ r=>D.lst (r.map oD))=true
 |[]=>rfl
 |r::rows=>by show (nb (.lst (r.map oD))&&vp (rows.map λ r=>D.lst (r.map oD)))=true;rw[RO rows];simp[nb,KW]
def ah3{zs:`Î}{n:Nat}(hn:0<n)(hn2:n<=1000)(s1 s2 s3 s5 s6 s7 s8:Slot){l:List Sp}(L:Fl l n)(hc:∀c∈l,xZ c=none){J:Nat}(hJ:J<=2):
  ∃l' t6 t7 t8,gf (aD 6) (iH 0) (f9 0 J) [.val (.lst (zs.map D.int)),s1,s2,s3,.own (ow l),s5,s6,s7,s8]= .nx [.val (.lst (zs.map D.int)),s1,s2,s3,.own (ow l'),s5,t6,t7,t8]/\Fl l' n/\F2 l':=by
 have no:∀(k:Nat) (x:Str),l[k]?≠some (Sp.b x):=λ k x z=>by have:=hc _ (Ād z);cases this
 have f0:F2 l:=λ x=> .inl λ k=>no k x;match J,hJ with
 |0,_=>exact ⟨l,s6,s7,s8,rfl,L,f0⟩
 |1,_=>obtain ⟨l1,t7,t8,e1,L1,f1,_⟩:=Cy (zs:=zs) hn hn2 s1 s2 s3 s5 s7 s8 (j:=0) `À L f0 λ k=>no k _;refine ⟨l1,.val (.int 0),t7,t8,?_,L1,f1⟩;have e1':iH 0 [.val (.lst (zs.map D.int)),s1,s2,s3,.own (ow l),s5,.val (.int 0),s7,s8]=_:=e1;rw[show f9 0 1=[.int 0] from rfl];simp only[gf];simp[e1']
 |2,_=>
  obtain ⟨l1,t7,t8,e1,L1,f1,g1⟩:=Cy (zs:=zs) hn hn2 s1 s2 s3 s5 s7 s8 (j:=0) `À L f0 λ k=>no k _;obtain ⟨l2,u7,u8,e2,L2,f2,_⟩:=Cy (zs:=zs) hn hn2 s1 s2 s3 s5 t7 t8 (j:=1) `À L1 f1 λ k z=>by
   rcases g1 k _ z with q|q
   ·exact absurd q `Â
   ·exact no k _ q
  refine ⟨l2,.val (.int 1),u7,u8,?_,L2,f2⟩;have e1':iH 0 [.val (.lst (zs.map D.int)),s1,s2,s3,.own (ow l),s5,.val (.int 0),s7,s8]=_:=e1;have e2':iH 0 [.val (.lst (zs.map D.int)),s1,s2,s3,.own (ow l1),s5,.val (.int 1),t7,t8]=_:=e2;rw[show f9 0 2=[.int 0,.int 1] from rfl];simp only[gf];simp[e1',e2']
def aby(zs:`Î)(hl:zs.length<=63):∃t rows w h,w<=8/\h<=12/\Tb t rows w h/\g8 [.val (.lst (zs.map D.int))]= .ok t:=by
 obtain ⟨cs,hcs,hcl⟩:=ain zs (some 1) (some 63);obtain ⟨c0,e0⟩:=aiv zs 0;have e0':aK [.val (.lst (zs.map D.int)),.val (.int 0)]= .ok (.int c0):=e0;have f8:=fm c0 8 `Â;obtain ⟨w,hw⟩:∃w:Nat,(w:Int)=1+c0.fmod 8:=⟨(1+c0.fmod 8).toNat,by omega⟩;have f3:=fm (c0.fdiv 8) 3 `Â;obtain ⟨J,hJ⟩:∃J:Nat,(J:Int)=(c0.fdiv 8).fmod 3:=⟨((c0.fdiv 8).fmod 3).toNat,by omega⟩;have ln:ig [.lst (cs.map D.int)]= .ok (.int cs.length):=by simp[ig,vV]
 have fd:iC (.int (cs.length+w- 1)) (.int w)= .ok (.int (((cs.length:Int)+w- 1).fdiv w)):=U8 _ _ `À `À;obtain ⟨h,h1,eh⟩:∃h:Nat,(1<=h/\h<=12)/\(rW [.int 12,.int (((cs.length:Int)+w- 1).fdiv w)]).bnd (λ m=>EA [.int 1,m])= .ok (.int h):=by
  generalize ((cs.length:Int)+w- 1).fdiv w=q;simp only[rW,Res.bw,EA];by_cases a:q<12
  ·rw[if_pos a];by_cases b:q>1
   ·rw[if_pos b];exact ⟨q.toNat,by omega,by congr 2;omega⟩
   ·rw[if_neg b];exact ⟨1,by omega,rfl⟩
  ·rw[if_neg a,if_pos `Â];exact ⟨12,by omega,rfl⟩
 have w1:1<=w/\w<=8:=by omega
 have wh:0<w*h:=Nat.mul_pos `À `À;have wh2:w*h<=96:=Āq w1.2 h1.2;have mw:ie (.int w) (.int h)= .ok (.int ((w*h:Nat):Int)):=by rw[BO _ _ `À];simp
 obtain ⟨mn,hmn,emn⟩:∃mn:Nat,(mn<=cs.length/\mn<=w*h)/\rW [.int cs.length,.int ((w*h:Nat):Int)]= .ok (.int mn):=by
  simp only[rW];split
  ·exact ⟨w*h,by omega,rfl⟩
  ·exact ⟨cs.length,by omega,rfl⟩
 let s0:Slot:= .val (.lst (zs.map D.int))
 let sc:Slot:= .val (.lst (cs.map D.int))
 have L0:Fl (ļ (w*h) .e) (w*h):=⟨by simp,λ c hc=>by rw[List.eq_of_mem_replicate hc];trivial⟩;obtain ⟨l1,t5,e5,L1,n1⟩:=YX (cs:=cs) (n:=w*h) s0 (.val (.int w)) (.val (.int h)) `À mn 0 _ .no .no .no .no L0 (λ c hc=>by rw[List.eq_of_mem_replicate hc];rfl) `À `À;obtain ⟨l2,t6,t7,t8,e6,L2,f2⟩:=ah3 (zs:=zs) wh `À sc (.val (.int w)) (.val (.int h)) t5 .no .no .no L1 n1 (J:=J) `À;have R:=aeb L2 `À (show 1<=h/\h<=16 by omega);have T2:=agc L2 f2 `À (show 1<=h/\h<=16 by omega);obtain ⟨ks,xs,ei,dm⟩:=ahH (f:=λ r=> .lst (r.map oD)) (λ r=>rfl) (src:= .lst ((ro l2 w h).map λ r=> .lst (r.map oD))) rfl R T2;have T:=aoq R T2 dm;refine ⟨tb (ro l2 w h) ks xs,ro l2 w h,w,h,w1.2,h1.2,T,?_⟩;have sr:=akw L2 w1 h1 s0 sc t5 t6 t7 t8;have nb0:=T.nb;have nt0:=T.nt;have nl:=RO (ro l2 w h);have dl:xP [D.lst ((ro l2 w h).map λ r=> .lst (r.map oD))]=[.lst ((ro l2 w h).map λ r=> .lst (r.map oD))]:=tQ _ (by simp[vp,nb,nl]);rw[g8,j9,show cB Ew [.val (.lst (zs.map D.int))]=[s0,.no,.no,.no,.no,.no,.no,.no,.no] from rfl];have q1:iF 1 (ze (DJ (aj 0) (dP `Ì) (dP (dC (.int 63))))) [s0,.no,.no,.no,.no,.no,.no,.no,.no]= .nx [s0,sc,.no,.no,.no,.no,.no,.no,.no]:=by simp[s0,sc,DJ,Vh,hcs]
 have q2:iF 2 (aH oV `Ì (aH nI (bz 2 aK (ai (aj 0) (ai (dC (.int 0)) az))) (dC (.int 8)))) [s0,sc,.no,.no,.no,.no,.no,.no,.no]= .nx [s0,sc,.val (.int w),.no,.no,.no,.no,.no,.no]:=by rw[hw];simp only[s0];generalize zs.map D.int=Z at*;simp[e0']
 have q3:iF 3 (pY EA (ai `Ì (ai (pY rW (ai (dC (.int 12)) (ai (aH iC (aH Ic (aH oV (pY ig (ai (aj 1) az)) (aj 2)) `Ì) (aj 2)) az))) az))) [s0,sc,.val (.int w),.no,.no,.no,.no,.no,.no]= .nx [s0,sc,.val (.int w),.val (.int h),.no,.no,.no,.no,.no]:=by
  generalize s0=s0 at*;simp only[sc];generalize cs.map D.int=C at*;cases em:rW [.int 12,.int (((cs.length:Int)+w- 1).fdiv w)] with
  |ok m=>rw[em,Res.bw] at eh;simp[ln,fd,em,eh]
  |err c=>rw[em] at eh;cases eh
  |bad=>rw[em] at eh;cases eh
 have ow0:M.l (ļ (w*h) (D.obj "Empty" [] []))=ow (ļ (w*h) .e):=by simp[ow,oD]
 have n0:yI (ow (ļ (w*h) .e))=true:=by simp only[ow,Iz];exact KR _
 have q4:uL 4 (mL (gi false (gS (ai (aH ie (aj 2) (aj 3)) az)) 1 [] (aD 0) mV (dC (.obj "Empty" [] [])))) [s0,sc,.val (.int w),.val (.int h),.no,.no,.no,.no,.no]= .nx [s0,sc,.val (.int w),.val (.int h),.own (ow (ļ (w*h) .e)),.no,.no,.no,.no]:=by
  have c:gi false (gS (ai (aH ie (aj 2) (aj 3)) az)) 1 [] (aD 0) mV (dC (.obj "Empty" [] [])) [s0,sc,.val (.int w),.val (.int h),.no,.no,.no,.no,.no]= .ok (ļ (w*h) (.obj "Empty" [] [])):=by
   have i:gS (ai (aH ie (aj 2) (aj 3)) az) [s0,sc,.val (.int w),.val (.int h),.no,.no,.no,.no,.no]= .ok (f9 0 (w*h)):=by
    unfold gS;have:(ai (aH ie (aj 2) (aj 3)) az) [s0,sc,.val (.int w),.val (.int h),.no,.no,.no,.no,.no]= .ok [.int ((w*h:Nat):Int)]:=by simp only[g5,Hg,mU];simp only[CD,Ķ,ō,Res.bw,mw]
    rw[this,Res.bw,FE `À]
   rw[nT,i,Res.bw,if_pos (by rw[qu];omega)];exact (comp_const (d:= .obj "Empty" [] []) λ x _=>rfl).trans (by rw[qu])
  rw[Eh,Gv,c,Res.bw,ow0,ql,if_pos n0];rfl
 have i5:gS (ai (pY rW (ai (pY ig (ai (aj 1) az)) (ai (aH ie (aj 2) (aj 3)) az))) az) [s0,sc,.val (.int w),.val (.int h),.own (ow (ļ (w*h) .e)),.no,.no,.no,.no]= .ok (f9 0 mn):=by
  unfold gS;have:(ai (pY rW (ai (pY ig (ai (aj 1) az)) (ai (aH ie (aj 2) (aj 3)) az))) az) [s0,sc,.val (.int w),.val (.int h),.own (ow (ļ (w*h) .e)),.no,.no,.no,.no]= .ok [.int mn]:=by simp only[g5,SG,Hg,mU,sc];simp only[CD,Ķ,ō,Res.bw,mw,ln,emn]
  rw[this,Res.bw,FE `À]
 have i6:gS (ai (aH nI (aH iC (bz 2 aK (ai (aj 0) (ai (dC (.int 0)) az))) (dC (.int 8))) (dC (.int 3))) az) [s0,sc,.val (.int w),.val (.int h),.own (ow l1),t5,.no,.no,.no]= .ok (f9 0 J):=by
  unfold gS;have:(ai (aH nI (aH iC (bz 2 aK (ai (aj 0) (ai (dC (.int 0)) az))) (dC (.int 8))) (dC (.int 3))) az) [s0,sc,.val (.int w),.val (.int h),.own (ow l1),t5,.no,.no,.no]= .ok [.int J]:=by simp only[s0];rw[hJ];generalize zs.map D.int=Z at*;simp[e0']
  rw[this,Res.bw,FE `À]
 have q7:CF 1 "Table" ["grid","ends"] bC (ai (ze (gi true (gS (ai (aj 3) az)) 1 [4,2] (aD 0) mV (ze (DJ (aj 1) (dP (aH ie (aj 0) (aj 2))) (dP (aH ie (aH oV (aj 0) `Ì) (aj 2))))))) az) [s0,sc,.val (.int w),.val (.int h),.own (ow l2),t5,t6,t7,t8]= .ok (tb (ro l2 w h) ks xs):=by unfold CF;rw[g5,rM,sr];simp only[Res.bw,mU];rw[if_pos (show [D.lst ((ro l2 w h).map λ r=> .lst (r.map oD))].length=1 from rfl),dl];unfold tb at nb0 ⊢;simp[ei,ng,nbX,nb0]
 rw[bN,q1,cT,bN,q2,cT,bN,q3,cT,bN,q4,cT,bN,iL,i5,ql];have e5':gf (aD 5) (mG 0) (f9 0 mn) [s0,sc,.val (.int w),.val (.int h),.own (ow (ļ (w*h) .e)),.no,.no,.no,.no]=_:=e5;rw[e5',cT,bN,iL,i6,ql,e6,cT,TL,q7,ql,if_pos nt0];rfl
def X3(zs:`Î)(hl:zs.length<=63):uY [.val (.lst (zs.map D.int))]= .ok (.bl true):=by obtain ⟨t,rows,w,h,hw,hh,T,e⟩:=aby zs hl;exact alA T hw hh e
end K12
end
section
namespace K12
open PySem PySem.Spec PyProof.Rows L2 L4
noncomputable def top(i:Nat):Stmt:=PySem.Challenge.pw_beamtable_k12_back_again.main.body.getD i (.Pass ⟨0,0,0,0⟩)
noncomputable def nk(s:Stmt)(j:Nat):Stmt:=match s with
 | .ClassDef _ _ _ b _ _ _ _ _ _ _=>b.getD j (.Pass ⟨0,0,0,0⟩)
 |_=>s
noncomputable abbrev zo:Stmt:=top 53
noncomputable abbrev Ec:Stmt:=top 56
abbrev uH:Stmt:=top 36
abbrev Rq:Stmt:=top 14
noncomputable abbrev uJ:Stmt:=top 37
noncomputable abbrev rT:Stmt:=nk (top 42) 0
noncomputable abbrev Ru:Stmt:=top 54
noncomputable abbrev Eb:Stmt:=top 55
noncomputable abbrev o7:Stmt:=nk (top 43) 0
noncomputable abbrev o6:Stmt:=nk (top 41) 0
noncomputable abbrev Rt:Stmt:=top 57
noncomputable abbrev vY:Stmt:=top 38
noncomputable abbrev qg:Stmt:=nk (top 45) 0
noncomputable abbrev uI:Stmt:=top 48
abbrev su:Stmt:=top 49
abbrev vW:Stmt:=top 50
noncomputable abbrev qf:Stmt:=nk (top 51) 0
noncomputable abbrev Ea:Stmt:=top 58
noncomputable abbrev uK:Stmt:=nk (top 51) 1
noncomputable abbrev sy:Stmt:=nk (top 51) 2
abbrev zm:Stmt:=top 27
abbrev A4:Stmt:=top 20
noncomputable abbrev Il:Stmt:=top 21
noncomputable abbrev Ef:Stmt:=top 22
noncomputable abbrev oZ:Stmt:=nk (top 51) 3
noncomputable abbrev A6:Stmt:=top 24
noncomputable abbrev zu:Stmt:=top 25
noncomputable abbrev Ik:Stmt:=top 28
abbrev D8:Stmt:=top 29
noncomputable abbrev vZ:Stmt:=top 30
noncomputable abbrev vX:Stmt:=top 26
noncomputable abbrev nc:Stmt:=nk (top 51) 4
noncomputable abbrev oY:Stmt:=nk (top 51) 6
noncomputable abbrev v7:Stmt:=nk (top 51) 5
noncomputable abbrev v9:Stmt:=nk (top 39) 0
noncomputable abbrev sA:Stmt:=nk (top 41) 2
noncomputable abbrev oi:Stmt:=top 11
noncomputable abbrev A5:Stmt:=top 12
noncomputable abbrev Rr:Stmt:=top 13
noncomputable abbrev v8:Stmt:=nk (top 42) 2
noncomputable abbrev sC:Stmt:=nk (top 43) 2
noncomputable abbrev v5:Stmt:=nk (top 44) 1
noncomputable abbrev D9:Stmt:=top 31
noncomputable abbrev Ed:Stmt:=top 32
abbrev Ii:Stmt:=top 59
noncomputable abbrev Ij:Stmt:=top 60
abbrev ad9:Stmt:=top 61
set_option genInjectivity false in
structure Tx(K:ă)(mg:`Ò)(cb:Cb) where
 iP:Addr
 nM:FuncData
 mO:mg "_law_cell_at"=some (.ref iP)
 mQ:Ĕ K (.ref iP)=true
 mS:cY K "_law_cell_at" "_law_cell_at" zo iP nM
 b8:Binds K nM sG []
 lM:Addr
 rG:FuncData
 EE:mg "_law_mixed"=some (.ref lM)
 EM:Ĕ K (.ref lM)=true
 qD:cY K "_law_mixed" "_law_mixed" Ec lM rG
 kc:Binds K rG yE []
 fP:Addr
 kM:FuncData
 pR:mg "check_slant"=some (.ref fP)
 pU:Ĕ K (.ref fP)=true
 jq:cY K "check_slant" "check_slant" uH fP kM
 dI:Binds K kM pO []
 rO:Addr
 xE:FuncData
 Gs:mg "under"=some (.ref rO)
 GJ:Ĕ K (.ref rO)=true
 xJ:cY K "under" "under" Rq rO xE
 mC:Binds K xE FN []
 fR:Addr
 kP:FuncData
 pS:mg "check_share"=some (.ref fR)
 pV:Ĕ K (.ref fR)=true
 jt:cY K "check_share" "check_share" uJ fR kP
 cF:Binds K kP pQ []
 eZ:Addr
 iW:FuncData
 zV:Ĕ K (.ref eZ)=true
 cX:cY K "__init__" "Half.__init__" rT eZ iW
 b9:Binds K iW m8 []
 rR:Addr
 xH:FuncData
 Gu:mg "_law_low"=some (.ref rR)
 GK:Ĕ K (.ref rR)=true
 xN:cY K "_law_low" "_law_low" Ru rR xH
 nP:Binds K xH Ak []
 lK:Addr
 rF:FuncData
 yN:mg "_law_share"=some (.ref lK)
 yU:Ĕ K (.ref lK)=true
 qC:cY K "_law_share" "_law_share" Eb lK rF
 iX:Binds K rF yD []
 cW:Addr
 gx:FuncData
 xq:Ĕ K (.ref cW)=true
 bS:cY K "__init__" "Filter.__init__" o7 cW gx
 bJ:Binds K gx kF []
 cV:Addr
 gw:FuncData
 xo:Ĕ K (.ref cV)=true
 bR:cY K "__init__" "Mirror.__init__" o6 cV gw
 bT:Binds K gw kC []
 rQ:Addr
 xG:FuncData
 RW:mg "_law_one"=some (.ref rQ)
 R8:Ĕ K (.ref rQ)=true
 xM:cY K "_law_one" "_law_one" Rt rQ xG
 pK:Binds K xG FP []
 gG:Addr
 lY:FuncData
 wL:mg "check_name"=some (.ref gG)
 xg:Ĕ K (.ref gG)=true
 kT:cY K "check_name" "check_name" vY gG lY
 dg:Binds K lY qV []
 dS:Addr
 iE:FuncData
 yX:Ĕ K (.ref dS)=true
 cA:cY K "__init__" "Fibre.__init__" qg dS iE
 bB:Binds K iE lF []
 fQ:Addr
 kO:FuncData
 uR:mg "check_sides"=some (.ref fQ)
 uS:Ĕ K (.ref fQ)=true
 jr:cY K "check_sides" "check_sides" uI fQ kO
 dJ:Binds K kO pP []
 eF:Addr
 jK:FuncData
 sX:mg "fibre_places"=some (.ref eF)
 tE:Ĕ K (.ref eF)=true
 iN:cY K "fibre_places" "fibre_places" su eF jK
 cM:Binds K jK oj []
 gE:Addr
 lW:FuncData
 wJ:mg "fibre_ends"=some (.ref gE)
 wZ:Ĕ K (.ref gE)=true
 kQ:cY K "fibre_ends" "fibre_ends" vW gE lW
 fE:Binds K lW qT []
 dQ:Addr
 iD:FuncData
 yW:Ĕ K (.ref dQ)=true
 cz:cY K "__init__" "Table.__init__" qf dQ iD
 bO:Binds K iD lE []
 lJ:Addr
 rE:FuncData
 ED:mg "_law_table"=some (.ref lJ)
 EL:Ĕ K (.ref lJ)=true
 qB:cY K "_law_table" "_law_table" Ea lJ rE
 j9:Binds K rE yC []
 fS:Addr
 iM:FuncData
 DK:Ĕ K (.ref fS)=true
 fL:cY K "width" "Table.width" uK fS iM
 dM:Binds K iM lR []
 eG:Addr
 gT:FuncData
 Ck:Ĕ K (.ref eG)=true
 d7:cY K "height" "Table.height" sy eG gT
 cN:Binds K gT ku []
 iO:Addr
 nL:FuncData
 sW:mg "passes_in"=some (.ref iO)
 tD:Ĕ K (.ref iO)=true
 mR:cY K "passes_in" "passes_in" zm iO nL
 fD:Binds K nL sF []
 jQ:Addr
 pF:FuncData
 BW:mg "opposite"=some (.ref jQ)
 Cg:Ĕ K (.ref jQ)=true
 oG:cY K "opposite" "opposite" A4 jQ pF
 jO:Binds K pF ve []
 oQ:Addr
 ur:FuncData
 BY:mg "beyond"=some (.ref oQ)
 Cj:Ĕ K (.ref oQ)=true
 tP:cY K "beyond" "beyond" Il oQ ur
 kY:Binds K ur Bm []
 lO:Addr
 rJ:FuncData
 nS:mg "back_of"=some (.ref lO)
 nU:Ĕ K (.ref lO)=true
 qF:cY K "back_of" "back_of" Ef lO rJ
 eY:Binds K rJ yG []
 bV:Addr
 dY:FuncData
 xm:Ĕ K (.ref bV)=true
 bQ:cY K "has_place" "Table.has_place" oZ bV dY
 bI:Binds K dY iB []
 jS:Addr
 pH:FuncData
 q8:mg "comes_in"=some (.ref jS)
 rj:Ĕ K (.ref jS)=true
 oJ:cY K "comes_in" "comes_in" A6 jS pH
 fN:Binds K pH vg []
 iQ:Addr
 nN:FuncData
 sY:mg "comes_out"=some (.ref iQ)
 tF:Ĕ K (.ref iQ)=true
 mT:cY K "comes_out" "comes_out" zu iQ nN
 fF:Binds K nN sH []
 oO:Addr
 uq:FuncData
 IX:mg "inlets"=some (.ref oO)
 Ji:Ĕ K (.ref oO)=true
 tO:cY K "inlets" "inlets" Ik oO uq
 mY:Binds K uq Bl []
 lH:Addr
 rC:FuncData
 EB:mg "outlets"=some (.ref lH)
 EJ:Ĕ K (.ref lH)=true
 qz:cY K "outlets" "outlets" D8 lH rC
 jZ:Binds K rC yy []
 gH:Addr
 lZ:FuncData
 wM:mg "all_passes"=some (.ref gH)
 xh:Ĕ K (.ref gH)=true
 kU:cY K "all_passes" "all_passes" vZ gH lZ
 fG:Binds K lZ qW []
 gF:Addr
 lX:FuncData
 wK:mg "check_pass"=some (.ref gF)
 w9:Ĕ K (.ref gF)=true
 kR:cY K "check_pass" "check_pass" vX gF lX
 c9:Binds K lX qU []
 bG:Addr
 cL:FuncData
 uC:Ĕ K (.ref bG)=true
 bF:cY K "check_place" "Table.check_place" nc bG cL
 aX:Binds K cL fW []
 bU:Addr
 dX:FuncData
 xj:Ĕ K (.ref bU)=true
 bP:cY K "other_end" "Table.other_end" oY bU dX
 bH:Binds K dX iA []
 gJ:Addr
 jn:FuncData
 GN:Ĕ K (.ref gJ)=true
 gz:cY K "cell" "Table.cell" v7 gJ jn
 fH:Binds K jn nF []
 dj:Addr
 gZ:FuncData
 GP:Ĕ K (.ref dj)=true
 fC:cY K "leads" "Cell.leads" v9 dj gZ
 fJ:Binds K gZ kG []
 eK:Addr
 gU:FuncData
 Cm:Ĕ K (.ref eK)=true
 d8:cY K "leads" "Mirror.leads" sA eK gU
 cO:Binds K gU kB []
 bM:Addr
 fX:FuncData
 oz:mg "greatest_divisor"=some (.ref bM)
 oB:Ĕ K (.ref bM)=true
 dZ:cY K "greatest_divisor" "greatest_divisor" oi bM fX
 bx:Binds K fX gn []
 jR:Addr
 pG:FuncData
 BX:mg "fraction"=some (.ref jR)
 Ci:Ĕ K (.ref jR)=true
 oH:cY K "fraction" "fraction" A5 jR pG
 gB:Binds K pG vf []
 rP:Addr
 xF:FuncData
 RV:mg "minus"=some (.ref rP)
 R7:Ĕ K (.ref rP)=true
 xK:cY K "minus" "minus" Rr rP xF
 pJ:Binds K xF FO []
 gK:Addr
 jo:FuncData
 GO:Ĕ K (.ref gK)=true
 gA:cY K "leads" "Half.leads" v8 gK jo
 dh:Binds K jo nG []
 eN:Addr
 gW:FuncData
 Cn:Ĕ K (.ref eN)=true
 d9:cY K "leads" "Filter.leads" sC eN gW
 eE:Binds K gW kE []
 gI:Addr
 jm:FuncData
 GL:Ĕ K (.ref gI)=true
 gy:cY K "leads" "Wall.leads" v5 gI jm
 gC:Binds K jm nE []
 lI:Addr
 rD:FuncData
 EC:mg "leaving"=some (.ref lI)
 EK:Ĕ K (.ref lI)=true
 qA:cY K "leaving" "leaving" D9 lI rD
 j5:Binds K rD yz []
 lN:Addr
 rH:FuncData
 yO:mg "goes_on"=some (.ref lN)
 yV:Ĕ K (.ref lN)=true
 qE:cY K "goes_on" "goes_on" Ed lN rH
 iY:Binds K rH yF []
 oM:Addr
 ug:FuncData
 IV:mg "_law_plus"=some (.ref oM)
 Jg:Ĕ K (.ref oM)=true
 tM:cY K "_law_plus" "_law_plus" Ii oM ug
 mW:Binds K ug Bh []
 oN:Addr
 uh:FuncData
 IW:mg "_law_full"=some (.ref oN)
 Jh:Ĕ K (.ref oN)=true
 tN:cY K "_law_full" "_law_full" Ij oN uh
 mX:Binds K uh Bj []
 zI:Addr
 G6:FuncData
 alv:mg "law"=some (.ref zI)
 alD:Ĕ K (.ref zI)=true
 EX:cY K "law" "law" ad9 zI G6
 CK:Binds K G6 W2 []
 HJ:mg "abs"=none
 Ra:mg "all"=none
 mF:mg "enumerate"=none
 fc:mg "isinstance"=none
 m9:mg "len"=none
 Q9:mg "max"=none
 HH:mg "min"=none
 nv:mg "range"=none
 mE:mg "sorted"=none
 vK:mg "tuple"=none
 Kf:Value
 VR:mg "EAST"=some Kf
 YT:SQ K Kf (.int 0)
 yj:Value
 DZ:mg "LETTERS"=some yj
 ET:SQ K yj (.str "abcdefghijklmnopqrstuvwxyz")
 n6:Value
 sd:mg "LONGEST_NAME"=some n6
 tG:SQ K n6 (.int 8)
 n5:Value
 nZ:mg "LONGEST_SIDE"=some n5
 oF:SQ K n5 (.int 16)
 Ft:Value
 Rk:mg "NORTH"=some Ft
 Sq:SQ K Ft (.int 1)
 VT:Value
 HV:mg "ONE"=some VT
 Jw:SQ K VT (.gt [.int 1,.int 1])
 Ke:Value
 Ka:mg "WAYS"=some Ke
 Lz:SQ K Ke (.gt [.int 0,.int 1,.int 2,.int 3])
 Kd:Value
 VQ:mg "WEST"=some Kd
 YO:SQ K Kd (.int 2)
 Kc:Value
 VP:mg "ZERO"=some Kc
 YN:SQ K Kc (.gt [.int 0,.int 1])
 b6:Addr
 GZ:mg "NoFraction"=some (.ref b6)
 iS:Addr
 YR:mg "NoCell"=some (.ref iS)
 gg:Addr
 U4:mg "NoTable"=some (.ref gg)
 gh:Addr
 U5:mg "NoPlace"=some (.ref gh)
 iR:Addr
 YQ:mg "NoPass"=some (.ref iR)
 bD:Addr
 G0:mg "Empty"=some (.ref bD)
 aQ:Addr
 Jy:mg "Mirror"=some (.ref aQ)
 cu:Addr
 YS:mg "Half"=some (.ref cu)
 aL:Addr
 Cr:mg "Filter"=some (.ref aL)
 b5:Addr
 Ly:mg "Wall"=some (.ref b5)
 bu:Addr
 rA:mg "Fibre"=some (.ref bu)
 aG:Addr
 So:mg "Table"=some (.ref aG)
 Ai:cb.cls "Empty"=some (bD,([]:List Str))
 acy:cb.ins "Empty"=some bD
 jy:zk K bD
 BS:Mk0 K bD
 kL:Meth K bD "leads" dj
 A9:cb.cls "Mirror"=some (aQ,(["slant"]:List Str))
 II:cb.ins "Mirror"=some aQ
 g6:zk K aQ
 Ey:Mk K aQ cV
 jG:Meth K aQ "leads" eK
 KC:cb.cls "Half"=some (cu,(["slant","share"]:List Str))
 Xw:cb.ins "Half"=some cu
 mz:zk K cu
 RS:Mk K cu eZ
 lV:Meth K cu "leads" gK
 Ba:cb.cls "Filter"=some (aL,(["share"]:List Str))
 IJ:cb.ins "Filter"=some aL
 g7:zk K aL
 Ez:Mk K aL cW
 jH:Meth K aL "leads" eN
 KA:cb.cls "Wall"=some (b5,([]:List Str))
 ahg:cb.ins "Wall"=some b5
 mj:zk K b5
 RQ:Mk0 K b5
 lT:Meth K b5 "leads" gI
 Ah:cb.cls "Fibre"=some (bu,(["name"]:List Str))
 Gi:cb.ins "Fibre"=some bu
 jw:zk K bu
 BR:Mk K bu dS
 kK:Meth K bu "leads" dj
 o8:cb.cls "Table"=some (aG,(["grid","ends"]:List Str))
 RP:cb.ins "Table"=some aG
 ez:zk K aG
 IL:Mk K aG dQ
 kJ:Meth K aG "width" fS
 jF:Meth K aG "height" eG
 gq:Meth K aG "has_place" bV
 gp:Meth K aG "other_end" bU
 lU:Meth K aG "cell" gJ
 fB:Meth K aG "check_place" bG
 ft:aiS cb vC
 G8:FA K cb "ends"
 rK:FA K cb "grid"
 G7:FA K cb "name"
 qy:FA K cb "share"
 tL:FA K cb "slant"
 nA:XC K mg cb "NoFraction" "NoFraction" b6
 vL:XC K mg cb "NoPass" "NoPass" iR
 qa:XC K mg cb "NoCell" "NoCell" iS
 lz:XC K mg cb "NoTable" "NoTable" gg
 tV:XC K mg cb "NoPlace" "NoPlace" gh
 xt:XTs K cb mt
 xw:IsK K cb mt (.ref bu) "Fibre"
 YC:IsK K cb mt (.ref b5) "Wall"
 Jp:IsK K cb mt (.ref aL) "Filter"
section
variable{P:Program}{w:World}{K:ă}{mg:`Ò}{cb:Cb}{base:Heap}
def nH(M:`Õ):jA P w K mg base cb 1 M.iP M.nM sG aK:=by
 refine p9 b8 M.mS `Å `Á;subst hcb;exact (au (bA (AH (ah 1) (lA M.m9 (aa (ah 0) ak))) (aq (aM (aN (ah 0) (ah 1)))) aO)
  (aq (aM aA)))
def KQ(M:`Õ):jA P w K mg base cb 1 M.lM M.rG yE i8:=by refine p9 kc M.qD `Å `Á;subst hcb;exact (aq (aM (nY (ki (ah 0) aA) (m5 (ki (m5 (ah 0) aA) aA) aA))))
def sJ(M:`Õ):jA P w K mg base cb 1 M.fP M.kM pO dN:=by refine p9 dI M.jq `Å `Á;subst hcb;exact (aq (bA (DX (ah 0) (eW (aa aA (aa aA ak)))) (aq (gX g M.qa (aa jL ak))) aO))
def Ir(M:`Õ):jA P w K mg base cb 1 M.rO M.xE FN k6:=by refine p9 mC M.xJ `Å `Á;subst hcb;exact (aq (aM (akd (ki (aN (ah 0) aA) (aN (ah 1) aA)) (ki (aN (ah 1) aA) (aN (ah 0) aA)))))
def sL(M:`Õ):jA P w K mg base cb 2 M.fR M.kP pQ cH:=by refine p9 cF M.jt `Å `Á;subst hcb;exact (aq (bA (vM (yf (iz (jD (cS (Ir M) (hr.mono `Â) M.Gs M.GJ M.mC (aa (fh M.VP M.YN) (aa (ah 0) ak))))) (tX (iz (jD (cS (Ir M) (hr.mono `Â) M.Gs M.GJ M.mC (aa (ah 0) (aa (fh M.HV M.Jw) ak)))))))) (aq (gX g M.qa (aa jL ak))) aO))
def yH(M:`Õ):jA P w K mg base cb 3 M.eZ M.iW m8 bL:=by
 refine wfG b9 M.cX `Å `Á;subst hcb;exact (au (jU (cS (sJ M) (hr.mono `Â) M.pR M.pU M.dI (aa (ah 1) ak)))
  (au (jU (cS (sL M) (hr.mono `Â) M.pS M.pV M.cF (aa (ah 2) ak)))
  (au (nW 0 M.tL M.ft (λ B=>(ah 1)))
  (aq (nW 0 M.qy M.ft (λ B=>(ah 2)))))))
def Iv(M:`Õ):jA P w K mg base cb 1 M.rR M.xH Ak i9:=by
 refine p9 nP M.xN ade `Á;subst hcb;have hu:=hr.units;exact (au (aZ 2 g.nd (ah 0))
  (au (aZ 3 g.nd (ah 1))
  (au (AJ n g (vc hu (ah 3) aA) (aq (abm 2 3 g.calm g.nd (aa (ah 3) (aa (m5 (ah 2) (ah 3)) ak)))))
  (aq (aM (eW (aa (jE (ah 0) (ah 2)) (aa (jE (ah 1) (ah 2)) ak))))))))
def Bo(M:`Õ):jA P w K mg base cb 2 M.lK M.rF yD i7:=by
 refine p9 iX M.qC `Å `Á;subst hcb;exact (au (aZ 1 g.nd (nY aA (m5 (ah 0) aA)))
  (aq (aM (cS (Iv M) (hr.mono `Â) M.Gu M.GK M.nP (aa (nY aA (m5 (jE (ah 0) aA) (AM (ah 1) aA))) (aa (ah 1) ak))))))
def vn(M:`Õ):jA P w K mg base cb 3 M.cW M.gx kF br:=by
 refine wfG bJ M.bS `Å `Á;subst hcb;exact (au (jU (cS (sL M) (hr.mono `Â) M.pS M.pV M.cF (aa (ah 1) ak)))
  (aq (nW 0 M.qy M.ft (λ B=>(ah 1)))))
def vm(M:`Õ):jA P w K mg base cb 2 M.cV M.gw kC bY:=by
 refine wfG bT M.bR `Å `Á;subst hcb;exact (au (jU (cS (sJ M) (hr.mono `Â) M.pR M.pU M.dI (aa (ah 1) ak)))
  (aq (nW 0 M.tL M.ft (λ B=>(ah 1)))))
def Xe(M:`Õ):jA P w K mg base cb 5 M.rQ M.xG FP nQ:=by
 refine p9 pK M.xM `Å `Á;subst hcb;have hu:=hr.units;exact (au (aZ 1 g.nd (m5 (ah 0) aA))
  (au (aZ 2 g.nd (aN (fZ (nV (aa aA (aa aA ak)))) (m5 (jE (ah 0) aA) aA)))
  (au (bA (AH (ah 1) aA) (aq (aM (AQ M.BS M.Ai M.G0))) aO)
  (au (bA (AI hu (ah 1) aA) (aq (aM (AQ M.RQ M.KA M.Ly))) aO)
  (au (bA (AH (ah 1) aA) (aq (aM (AO (qd (aJ _) M.RS (yH M) (hr.mono `Â) M.b9 M.Xw M.KC M.YS (aa (ah 2) (aa (cS (Bo M) (hr.mono `Â) M.yN M.yU M.iX (aa (jE (ah 0) aA) ak)) ak)) rfl)))) aO)
  (au (bA (AH (ah 1) aA) (aq (aM (AO (qd (aJ _) M.Ez (vn M) (hr.mono `Â) M.bJ M.IJ M.Ba M.Cr (aa (cS (Bo M) (hr.mono `Â) M.yN M.yU M.iX (aa (jE (ah 0) aA) ak)) ak) rfl)))) aO)
  (aq (aM (AO (qd (aJ _) M.Ey (vm M) (hr.mono `Â) M.bT M.II M.A9 M.Jy (aa (ah 2) ak) rfl))))))))))
def C9(M:`Õ):jA P w K mg base cb 1 M.gG M.lY qV dB:=by refine p9 dg M.kT `Å `Á;subst hcb;exact (aq (bA (vM (yf (iz (qe (kH uO) (kH uO) uQ uQ aA (lA M.m9 (aa (ah 0) ak)) (fh M.sd M.tG))) (tX (iz (jD (af3 rfl M.Ra (aa (fZ (mH (tm:=false) (k:=1) (caps:=[]) (N':=["sign"]) (λ h=>nomatch h) rfl (abj (ah 0)) ⟨rfl,by decide+kernel,rfl,by decide+kernel,rfl,(λ i c y h=>by simp at h)⟩ (by decide+kernel) (λ C s₀ H₀ ex=>(aT 0 (by decide+kernel:(["sign"]:List Str).Nodup))) (λ C s₀ H₀ ex=>qP) (λ C s₀ H₀ ex=>(af1 (ah 0) (fh M.DZ M.ET))) (nB `Â))) ak))))))) (aq (gX g M.qa (aa jL ak))) aO))
def pB(M:`Õ):jA P w K mg base cb 2 M.dS M.iE lF aS:=by
 refine wfG bB M.cA `Å `Á;subst hcb;exact (au (jU (cS (C9 M) (hr.mono `Â) M.wL M.xg M.dg (aa (ah 1) ak)))
  (aq (nW 0 M.G7 M.ft (λ B=>(ah 1)))))
def Br(M:`Õ):jA P w K mg base cb 1 M.fQ M.kO pP cG:=by
 refine p9 dJ M.jr `Å `Á;subst hcb;have hu:=hr.units;exact (au (bA (iz (qe (kH uO) (kH uO) uQ uQ aA (lA M.m9 (aa (ah 0) ak)) (fh M.nZ M.oF))) (aq (gX g M.lz (aa jL ak))) aO)
  (aq (iK g (kh (ah 0)) (aT 1 g.nd) (au (bA (iz (qe (kH uO) (kH uO) uQ uQ aA (lA M.m9 (aa (ah 1) ak)) (fh M.nZ M.oF))) (aq (gX g M.lz (aa jL ak))) aO)
  (aq (bA (vc hu (lA M.m9 (aa (ah 1) ak)) (lA M.m9 (aa (aN (ah 0) aA) ak))) (aq (gX g M.lz (aa jL ak))) aO))))))
def zL(M:`Õ):jA P w K mg base cb 1 M.eF M.jK oj cP:=by
 refine p9 cM M.iN `Å `Á;subst hcb;exact (au (r9 1 g.nd (λ B=>abh))
  (au (iK g (HM M.mF (aa (ah 0) ak)) (tW rfl (eX (aT 2 g.nd) (eX (aT 3 g.nd) qc))) (aq (iK g (HM M.mF (aa (ah 3) ak)) (tW rfl (eX (aT 4 g.nd) (eX (aT 5 g.nd) qc))) (aq (bA (jD (Fj M.fc M.xt M.xw (qG M.rA) (ah 5))) (aq (J5 1 (m6 M.G7 (ah 5)) (fY (nV ak)) (eW (aa (ah 4) (aa (ah 2) ak))))) aO)))))
  (aq (AK 1))))
def C7(M:`Õ):jA P w K mg base cb 2 M.gE M.lW qT dw:=by
 refine p9 fE M.kQ `Å `Á;subst hcb;have hu:=hr.units;have hu1:=hU1 hr.units;exact (au (r9 1 g.nd (λ B=>Rf))
  (au (iK g (Tr (cS (zL M) (hr.mono `Â) M.sX M.tE M.cM (aa (ah 0) ak))) (tW rfl (eX (aT 2 g.nd) (eX (aT 3 g.nd) qc))) (au (bA (vc hu (lA M.m9 (aa (ah 3) ak)) aA) (aq (gX g M.lz (aa (abp (ah 2)) ak))) aO)
  (au (AL hu1 (λ B=>(qQ 1)) (λ B=>(aN (ah 3) aA)) (λ B=>(aN (ah 3) aA)))
  (aq (AL hu1 (λ B=>(qQ 1)) (λ B=>(aN (ah 3) aA)) (λ B=>(aN (ah 3) aA)))))))
  (aq (AK 1))))
def wm(M:`Õ):jA P w K mg base cb 3 M.dQ M.iD lE bC:=by
 refine wfG bO M.cz `Å `Á;subst hcb;exact (au (nW 0 M.rK M.ft (λ B=>(HP M.vK (aa (fZ (mH (tm:=false) (k:=1) (caps:=[]) (N':=["cells"]) (λ h=>nomatch h) rfl (kh (ah 1)) ⟨rfl,by decide+kernel,rfl,by decide+kernel,rfl,(λ i c y h=>by simp at h)⟩ (by decide+kernel) (λ C s₀ H₀ ex=>(aT 0 (by decide+kernel:(["cells"]:List Str).Nodup))) (λ C s₀ H₀ ex=>qP) (λ C s₀ H₀ ex=>(HP M.vK (aa (ah 0) ak))) (nB `Â))) ak))))
  (au (VG (λ B=>(J8 (Br M) (hr.mono `Â) M.uR M.uS M.dJ (aa (m6 M.rK (oW 0)) ak))))
  (aq (nW 0 M.G8 M.ft (λ B=>(J8 (C7 M) (hr.mono `Â) M.wJ M.wZ M.fE (aa (m6 M.rK (oW 0)) ak)))))))
def KP(M:`Õ):jA P w K mg base cb 6 M.lJ M.rE yC g8:=by
 refine p9 j9 M.qB `Å `Á;subst hcb;have hu:=hr.units;exact (au (aZ 1 g.nd (fZ (VB (ah 0) (vN aA) (vN aA))))
  (au (aZ 2 g.nd (nY aA (m5 (cS (nH M) (hr.mono `Â) M.mO M.mQ M.b8 (aa (ah 0) (aa aA ak))) aA)))
  (au (aZ 3 g.nd (abn rfl M.Q9 (aa aA (aa (Rh rfl M.HH (aa aA (aa (jE (AM (nY (lA M.m9 (aa (ah 1) ak)) (ah 2)) aA) (ah 2)) ak))) ak))))
  (au (r9 4 g.nd (λ B=>(fY (mH (tm:=false) (k:=1) (caps:=[]) (N':=["_law_k"]) (λ h=>nomatch h) rfl (qb M.nv (aa (ki (ah 2) (ah 3)) ak)) ⟨rfl,by decide+kernel,rfl,by decide+kernel,rfl,(λ i c y h=>by simp at h)⟩ (by decide+kernel) (λ C s₀ H₀ ex=>(aT 0 (by decide+kernel:(["_law_k"]:List Str).Nodup))) (λ C s₀ H₀ ex=>qP) (λ C s₀ H₀ ex=>(AQ M.BS M.Ai M.G0)) (nB `Â)))))
  (au (iK g (qb M.nv (aa (Rh rfl M.HH (aa (lA M.m9 (aa (ah 1) ak)) (aa (ki (ah 2) (ah 3)) ak))) ak)) (aT 5 g.nd) (aq (yg (λ B=>(qQ 4)) (λ B=>(ah 5)) (λ B=>(nX (Xe M) (hr.mono `Â) M.RW M.R8 M.pK (aa (nX (KQ M) (hr.mono `Â) M.EE M.EM M.kc (aa (aN (ah 1) (ah 5)) ak)) ak))))))
  (au (iK g (qb M.nv (aa (m5 (jE (cS (nH M) (hr.mono `Â) M.mO M.mQ M.b8 (aa (ah 0) (aa aA ak))) aA) aA) ak)) (aT 6 g.nd) (au (HN 7 g.nd (λ B=>(m5 (jE (nX (nH M) (hr.mono `Â) M.mO M.mQ M.b8 (aa (ah 0) (aa (nY aA (ah 6)) ak))) aA) (lA M.m9 (aa (oW 4) ak)))))
  (au (HN 8 g.nd (λ B=>(m5 (jE (nX (nH M) (hr.mono `Â) M.mO M.mQ M.b8 (aa (ah 0) (aa (nY aA (ah 6)) ak))) aA) (lA M.m9 (aa (oW 4) ak)))))
  (aq (afZ (λ B=>(vM (Af (vc hu (ah 7) (ah 8)) (Af (iz (jD (Fj M.fc M.xt M.xw (qG M.rA) (aN (oW 4) (ah 7))))) (AG (iz (jD (Fj M.fc M.xt M.xw (qG M.rA) (aN (oW 4) (ah 8)))))))))) (au (yg (λ B=>(qQ 4)) (λ B=>(ah 7)) (λ B=>(HQ (qd (Gw _) M.BR (pB M) (hr.mono `Â) M.bB M.Gi M.Ah M.rA (aa (aN (fZ (nV (aa jL (aa jL (aa jL ak))))) (ah 6)) ak) rfl))))
  (aq (yg (λ B=>(qQ 4)) (λ B=>(ah 8)) (λ B=>(HQ (qd (Gw _) M.BR (pB M) (hr.mono `Â) M.bB M.Gi M.Ah M.rA (aa (aN (fZ (nV (aa jL (aa jL (aa jL ak))))) (ah 6)) ak) rfl)))))) aO)))))
  (aq (VF (λ B=>(VJ (qd (RY _) M.IL (wm M) (hr.mono `Â) M.bO M.RP M.o8 M.So (aa (fZ (mH (tm:=true) (k:=1) (caps:=[4,2]) (N':=["_law_y","_law_row","_law_wide"]) (λ _=>rfl) rfl (qb M.nv (aa (ah 3) ak)) ⟨rfl,by decide+kernel,rfl,by decide+kernel,rfl,(adz (aB (Vc rfl) (aB (Vc rfl) iu)))⟩ (by decide+kernel) (λ C s₀ H₀ ex=>(aT 0 (by decide+kernel:(["_law_y","_law_row","_law_wide"]:List Str).Nodup))) (λ C s₀ H₀ ex=>qP) (λ C s₀ H₀ ex=>(fZ (VB (ah 1) (vN (ki (ah 0) (ah 2))) (vN (ki (nY (ah 0) aA) (ah 2)))))) (nB `Â))) ak) rfl)))))))))))
def Bs(M:`Õ):jA P w K mg base cb 1 M.fS M.iM lR cJ:=by refine p9 dM M.fL `Å `Á;subst hcb;exact (aq (aM (lA M.m9 (aa (aN (m6 M.rK (ah 0)) aA) ak))))
def BQ{X:Cx}(M:`Õ)(hP:X.prog=P)(hw:X.w=w)(hK:X.K=K)(hm:X.mg=mg)(hb:X.base=base)(hr:gM 1 X.A):DW X cb "width" 0 oX:=by
 subst hP hw hK hm hb;exact vt (aB (Vp M.o8 ⟨1,M.fS,M.iM,lR,M.ez,M.kJ,Bs M,hr.mono `Â,M.dM,rfl,by decide⟩)
  iu)
def zM(M:`Õ):jA P w K mg base cb 1 M.eG M.gT ku bW:=by refine p9 cN M.d7 `Å `Á;subst hcb;exact (aq (aM (lA M.m9 (aa (m6 M.rK (ah 0)) ak))))
def yL{X:Cx}(M:`Õ)(hP:X.prog=P)(hw:X.w=w)(hK:X.K=K)(hm:X.mg=mg)(hb:X.base=base)(hr:gM 1 X.A):DW X cb "height" 0 mJ:=by
 subst hP hw hK hm hb;exact vt (aB (Vp M.o8 ⟨1,M.eG,M.gT,ku,M.ez,M.jF,zM M,hr.mono `Â,M.cN,rfl,by decide⟩)
  iu)
def wj(M:`Õ):jA P w K mg base cb 2 M.iO M.nL sF cg:=by
 refine p9 fD M.mR `Å `Á;subst hcb;exact (au (r9 1 g.nd (λ B=>(fY (nV ak))))
  (au (iK g (qb M.nv (aa (c8 (cZ (nR (aJ _) (BQ M rfl rfl rfl rfl rfl (hr.mono `Â)) (ah 0)))) ak)) (aT 2 g.nd) (aq (iK g (qb M.nv (aa (c8 (cZ (nR (aJ _) (yL M rfl rfl rfl rfl rfl (hr.mono `Â)) (ah 0)))) ak)) (aT 3 g.nd) (aq (J6 (λ B=>(qQ 1)) (λ B=>(mH (tm:=false) (k:=1) (caps:=[2,3]) (N':=["way","x","y"]) (λ h=>nomatch h) rfl (kh (fh M.Ka M.Lz)) ⟨rfl,by decide+kernel,rfl,by decide+kernel,rfl,(adz (aB (Vc rfl) (aB (Vc rfl) iu)))⟩ (by decide+kernel) (λ C s₀ H₀ ex=>(aT 0 (by decide+kernel:(["way","x","y"]:List Str).Nodup))) (λ C s₀ H₀ ex=>qP) (λ C s₀ H₀ ex=>(eW (aa (ah 1) (aa (ah 2) (aa (ah 0) ak))))) (nB `Â))))))))
  (aq (AK 1))))
def Iu(M:`Õ):jA P w K mg base cb 1 M.jQ M.pF ve jT:=by refine p9 jO M.oG `Å `Á;subst hcb;exact (aq (aM (J7 (ah 0) aA)))
def Ep(M:`Õ):jA P w K mg base cb 1 M.oQ M.ur Bm k9:=by
 refine p9 kY M.tP `Å `Á;subst hcb;have hu:=hr.units;exact (au (bA (AI hu (ah 2) (fh M.VR M.YT)) (aq (aM (eW (aa (nY (ah 0) aA) (aa (ah 1) ak))))) aO)
  (au (bA (AI hu (ah 2) (fh M.Rk M.Sq)) (aq (aM (eW (aa (ah 0) (aa (AM (ah 1) aA) ak))))) aO)
  (au (bA (AI hu (ah 2) (fh M.VQ M.YO)) (aq (aM (eW (aa (AM (ah 0) aA) (aa (ah 1) ak))))) aO)
  (aq (aM (eW (aa (ah 0) (aa (nY (ah 1) aA) ak))))))))
def ou(M:`Õ):jA P w K mg base cb 2 M.lO M.rJ yG b7:=by
 refine p9 eY M.qF `Å `Á;subst hcb;exact (au (aZ 1 g.nd (cS (Iu M) (hr.mono `Â) M.BW M.Cg M.jO (aa (aN (ah 0) aA) ak)))
  (au (aZ 2 g.nd (cS (Ep M) (hr.mono `Â) M.BY M.Cj M.kY (aa (aN (ah 0) aA) (aa (aN (ah 0) aA) (aa (ah 1) ak)))))
  (aq (aM (eW (aa (aN (ah 2) aA) (aa (aN (ah 2) aA) (aa (ah 1) ak))))))))
def vj(M:`Õ):jA P w K mg base cb 2 M.bV M.dY iB bh:=by refine p9 bI M.bQ `Å `Á;subst hcb;exact (aq (aM (af2 (HS (kH uO) (kH Eo) uQ RJ aA (ah 1) (c8 (cZ (nR (aJ _) (BQ M rfl rfl rfl rfl rfl (hr.mono `Â)) (ah 0))))) (VI (HS (kH uO) (kH Eo) uQ RJ aA (ah 2) (c8 (cZ (nR (aJ _) (yL M rfl rfl rfl rfl rfl (hr.mono `Â)) (ah 0)))))))))
def wI{X:Cx}(M:`Õ)(hP:X.prog=P)(hw:X.w=w)(hK:X.K=K)(hm:X.mg=mg)(hb:X.base=base)(hr:gM 2 X.A):DW X cb "has_place" 2 jW:=by
 subst hP hw hK hm hb;exact vt (aB (Vp M.o8 ⟨2,M.bV,M.dY,iB,M.ez,M.gq,vj M,hr.mono `Â,M.bI,rfl,by decide⟩)
  iu)
def sI(M:`Õ):jA P w K mg base cb 3 M.jS M.pH vg fT:=by refine p9 fN M.oJ `Å `Á;subst hcb;exact (aq (aM (c8 (cZ (jf (aJ _) (wI M rfl rfl rfl rfl rfl (hr.mono `Â)) (ah 0) (aa (aN (ah 1) aA) (aa (aN (ah 1) aA) ak)))))))
def wk(M:`Õ):jA P w K mg base cb 4 M.iQ M.nN sH cQ:=by refine p9 fF M.mT `Å `Á;subst hcb;exact (aq (aM (cS (sI M) (hr.mono `Â) M.q8 M.rj M.fN (aa (ah 0) (aa (cS (ou M) (hr.mono `Â) M.nS M.nU M.eY (aa (ah 1) ak)) ak)))))
def Ud(M:`Õ):jA P w K mg base cb 5 M.oO M.uq Bl jB:=by refine p9 mY M.tO `Å `Á;subst hcb;exact (aq (jg (λ B=>(fY (u9 M.mE (aa (fZ (mH (tm:=false) (k:=1) (caps:=[0]) (N':=["p","table"]) (λ h=>nomatch h) rfl (kh (nX (wj M) (hr.mono `Â) M.sW M.tD M.fD (aa (ah 0) ak))) ⟨rfl,by decide+kernel,rfl,by decide+kernel,rfl,(adz (aB (Vc rfl) iu))⟩ (by decide+kernel) (λ C s₀ H₀ ex=>(aT 0 (by decide+kernel:(["p","table"]:List Str).Nodup))) (λ C s₀ H₀ ex=>(abf (iz (jD (nX (wk M) (hr.mono `Â) M.sY M.tF M.fF (aa (ah 1) (aa (ah 0) ak))))))) (λ C s₀ H₀ ex=>(ah 0)) (nB `Â))) ak))))))
def KL(M:`Õ):jA P w K mg base cb 6 M.lH M.rC yy iZ:=by refine p9 jZ M.qz `Å `Á;subst hcb;exact (aq (jg (λ B=>(fY (u9 M.mE (aa (fZ (mH (tm:=false) (k:=1) (caps:=[]) (N':=["p"]) (λ h=>nomatch h) rfl (kh (nX (Ud M) (hr.mono `Â) M.IX M.Ji M.mY (aa (ah 0) ak))) ⟨rfl,by decide+kernel,rfl,by decide+kernel,rfl,(λ i c y h=>by simp at h)⟩ (by decide+kernel) (λ C s₀ H₀ ex=>(aT 0 (by decide+kernel:(["p"]:List Str).Nodup))) (λ C s₀ H₀ ex=>qP) (λ C s₀ H₀ ex=>(nX (ou M) (hr.mono `Â) M.nS M.nU M.eY (aa (ah 0) ak))) (nB `Â))) ak))))))
def Dc(M:`Õ):jA P w K mg base cb 7 M.gH M.lZ qW dD:=by refine p9 fG M.kU `Å `Á;subst hcb;exact (aq (jg (λ B=>(fY (u9 M.mE (aa (fZ (afX (nX (wj M) (hr.mono `Â) M.sW M.tD M.fD (aa (ah 0) ak)) (nX (KL M) (hr.mono `Â) M.EB M.EJ M.jZ (aa (ah 0) ak)))) ak))))))
def C8(M:`Õ):jA P w K mg base cb 5 M.gF M.lX qU cI:=by refine p9 c9 M.kR `Å `Á;subst hcb;exact (aq (bA (vM (yf (DX (aN (ah 1) aA) (fh M.Ka M.Lz)) (tX (iz (vM (yf (jD (cS (sI M) (hr.mono `Â) M.q8 M.rj M.fN (aa (ah 0) (aa (ah 1) ak)))) (tX (jD (cS (wk M) (hr.mono `Â) M.sY M.tF M.fF (aa (ah 0) (aa (ah 1) ak))))))))))) (aq (gX g M.vL (aa jL ak))) aO))
def sM(M:`Õ):jA P w K mg base cb 3 M.bG M.cL fW aR:=by refine p9 aX M.bF `Å `Á;subst hcb;exact (aq (bA (iz (jD (c8 (cZ (jf (aJ _) (wI M rfl rfl rfl rfl rfl (hr.mono `Â)) (ah 0) (aa (ah 1) (aa (ah 2) ak))))))) (aq (gX g M.tV (aa jL ak))) aO))
def sS{X:Cx}(M:`Õ)(hP:X.prog=P)(hw:X.w=w)(hK:X.K=K)(hm:X.mg=mg)(hb:X.base=base)(hr:gM 3 X.A):DW X cb "check_place" 2 ji:=by
 subst hP hw hK hm hb;exact vt (aB (Vp M.o8 ⟨3,M.bG,M.cL,fW,M.ez,M.fB,sM M,hr.mono `Â,M.aX,rfl,by decide⟩)
  iu)
def vh(M:`Õ):jA P w K mg base cb 4 M.bU M.dX iA bg:=by
 refine p9 bH M.bP `Å `Á;subst hcb;have hu1:=hU1 hr.units;exact (au (jU (c8 (cZ (jf (aJ _) (sS M rfl rfl rfl rfl rfl (hr.mono `Â)) (ah 0) (aa (ah 1) (aa (ah 2) ak))))))
  (aq (aM (VL hu1 (m6 M.G8 (ah 0)) (eW (aa (ah 1) (aa (ah 2) ak)))))))
def wH{X:Cx}(M:`Õ)(hP:X.prog=P)(hw:X.w=w)(hK:X.K=K)(hm:X.mg=mg)(hb:X.base=base)(hr:gM 4 X.A):DW X cb "other_end" 2 jV:=by
 subst hP hw hK hm hb;exact vt (aB (Vp M.o8 ⟨4,M.bU,M.dX,iA,M.ez,M.gp,vh M,hr.mono `Â,M.bH,rfl,by decide⟩)
  iu)
def De(M:`Õ):jA P w K mg base cb 4 M.gJ M.jn nF dF:=by
 refine p9 fH M.gz `Å `Á;subst hcb;exact (au (jU (c8 (cZ (jf (aJ _) (sS M rfl rfl rfl rfl rfl (hr.mono `Â)) (ah 0) (aa (ah 1) (aa (ah 2) ak))))))
  (aq (aM (aN (aN (m6 M.rK (ah 0)) (ah 2)) (ah 1)))))
def Gm{X:Cx}(M:`Õ)(hP:X.prog=P)(hw:X.w=w)(hK:X.K=K)(hm:X.mg=mg)(hb:X.base=base)(hr:gM 4 X.A):DW X cb "cell" 2 vd:=by
 subst hP hw hK hm hb;exact vt (aB (Vp M.o8 ⟨4,M.gJ,M.jn,nF,M.ez,M.lU,De M,hr.mono `Â,M.fH,rfl,by decide⟩)
  iu)
def uP(M:`Õ):jA P w K mg base cb 1 M.dj M.gZ kG dG:=by refine p9 fJ M.fC `Å `Á;subst hcb;exact (aq (jg (λ B=>(fY (nV (aa (eW (aa (ah 1) (aa (fh M.HV M.Jw) ak))) ak))))))
def zN(M:`Õ):jA P w K mg base cb 1 M.eK M.gU kB bX:=by refine p9 cO M.d8 `Å `Á;subst hcb;exact (aq (jg (λ B=>(fY (nV (aa (eW (aa (J7 (ah 1) (m6 M.tL (ah 0))) (aa (fh M.HV M.Jw) ak))) ak))))))
def uw(M:`Õ):jA P w K mg base cb 1 M.bM M.fX gn aI:=by
 refine p9 bx M.dZ vB `Á;subst hcb;have hu:=hr.units;exact (au (aZ 2 g.nd (VM M.HJ (aa (ah 0) ak)))
  (au (aZ 3 g.nd (VM M.HJ (aa (ah 1) ak)))
  (au (AJ n g (vc hu (ah 3) aA) (au (aZ 4 g.nd (m5 (ah 2) (ah 3)))
  (au (aZ 2 g.nd (ah 3))
  (aq (aZ 3 g.nd (ah 4))))))
  (aq (aM (ah 2))))))
def Iw(M:`Õ):jA P w K mg base cb 2 M.jR M.pG vf gP:=by
 refine p9 gB M.oH `Å `Á;subst hcb;have hu:=hr.units;exact (au (bA (AI hu (ah 1) aA) (aq (gX g M.nA (aa jL ak))) aO)
  (au (aZ 2 g.nd (cS (uw M) (hr.mono `Â) M.oz M.oB M.bx (aa (ah 0) (aa (ah 1) ak))))
  (au (bA (AH (ah 1) aA) (aq (aZ 2 g.nd (af0 (ah 2)))) aO)
  (aq (aM (eW (aa (jE (ah 0) (ah 2)) (aa (jE (ah 1) (ah 2)) ak))))))))
def Xd(M:`Õ):jA P w K mg base cb 3 M.rP M.xF FO pM:=by refine p9 pJ M.xK `Å `Á;subst hcb;exact (aq (aM (cS (Iw M) (hr.mono `Â) M.BX M.Ci M.gB (aa (AM (ki (aN (ah 0) aA) (aN (ah 1) aA)) (ki (aN (ah 1) aA) (aN (ah 0) aA))) (aa (ki (aN (ah 0) aA) (aN (ah 1) aA)) ak)))))
def Df(M:`Õ):jA P w K mg base cb 4 M.gK M.jo nG bZ:=by
 refine p9 dh M.gA `Å `Á;subst hcb;exact (au (aZ 2 g.nd (eW (aa (J7 (ah 1) (m6 M.tL (ah 0))) (aa (m6 M.qy (ah 0)) ak))))
  (au (aZ 3 g.nd (eW (aa (ah 1) (aa (cS (Xd M) (hr.mono `Â) M.RV M.R7 M.pJ (aa (fh M.HV M.Jw) (aa (m6 M.qy (ah 0)) ak))) ak))))
  (aq (jg (λ B=>(fY (J3 M.mE (aa (fZ (nV (aa (ah 2) (aa (ah 3) ak)))) ak))))))))
def zO(M:`Õ):jA P w K mg base cb 1 M.eN M.gW kE eT:=by refine p9 eE M.d9 `Å `Á;subst hcb;exact (aq (jg (λ B=>(fY (nV (aa (eW (aa (ah 1) (aa (m6 M.qy (ah 0)) ak))) ak))))))
def Dd(M:`Õ):jA P w K mg base cb 1 M.gI M.jm nE gQ:=by refine p9 gC M.gy `Å `Á;subst hcb;exact (aq (jg (λ B=>(fY (nV ak)))))
def Xy{X:Cx}(M:`Õ)(hP:X.prog=P)(hw:X.w=w)(hK:X.K=K)(hm:X.mg=mg)(hb:X.base=base)(hr:gM 4 X.A):DW X cb "leads" 1 tY:=by
 subst hP hw hK hm hb;exact vt (aB (Vp M.Ai ⟨1,M.dj,M.gZ,kG,M.jy,M.kL,uP M,hr.mono `Â,M.fJ,rfl,by decide⟩)
  (aB (Vp M.A9 ⟨1,M.eK,M.gU,kB,M.g6,M.jG,zN M,hr.mono `Â,M.cO,rfl,by decide⟩)
  (aB (Vp M.KC ⟨4,M.gK,M.jo,nG,M.mz,M.lV,Df M,hr.mono `Â,M.dh,rfl,by decide⟩)
  (aB (Vp M.Ba ⟨1,M.eN,M.gW,kE,M.g7,M.jH,zO M,hr.mono `Â,M.eE,rfl,by decide⟩)
  (aB (Vp M.KA ⟨1,M.gI,M.jm,nE,M.mj,M.lT,Dd M,hr.mono `Â,M.gC,rfl,by decide⟩)
  (aB (Vp M.Ah ⟨1,M.dj,M.gZ,kG,M.jw,M.kK,uP M,hr.mono `Â,M.fJ,rfl,by decide⟩)
  iu))))))
def KN(M:`Õ):jA P w K mg base cb 2 M.lI M.rD yz dU:=by
 refine p9 j5 M.qA `Å `Á;subst hcb;exact (au (aZ 2 g.nd (cS (Ep M) (hr.mono `Â) M.BY M.Cj M.kY (aa (aN (ah 0) aA) (aa (aN (ah 0) aA) (aa (ah 1) ak)))))
  (aq (aM (eW (aa (aN (ah 2) aA) (aa (aN (ah 2) aA) (aa (ah 1) ak)))))))
def Bp(M:`Õ):jA P w K mg base cb 6 M.lN M.rH yF g9:=by
 refine p9 iY M.qE `Å `Á;subst hcb;have hu:=hr.units;exact (au (jU (cS (C8 M) (hr.mono `Â) M.wK M.w9 M.c9 (aa (ah 0) (aa (ah 1) ak))))
  (au (bA (iz (jD (cS (sI M) (hr.mono `Â) M.q8 M.rj M.fN (aa (ah 0) (aa (ah 1) ak))))) (aq (jg (λ B=>(fY (nV ak))))) aO)
  (au (aZ 2 g.nd (c8 (cZ (jf (aJ _) (wH M rfl rfl rfl rfl rfl (hr.mono `Â)) (ah 0) (aa (aN (ah 1) aA) (aa (aN (ah 1) aA) ak))))))
  (au (bA (VE (ah 2) AN) (aq (aZ 2 g.nd (eW (aa (aN (ah 1) aA) (aa (aN (ah 1) aA) ak))))) aO)
  (au (aZ 3 g.nd (c8 (cZ (jf (aJ _) (Xy M rfl rfl rfl rfl rfl (hr.mono `Â)) (c8 (cZ (jf (aJ _) (Gm M rfl rfl rfl rfl rfl (hr.mono `Â)) (ah 0) (aa (aN (ah 1) aA) (aa (aN (ah 1) aA) ak))))) (aa (aN (ah 1) aA) ak)))))
  (aq (jg (λ B=>(fY (J2 hu M.mE (aa (fZ (mH (tm:=false) (k:=2) (caps:=[2]) (N':=["way","share","place"]) (λ h=>nomatch h) rfl (kh (ah 3)) ⟨rfl,by decide+kernel,rfl,by decide+kernel,rfl,(adz (aB (Vc rfl) iu))⟩ (by decide+kernel) (λ C s₀ H₀ ex=>(tW rfl (eX (aT 0 (by decide+kernel:(["way","share","place"]:List Str).Nodup)) (eX (aT 1 (by decide+kernel:(["way","share","place"]:List Str).Nodup)) qc)))) (λ C s₀ H₀ ex=>qP) (λ C s₀ H₀ ex=>(eW (aa (nX (KN M) (hr.mono `Â) M.EC M.EK M.j5 (aa (ah 2) (aa (ah 0) ak))) (aa (ah 1) ak)))) (agf (Ro (nB `Â) (Ro (nB `Â) agg))))) ak)))))))))))
def Ub(M:`Õ):jA P w K mg base cb 2 M.oM M.ug Bh k7:=by refine p9 mW M.tM `Å `Á;subst hcb;exact (aq (aM (cS (Iv M) (hr.mono `Â) M.Gu M.GK M.nP (aa (nY (ki (aN (ah 0) aA) (aN (ah 1) aA)) (ki (aN (ah 1) aA) (aN (ah 0) aA))) (aa (ki (aN (ah 0) aA) (aN (ah 1) aA)) ak)))))
def Uc(M:`Õ):jA P w K mg base cb 5 M.oN M.uh Bj mZ:=by
 refine p9 mX M.tN `Å `Á;subst hcb;exact (au (aZ 2 g.nd (cS (ou M) (hr.mono `Â) M.nS M.nU M.eY (aa (ah 1) ak)))
  (au (bA (vM (yf (iz (qe (kH uO) (kH Eo) uQ RJ aA (aN (ah 2) aA) (c8 (cZ (nR (aJ _) (BQ M rfl rfl rfl rfl rfl (hr.mono `Â)) (ah 0)))))) (tX (iz (qe (kH uO) (kH Eo) uQ RJ aA (aN (ah 2) aA) (c8 (cZ (nR (aJ _) (yL M rfl rfl rfl rfl rfl (hr.mono `Â)) (ah 0))))))))) (aq (aM AN)) aO)
  (au (aZ 3 g.nd (c8 (cZ (jf (aJ _) (Gm M rfl rfl rfl rfl rfl (hr.mono `Â)) (ah 0) (aa (aN (ah 2) aA) (aa (aN (ah 2) aA) ak))))))
  (au (aZ 4 g.nd (c8 (cZ (jf (aJ _) (wH M rfl rfl rfl rfl rfl (hr.mono `Â)) (ah 0) (aa (aN (ah 2) aA) (aa (aN (ah 2) aA) ak))))))
  (au (bA (jD (abo M.fc M.xt (.cons M.YC (.cons M.Jp .nil)) (VN (VN af5)) (ah 3) (Ri (VC (qG M.Ly)) (Ri (VC (qG M.Cr)) af4)) (λ _ _ _ q=>q) `Ó)) (aq (aM HU)) aO)
  (aq (aM (akc (ake (ah 4) AN) (VI (Fj M.fc M.xt M.xw (qG M.rA) (c8 (cZ (jf (aJ _) (Gm M rfl rfl rfl rfl rfl (hr.mono `Â)) (ah 0) (aa (aN (ah 4) aA) (aa (aN (ah 4) aA) ak)))))))))))))))
def ag7(M:`Õ):jA P w K mg base cb 8 M.zI M.G6 W2 uY:=by
 refine p9 CK M.EX `Å `Á;subst hcb;have hu:=hr.units;have hu1:=hU1 hr.units;exact (au (aZ 1 g.nd (cS (KP M) (hr.mono `Â) M.ED M.EL M.j9 (aa (ah 0) ak)))
  (au (aZ 2 g.nd (cS (Dc M) (hr.mono `Â) M.wM M.xh M.fG (aa (ah 1) ak)))
  (au (r9 3 g.nd (λ B=>Rf))
  (au (iK g (kh (ah 2)) (aT 4 g.nd) (aq (iK g (kh (cS (Bp M) (hr.mono `Â) M.yO M.yV M.iY (aa (ah 1) (aa (ah 4) ak)))) (tW rfl (eX (aT 5 g.nd) (eX (aT 6 g.nd) qc))) (au (bA (J4 hu (eW (aa (cS (ou M) (hr.mono `Â) M.nS M.nU M.eY (aa (ah 4) ak)) (aa (ah 6) ak))) (cS (Bp M) (hr.mono `Â) M.yO M.yV M.iY (aa (ah 1) (aa (cS (ou M) (hr.mono `Â) M.nS M.nU M.eY (aa (ah 5) ak)) ak)))) (aq (aM HU)) aO)
  (aq (AL hu1 (λ B=>(qQ 3)) (λ B=>(ah 5)) (λ B=>(J8 (Ub M) (hr.mono `Â) M.IV M.Jg M.mW (aa (HR hu1 (oW 3) (ah 5) (eW (aa aA (aa aA ak)))) (aa (ah 6) ak))))))))))
  (au (iK g (kh (ah 2)) (aT 4 g.nd) (au (VH (λ B=>(HR hu1 (oW 3) (ah 4) (eW (aa aA (aa aA ak))))) (tW rfl (eX (aT 7 g.nd) (eX (aT 8 g.nd) qc))))
  (au (aZ 9 g.nd (cS (Uc M) (hr.mono `Â) M.IW M.Jh M.mX (aa (ah 1) (aa (ah 4) ak))))
  (au (bA (vM (Af (VE (ah 9) AN) (AG (vc hu (ah 7) aA)))) (aq (aM HU)) aO)
  (aq (bA (vM (Af (VD (ah 9) AN) (AG (vM (yf (vc hu (ah 9) (akf hu (ah 7) (ah 8))) (tX (afY (ah 7) (ah 8)))))))) (aq (aM HU)) aO))))))
  (aq (aM HU)))))))
end
def all_mk{P:Program}{w:World}{K:ă}{h:Heap}{mg:`Ò}{fa:Addr}(X:K.In h)(G:h.Ns Ą mg)(hfa:mg "law"=some (.ref fa)) (xO:Ĩ K Ą "NoFraction"=some (some (.ref b6))) (JF:Ĩ K Ą "NoCell"=some (some (.ref iS))) (E2:Ĩ K Ą "NoTable"=some (some (.ref gg))) (E3:Ĩ K Ą "NoPlace"=some (some (.ref gh))) (JE:Ĩ K Ą "NoPass"=some (some (.ref iR))) (adu:Ĩ K Ą "Empty"=some (some (.ref bD))) (Y5:Ĩ K Ą "Mirror"=some (some (.ref aQ))) (aid:Ĩ K Ą "Half"=some (some (.ref cu))) (Y6:Ĩ K Ą "Filter"=some (some (.ref aL))) (aic:Ĩ K Ą "Wall"=some (some (.ref b5))) (adt:Ĩ K Ą "Fibre"=some (some (.ref bu))) (ads:Ĩ K Ą "Table"=some (some (.ref aG))) (iP:Ĩ K Ą "_law_cell_at"=some (some (.ref mS))) (Jc:∃fd,cY K "_law_cell_at" "_law_cell_at" zo mS fd) (lM:Ĩ K Ą "_law_mixed"=some (some (.ref qD))) (UE:∃fd,cY K "_law_mixed" "_law_mixed" Ec qD fd) (fP:Ĩ K Ą "check_slant"=some (some (.ref jq))) (DF:∃fd,cY K "check_slant" "check_slant" uH jq fd) (rO:Ĩ K Ą "under"=some (some (.ref xJ))) (acN:∃fd,cY K "under" "under" Rq xJ fd) (fR:Ĩ K Ą "check_share"=some (some (.ref jt))) (DH:∃fd,cY K "check_share" "check_share" uJ jt fd) (eZ:ĉ K (.ref cu) "__init__"=some (some (.ref cX))) (zU:∃fd,cY K "__init__" "Half.__init__" rT cX fd) (rR:Ĩ K Ą "_law_low"=some (some (.ref xN))) (acQ:∃fd,cY K "_law_low" "_law_low" Ru xN fd) (lK:Ĩ K Ą "_law_share"=some (some (.ref qC))) (UD:∃fd,cY K "_law_share" "_law_share" Eb qC fd) (cW:ĉ K (.ref aL) "__init__"=some (some (.ref bS))) (wW:∃fd,cY K "__init__" "Filter.__init__" o7 bS fd) (cV:ĉ K (.ref aQ) "__init__"=some (some (.ref bR))) (wV:∃fd,cY K "__init__" "Mirror.__init__" o6 bR fd) (rQ:Ĩ K Ą "_law_one"=some (some (.ref xM))) (acP:∃fd,cY K "_law_one" "_law_one" Rt xM fd) (gG:Ĩ K Ą "check_name"=some (some (.ref kT))) (GB:∃fd,cY K "check_name" "check_name" vY kT fd) (dS:ĉ K (.ref bu) "__init__"=some (some (.ref cA))) (yS:∃fd,cY K "__init__" "Fibre.__init__" qg cA fd) (fQ:Ĩ K Ą "check_sides"=some (some (.ref jr))) (DG:∃fd,cY K "check_sides" "check_sides" uI jr fd) (eF:Ĩ K Ą "fibre_places"=some (some (.ref iN))) (B6:∃fd,cY K "fibre_places" "fibre_places" su iN fd) (gE:Ĩ K Ą "fibre_ends"=some (some (.ref kQ))) (Gz:∃fd,cY K "fibre_ends" "fibre_ends" vW kQ fd) (dQ:ĉ K (.ref aG) "__init__"=some (some (.ref cz))) (yR:∃fd,cY K "__init__" "Table.__init__" qf cz fd) (lJ:Ĩ K Ą "_law_table"=some (some (.ref qB))) (UC:∃fd,cY K "_law_table" "_law_table" Ea qB fd) (fS:ĉ K (.ref aG) "width"=some (some (.ref fL))) (DI:∃fd,cY K "width" "Table.width" uK fL fd) (eG:ĉ K (.ref aG) "height"=some (some (.ref d7))) (B7:∃fd,cY K "height" "Table.height" sy d7 fd) (iO:Ĩ K Ą "passes_in"=some (some (.ref mR))) (Jb:∃fd,cY K "passes_in" "passes_in" zm mR fd) (jQ:Ĩ K Ą "opposite"=some (some (.ref oG))) (Lh:∃fd,cY K "opposite" "opposite" A4 oG fd) (oQ:Ĩ K Ą "beyond"=some (some (.ref tP))) (X8:∃fd,cY K "beyond" "beyond" Il tP fd) (lO:Ĩ K Ą "back_of"=some (some (.ref qF))) (UH:∃fd,cY K "back_of" "back_of" Ef qF fd) (bV:ĉ K (.ref aG) "has_place"=some (some (.ref bQ))) (wU:∃fd,cY K "has_place" "Table.has_place" oZ bQ fd) (jS:Ĩ K Ą "comes_in"=some (some (.ref oJ))) (Lj:∃fd,cY K "comes_in" "comes_in" A6 oJ fd) (iQ:Ĩ K Ą "comes_out"=some (some (.ref mT))) (Jd:∃fd,cY K "comes_out" "comes_out" zu mT fd) (oO:Ĩ K Ą "inlets"=some (some (.ref tO))) (X7:∃fd,cY K "inlets" "inlets" Ik tO fd) (lH:Ĩ K Ą "outlets"=some (some (.ref qz))) (UA:∃fd,cY K "outlets" "outlets" D8 qz fd) (gH:Ĩ K Ą "all_passes"=some (some (.ref kU))) (GC:∃fd,cY K "all_passes" "all_passes" vZ kU fd) (gF:Ĩ K Ą "check_pass"=some (some (.ref kR))) (GA:∃fd,cY K "check_pass" "check_pass" vX kR fd) (bG:ĉ K (.ref aG) "check_place"=some (some (.ref bF))) (uA:∃fd,cY K "check_place" "Table.check_place" nc bF fd) (bU:ĉ K (.ref aG) "other_end"=some (some (.ref bP))) (wR:∃fd,cY K "other_end" "Table.other_end" oY bP fd) (gJ:ĉ K (.ref aG) "cell"=some (some (.ref gz))) (GF:∃fd,cY K "cell" "Table.cell" v7 gz fd) (dj:ĉ K (.ref bD) "leads"=some (some (.ref fC))) (GH:∃fd,cY K "leads" "Cell.leads" v9 fC fd) (eK:ĉ K (.ref aQ) "leads"=some (some (.ref d8))) (B8:∃fd,cY K "leads" "Mirror.leads" sA d8 fd) (bM:Ĩ K Ą "greatest_divisor"=some (some (.ref dZ))) (vz:∃fd,cY K "greatest_divisor" "greatest_divisor" oi dZ fd) (jR:Ĩ K Ą "fraction"=some (some (.ref oH))) (Li:∃fd,cY K "fraction" "fraction" A5 oH fd) (rP:Ĩ K Ą "minus"=some (some (.ref xK))) (acO:∃fd,cY K "minus" "minus" Rr xK fd) (gK:ĉ K (.ref cu) "leads"=some (some (.ref gA))) (GG:∃fd,cY K "leads" "Half.leads" v8 gA fd) (eN:ĉ K (.ref aL) "leads"=some (some (.ref d9))) (B9:∃fd,cY K "leads" "Filter.leads" sC d9 fd) (gI:ĉ K (.ref b5) "leads"=some (some (.ref gy))) (GD:∃fd,cY K "leads" "Wall.leads" v5 gy fd) (lI:Ĩ K Ą "leaving"=some (some (.ref qA))) (UB:∃fd,cY K "leaving" "leaving" D9 qA fd) (lN:Ĩ K Ą "goes_on"=some (some (.ref qE))) (UG:∃fd,cY K "goes_on" "goes_on" Ed qE fd) (oM:Ĩ K Ą "_law_plus"=some (some (.ref tM))) (X5:∃fd,cY K "_law_plus" "_law_plus" Ii tM fd) (oN:Ĩ K Ą "_law_full"=some (some (.ref tN))) (X6:∃fd,cY K "_law_full" "_law_full" Ij tN fd) (zI:Ĩ K Ą "law"=some (some (.ref EX))) (alB:∃fd,cY K "law" "law" ad9 EX fd) (HJ:Ĩ K Ą "abs"=some none) (Ra:Ĩ K Ą "all"=some none) (mF:Ĩ K Ą "enumerate"=some none) (fc:Ĩ K Ą "isinstance"=some none) (m9:Ĩ K Ą "len"=some none) (Q9:Ĩ K Ą "max"=some none) (HH:Ĩ K Ą "min"=some none) (nv:Ĩ K Ą "range"=some none) (mE:Ĩ K Ą "sorted"=some none) (vK:Ĩ K Ą "tuple"=some none) (adl:Ĩ K Ą "EAST"=some (some (.int 0 VW))) (Lx:Ĩ K Ą "LETTERS"=some (some (.str "abcdefghijklmnopqrstuvwxyz" Ia))) (z6:Ĩ K Ą "LONGEST_NAME"=some (some (.int 8 ym))) (z5:Ĩ K Ą "LONGEST_SIDE"=some (some (.int 16 yl))) (YL:Ĩ K Ą "NORTH"=some (some (.int 1 Tz))) (ahU:Ĩ K Ą "ONE"=some (some (.ref SR))) (Yc:K.lookup SR=some ⟨.type "tuple",ag8,.seq [.int 1 am6,.int 1 am5].toArray ahe,agv⟩) (adk:Ĩ K Ą "WAYS"=some (some (.ref Fi))) (Ll:K.lookup Fi=some ⟨.type "tuple",acg,.seq [.int 0 akm,.int 1 ajo,.int 2 ajn,.int 3 ajm].toArray acp,abC⟩) (adi:Ĩ K Ą "WEST"=some (some (.int 2 Tw))) (adh:Ĩ K Ą "ZERO"=some (some (.ref Fg))) (Lk:K.lookup Fg=some ⟨.type "tuple",acf,.seq [.int 0 ajl,.int 1 ajk].toArray aco,abB⟩) (jy:zk K bD) (UZ:ĉ K (.ref bD) "__class__"=some (some `Ô)) (UW:ăc K bD (.type "object")=some true) (XD:āj K bD=true) (Yi:Ĕ K (.ref bD)=true) (Yx:ĉ K (.ref bD) "__init__"=some (some (.builtin "object.__init__"))) (kL:ĉ K (.ref bD) "leads"=some (some (.ref fC))) (Du:ĉ K (.ref bD) "ends"=some none) (Dt:ĉ K (.ref bD) "grid"=some none) (Ds:ĉ K (.ref bD) "name"=some none) (BI:ĉ K (.ref bD) "share"=some none) (BH:ĉ K (.ref bD) "slant"=some none) (g6:zk K aQ) (Ls:ĉ K (.ref aQ) "__class__"=some (some `Ô)) (Lq:ăc K aQ (.type "object")=some true) (Uq:āj K aQ=true) (UI:Ĕ K (.ref aQ)=true) (UR:ĉ K (.ref aQ) "__init__"=some (some (.ref bR))) (jG:ĉ K (.ref aQ) "leads"=some (some (.ref d8))) (BB:ĉ K (.ref aQ) "ends"=some none) (BA:ĉ K (.ref aQ) "grid"=some none) (By:ĉ K (.ref aQ) "name"=some none) (zQ:ĉ K (.ref aQ) "share"=some none) (zP:ĉ K (.ref aQ) "slant"=some none) (mz:zk K cu) (YB:ĉ K (.ref cu) "__class__"=some (some `Ô)) (Yz:ăc K cu (.type "object")=some true) (acA:āj K cu=true) (acT:Ĕ K (.ref cu)=true) (ac6:ĉ K (.ref cu) "__init__"=some (some (.ref cX))) (lV:ĉ K (.ref cu) "leads"=some (some (.ref gA))) (Ga:ĉ K (.ref cu) "ends"=some none) (F9:ĉ K (.ref cu) "grid"=some none) (F8:ĉ K (.ref cu) "name"=some none) (Dn:ĉ K (.ref cu) "share"=some none) (Dl:ĉ K (.ref cu) "slant"=some none) (g7:zk K aL) (Lu:ĉ K (.ref aL) "__class__"=some (some `Ô)) (Lr:ăc K aL (.type "object")=some true) (Ur:āj K aL=true) (UJ:Ĕ K (.ref aL)=true) (US:ĉ K (.ref aL) "__init__"=some (some (.ref bS))) (jH:ĉ K (.ref aL) "leads"=some (some (.ref d9))) (BE:ĉ K (.ref aL) "ends"=some none) (BD:ĉ K (.ref aL) "grid"=some none) (BC:ĉ K (.ref aL) "name"=some none) (zS:ĉ K (.ref aL) "share"=some none) (zR:ĉ K (.ref aL) "slant"=some none) (mj:zk K b5) (YA:ĉ K (.ref b5) "__class__"=some (some `Ô)) (Yy:ăc K b5 (.type "object")=some true) (acz:āj K b5=true) (acS:Ĕ K (.ref b5)=true) (ac5:ĉ K (.ref b5) "__init__"=some (some (.builtin "object.__init__"))) (lT:ĉ K (.ref b5) "leads"=some (some (.ref gy))) (F7:ĉ K (.ref b5) "ends"=some none) (F6:ĉ K (.ref b5) "grid"=some none) (F5:ĉ K (.ref b5) "name"=some none) (Dh:ĉ K (.ref b5) "share"=some none) (Dg:ĉ K (.ref b5) "slant"=some none) (jw:zk K bu) (UY:ĉ K (.ref bu) "__class__"=some (some `Ô)) (UU:ăc K bu (.type "object")=some true) (XA:āj K bu=true) (Yh:Ĕ K (.ref bu)=true) (Yw:ĉ K (.ref bu) "__init__"=some (some (.ref cA))) (kK:ĉ K (.ref bu) "leads"=some (some (.ref fC))) (Dr:ĉ K (.ref bu) "ends"=some none) (Dq:ĉ K (.ref bu) "grid"=some none) (Dp:ĉ K (.ref bu) "name"=some none) (BG:ĉ K (.ref bu) "share"=some none) (BF:ĉ K (.ref bu) "slant"=some none) (ez:zk K aG) (UX:ĉ K (.ref aG) "__class__"=some (some `Ô)) (UT:ăc K aG (.type "object")=some true) (Xz:āj K aG=true) (Yg:Ĕ K (.ref aG)=true) (Yv:ĉ K (.ref aG) "__init__"=some (some (.ref cz))) (kJ:ĉ K (.ref aG) "width"=some (some (.ref fL))) (jF:ĉ K (.ref aG) "height"=some (some (.ref d7))) (gq:ĉ K (.ref aG) "has_place"=some (some (.ref bQ))) (gp:ĉ K (.ref aG) "other_end"=some (some (.ref bP))) (lU:ĉ K (.ref aG) "cell"=some (some (.ref gz))) (fB:ĉ K (.ref aG) "check_place"=some (some (.ref bF))) (Dk:ĉ K (.ref aG) "ends"=some none) (Dj:ĉ K (.ref aG) "grid"=some none) (Di:ĉ K (.ref aG) "name"=some none) (Bx:ĉ K (.ref aG) "share"=some none) (Bw:ĉ K (.ref aG) "slant"=some none) (ic2:Ąt K `Ô "__get__"=some (some (.builtin "getset_descriptor.__get__"))) (ic3:W.takesIn K `Ô=some true) (nd:([bD,aQ,cu,aL,b5,bu,aG]:List Addr).Nodup) (yZ:āa K (.ref cX)=true) (vG:āa K (.ref bS)=true) (vF:āa K (.ref bR)=true) (xD:āa K (.ref cA)=true) (xC:āa K (.ref cz)=true) (Cu:āa K (.ref fL)=true) (z9:āa K (.ref d7)=true) (vE:āa K (.ref bQ)=true) (tH:āa K (.ref bF)=true) (vD:āa K (.ref bP)=true) (DP:āa K (.ref gz)=true) (uU:āa K (.ref fC)=true) (Aa:āa K (.ref d8)=true) (DQ:āa K (.ref gA)=true) (Ab:āa K (.ref d9)=true) (DO:āa K (.ref gy)=true) (nA:Ąl K b6 JM "ValueError.__new__"=true) (CW:XT K b6) (vL:Ąl K iR JM "ValueError.__new__"=true) (SV:XT K iR) (qa:Ąl K iS JM "ValueError.__new__"=true) (SW:XT K iS) (lz:Ąl K gg JM "ValueError.__new__"=true) (JY:XT K gg) (tV:Ąl K gh JM "ValueError.__new__"=true) (JZ:XT K gh) (ik:isAll K mt [("NoFraction",b6),("NoPass",iR),("NoCell",iS),("NoTable",gg),("NoPlace",gh)] ([("Empty",(bD,[])),("Mirror",(aQ,["slant"])),("Half",(cu,["slant","share"])),("Filter",(aL,["share"])),("Wall",(b5,[])),("Fibre",(bu,["name"])),("Table",(aG,["grid","ends"]))]:qJ) [(.ref bu,"Fibre"),(.ref b5,"Wall"),(.ref aL,"Filter")]=true):
  ∃(cb:Cb) (fd:FuncData),(∀(s:Shared) (u:Value),BindsTo s fd ⟨[u],[]⟩ [("_law_script",u)])/\∀base:Heap,jA P w K mg base cb 8 fa fd ["_law_script"] uY:=by
 have e:fa=EX:=Value.ref.inj (ĝ (hfa.symm.trans (Ğ X G zI)));rw[e];obtain ⟨_,aK⟩:=Jc;have b8:=aK.binds (ps:=sG) λ _ _ _ _ _ _ us hl=>by obtain ⟨u0,u1,rfl⟩:=oA hl;rfl
 obtain ⟨_,i8⟩:=UE;have kc:=i8.binds (ps:=yE) λ _ _ _ _ _ _ us hl=>by obtain ⟨u0,rfl⟩:=qt hl;rfl
 obtain ⟨_,dN⟩:=DF;have dI:=dN.binds (ps:=pO) λ _ _ _ _ _ _ us hl=>by obtain ⟨u0,rfl⟩:=qt hl;rfl
 obtain ⟨_,k6⟩:=acN;have mC:=k6.binds (ps:=FN) λ _ _ _ _ _ _ us hl=>by obtain ⟨u0,u1,rfl⟩:=oA hl;rfl
 obtain ⟨_,cH⟩:=DH;have cF:=cH.binds (ps:=pQ) λ _ _ _ _ _ _ us hl=>by obtain ⟨u0,rfl⟩:=qt hl;rfl
 obtain ⟨_,bL⟩:=zU;have b9:=bL.binds (ps:=m8) λ _ _ _ _ _ _ us hl=>by obtain ⟨u0,u1,u2,rfl⟩:=Ux hl;rfl
 obtain ⟨_,i9⟩:=acQ;have nP:=i9.binds (ps:=Ak) λ _ _ _ _ _ _ us hl=>by obtain ⟨u0,u1,rfl⟩:=oA hl;rfl
 obtain ⟨_,i7⟩:=UD;have iX:=i7.binds (ps:=yD) λ _ _ _ _ _ _ us hl=>by obtain ⟨u0,rfl⟩:=qt hl;rfl
 obtain ⟨_,br⟩:=wW;have bJ:=br.binds (ps:=kF) λ _ _ _ _ _ _ us hl=>by obtain ⟨u0,u1,rfl⟩:=oA hl;rfl
 obtain ⟨_,bY⟩:=wV;have bT:=bY.binds (ps:=kC) λ _ _ _ _ _ _ us hl=>by obtain ⟨u0,u1,rfl⟩:=oA hl;rfl
 obtain ⟨_,nQ⟩:=acP;have pK:=nQ.binds (ps:=FP) λ _ _ _ _ _ _ us hl=>by obtain ⟨u0,rfl⟩:=qt hl;rfl
 obtain ⟨_,dB⟩:=GB;have dg:=dB.binds (ps:=qV) λ _ _ _ _ _ _ us hl=>by obtain ⟨u0,rfl⟩:=qt hl;rfl
 obtain ⟨_,aS⟩:=yS;have bB:=aS.binds (ps:=lF) λ _ _ _ _ _ _ us hl=>by obtain ⟨u0,u1,rfl⟩:=oA hl;rfl
 obtain ⟨_,cG⟩:=DG;have dJ:=cG.binds (ps:=pP) λ _ _ _ _ _ _ us hl=>by obtain ⟨u0,rfl⟩:=qt hl;rfl
 obtain ⟨_,cP⟩:=B6;have cM:=cP.binds (ps:=oj) λ _ _ _ _ _ _ us hl=>by obtain ⟨u0,rfl⟩:=qt hl;rfl
 obtain ⟨_,dw⟩:=Gz;have fE:=dw.binds (ps:=qT) λ _ _ _ _ _ _ us hl=>by obtain ⟨u0,rfl⟩:=qt hl;rfl
 obtain ⟨_,bC⟩:=yR;have bO:=bC.binds (ps:=lE) λ _ _ _ _ _ _ us hl=>by obtain ⟨u0,u1,rfl⟩:=oA hl;rfl
 obtain ⟨_,g8⟩:=UC;have j9:=g8.binds (ps:=yC) λ _ _ _ _ _ _ us hl=>by obtain ⟨u0,rfl⟩:=qt hl;rfl
 obtain ⟨_,cJ⟩:=DI;have dM:=cJ.binds (ps:=lR) λ _ _ _ _ _ _ us hl=>by obtain ⟨u0,rfl⟩:=qt hl;rfl
 obtain ⟨_,bW⟩:=B7;have cN:=bW.binds (ps:=ku) λ _ _ _ _ _ _ us hl=>by obtain ⟨u0,rfl⟩:=qt hl;rfl
 obtain ⟨_,cg⟩:=Jb;have fD:=cg.binds (ps:=sF) λ _ _ _ _ _ _ us hl=>by obtain ⟨u0,rfl⟩:=qt hl;rfl
 obtain ⟨_,jT⟩:=Lh;have jO:=jT.binds (ps:=ve) λ _ _ _ _ _ _ us hl=>by obtain ⟨u0,rfl⟩:=qt hl;rfl
 obtain ⟨_,k9⟩:=X8;have kY:=k9.binds (ps:=Bm) λ _ _ _ _ _ _ us hl=>by obtain ⟨u0,u1,u2,rfl⟩:=Ux hl;rfl
 obtain ⟨_,b7⟩:=UH;have eY:=b7.binds (ps:=yG) λ _ _ _ _ _ _ us hl=>by obtain ⟨u0,rfl⟩:=qt hl;rfl
 obtain ⟨_,bh⟩:=wU;have bI:=bh.binds (ps:=iB) λ _ _ _ _ _ _ us hl=>by obtain ⟨u0,u1,u2,rfl⟩:=Ux hl;rfl
 obtain ⟨_,fT⟩:=Lj;have fN:=fT.binds (ps:=vg) λ _ _ _ _ _ _ us hl=>by obtain ⟨u0,u1,rfl⟩:=oA hl;rfl
 obtain ⟨_,cQ⟩:=Jd;have fF:=cQ.binds (ps:=sH) λ _ _ _ _ _ _ us hl=>by obtain ⟨u0,u1,rfl⟩:=oA hl;rfl
 obtain ⟨_,jB⟩:=X7;have mY:=jB.binds (ps:=Bl) λ _ _ _ _ _ _ us hl=>by obtain ⟨u0,rfl⟩:=qt hl;rfl
 obtain ⟨_,iZ⟩:=UA;have jZ:=iZ.binds (ps:=yy) λ _ _ _ _ _ _ us hl=>by obtain ⟨u0,rfl⟩:=qt hl;rfl
 obtain ⟨_,dD⟩:=GC;have fG:=dD.binds (ps:=qW) λ _ _ _ _ _ _ us hl=>by obtain ⟨u0,rfl⟩:=qt hl;rfl
 obtain ⟨_,cI⟩:=GA;have c9:=cI.binds (ps:=qU) λ _ _ _ _ _ _ us hl=>by obtain ⟨u0,u1,rfl⟩:=oA hl;rfl
 obtain ⟨_,aR⟩:=uA;have aX:=aR.binds (ps:=fW) λ _ _ _ _ _ _ us hl=>by obtain ⟨u0,u1,u2,rfl⟩:=Ux hl;rfl
 obtain ⟨_,bg⟩:=wR;have bH:=bg.binds (ps:=iA) λ _ _ _ _ _ _ us hl=>by obtain ⟨u0,u1,u2,rfl⟩:=Ux hl;rfl
 obtain ⟨_,dF⟩:=GF;have fH:=dF.binds (ps:=nF) λ _ _ _ _ _ _ us hl=>by obtain ⟨u0,u1,u2,rfl⟩:=Ux hl;rfl
 obtain ⟨_,dG⟩:=GH;have fJ:=dG.binds (ps:=kG) λ _ _ _ _ _ _ us hl=>by obtain ⟨u0,u1,rfl⟩:=oA hl;rfl
 obtain ⟨_,bX⟩:=B8;have cO:=bX.binds (ps:=kB) λ _ _ _ _ _ _ us hl=>by obtain ⟨u0,u1,rfl⟩:=oA hl;rfl
 obtain ⟨_,aI⟩:=vz;have bx:=aI.binds (ps:=gn) λ _ _ _ _ _ _ us hl=>by obtain ⟨u0,u1,rfl⟩:=oA hl;rfl
 obtain ⟨_,gP⟩:=Li;have gB:=gP.binds (ps:=vf) λ _ _ _ _ _ _ us hl=>by obtain ⟨u0,u1,rfl⟩:=oA hl;rfl
 obtain ⟨_,pM⟩:=acO;have pJ:=pM.binds (ps:=FO) λ _ _ _ _ _ _ us hl=>by obtain ⟨u0,u1,rfl⟩:=oA hl;rfl
 obtain ⟨_,bZ⟩:=GG;have dh:=bZ.binds (ps:=nG) λ _ _ _ _ _ _ us hl=>by obtain ⟨u0,u1,rfl⟩:=oA hl;rfl
 obtain ⟨_,eT⟩:=B9;have eE:=eT.binds (ps:=kE) λ _ _ _ _ _ _ us hl=>by obtain ⟨u0,u1,rfl⟩:=oA hl;rfl
 obtain ⟨_,gQ⟩:=GD;have gC:=gQ.binds (ps:=nE) λ _ _ _ _ _ _ us hl=>by obtain ⟨u0,u1,rfl⟩:=oA hl;rfl
 obtain ⟨_,dU⟩:=UB;have j5:=dU.binds (ps:=yz) λ _ _ _ _ _ _ us hl=>by obtain ⟨u0,u1,rfl⟩:=oA hl;rfl
 obtain ⟨_,g9⟩:=UG;have iY:=g9.binds (ps:=yF) λ _ _ _ _ _ _ us hl=>by obtain ⟨u0,u1,rfl⟩:=oA hl;rfl
 obtain ⟨_,k7⟩:=X5;have mW:=k7.binds (ps:=Bh) λ _ _ _ _ _ _ us hl=>by obtain ⟨u0,u1,rfl⟩:=oA hl;rfl
 obtain ⟨_,mZ⟩:=X6;have mX:=mZ.binds (ps:=Bj) λ _ _ _ _ _ _ us hl=>by obtain ⟨u0,u1,rfl⟩:=oA hl;rfl
 obtain ⟨_,uY⟩:=alB;obtain ⟨_,_,_,_,_,_,_,_,_,rfl,_,_⟩:=id uY.ex;have CK:=uY.binds (ps:=W2) λ _ _ _ _ _ _ us hl=>by obtain ⟨u0,rfl⟩:=qt hl;rfl
 let M:Tx K mg (Zi [("NoFraction",b6),("NoPass",iR),("NoCell",iS),("NoTable",gg),("NoPlace",gh)] ([("Empty",(bD,[])),("Mirror",(aQ,["slant"])),("Half",(cu,["slant","share"])),("Filter",(aL,["share"])),("Wall",(b5,[])),("Fibre",(bu,["name"])),("Table",(aG,["grid","ends"]))]:qJ)):={
  iP:=mS,nM:=_,mQ:=aK.kp,mS:=aK,b8:=b8,
  mO:=Ğ X G iP,
  lM:=qD,rG:=_,EM:=i8.kp,qD:=i8,kc:=kc,
  EE:=Ğ X G lM,
  fP:=jq,kM:=_,pU:=dN.kp,jq:=dN,dI:=dI,
  pR:=Ğ X G fP,
  rO:=xJ,xE:=_,GJ:=k6.kp,xJ:=k6,mC:=mC,
  Gs:=Ğ X G rO,
  fR:=jt,kP:=_,pV:=cH.kp,jt:=cH,cF:=cF,
  pS:=Ğ X G fR,
  eZ:=cX,iW:=_,zV:=bL.kp,cX:=bL,b9:=b9,
  rR:=xN,xH:=_,GK:=i9.kp,xN:=i9,nP:=nP,
  Gu:=Ğ X G rR,
  lK:=qC,rF:=_,yU:=i7.kp,qC:=i7,iX:=iX,
  yN:=Ğ X G lK,
  cW:=bS,gx:=_,xq:=br.kp,bS:=br,bJ:=bJ,
  cV:=bR,gw:=_,xo:=bY.kp,bR:=bY,bT:=bT,
  rQ:=xM,xG:=_,R8:=nQ.kp,xM:=nQ,pK:=pK,
  RW:=Ğ X G rQ,
  gG:=kT,lY:=_,xg:=dB.kp,kT:=dB,dg:=dg,
  wL:=Ğ X G gG,
  dS:=cA,iE:=_,yX:=aS.kp,cA:=aS,bB:=bB,
  fQ:=jr,kO:=_,uS:=cG.kp,jr:=cG,dJ:=dJ,
  uR:=Ğ X G fQ,
  eF:=iN,jK:=_,tE:=cP.kp,iN:=cP,cM:=cM,
  sX:=Ğ X G eF,
  gE:=kQ,lW:=_,wZ:=dw.kp,kQ:=dw,fE:=fE,
  wJ:=Ğ X G gE,
  dQ:=cz,iD:=_,yW:=bC.kp,cz:=bC,bO:=bO,
  lJ:=qB,rE:=_,EL:=g8.kp,qB:=g8,j9:=j9,
  ED:=Ğ X G lJ,
  fS:=fL,iM:=_,DK:=cJ.kp,fL:=cJ,dM:=dM,
  eG:=d7,gT:=_,Ck:=bW.kp,d7:=bW,cN:=cN,
  iO:=mR,nL:=_,tD:=cg.kp,mR:=cg,fD:=fD,
  sW:=Ğ X G iO,
  jQ:=oG,pF:=_,Cg:=jT.kp,oG:=jT,jO:=jO,
  BW:=Ğ X G jQ,
  oQ:=tP,ur:=_,Cj:=k9.kp,tP:=k9,kY:=kY,
  BY:=Ğ X G oQ,
  lO:=qF,rJ:=_,nU:=b7.kp,qF:=b7,eY:=eY,
  nS:=Ğ X G lO,
  bV:=bQ,dY:=_,xm:=bh.kp,bQ:=bh,bI:=bI,
  jS:=oJ,pH:=_,rj:=fT.kp,oJ:=fT,fN:=fN,
  q8:=Ğ X G jS,
  iQ:=mT,nN:=_,tF:=cQ.kp,mT:=cQ,fF:=fF,
  sY:=Ğ X G iQ,
  oO:=tO,uq:=_,Ji:=jB.kp,tO:=jB,mY:=mY,
  IX:=Ğ X G oO,
  lH:=qz,rC:=_,EJ:=iZ.kp,qz:=iZ,jZ:=jZ,
  EB:=Ğ X G lH,
  gH:=kU,lZ:=_,xh:=dD.kp,kU:=dD,fG:=fG,
  wM:=Ğ X G gH,
  gF:=kR,lX:=_,w9:=cI.kp,kR:=cI,c9:=c9,
  wK:=Ğ X G gF,
  bG:=bF,cL:=_,uC:=aR.kp,bF:=aR,aX:=aX,
  bU:=bP,dX:=_,xj:=bg.kp,bP:=bg,bH:=bH,
  gJ:=gz,jn:=_,GN:=dF.kp,gz:=dF,fH:=fH,
  dj:=fC,gZ:=_,GP:=dG.kp,fC:=dG,fJ:=fJ,
  eK:=d8,gU:=_,Cm:=bX.kp,d8:=bX,cO:=cO,
  bM:=dZ,fX:=_,oB:=aI.kp,dZ:=aI,bx:=bx,
  oz:=Ğ X G bM,
  jR:=oH,pG:=_,Ci:=gP.kp,oH:=gP,gB:=gB,
  BX:=Ğ X G jR,
  rP:=xK,xF:=_,R7:=pM.kp,xK:=pM,pJ:=pJ,
  RV:=Ğ X G rP,
  gK:=gA,jo:=_,GO:=bZ.kp,gA:=bZ,dh:=dh,
  eN:=d9,gW:=_,Cn:=eT.kp,d9:=eT,eE:=eE,
  gI:=gy,jm:=_,GL:=gQ.kp,gy:=gQ,gC:=gC,
  lI:=qA,rD:=_,EK:=dU.kp,qA:=dU,j5:=j5,
  EC:=Ğ X G lI,
  lN:=qE,rH:=_,yV:=g9.kp,qE:=g9,iY:=iY,
  yO:=Ğ X G lN,
  oM:=tM,ug:=_,Jg:=k7.kp,tM:=k7,mW:=mW,
  IV:=Ğ X G oM,
  oN:=tN,uh:=_,Jh:=mZ.kp,tN:=mZ,mX:=mX,
  IW:=Ğ X G oN,
  zI:=EX,G6:=_,alD:=uY.kp,EX:=uY,CK:=CK,
  alv:=Ğ X G zI,
  HJ:=Ŭ X G HJ,
  Ra:=Ŭ X G Ra,
  mF:=Ŭ X G mF,
  fc:=Ŭ X G fc,
  m9:=Ŭ X G m9,
  Q9:=Ŭ X G Q9,
  HH:=Ŭ X G HH,
  nv:=Ŭ X G nv,
  mE:=Ŭ X G mE,
  vK:=Ŭ X G vK,
  Kf:=(.int 0 VW),VR:=Ğ X G adl,YT:=iV,
  yj:=(.str "abcdefghijklmnopqrstuvwxyz" Ia),DZ:=Ğ X G Lx,ET:=adf,
  n6:=(.int 8 ym),sd:=Ğ X G z6,tG:=iV,
  n5:=(.int 16 yl),nZ:=Ğ X G z5,oF:=iV,
  Ft:=(.int 1 Tz),Rk:=Ğ X G YL,Sq:=iV,
  VT:=(.ref SR),HV:=Ğ X G ahU,Jw:=(GY Yc `Ó (jX iV (jX iV Co))),
  Ke:=(.ref Fi),Ka:=Ğ X G adk,Lz:=(GY Ll `Ó (jX iV (jX iV (jX iV (jX iV Co))))),
  Kd:=(.int 2 Tw),VQ:=Ğ X G adi,YO:=iV,
  Kc:=(.ref Fg),VP:=Ğ X G adh,YN:=(GY Lk `Ó (jX iV (jX iV Co))),
  b6:=b6,GZ:=Ğ X G xO,
  iS:=iS,YR:=Ğ X G JF,
  gg:=gg,U4:=Ğ X G E2,
  gh:=gh,U5:=Ğ X G E3,
  iR:=iR,YQ:=Ğ X G JE,
  bD:=bD,G0:=Ğ X G adu,
  aQ:=aQ,Jy:=Ğ X G Y5,
  cu:=cu,YS:=Ğ X G aid,
  aL:=aL,Cr:=Ğ X G Y6,
  b5:=b5,Ly:=Ğ X G aic,
  bu:=bu,rA:=Ğ X G adt,
  aG:=aG,So:=Ğ X G ads,
  Ai:=rfl,acy:=rfl,jy:=jy,
  BS:=⟨XD,Yx,Yi⟩,
  kL:=⟨kL,uU,dG.kp⟩,
  A9:=rfl,II:=rfl,g6:=g6,
  Ey:=⟨Uq,UR,vF,UI⟩,
  jG:=⟨jG,Aa,bX.kp⟩,
  KC:=rfl,Xw:=rfl,mz:=mz,
  RS:=⟨acA,ac6,yZ,acT⟩,
  lV:=⟨lV,DQ,bZ.kp⟩,
  Ba:=rfl,IJ:=rfl,g7:=g7,
  Ez:=⟨Ur,US,vG,UJ⟩,
  jH:=⟨jH,Ab,eT.kp⟩,
  KA:=rfl,ahg:=rfl,mj:=mj,
  RQ:=⟨acz,ac5,acS⟩,
  lT:=⟨lT,DO,gQ.kp⟩,
  Ah:=rfl,Gi:=rfl,jw:=jw,
  BR:=⟨XA,Yw,xD,Yh⟩,
  kK:=⟨kK,uU,dG.kp⟩,
  o8:=rfl,RP:=rfl,ez:=ez,
  IL:=⟨Xz,Yv,xC,Yg⟩,
  kJ:=⟨kJ,Cu,cJ.kp⟩,
  jF:=⟨jF,z9,bW.kp⟩,
  gq:=⟨gq,vE,bh.kp⟩,
  gp:=⟨gp,vD,bg.kp⟩,
  lU:=⟨lU,DP,dF.kp⟩,
  fB:=⟨fB,tH,aR.kp⟩,
  ft:=adm nd,
  G8:=JC (aB ⟨jy,Du⟩ (aB ⟨g6,BB⟩ (aB ⟨mz,Ga⟩ (aB ⟨g7,BE⟩ (aB ⟨mj,F7⟩ (aB ⟨jw,Dr⟩ (aB ⟨ez,Dk⟩ iu))))))),
  rK:=JC (aB ⟨jy,Dt⟩ (aB ⟨g6,BA⟩ (aB ⟨mz,F9⟩ (aB ⟨g7,BD⟩ (aB ⟨mj,F6⟩ (aB ⟨jw,Dq⟩ (aB ⟨ez,Dj⟩ iu))))))),
  G7:=JC (aB ⟨jy,Ds⟩ (aB ⟨g6,By⟩ (aB ⟨mz,F8⟩ (aB ⟨g7,BC⟩ (aB ⟨mj,F5⟩ (aB ⟨jw,Dp⟩ (aB ⟨ez,Di⟩ iu))))))),
  qy:=JC (aB ⟨jy,BI⟩ (aB ⟨g6,zQ⟩ (aB ⟨mz,Dn⟩ (aB ⟨g7,zS⟩ (aB ⟨mj,Dh⟩ (aB ⟨jw,BG⟩ (aB ⟨ez,Bx⟩ iu))))))),
  tL:=JC (aB ⟨jy,BH⟩ (aB ⟨g6,zP⟩ (aB ⟨mz,Dl⟩ (aB ⟨g7,zR⟩ (aB ⟨mj,Dg⟩ (aB ⟨jw,BF⟩ (aB ⟨ez,Bw⟩ iu))))))),
  nA:=⟨Ğ X G xO,nA,rfl⟩,
  vL:=⟨Ğ X G JE,vL,rfl⟩,
  qa:=⟨Ğ X G JF,qa,rfl⟩,
  lz:=⟨Ğ X G E2,lz,rfl⟩,
  tV:=⟨Ğ X G E3,tV,rfl⟩,
  xt:=⟨λ c C hc _=>ah6 (E:=[("NoFraction",b6),("NoPass",iR),("NoCell",iS),("NoTable",gg),("NoPlace",gh)]) (P:=λ _ C=>XT K C) (aB CW (aB SV (aB SW (aB JY (aB JZ iu))))) hc,λ c C ns hc=>ahI (T:=([("Empty",(bD,[])),("Mirror",(aQ,["slant"])),("Half",(cu,["slant","share"])),("Filter",(aL,["share"])),("Wall",(b5,[])),("Fibre",(bu,["name"])),("Table",(aG,["grid","ends"]))]:qJ)) (P:=λ _ C=>IC K C) (aB ⟨jy,UZ,ic2,ic3,UW⟩ (aB ⟨g6,Ls,ic2,ic3,Lq⟩ (aB ⟨mz,YB,ic2,ic3,Yz⟩ (aB ⟨g7,Lu,ic2,ic3,Lr⟩ (aB ⟨mj,YA,ic2,ic3,Yy⟩ (aB ⟨jw,UY,ic2,ic3,UU⟩ (aB ⟨ez,UX,ic2,ic3,UT⟩ iu))))))) hc⟩,
  xw:=ahG ik (.head _),
  YC:=ahG ik (.tail _ (.head _)),
  Jp:=ahG ik (.tail _ (.tail _ (.head _)))}
 refine ⟨(Zi [("NoFraction",b6),("NoPass",iR),("NoCell",iS),("NoTable",gg),("NoPlace",gh)] ([("Empty",(bD,[])),("Mirror",(aQ,["slant"])),("Half",(cu,["slant","share"])),("Filter",(aL,["share"])),("Wall",(b5,[])),("Fibre",(bu,["name"])),("Table",(aG,["grid","ends"]))]:qJ)),_,?_,λ base=>ag7 M⟩;exact λ s v=> .of_eq rfl
end K12
end
open PySem PySem.W PyProof.Rows
theorem PySem.Challenge.cw_beamtable_k12_back_again_holds : PySem.Challenge.rw_beamtable_k12_back_again.Holds := by
 refine KO.looked λ said=>?_
 refine W.holds_openX (q:=W.view PySem.Challenge.pw_beamtable_k12_back_again [61]) (loose:=KO.LZ) (Xt:=λ _=>true) (XP:=λ _ _=>True) (Yf:=W.X.obsZ KO.AF)
  (Ya:=W.X.valZ KO.KF 602 951) (N:=9992) KO.hl (λ _ _=>trivial) (λ _ _ _ _ _=>trivial) (by rfl) (by rfl) (by rfl)
  (λ _ _=>W.recFacts_nil rfl) (by rfl) said (by decide+kernel) ⟨rfl,rfl,rfl,rfl,rfl,by decide+kernel⟩ ?hw ?hc
 case hw=>w_witness2
 k_fill
 refine L4.walkZ (l:=PySem.Challenge.rw_beamtable_k12_back_again) (k:=8) rfl rfl `Â `Â (λ _=>by kernel_rfl) ?F K12.X3
 case F=>
  intro w mg fa h KX G hmg
  apply K12.all_mk KX G hmg
  any_goals first|k_is|kernel_rfl|decide|exact ⟨_,L2.ahW (by k_is) (by k_is) (by k_is)⟩|(constructor<;>first|k_is|kernel_rfl)
