import PyProof.Rows.All
import Wide.All
import OpenK.AllK
import Wide.FinOn
import Lean
import PyProof.EqAt
import PyProof.EqKinds
import PyProof.TupleCall
import PyProof.P3Statements
import PyProof.NoPylong
import PySem.Builtin.Int.W1All
import PyProof.StrBlockI
import KE.KSortTup
import PyProof.EnumMake
import PyProof.Draws
import KE.KSortAsk
import KE.KItemsList
import PySem.Challenge.RW_beamtable_k38_with_cell
set_option Elab.async false
set_option linter.all false
set_option maxRecDepth 100000
set_option maxHeartbeats 0
set_option exponentiation.threshold 10000
noncomputable section
section
def KO.looked(h:PySem.Challenge.rw_beamtable_k38_with_cell.row.wellSaid=true->PySem.Challenge.rw_beamtable_k38_with_cell.row.Holds):PySem.Challenge.rw_beamtable_k38_with_cell.Holds:=by w_on;o_law;exact h (by assumption)
namespace KO
open PySem PySem.W PySem.Calls
noncomputable abbrev pq:Program:=W.Fast.tw11965744960526693245
def bE:List Stmt:=behindTheImports pq
noncomputable def g0(l:List Stmt)(i:Nat):Stmt:=(List.drop i l).headD (.Pass ⟨0,0,0,0⟩)
def g1(i:Nat):Stmt:=g0 pq.main.body i
noncomputable def gb:Stmt->List Stmt| .ClassDef _ _ _ b _ _ _ _ _ _ _=>b| .FunctionDef _ _ b _ _ _ _ _ _ _=>b|_=>[]
def g2(i j:Nat):Stmt:=g0 (gb (g1 i)) j
def fo(s:Stmt)(q:Str)(g:Addr)(cl:List (Str×Addr))(d kd doc md:Value)(an:Option Addr)(code ct:Value)(b:Addr):Data:=match s with| .FunctionDef n a bd _ _ _ sc _ _ _=> .func ⟨n,q,a,.stmts bd,sc,g,cl,d,kd,doc,md,an,code,ct,b⟩|_=> .plain
def e(P:Params)(s:Str)(t:Nat)(v:Value):DictEntry:=⟨PySem.PyData.keyHash P s,.str s t,v⟩
def ud(o:Obj)(ch:List (Nat×DictEntry))(m:List DictEntry)(n:Nat):Obj:=match o with|⟨c,d,.dict es _,s⟩=>⟨c,d,.dict ⟨(ch.foldl (λ l p=>l.set p.1 p.2) es.toList)++m⟩ n,s⟩|o=>o
noncomputable abbrev r(a:Nat):Value:= .ref a
noncomputable abbrev z:Value:= .int 0 0
noncomputable abbrev v:Value:= .none
noncomputable abbrev s(x:Str)(t:Nat):Value:= .str x t
noncomputable abbrev y(x:String):Value:= .type x
noncomputable abbrev F(c:Value)(xs:Array Value):Obj:=⟨c,none,.fields xs, #[]⟩
noncomputable abbrev Q(c:Value)(xs:Array Value):Obj:=⟨c,none,.seq xs 0, #[]⟩
noncomputable abbrev lf:Life:=⟨[],[],[],0,[],[],false, #[],[],0,false,false,false,0,[2000,10,10],false,0,true,[],[],0,false⟩
noncomputable abbrev I:=BT.ins
noncomputable def x0:Str:=⟨⟨[60,109,111,100,117,108,101,62]⟩⟩
noncomputable def x1:Str:=⟨⟨[47,99,108,97,105,109,47,99,117,116,46,112,121]⟩⟩
noncomputable def x2:Str:=⟨⟨[95,95,109,97,105,110,95,95]⟩⟩
noncomputable def x3:Str:=⟨⟨[95,95,110,97,109,101,95,95]⟩⟩
noncomputable def x4:Str:=⟨⟨[98,101,97,109,116,97,98,108,101,46,101,114,114,111,114,115]⟩⟩
noncomputable def x5:Str:=⟨⟨[95,119,97,108,108]⟩⟩
noncomputable def x6:Str:=⟨⟨[66,101,97,109,69,114,114,111,114]⟩⟩
noncomputable def x7:Str:=⟨⟨[107]⟩⟩
noncomputable def x8:Str:=⟨⟨[95,95,109,111,100,117,108,101,95,95]⟩⟩
noncomputable def x9:Str:=⟨⟨[95,95,113,117,97,108,110,97,109,101,95,95]⟩⟩
noncomputable def z6:Str:=⟨⟨[95,95,102,105,114,115,116,108,105,110,101,110,111,95,95]⟩⟩
noncomputable def z5:Str:=⟨⟨[95,95,115,116,97,116,105,99,95,97,116,116,114,105,98,117,116,101,115,95,95]⟩⟩
noncomputable def x12:Str:=⟨⟨[95,95,119,101,97,107,114,101,102,95,95]⟩⟩
noncomputable def VP:Str:=⟨⟨[95,95,100,111,99,95,95]⟩⟩
noncomputable def x14:Str:=⟨⟨[78,111,67,101,108,108]⟩⟩
noncomputable def x15:Str:=⟨⟨[78,111,84,97,98,108,101]⟩⟩
noncomputable def x16:Str:=⟨⟨[78,111,80,108,97,99,101]⟩⟩
noncomputable def pP:Str:=⟨⟨[98,101,97,109,116,97,98,108,101,46,99,101,108,108,115]⟩⟩
noncomputable def x18:Str:=⟨⟨[67,114,111,115,115,101,100]⟩⟩
noncomputable def x19:Str:=⟨⟨[90,69,82,79]⟩⟩
noncomputable def x20:Str:=⟨⟨[79,78,69]⟩⟩
noncomputable def x21:Str:=⟨⟨[117,110,100,101,114]⟩⟩
noncomputable def x22:Str:=⟨⟨[76,69,84,84,69,82,83]⟩⟩
noncomputable def x23:Str:=⟨⟨[97,98,99,100,101,102,103,104,105,106,107,108,109,110,111,112,113,114,115,116,117,118,119,120,121,122]⟩⟩
noncomputable def x24:Str:=⟨⟨[76,79,78,71,69,83,84,95,78,65,77,69]⟩⟩
noncomputable def x25:Str:=⟨⟨[99,104,101,99,107,95,115,108,97,110,116]⟩⟩
noncomputable def x26:Str:=⟨⟨[99,104,101,99,107,95,115,104,97,114,101]⟩⟩
noncomputable def x27:Str:=⟨⟨[99,104,101,99,107,95,110,97,109,101]⟩⟩
noncomputable def x28:Str:=⟨⟨[111,110,101]⟩⟩
noncomputable def x29:Str:=⟨⟨[111,116,104,101,114]⟩⟩
noncomputable def x30:Str:=⟨⟨[98,101,97,109,116,97,98,108,101,46,114,97,116,105,111,115]⟩⟩
noncomputable def x31:Str:=⟨⟨[115,108,97,110,116]⟩⟩
noncomputable def x32:Str:=⟨⟨[115,104,97,114,101]⟩⟩
noncomputable def uS:Str:=⟨⟨[67,101,108,108]⟩⟩
noncomputable def MJ:Str:=⟨⟨[108,101,97,100,115]⟩⟩
noncomputable def x35:Str:=⟨⟨[115,119,97,108,108,111,119,115]⟩⟩
noncomputable def x36:Str:=⟨⟨[116,117,114,110,101,100]⟩⟩
noncomputable def yT:Str:=⟨⟨[115,101,108,102]⟩⟩
noncomputable def x38:Str:=⟨⟨[119,97,121]⟩⟩
noncomputable def x39:Str:=⟨⟨[67,101,108,108,46,108,101,97,100,115]⟩⟩
noncomputable def x40:Str:=⟨⟨[67,101,108,108,46,115,119,97,108,108,111,119,115]⟩⟩
noncomputable def x41:Str:=⟨⟨[67,101,108,108,46,116,117,114,110,101,100]⟩⟩
noncomputable def x42:Str:=⟨⟨[95,95,100,105,99,116,95,95]⟩⟩
noncomputable def x43:Str:=⟨⟨[69,109,112,116,121]⟩⟩
noncomputable def J0:Str:=⟨⟨[114,111,119]⟩⟩
noncomputable def x45:Str:=⟨⟨[69,109,112,116,121,46,114,111,119]⟩⟩
noncomputable def x46:Str:=⟨⟨[77,105,114,114,111,114]⟩⟩
noncomputable def MI:Str:=⟨⟨[95,95,105,110,105,116,95,95]⟩⟩
noncomputable def x48:Str:=⟨⟨[77,105,114,114,111,114,46,95,95,105,110,105,116,95,95]⟩⟩
noncomputable def x49:Str:=⟨⟨[77,105,114,114,111,114,46,114,111,119]⟩⟩
noncomputable def x50:Str:=⟨⟨[77,105,114,114,111,114,46,108,101,97,100,115]⟩⟩
noncomputable def x51:Str:=⟨⟨[77,105,114,114,111,114,46,116,117,114,110,101,100]⟩⟩
noncomputable def x52:Str:=⟨⟨[72,97,108,102]⟩⟩
noncomputable def x53:Str:=⟨⟨[72,97,108,102,46,95,95,105,110,105,116,95,95]⟩⟩
noncomputable def x54:Str:=⟨⟨[72,97,108,102,46,114,111,119]⟩⟩
noncomputable def x55:Str:=⟨⟨[72,97,108,102,46,108,101,97,100,115]⟩⟩
noncomputable def x56:Str:=⟨⟨[72,97,108,102,46,116,117,114,110,101,100]⟩⟩
noncomputable def x57:Str:=⟨⟨[70,105,108,116,101,114]⟩⟩
noncomputable def x58:Str:=⟨⟨[70,105,108,116,101,114,46,95,95,105,110,105,116,95,95]⟩⟩
noncomputable def x59:Str:=⟨⟨[70,105,108,116,101,114,46,114,111,119]⟩⟩
noncomputable def x60:Str:=⟨⟨[70,105,108,116,101,114,46,108,101,97,100,115]⟩⟩
noncomputable def x61:Str:=⟨⟨[70,105,108,116,101,114,46,115,119,97,108,108,111,119,115]⟩⟩
noncomputable def x62:Str:=⟨⟨[87,97,108,108]⟩⟩
noncomputable def x63:Str:=⟨⟨[87,97,108,108,46,114,111,119]⟩⟩
noncomputable def x64:Str:=⟨⟨[87,97,108,108,46,108,101,97,100,115]⟩⟩
noncomputable def x65:Str:=⟨⟨[87,97,108,108,46,115,119,97,108,108,111,119,115]⟩⟩
noncomputable def MH:Str:=⟨⟨[98,101,97,109,116,97,98,108,101,46,116,97,98,108,101,115]⟩⟩
noncomputable def x67:Str:=⟨⟨[70,105,98,114,101]⟩⟩
noncomputable def x68:Str:=⟨⟨[76,79,78,71,69,83,84,95,83,73,68,69]⟩⟩
noncomputable def x69:Str:=⟨⟨[99,104,101,99,107,95,115,105,100,101,115]⟩⟩
noncomputable def x70:Str:=⟨⟨[102,105,98,114,101,95,112,108,97,99,101,115]⟩⟩
noncomputable def x71:Str:=⟨⟨[102,105,98,114,101,95,101,110,100,115]⟩⟩
noncomputable def x72:Str:=⟨⟨[110,97,109,101]⟩⟩
noncomputable def x73:Str:=⟨⟨[70,105,98,114,101,46,95,95,105,110,105,116,95,95]⟩⟩
noncomputable def x74:Str:=⟨⟨[70,105,98,114,101,46,114,111,119]⟩⟩
noncomputable def x75:Str:=⟨⟨[103,114,105,100]⟩⟩
noncomputable def x76:Str:=⟨⟨[99,101,108,108,115]⟩⟩
noncomputable def x77:Str:=⟨⟨[112,108,97,99,101,115]⟩⟩
noncomputable def x78:Str:=⟨⟨[121]⟩⟩
noncomputable def x79:Str:=⟨⟨[120]⟩⟩
noncomputable def x80:Str:=⟨⟨[99,101,108,108]⟩⟩
noncomputable def x81:Str:=⟨⟨[101,110,100,115]⟩⟩
noncomputable def x82:Str:=⟨⟨[84,97,98,108,101]⟩⟩
noncomputable def x83:Str:=⟨⟨[119,105,100,116,104]⟩⟩
noncomputable def x84:Str:=⟨⟨[104,101,105,103,104,116]⟩⟩
noncomputable def x85:Str:=⟨⟨[104,97,115,95,112,108,97,99,101]⟩⟩
noncomputable def x86:Str:=⟨⟨[99,104,101,99,107,95,112,108,97,99,101]⟩⟩
noncomputable def x87:Str:=⟨⟨[111,116,104,101,114,95,101,110,100]⟩⟩
noncomputable def x88:Str:=⟨⟨[114,111,119,115]⟩⟩
noncomputable def x89:Str:=⟨⟨[84,97,98,108,101,46,95,95,105,110,105,116,95,95]⟩⟩
noncomputable def x90:Str:=⟨⟨[84,97,98,108,101,46,119,105,100,116,104]⟩⟩
noncomputable def x91:Str:=⟨⟨[84,97,98,108,101,46,104,101,105,103,104,116]⟩⟩
noncomputable def x92:Str:=⟨⟨[84,97,98,108,101,46,104,97,115,95,112,108,97,99,101]⟩⟩
noncomputable def x93:Str:=⟨⟨[84,97,98,108,101,46,99,104,101,99,107,95,112,108,97,99,101]⟩⟩
noncomputable def x94:Str:=⟨⟨[84,97,98,108,101,46,99,101,108,108]⟩⟩
noncomputable def x95:Str:=⟨⟨[84,97,98,108,101,46,111,116,104,101,114,95,101,110,100]⟩⟩
noncomputable def x96:Str:=⟨⟨[84,97,98,108,101,46,114,111,119,115]⟩⟩
noncomputable def JZ:Str:=⟨⟨[108,97,119,95,98,101,97,109,116,97,98,108,101,95,107,51,56,95,119,105,116,104,95,99,101,108,108]⟩⟩
noncomputable def x98:Str:=⟨⟨[119,105,116,104,95,99,101,108,108]⟩⟩
noncomputable def x99:Str:=⟨⟨[95,108,97,119,95,99,101,108,108,95,97,116]⟩⟩
noncomputable def V1:Str:=⟨⟨[95,108,97,119,95,100,114,97,119,110]⟩⟩
noncomputable def V0:Str:=⟨⟨[95,108,97,119,95,100,105,118,105,115,111,114]⟩⟩
noncomputable def VZ:Str:=⟨⟨[95,108,97,119,95,115,104,97,114,101]⟩⟩
noncomputable def VY:Str:=⟨⟨[95,108,97,119,95,111,110,101]⟩⟩
noncomputable def VX:Str:=⟨⟨[95,108,97,119,95,102,101,119,101,114]⟩⟩
noncomputable def VW:Str:=⟨⟨[95,108,97,119,95,112,97,105,114,101,100]⟩⟩
noncomputable def VV:Str:=⟨⟨[95,108,97,119,95,114,111,119,115]⟩⟩
noncomputable def VU:Str:=⟨⟨[95,108,97,119,95,99,101,108,108]⟩⟩
noncomputable def VT:Str:=⟨⟨[95,108,97,119,95,116,97,98,108,101]⟩⟩
noncomputable def VS:Str:=⟨⟨[95,108,97,119,95,99,104,97,110,103,101,100]⟩⟩
noncomputable def VR:Str:=⟨⟨[95,108,97,119,95,114,101,102,117,115,101,100]⟩⟩
noncomputable def aoT:Str:=⟨⟨[98,101,97,109,116,97,98,108,101,46,99,104,97,110,103,101,115]⟩⟩
noncomputable def akA:Str:=⟨⟨[95,108,97,119,95,115,99,114,105,112,116]⟩⟩
noncomputable def aoS:Str:=⟨⟨[95,108,97,119,95,107]⟩⟩
noncomputable def VQ:Str:=⟨⟨[95,108,97,119,95,99,101,108,108,95,104,101,114,101]⟩⟩
noncomputable def akz:Str:=⟨⟨[95,108,97,119,95,98,121]⟩⟩
noncomputable def aoR:Str:=⟨⟨[95,108,97,119,95,112,114,105,109,101]⟩⟩
noncomputable def aoQ:Str:=⟨⟨[95,108,97,119,95,109,97,110,121]⟩⟩
noncomputable def adV:Str:=⟨⟨[95,108,97,119,95,111,110,101,95,104,101,114,101]⟩⟩
noncomputable def aoP:Str:=⟨⟨[95,108,97,119,95,111,116,104,101,114]⟩⟩
noncomputable def aoO:Str:=⟨⟨[95,108,97,119,95,98,111,116,116,111,109]⟩⟩
noncomputable def aoN:Str:=⟨⟨[95,108,97,119,95,116,111,112]⟩⟩
noncomputable def aoM:Str:=⟨⟨[95,108,97,119,95,119,97,121]⟩⟩
noncomputable def aky:Str:=⟨⟨[95,108,97,119,95,114,111,119]⟩⟩
noncomputable def aha:Str:=⟨⟨[95,108,97,119,95,116,97,98,108,101,95,104,101,114,101]⟩⟩
noncomputable def adU:Str:=⟨⟨[95,108,97,119,95,120]⟩⟩
noncomputable def adT:Str:=⟨⟨[95,108,97,119,95,121]⟩⟩
noncomputable def akx:Str:=⟨⟨[95,108,97,119,95,102,111,117,110,100]⟩⟩
noncomputable def ag9:Str:=⟨⟨[95,108,97,119,95,114,101,102,117,115,97,108]⟩⟩
noncomputable def aoL:Str:=⟨⟨[101]⟩⟩
noncomputable def aoK:Str:=⟨⟨[95,108,97,119,95,111,117,116,115,105,100,101,95,104,101,114,101]⟩⟩
noncomputable def VO:Str:=⟨⟨[95,108,97,119,95,102,105,98,114,101,115,95,97,108,105,107,101]⟩⟩
noncomputable def VN:Str:=⟨⟨[95,108,97,119,95,114,105,103,104,116]⟩⟩
noncomputable def VM:Str:=⟨⟨[95,108,97,119,95,107,110,111,119,110]⟩⟩
noncomputable def VL:Str:=⟨⟨[95,108,97,119,95,111,117,116,115,105,100,101]⟩⟩
noncomputable def YG:Str:=⟨⟨[108,97,119]⟩⟩
noncomputable def adS:Str:=⟨⟨[95,108,97,119,95,114,111,119,115,95,104,101,114,101]⟩⟩
noncomputable def aoJ:Str:=⟨⟨[95,108,97,119,95,119,97,115]⟩⟩
noncomputable def aoI:Str:=⟨⟨[95,108,97,119,95,110,97,109,101,115]⟩⟩
noncomputable def aoH:Str:=⟨⟨[95,108,97,119,95,102,97,114]⟩⟩
noncomputable def aoG:Str:=⟨⟨[95,108,97,119,95,115,111,109,101]⟩⟩
noncomputable def aoF:Str:=⟨⟨[95,108,97,119,95,102,105,114,115,116]⟩⟩
noncomputable def aoE:Str:=⟨⟨[95,108,97,119,95,115,101,99,111,110,100]⟩⟩
noncomputable abbrev l0:String:=W.SL.s2766695959194262286x5
noncomputable abbrev l1:String:=W.SL.s5856160107412720595x4
noncomputable abbrev l2:String:=W.SL.s658472552662922059x5
noncomputable abbrev l3:String:=W.SL.s7174869446012820540x8
noncomputable abbrev l4:String:=W.SL.s6070975301684473832x10
noncomputable abbrev l5:String:=W.SL.s10062305145149207511x16
noncomputable abbrev l6:String:=W.SL.s17162191345867700912x4
noncomputable abbrev l7:String:=W.SL.s11030030927630378310x26
noncomputable abbrev l8:String:=W.SL.s14018661285674007319x4
noncomputable abbrev l9:String:=W.SL.s5946037652744460706x9
noncomputable abbrev l10:String:=W.SL.s4278001404047624695x13
noncomputable abbrev v9:String:=W.SL.s2742458400755230247x6
noncomputable abbrev l12:String:=W.SL.s4209523147560561109x18
noncomputable abbrev l13:String:=W.SL.s10220274742760427390x26
noncomputable abbrev l14:String:=W.SL.s14755015743595814543x17
noncomputable abbrev Xq:String:=W.SL.s4290257624100764138x5
noncomputable abbrev Xp:String:=W.SL.s4860613602091757760x24
noncomputable abbrev Vl:String:=W.SL.s11443829558043349243x14
noncomputable abbrev l18:String:=W.SL.s6511155373996960695x17
noncomputable abbrev l19:String:=W.SL.s12411053484034534018x21
def af:Obj:=Q (y l0) #[]
def aq:Obj:=F v #[]
def adj:Obj:=F (y l1) #[s x0 182,s x0 183,s x1 184,.int 1 0,z,z,z,z,r 11,.bool false,.int 181 0,r 12,v,v,v,v,.int 185 0,.int 1 0,s x1 186]
def adf:Obj:=⟨y l2,none,.plain, #[(some (r 13)),(some (r 3)),(some (r 3)),none,(some (s x2 164)),none,(some (r 0))]⟩
def T0(P:Params):BT:=(.node (boot_o_0 P) (.node (boot_o_1 P) (.node (boot_o_3 P) (.node (boot_o_7 P) .nil .nil) (.node af .nil .nil)) (.node (boot_o_5 P) (.node (boot_o_9 P) .nil .nil) (.node adj .nil .nil))) (.node (boot_o_2 P) (.node (boot_o_4 P) (.node (boot_o_8 P) .nil .nil) (.node aq .nil .nil)) (.node (boot_o_6 P) (.node (boot_o_10 P) .nil .nil) (.node adf .nil .nil))))
def S0(P:Params)(os:OsState):SharedT:=⟨T0 P,15,lf, #[],⟨0,0,0,0⟩,187,os⟩
def T1(P:Params):BT:=(T0 P)
def S1(P:Params)(os:OsState):SharedT:=⟨T1 P,15,lf, #[],⟨0,0,0,0⟩,187,os⟩
def amI(P:Params):Obj:=ud (boot_o_3 P) [(0,e P x3 165 (s x4 194))] [e P x5 193 (r 21),e P x6 213 (r 31)] 11
def amV:Obj:=F v #[.int 1 0,z,r 20,.int 5 0,z,r 27]
def ac3:Obj:=Q (y l0) #[s x7 190]
def ac2:Obj:=⟨v,none,(fo (g1 0) x5 0 [] v v v v none v v 0), #[]⟩
def acX:Obj:=F (y l1) #[s x5 187,s x5 188,s x1 189,.int 1 0,.int 1 0,z,z,.int 3 0,r 15,.bool true,.int 181 0,r 16,v,r 17,r 18,r 19,.int 191 0,.int 1 0,s x1 192]
def acU:Obj:=⟨y l3,none,(fo (g1 0) x5 3 [] v v v (s x2 164) none (r 20) v 0), #[]⟩
def acT:Obj:=Q (y l0) #[y l4]
def fT:Obj:=F (y l7) #[.builtin l5,y l6]
def ag5(P:Params):Obj:=⟨y l8,none,(.dict #[e P x8 203 (s x4 194),e P x9 205 (s x6 204),e P z6 207 (.int 5 206),e P z5 208 (r 29)] 4), #[]⟩
def ag4:Obj:=F (y l1) #[s x6 198,s x6 199,s x1 200,.int 5 0,z,z,z,z,r 25,.bool false,.int 181 0,r 26,v,v,v,v,.int 201 0,.int 5 0,s x1 202]
def ag3:Obj:=⟨y l2,none,.plain, #[(some (r 27)),(some (r 3)),(some (r 24)),none,(some (s x4 194)),none,(some (r 0))]⟩
def acG(P:Params):Obj:=⟨y l8,none,(.dict #[e P x8 203 (s x4 194),e P z6 207 (.int 5 206),e P z5 208 (r 29),e P x12 210 (r 32),e P VP 211 v] 3), #[]⟩
def amM:Obj:=⟨y l6,none,(.cls ⟨x6,[y l4],[r 31,y l4,y l9,y l10,y v9],30,x6,true,[],[],false,none,false⟩), #[(some (r 22)),none,(some (s x6 196)),(some (s x6 204)),(some (.builtin l12)),(some (.bool true))]⟩
def acy:Obj:=F (y l14) #[s x12 209,r 31,.builtin l13,v]
def ag2:Obj:=F (y Xq) #[r 31,r 31,r 31]
def ag1:Obj:=F (y l7) #[.builtin Xp,r 31]
def T2(P:Params):BT:=(I (I (I (I (I (I (I (I (I (I (I (I (I (I (I (I (I (I (I (I (I (I (T1 P) 3 (amI P)) 12 amV) 15 af) 16 aq) 17 ac3) 18 af) 19 ac2) 20 acX) 21 acU) 22 acT) 23 fT) 24 (ag5 P)) 25 af) 26 aq) 27 ag4) 28 ag3) 29 af) 30 (acG P)) 31 amM) 32 acy) 33 ag2) 34 ag1)
def S2(P:Params)(os:OsState):SharedT:=⟨T2 P,35,lf, #[],⟨0,0,0,0⟩,214,os⟩
def amH(P:Params):Obj:=ud (amI P) [] [e P x14 229 (r 44)] 12
def amU:Obj:=F v #[.int 1 0,z,r 20,.int 5 0,z,r 27,.int 7 0,z,r 40]
def amL:Obj:=⟨y l6,none,(.cls ⟨x6,[y l4],[r 31,y l4,y l9,y l10,y v9],30,x6,true,[],[r 44],false,none,false⟩), #[(some (r 22)),none,(some (s x6 196)),(some (s x6 204)),(some (.builtin l12)),(some (.bool true))]⟩
def sA:Obj:=Q (y l0) #[r 31]
def ag0(P:Params):Obj:=⟨y l8,none,(.dict #[e P x8 221 (s x4 194),e P x9 223 (s x14 222),e P z6 225 (.int 7 224),e P z5 226 (r 42)] 4), #[]⟩
def agV:Obj:=F (y l1) #[s x14 216,s x14 217,s x1 218,.int 7 0,z,z,z,z,r 38,.bool false,.int 181 0,r 39,v,v,v,v,.int 219 0,.int 7 0,s x1 220]
def agU:Obj:=⟨y l2,none,.plain, #[(some (r 40)),(some (r 3)),(some (r 37)),none,(some (s x4 194)),none,(some (r 0))]⟩
def acm(P:Params):Obj:=⟨y l8,none,(.dict #[e P x8 221 (s x4 194),e P z6 225 (.int 7 224),e P z5 226 (r 42),e P VP 227 v] 2), #[]⟩
def ack:Obj:=⟨y l6,none,(.cls ⟨x14,[r 31],[r 44,r 31,y l4,y l9,y l10,y v9],43,x14,true,[],[],false,none,false⟩), #[(some (r 35)),none,(some (s x14 214)),(some (s x14 222)),(some (.builtin l12)),(some (.bool true))]⟩
def agT:Obj:=F (y Xq) #[r 44,r 44,r 44]
def agS:Obj:=F (y l7) #[.builtin Xp,r 44]
def T3(P:Params):BT:=(I (I (I (I (I (I (I (I (I (I (I (I (I (I (I (T2 P) 3 (amH P)) 12 amU) 31 amL) 35 sA) 36 fT) 37 (ag0 P)) 38 af) 39 aq) 40 agV) 41 agU) 42 af) 43 (acm P)) 44 ack) 45 agT) 46 agS)
def S3(P:Params)(os:OsState):SharedT:=⟨T3 P,47,lf, #[],⟨0,0,0,0⟩,230,os⟩
def amG(P:Params):Obj:=ud (amH P) [] [e P x15 245 (r 56)] 13
def amT:Obj:=F v #[.int 1 0,z,r 20,.int 5 0,z,r 27,.int 7 0,z,r 40,.int 9 0,z,r 52]
def amK:Obj:=⟨y l6,none,(.cls ⟨x6,[y l4],[r 31,y l4,y l9,y l10,y v9],30,x6,true,[],[r 44,r 56],false,none,false⟩), #[(some (r 22)),none,(some (s x6 196)),(some (s x6 204)),(some (.builtin l12)),(some (.bool true))]⟩
def agR(P:Params):Obj:=⟨y l8,none,(.dict #[e P x8 237 (s x4 194),e P x9 239 (s x15 238),e P z6 241 (.int 9 240),e P z5 242 (r 54)] 4), #[]⟩
def agQ:Obj:=F (y l1) #[s x15 232,s x15 233,s x1 234,.int 9 0,z,z,z,z,r 50,.bool false,.int 181 0,r 51,v,v,v,v,.int 235 0,.int 9 0,s x1 236]
def agP:Obj:=⟨y l2,none,.plain, #[(some (r 52)),(some (r 3)),(some (r 49)),none,(some (s x4 194)),none,(some (r 0))]⟩
def acj(P:Params):Obj:=⟨y l8,none,(.dict #[e P x8 237 (s x4 194),e P z6 241 (.int 9 240),e P z5 242 (r 54),e P VP 243 v] 2), #[]⟩
def aci:Obj:=⟨y l6,none,(.cls ⟨x15,[r 31],[r 56,r 31,y l4,y l9,y l10,y v9],55,x15,true,[],[],false,none,false⟩), #[(some (r 47)),none,(some (s x15 230)),(some (s x15 238)),(some (.builtin l12)),(some (.bool true))]⟩
def agO:Obj:=F (y Xq) #[r 56,r 56,r 56]
def agN:Obj:=F (y l7) #[.builtin Xp,r 56]
def T4(P:Params):BT:=(I (I (I (I (I (I (I (I (I (I (I (I (I (I (I (T3 P) 3 (amG P)) 12 amT) 31 amK) 47 sA) 48 fT) 49 (agR P)) 50 af) 51 aq) 52 agQ) 53 agP) 54 af) 55 (acj P)) 56 aci) 57 agO) 58 agN)
def S4(P:Params)(os:OsState):SharedT:=⟨T4 P,59,lf, #[],⟨0,0,0,0⟩,246,os⟩
def amF(P:Params):Obj:=ud (amG P) [] [e P x16 261 (r 68)] 14
def amS:Obj:=F v #[.int 1 0,z,r 20,.int 5 0,z,r 27,.int 7 0,z,r 40,.int 9 0,z,r 52,.int 11 0,z,r 64]
def amJ:Obj:=⟨y l6,none,(.cls ⟨x6,[y l4],[r 31,y l4,y l9,y l10,y v9],30,x6,true,[],[r 44,r 56,r 68],false,none,false⟩), #[(some (r 22)),none,(some (s x6 196)),(some (s x6 204)),(some (.builtin l12)),(some (.bool true))]⟩
def agM(P:Params):Obj:=⟨y l8,none,(.dict #[e P x8 253 (s x4 194),e P x9 255 (s x16 254),e P z6 257 (.int 11 256),e P z5 258 (r 66)] 4), #[]⟩
def agL:Obj:=F (y l1) #[s x16 248,s x16 249,s x1 250,.int 11 0,z,z,z,z,r 62,.bool false,.int 181 0,r 63,v,v,v,v,.int 251 0,.int 11 0,s x1 252]
def agK:Obj:=⟨y l2,none,.plain, #[(some (r 64)),(some (r 3)),(some (r 61)),none,(some (s x4 194)),none,(some (r 0))]⟩
def ach(P:Params):Obj:=⟨y l8,none,(.dict #[e P x8 253 (s x4 194),e P z6 257 (.int 11 256),e P z5 258 (r 66),e P VP 259 v] 2), #[]⟩
def acg:Obj:=⟨y l6,none,(.cls ⟨x16,[r 31],[r 68,r 31,y l4,y l9,y l10,y v9],67,x16,true,[],[],false,none,false⟩), #[(some (r 59)),none,(some (s x16 246)),(some (s x16 254)),(some (.builtin l12)),(some (.bool true))]⟩
def agJ:Obj:=F (y Xq) #[r 68,r 68,r 68]
def agI:Obj:=F (y l7) #[.builtin Xp,r 68]
def T5(P:Params):BT:=(I (I (I (I (I (I (I (I (I (I (I (I (I (I (I (T4 P) 3 (amF P)) 12 amS) 31 amJ) 59 sA) 60 fT) 61 (agM P)) 62 af) 63 aq) 64 agL) 65 agK) 66 af) 67 (ach P)) 68 acg) 69 agJ) 70 agI)
def S5(P:Params)(os:OsState):SharedT:=⟨T5 P,71,lf, #[],⟨0,0,0,0⟩,262,os⟩
def amE(P:Params):Obj:=ud (amF P) [(0,e P x3 165 (s pP 294))] [e P x18 277 (r 80),e P x19 282 (r 83),e P x20 285 (r 84),e P x21 293 (r 91),e P x22 297 (s x23 296),e P x24 299 (.int 8 298),e P x25 306 (r 98),e P x26 313 (r 105),e P x27 319 (r 110)] 23
def amR:Obj:=F v #[.int 1 0,z,r 20,.int 5 0,z,r 27,.int 7 0,z,r 40,.int 9 0,z,r 52,.int 11 0,z,r 64,.int 13 0,z,r 76,.int 18 0,z,r 90,.int 23 0,z,r 97,.int 26 0,z,r 104,.int 29 0,z,r 109]
def acD:Obj:=⟨y l6,none,(.cls ⟨x6,[y l4],[r 31,y l4,y l9,y l10,y v9],30,x6,true,[],[r 44,r 56,r 68,r 80],false,none,false⟩), #[(some (r 22)),none,(some (s x6 196)),(some (s x6 204)),(some (.builtin l12)),(some (.bool true))]⟩
def agH(P:Params):Obj:=⟨y l8,none,(.dict #[e P x8 269 (s x4 194),e P x9 271 (s x18 270),e P z6 273 (.int 13 272),e P z5 274 (r 78)] 4), #[]⟩
def agG:Obj:=F (y l1) #[s x18 264,s x18 265,s x1 266,.int 13 0,z,z,z,z,r 74,.bool false,.int 181 0,r 75,v,v,v,v,.int 267 0,.int 13 0,s x1 268]
def agF:Obj:=⟨y l2,none,.plain, #[(some (r 76)),(some (r 3)),(some (r 73)),none,(some (s x4 194)),none,(some (r 0))]⟩
def acf(P:Params):Obj:=⟨y l8,none,(.dict #[e P x8 269 (s x4 194),e P z6 273 (.int 13 272),e P z5 274 (r 78),e P VP 275 v] 2), #[]⟩
def ace:Obj:=⟨y l6,none,(.cls ⟨x18,[r 31],[r 80,r 31,y l4,y l9,y l10,y v9],79,x18,true,[],[],false,none,false⟩), #[(some (r 71)),none,(some (s x18 262)),(some (s x18 270)),(some (.builtin l12)),(some (.bool true))]⟩
def agE:Obj:=F (y Xq) #[r 80,r 80,r 80]
def agD:Obj:=F (y l7) #[.builtin Xp,r 80]
def acd:Obj:=Q (y l0) #[.int 0 280,.int 1 281]
def ab9:Obj:=Q (y l0) #[.int 1 283,.int 1 284]
def ab8:Obj:=Q (y l0) #[s x28 289,s x29 290]
def ab7:Obj:=⟨v,none,(fo (g1 10) x21 0 [] v v v v none v v 0), #[]⟩
def ab6:Obj:=F (y l1) #[s x21 286,s x21 287,s x1 288,.int 18 0,.int 2 0,z,z,.int 3 0,r 85,.bool true,.int 181 0,r 86,v,r 87,r 88,r 89,.int 291 0,.int 18 0,s x1 292]
def ab5:Obj:=⟨y l3,none,(fo (g1 10) x21 3 [] v v v (s x30 278) none (r 90) v 0), #[]⟩
def ab4:Obj:=Q (y l0) #[s x31 303]
def ab3:Obj:=⟨v,none,(fo (g1 14) x25 0 [] v v v v none v v 0), #[]⟩
def ab2:Obj:=F (y l1) #[s x25 300,s x25 301,s x1 302,.int 23 0,.int 1 0,z,z,.int 3 0,r 92,.bool true,.int 181 0,r 93,v,r 94,r 95,r 96,.int 304 0,.int 23 0,s x1 305]
def ab1:Obj:=⟨y l3,none,(fo (g1 14) x25 3 [] v v v (s pP 294) none (r 97) v 0), #[]⟩
def Uu:Obj:=Q (y l0) #[s x32 310]
def Ut:Obj:=⟨v,none,(fo (g1 15) x26 0 [] v v v v none v v 0), #[]⟩
def Us:Obj:=F (y l1) #[s x26 307,s x26 308,s x1 309,.int 26 0,.int 1 0,z,z,.int 3 0,r 99,.bool true,.int 181 0,r 100,v,r 101,r 102,r 103,.int 311 0,.int 26 0,s x1 312]
def Ur:Obj:=⟨y l3,none,(fo (g1 15) x26 3 [] v v v (s pP 294) none (r 104) v 0), #[]⟩
def Uq:Obj:=⟨v,none,(fo (g1 16) x27 0 [] v v v v none v v 0), #[]⟩
def Up:Obj:=F (y l1) #[s x27 314,s x27 315,s x1 316,.int 29 0,.int 1 0,z,z,.int 3 0,r 106,.bool true,.int 181 0,r 107,v,v,v,r 108,.int 317 0,.int 29 0,s x1 318]
def Uo:Obj:=⟨y l3,none,(fo (g1 16) x27 3 [] v v v (s pP 294) none (r 109) v 0), #[]⟩
def T6(P:Params):BT:=(I (I (I (I (I (I (I (I (I (I (I (I (I (I (I (I (I (I (I (I (I (I (I (I (I (I (I (I (I (I (I (I (I (I (I (I (I (I (I (I (I (I (I (T5 P) 3 (amE P)) 12 amR) 31 acD) 71 sA) 72 fT) 73 (agH P)) 74 af) 75 aq) 76 agG) 77 agF) 78 af) 79 (acf P)) 80 ace) 81 agE) 82 agD) 83 acd) 84 ab9) 85 af) 86 aq) 87 ab8) 88 af) 89 ab7) 90 ab6) 91 ab5) 92 af) 93 aq) 94 ab4) 95 af) 96 ab3) 97 ab2) 98 ab1) 99 af) 100 aq) 101 Uu) 102 af) 103 Ut) 104 Us) 105 Ur) 106 af) 107 aq) 108 Uq) 109 Up) 110 Uo)
def S6(P:Params)(os:OsState):SharedT:=⟨T6 P,111,lf, #[],⟨0,0,0,0⟩,320,os⟩
def amD(P:Params):Obj:=ud (amE P) [] [e P uS 361 (r 141)] 24
def amQ:Obj:=F v #[.int 1 0,z,r 20,.int 5 0,z,r 27,.int 7 0,z,r 40,.int 9 0,z,r 52,.int 11 0,z,r 64,.int 13 0,z,r 76,.int 18 0,z,r 90,.int 23 0,z,r 97,.int 26 0,z,r 104,.int 29 0,z,r 109,.int 32 0,z,r 116]
def adn(P:Params):Obj:=⟨y l8,none,(.dict #[e P x8 327 (s pP 294),e P x9 329 (s uS 328),e P z6 331 (.int 32 330),e P MJ 339 (r 124),e P x35 346 (r 131),e P x36 353 (r 138),e P z5 354 (r 139)] 7), #[]⟩
def adm:Obj:=F v #[.int 34 0,.int 4 0,r 123,.int 37 0,.int 4 0,r 130,.int 40 0,.int 4 0,r 137]
def adl:Obj:=F (y l1) #[s uS 322,s uS 323,s x1 324,.int 32 0,z,z,z,z,r 114,.bool false,.int 181 0,r 115,v,v,v,v,.int 325 0,.int 32 0,s x1 326]
def adk:Obj:=⟨y l2,none,.plain, #[(some (r 116)),(some (r 3)),(some (r 113)),none,(some (s pP 294)),none,(some (r 0))]⟩
def Um:Obj:=Q (y l0) #[s yT 335,s x38 336]
def Ul:Obj:=⟨v,none,(fo (g2 17 0) x39 0 [] v v v v none v v 0), #[]⟩
def Uk:Obj:=F (y l1) #[s MJ 332,s x39 333,s x1 334,.int 34 0,.int 2 0,z,z,.int 3 0,r 118,.bool true,.int 181 0,r 119,v,r 120,r 121,r 122,.int 337 0,.int 34 0,s x1 338]
def Uj:Obj:=⟨y l3,none,(fo (g2 17 0) x39 3 [] v v v (s pP 294) none (r 123) v 0), #[]⟩
def Ui:Obj:=Q (y l0) #[s yT 343]
def Uh:Obj:=⟨v,none,(fo (g2 17 1) x40 0 [] v v v v none v v 0), #[]⟩
def Ue:Obj:=F (y l1) #[s x35 340,s x40 341,s x1 342,.int 37 0,.int 1 0,z,z,.int 3 0,r 125,.bool true,.int 181 0,r 126,v,r 127,r 128,r 129,.int 344 0,.int 37 0,s x1 345]
def Ud:Obj:=⟨y l3,none,(fo (g2 17 1) x40 3 [] v v v (s pP 294) none (r 130) v 0), #[]⟩
def Uc:Obj:=Q (y l0) #[s yT 350]
def Ub:Obj:=⟨v,none,(fo (g2 17 2) x41 0 [] v v v v none v v 0), #[]⟩
def Ua:Obj:=F (y l1) #[s x36 347,s x41 348,s x1 349,.int 40 0,.int 1 0,z,z,.int 3 0,r 132,.bool true,.int 181 0,r 133,v,r 134,r 135,r 136,.int 351 0,.int 40 0,s x1 352]
def TZ:Obj:=⟨y l3,none,(fo (g2 17 2) x41 3 [] v v v (s pP 294) none (r 137) v 0), #[]⟩
def TY(P:Params):Obj:=⟨y l8,none,(.dict #[e P x8 327 (s pP 294),e P z6 331 (.int 32 330),e P MJ 339 (r 124),e P x35 346 (r 131),e P x36 353 (r 138),e P z5 354 (r 139),e P x42 356 (r 142),e P x12 358 (r 143),e P VP 359 v] 4), #[]⟩
def ajv:Obj:=⟨y l6,none,(.cls ⟨uS,[y v9],[r 141,y v9],140,uS,true,[],[],false,none,false⟩), #[none,none,(some (s uS 320)),(some (s uS 328)),(some (.builtin Vl)),(some (.bool true))]⟩
def TV:Obj:=F (y l14) #[s x42 355,r 141,.builtin l18,.builtin l19]
def TU:Obj:=F (y l14) #[s x12 357,r 141,.builtin l13,v]
def adi:Obj:=F (y Xq) #[r 141,r 141,r 141]
def adh:Obj:=F (y l7) #[.builtin Xp,r 141]
def T7(P:Params):BT:=(I (I (I (I (I (I (I (I (I (I (I (I (I (I (I (I (I (I (I (I (I (I (I (I (I (I (I (I (I (I (I (I (I (I (I (I (I (T6 P) 3 (amD P)) 12 amQ) 111 af) 112 fT) 113 (adn P)) 114 af) 115 adm) 116 adl) 117 adk) 118 af) 119 aq) 120 Um) 121 af) 122 Ul) 123 Uk) 124 Uj) 125 af) 126 aq) 127 Ui) 128 af) 129 Uh) 130 Ue) 131 Ud) 132 af) 133 aq) 134 Uc) 135 af) 136 Ub) 137 Ua) 138 TZ) 139 af) 140 (TY P)) 141 ajv) 142 TV) 143 TU) 144 adi) 145 adh)
def S7(P:Params)(os:OsState):SharedT:=⟨T7 P,146,lf, #[],⟨0,0,0,0⟩,362,os⟩
def amC(P:Params):Obj:=ud (amD P) [] [e P x43 384 (r 162)] 25
def amP:Obj:=F v #[.int 1 0,z,r 20,.int 5 0,z,r 27,.int 7 0,z,r 40,.int 9 0,z,r 52,.int 11 0,z,r 64,.int 13 0,z,r 76,.int 18 0,z,r 90,.int 23 0,z,r 97,.int 26 0,z,r 104,.int 29 0,z,r 109,.int 32 0,z,r 116,.int 42 0,z,r 151]
def aju:Obj:=⟨y l6,none,(.cls ⟨uS,[y v9],[r 141,y v9],140,uS,true,[],[r 162],false,none,false⟩), #[none,none,(some (s uS 320)),(some (s uS 328)),(some (.builtin Vl)),(some (.bool true))]⟩
def gI:Obj:=Q (y l0) #[r 141]
def adg(P:Params):Obj:=⟨y l8,none,(.dict #[e P x8 369 (s pP 294),e P x9 371 (s x43 370),e P z6 373 (.int 42 372),e P J0 380 (r 159),e P z5 381 (r 160)] 5), #[]⟩
def ade:Obj:=F v #[.int 44 0,.int 4 0,r 158]
def adb:Obj:=F (y l1) #[s x43 364,s x43 365,s x1 366,.int 42 0,z,z,z,z,r 149,.bool false,.int 181 0,r 150,v,v,v,v,.int 367 0,.int 42 0,s x1 368]
def ada:Obj:=⟨y l2,none,.plain, #[(some (r 151)),(some (r 3)),(some (r 148)),none,(some (s pP 294)),none,(some (r 0))]⟩
def TR:Obj:=Q (y l0) #[s yT 377]
def TQ:Obj:=⟨v,none,(fo (g2 18 0) x45 0 [] v v v v none v v 0), #[]⟩
def TN:Obj:=F (y l1) #[s J0 374,s x45 375,s x1 376,.int 44 0,.int 1 0,z,z,.int 3 0,r 153,.bool true,.int 181 0,r 154,v,r 155,r 156,r 157,.int 378 0,.int 44 0,s x1 379]
def TM:Obj:=⟨y l3,none,(fo (g2 18 0) x45 3 [] v v v (s pP 294) none (r 158) v 0), #[]⟩
def TL(P:Params):Obj:=⟨y l8,none,(.dict #[e P x8 369 (s pP 294),e P z6 373 (.int 42 372),e P J0 380 (r 159),e P z5 381 (r 160),e P VP 382 v] 2), #[]⟩
def TJ:Obj:=⟨y l6,none,(.cls ⟨x43,[r 141],[r 162,r 141,y v9],161,x43,true,[],[],false,none,false⟩), #[(some (r 146)),none,(some (s x43 362)),(some (s x43 370)),(some (.builtin Vl)),(some (.bool true))]⟩
def ac9:Obj:=F (y Xq) #[r 162,r 162,r 162]
def ac8:Obj:=F (y l7) #[.builtin Xp,r 162]
def T8(P:Params):BT:=(I (I (I (I (I (I (I (I (I (I (I (I (I (I (I (I (I (I (I (I (I (I (T7 P) 3 (amC P)) 12 amP) 141 aju) 146 gI) 147 fT) 148 (adg P)) 149 af) 150 ade) 151 adb) 152 ada) 153 af) 154 aq) 155 TR) 156 af) 157 TQ) 158 TN) 159 TM) 160 af) 161 (TL P)) 162 TJ) 163 ac9) 164 ac8)
def S8(P:Params)(os:OsState):SharedT:=⟨T8 P,165,lf, #[],⟨0,0,0,0⟩,385,os⟩
def amB(P:Params):Obj:=ud (amC P) [] [e P x46 431 (r 202)] 26
def amO:Obj:=F v #[.int 1 0,z,r 20,.int 5 0,z,r 27,.int 7 0,z,r 40,.int 9 0,z,r 52,.int 11 0,z,r 64,.int 13 0,z,r 76,.int 18 0,z,r 90,.int 23 0,z,r 97,.int 26 0,z,r 104,.int 29 0,z,r 109,.int 32 0,z,r 116,.int 42 0,z,r 151,.int 46 0,z,r 170]
def ajt:Obj:=⟨y l6,none,(.cls ⟨uS,[y v9],[r 141,y v9],140,uS,true,[],[r 162,r 202],false,none,false⟩), #[none,none,(some (s uS 320)),(some (s uS 328)),(some (.builtin Vl)),(some (.bool true))]⟩
def ac7(P:Params):Obj:=⟨y l8,none,(.dict #[e P x8 392 (s pP 294),e P x9 394 (s x46 393),e P z6 396 (.int 46 395),e P MI 404 (r 178),e P J0 411 (r 185),e P MJ 419 (r 192),e P x36 426 (r 199),e P z5 428 (r 200)] 8), #[]⟩
def ac6:Obj:=F v #[.int 48 0,.int 4 0,r 177,.int 52 0,.int 4 0,r 184,.int 55 0,.int 4 0,r 191,.int 58 0,.int 4 0,r 198]
def ac5:Obj:=F (y l1) #[s x46 387,s x46 388,s x1 389,.int 46 0,z,z,z,z,r 168,.bool false,.int 181 0,r 169,v,v,v,v,.int 390 0,.int 46 0,s x1 391]
def ac4:Obj:=⟨y l2,none,.plain, #[(some (r 170)),(some (r 3)),(some (r 167)),none,(some (s pP 294)),none,(some (r 0))]⟩
def TH:Obj:=Q (y l0) #[s yT 400,s x31 401]
def TF:Obj:=⟨v,none,(fo (g2 19 0) x48 0 [] v v v v none v v 0), #[]⟩
def Tz:Obj:=F (y l1) #[s MI 397,s x48 398,s x1 399,.int 48 0,.int 2 0,z,z,.int 3 0,r 172,.bool true,.int 181 0,r 173,v,r 174,r 175,r 176,.int 402 0,.int 48 0,s x1 403]
def Tw:Obj:=⟨y l3,none,(fo (g2 19 0) x48 3 [] v v v (s pP 294) none (r 177) v 0), #[]⟩
def Tv:Obj:=Q (y l0) #[s yT 408]
def Tu:Obj:=⟨v,none,(fo (g2 19 1) x49 0 [] v v v v none v v 0), #[]⟩
def Tt:Obj:=F (y l1) #[s J0 405,s x49 406,s x1 407,.int 52 0,.int 1 0,z,z,.int 3 0,r 179,.bool true,.int 181 0,r 180,v,r 181,r 182,r 183,.int 409 0,.int 52 0,s x1 410]
def Tr:Obj:=⟨y l3,none,(fo (g2 19 1) x49 3 [] v v v (s pP 294) none (r 184) v 0), #[]⟩
def Tq:Obj:=Q (y l0) #[s yT 415,s x38 416]
def Tp:Obj:=⟨v,none,(fo (g2 19 2) x50 0 [] v v v v none v v 0), #[]⟩
def To:Obj:=F (y l1) #[s MJ 412,s x50 413,s x1 414,.int 55 0,.int 2 0,z,z,.int 3 0,r 186,.bool true,.int 181 0,r 187,v,r 188,r 189,r 190,.int 417 0,.int 55 0,s x1 418]
def Tn:Obj:=⟨y l3,none,(fo (g2 19 2) x50 3 [] v v v (s pP 294) none (r 191) v 0), #[]⟩
def Tj:Obj:=Q (y l0) #[s yT 423]
def Ti:Obj:=⟨v,none,(fo (g2 19 3) x51 0 [] v v v v none v v 0), #[]⟩
def Th:Obj:=F (y l1) #[s x36 420,s x51 421,s x1 422,.int 58 0,.int 1 0,z,z,.int 3 0,r 193,.bool true,.int 181 0,r 194,v,r 195,r 196,r 197,.int 424 0,.int 58 0,s x1 425]
def Te:Obj:=⟨y l3,none,(fo (g2 19 3) x51 3 [] v v v (s pP 294) none (r 198) v 0), #[]⟩
def Td:Obj:=Q (y l0) #[s x31 427]
def Tc(P:Params):Obj:=⟨y l8,none,(.dict #[e P x8 392 (s pP 294),e P z6 396 (.int 46 395),e P MI 404 (r 178),e P J0 411 (r 185),e P MJ 419 (r 192),e P x36 426 (r 199),e P z5 428 (r 200),e P VP 429 v] 2), #[]⟩
def SY:Obj:=⟨y l6,none,(.cls ⟨x46,[r 141],[r 202,r 141,y v9],201,x46,true,[],[],false,none,false⟩), #[(some (r 165)),none,(some (s x46 385)),(some (s x46 393)),(some (.builtin Vl)),(some (.bool true))]⟩
def ac1:Obj:=F (y Xq) #[r 202,r 202,r 202]
def ac0:Obj:=F (y l7) #[.builtin Xp,r 202]
def T9(P:Params):BT:=(I (I (I (I (I (I (I (I (I (I (I (I (I (I (I (I (I (I (I (I (I (I (I (I (I (I (I (I (I (I (I (I (I (I (I (I (I (I (I (I (I (I (I (T8 P) 3 (amB P)) 12 amO) 141 ajt) 165 gI) 166 fT) 167 (ac7 P)) 168 af) 169 ac6) 170 ac5) 171 ac4) 172 af) 173 aq) 174 TH) 175 af) 176 TF) 177 Tz) 178 Tw) 179 af) 180 aq) 181 Tv) 182 af) 183 Tu) 184 Tt) 185 Tr) 186 af) 187 aq) 188 Tq) 189 af) 190 Tp) 191 To) 192 Tn) 193 af) 194 aq) 195 Tj) 196 af) 197 Ti) 198 Th) 199 Te) 200 Td) 201 (Tc P)) 202 SY) 203 ac1) 204 ac0)
def S9(P:Params)(os:OsState):SharedT:=⟨T9 P,205,lf, #[],⟨0,0,0,0⟩,432,os⟩
def amA(P:Params):Obj:=ud (amB P) [] [e P x52 480 (r 242)] 27
def amN:Obj:=F v #[.int 1 0,z,r 20,.int 5 0,z,r 27,.int 7 0,z,r 40,.int 9 0,z,r 52,.int 11 0,z,r 64,.int 13 0,z,r 76,.int 18 0,z,r 90,.int 23 0,z,r 97,.int 26 0,z,r 104,.int 29 0,z,r 109,.int 32 0,z,r 116,.int 42 0,z,r 151,.int 46 0,z,r 170,.int 60 0,z,r 210]
def ajs:Obj:=⟨y l6,none,(.cls ⟨uS,[y v9],[r 141,y v9],140,uS,true,[],[r 162,r 202,r 242],false,none,false⟩), #[none,none,(some (s uS 320)),(some (s uS 328)),(some (.builtin Vl)),(some (.bool true))]⟩
def acZ(P:Params):Obj:=⟨y l8,none,(.dict #[e P x8 439 (s pP 294),e P x9 441 (s x52 440),e P z6 443 (.int 60 442),e P MI 452 (r 218),e P J0 459 (r 225),e P MJ 467 (r 232),e P x36 474 (r 239),e P z5 477 (r 240)] 8), #[]⟩
def acY:Obj:=F v #[.int 62 0,.int 4 0,r 217,.int 68 0,.int 4 0,r 224,.int 71 0,.int 4 0,r 231,.int 74 0,.int 4 0,r 238]
def acW:Obj:=F (y l1) #[s x52 434,s x52 435,s x1 436,.int 60 0,z,z,z,z,r 208,.bool false,.int 181 0,r 209,v,v,v,v,.int 437 0,.int 60 0,s x1 438]
def acV:Obj:=⟨y l2,none,.plain, #[(some (r 210)),(some (r 3)),(some (r 207)),none,(some (s pP 294)),none,(some (r 0))]⟩
def SX:Obj:=Q (y l0) #[s yT 447,s x31 448,s x32 449]
def SW:Obj:=⟨v,none,(fo (g2 20 0) x53 0 [] v v v v none v v 0), #[]⟩
def SV:Obj:=F (y l1) #[s MI 444,s x53 445,s x1 446,.int 62 0,.int 3 0,z,z,.int 3 0,r 212,.bool true,.int 181 0,r 213,v,r 214,r 215,r 216,.int 450 0,.int 62 0,s x1 451]
def SS:Obj:=⟨y l3,none,(fo (g2 20 0) x53 3 [] v v v (s pP 294) none (r 217) v 0), #[]⟩
def SR:Obj:=Q (y l0) #[s yT 456]
def SQ:Obj:=⟨v,none,(fo (g2 20 1) x54 0 [] v v v v none v v 0), #[]⟩
def SO:Obj:=F (y l1) #[s J0 453,s x54 454,s x1 455,.int 68 0,.int 1 0,z,z,.int 3 0,r 219,.bool true,.int 181 0,r 220,v,r 221,r 222,r 223,.int 457 0,.int 68 0,s x1 458]
def SN:Obj:=⟨y l3,none,(fo (g2 20 1) x54 3 [] v v v (s pP 294) none (r 224) v 0), #[]⟩
def SM:Obj:=Q (y l0) #[s yT 463,s x38 464]
def SK:Obj:=⟨v,none,(fo (g2 20 2) x55 0 [] v v v v none v v 0), #[]⟩
def SJ:Obj:=F (y l1) #[s MJ 460,s x55 461,s x1 462,.int 71 0,.int 2 0,z,z,.int 3 0,r 226,.bool true,.int 181 0,r 227,v,r 228,r 229,r 230,.int 465 0,.int 71 0,s x1 466]
def SI:Obj:=⟨y l3,none,(fo (g2 20 2) x55 3 [] v v v (s pP 294) none (r 231) v 0), #[]⟩
def SH:Obj:=Q (y l0) #[s yT 471]
def SG:Obj:=⟨v,none,(fo (g2 20 3) x56 0 [] v v v v none v v 0), #[]⟩
def SE:Obj:=F (y l1) #[s x36 468,s x56 469,s x1 470,.int 74 0,.int 1 0,z,z,.int 3 0,r 233,.bool true,.int 181 0,r 234,v,r 235,r 236,r 237,.int 472 0,.int 74 0,s x1 473]
def SD:Obj:=⟨y l3,none,(fo (g2 20 3) x56 3 [] v v v (s pP 294) none (r 238) v 0), #[]⟩
def SA:Obj:=Q (y l0) #[s x32 475,s x31 476]
def Sz(P:Params):Obj:=⟨y l8,none,(.dict #[e P x8 439 (s pP 294),e P z6 443 (.int 60 442),e P MI 452 (r 218),e P J0 459 (r 225),e P MJ 467 (r 232),e P x36 474 (r 239),e P z5 477 (r 240),e P VP 478 v] 2), #[]⟩
def Sy:Obj:=⟨y l6,none,(.cls ⟨x52,[r 141],[r 242,r 141,y v9],241,x52,true,[],[],false,none,false⟩), #[(some (r 205)),none,(some (s x52 432)),(some (s x52 440)),(some (.builtin Vl)),(some (.bool true))]⟩
def acS:Obj:=F (y Xq) #[r 242,r 242,r 242]
def acR:Obj:=F (y l7) #[.builtin Xp,r 242]
def T10(P:Params):BT:=(I (I (I (I (I (I (I (I (I (I (I (I (I (I (I (I (I (I (I (I (I (I (I (I (I (I (I (I (I (I (I (I (I (I (I (I (I (I (I (I (I (I (I (T9 P) 3 (amA P)) 12 amN) 141 ajs) 205 gI) 206 fT) 207 (acZ P)) 208 af) 209 acY) 210 acW) 211 acV) 212 af) 213 aq) 214 SX) 215 af) 216 SW) 217 SV) 218 SS) 219 af) 220 aq) 221 SR) 222 af) 223 SQ) 224 SO) 225 SN) 226 af) 227 aq) 228 SM) 229 af) 230 SK) 231 SJ) 232 SI) 233 af) 234 aq) 235 SH) 236 af) 237 SG) 238 SE) 239 SD) 240 SA) 241 (Sz P)) 242 Sy) 243 acS) 244 acR)
def S10(P:Params)(os:OsState):SharedT:=⟨T10 P,245,lf, #[],⟨0,0,0,0⟩,481,os⟩
def amz(P:Params):Obj:=ud (amA P) [] [e P x57 527 (r 282)] 28
def ajA:Obj:=F v #[.int 1 0,z,r 20,.int 5 0,z,r 27,.int 7 0,z,r 40,.int 9 0,z,r 52,.int 11 0,z,r 64,.int 13 0,z,r 76,.int 18 0,z,r 90,.int 23 0,z,r 97,.int 26 0,z,r 104,.int 29 0,z,r 109,.int 32 0,z,r 116,.int 42 0,z,r 151,.int 46 0,z,r 170,.int 60 0,z,r 210,.int 76 0,z,r 250]
def ajr:Obj:=⟨y l6,none,(.cls ⟨uS,[y v9],[r 141,y v9],140,uS,true,[],[r 162,r 202,r 242,r 282],false,none,false⟩), #[none,none,(some (s uS 320)),(some (s uS 328)),(some (.builtin Vl)),(some (.bool true))]⟩
def acQ(P:Params):Obj:=⟨y l8,none,(.dict #[e P x8 488 (s pP 294),e P x9 490 (s x57 489),e P z6 492 (.int 76 491),e P MI 500 (r 258),e P J0 507 (r 265),e P MJ 515 (r 272),e P x35 522 (r 279),e P z5 524 (r 280)] 8), #[]⟩
def acP:Obj:=F v #[.int 78 0,.int 4 0,r 257,.int 82 0,.int 4 0,r 264,.int 85 0,.int 4 0,r 271,.int 88 0,.int 4 0,r 278]
def acO:Obj:=F (y l1) #[s x57 483,s x57 484,s x1 485,.int 76 0,z,z,z,z,r 248,.bool false,.int 181 0,r 249,v,v,v,v,.int 486 0,.int 76 0,s x1 487]
def acN:Obj:=⟨y l2,none,.plain, #[(some (r 250)),(some (r 3)),(some (r 247)),none,(some (s pP 294)),none,(some (r 0))]⟩
def Sx:Obj:=Q (y l0) #[s yT 496,s x32 497]
def Sw:Obj:=⟨v,none,(fo (g2 21 0) x58 0 [] v v v v none v v 0), #[]⟩
def Sv:Obj:=F (y l1) #[s MI 493,s x58 494,s x1 495,.int 78 0,.int 2 0,z,z,.int 3 0,r 252,.bool true,.int 181 0,r 253,v,r 254,r 255,r 256,.int 498 0,.int 78 0,s x1 499]
def Ss:Obj:=⟨y l3,none,(fo (g2 21 0) x58 3 [] v v v (s pP 294) none (r 257) v 0), #[]⟩
def Sq:Obj:=Q (y l0) #[s yT 504]
def So:Obj:=⟨v,none,(fo (g2 21 1) x59 0 [] v v v v none v v 0), #[]⟩
def Sn:Obj:=F (y l1) #[s J0 501,s x59 502,s x1 503,.int 82 0,.int 1 0,z,z,.int 3 0,r 259,.bool true,.int 181 0,r 260,v,r 261,r 262,r 263,.int 505 0,.int 82 0,s x1 506]
def Sl:Obj:=⟨y l3,none,(fo (g2 21 1) x59 3 [] v v v (s pP 294) none (r 264) v 0), #[]⟩
def Sk:Obj:=Q (y l0) #[s yT 511,s x38 512]
def Sj:Obj:=⟨v,none,(fo (g2 21 2) x60 0 [] v v v v none v v 0), #[]⟩
def Si:Obj:=F (y l1) #[s MJ 508,s x60 509,s x1 510,.int 85 0,.int 2 0,z,z,.int 3 0,r 266,.bool true,.int 181 0,r 267,v,r 268,r 269,r 270,.int 513 0,.int 85 0,s x1 514]
def Sf:Obj:=⟨y l3,none,(fo (g2 21 2) x60 3 [] v v v (s pP 294) none (r 271) v 0), #[]⟩
def Se:Obj:=Q (y l0) #[s yT 519]
def Sd:Obj:=⟨v,none,(fo (g2 21 3) x61 0 [] v v v v none v v 0), #[]⟩
def Sb:Obj:=F (y l1) #[s x35 516,s x61 517,s x1 518,.int 88 0,.int 1 0,z,z,.int 3 0,r 273,.bool true,.int 181 0,r 274,v,r 275,r 276,r 277,.int 520 0,.int 88 0,s x1 521]
def Sa:Obj:=⟨y l3,none,(fo (g2 21 3) x61 3 [] v v v (s pP 294) none (r 278) v 0), #[]⟩
def R9:Obj:=Q (y l0) #[s x32 523]
def R8(P:Params):Obj:=⟨y l8,none,(.dict #[e P x8 488 (s pP 294),e P z6 492 (.int 76 491),e P MI 500 (r 258),e P J0 507 (r 265),e P MJ 515 (r 272),e P x35 522 (r 279),e P z5 524 (r 280),e P VP 525 v] 2), #[]⟩
def R7:Obj:=⟨y l6,none,(.cls ⟨x57,[r 141],[r 282,r 141,y v9],281,x57,true,[],[],false,none,false⟩), #[(some (r 245)),none,(some (s x57 481)),(some (s x57 489)),(some (.builtin Vl)),(some (.bool true))]⟩
def acM:Obj:=F (y Xq) #[r 282,r 282,r 282]
def acL:Obj:=F (y l7) #[.builtin Xp,r 282]
def T11(P:Params):BT:=(I (I (I (I (I (I (I (I (I (I (I (I (I (I (I (I (I (I (I (I (I (I (I (I (I (I (I (I (I (I (I (I (I (I (I (I (I (I (I (I (I (I (I (T10 P) 3 (amz P)) 12 ajA) 141 ajr) 245 gI) 246 fT) 247 (acQ P)) 248 af) 249 acP) 250 acO) 251 acN) 252 af) 253 aq) 254 Sx) 255 af) 256 Sw) 257 Sv) 258 Ss) 259 af) 260 aq) 261 Sq) 262 af) 263 So) 264 Sn) 265 Sl) 266 af) 267 aq) 268 Sk) 269 af) 270 Sj) 271 Si) 272 Sf) 273 af) 274 aq) 275 Se) 276 af) 277 Sd) 278 Sb) 279 Sa) 280 R9) 281 (R8 P)) 282 R7) 283 acM) 284 acL)
def S11(P:Params)(os:OsState):SharedT:=⟨T11 P,285,lf, #[],⟨0,0,0,0⟩,528,os⟩
def agZ(P:Params):Obj:=ud (amz P) [] [e P x62 565 (r 315)] 29
def ajz:Obj:=F v #[.int 1 0,z,r 20,.int 5 0,z,r 27,.int 7 0,z,r 40,.int 9 0,z,r 52,.int 11 0,z,r 64,.int 13 0,z,r 76,.int 18 0,z,r 90,.int 23 0,z,r 97,.int 26 0,z,r 104,.int 29 0,z,r 109,.int 32 0,z,r 116,.int 42 0,z,r 151,.int 46 0,z,r 170,.int 60 0,z,r 210,.int 76 0,z,r 250,.int 90 0,z,r 290]
def ajq:Obj:=⟨y l6,none,(.cls ⟨uS,[y v9],[r 141,y v9],140,uS,true,[],[r 162,r 202,r 242,r 282,r 315],false,none,false⟩), #[none,none,(some (s uS 320)),(some (s uS 328)),(some (.builtin Vl)),(some (.bool true))]⟩
def acK(P:Params):Obj:=⟨y l8,none,(.dict #[e P x8 535 (s pP 294),e P x9 537 (s x62 536),e P z6 539 (.int 90 538),e P J0 546 (r 298),e P MJ 554 (r 305),e P x35 561 (r 312),e P z5 562 (r 313)] 7), #[]⟩
def acJ:Obj:=F v #[.int 92 0,.int 4 0,r 297,.int 95 0,.int 4 0,r 304,.int 98 0,.int 4 0,r 311]
def acI:Obj:=F (y l1) #[s x62 530,s x62 531,s x1 532,.int 90 0,z,z,z,z,r 288,.bool false,.int 181 0,r 289,v,v,v,v,.int 533 0,.int 90 0,s x1 534]
def acH:Obj:=⟨y l2,none,.plain, #[(some (r 290)),(some (r 3)),(some (r 287)),none,(some (s pP 294)),none,(some (r 0))]⟩
def R6:Obj:=Q (y l0) #[s yT 543]
def R5:Obj:=⟨v,none,(fo (g2 22 0) x63 0 [] v v v v none v v 0), #[]⟩
def R4:Obj:=F (y l1) #[s J0 540,s x63 541,s x1 542,.int 92 0,.int 1 0,z,z,.int 3 0,r 292,.bool true,.int 181 0,r 293,v,r 294,r 295,r 296,.int 544 0,.int 92 0,s x1 545]
def R3:Obj:=⟨y l3,none,(fo (g2 22 0) x63 3 [] v v v (s pP 294) none (r 297) v 0), #[]⟩
def R1:Obj:=Q (y l0) #[s yT 550,s x38 551]
def R0:Obj:=⟨v,none,(fo (g2 22 1) x64 0 [] v v v v none v v 0), #[]⟩
def RZ:Obj:=F (y l1) #[s MJ 547,s x64 548,s x1 549,.int 95 0,.int 2 0,z,z,.int 3 0,r 299,.bool true,.int 181 0,r 300,v,r 301,r 302,r 303,.int 552 0,.int 95 0,s x1 553]
def RY:Obj:=⟨y l3,none,(fo (g2 22 1) x64 3 [] v v v (s pP 294) none (r 304) v 0), #[]⟩
def RX:Obj:=Q (y l0) #[s yT 558]
def RW:Obj:=⟨v,none,(fo (g2 22 2) x65 0 [] v v v v none v v 0), #[]⟩
def RV:Obj:=F (y l1) #[s x35 555,s x65 556,s x1 557,.int 98 0,.int 1 0,z,z,.int 3 0,r 306,.bool true,.int 181 0,r 307,v,r 308,r 309,r 310,.int 559 0,.int 98 0,s x1 560]
def RU:Obj:=⟨y l3,none,(fo (g2 22 2) x65 3 [] v v v (s pP 294) none (r 311) v 0), #[]⟩
def RT(P:Params):Obj:=⟨y l8,none,(.dict #[e P x8 535 (s pP 294),e P z6 539 (.int 90 538),e P J0 546 (r 298),e P MJ 554 (r 305),e P x35 561 (r 312),e P z5 562 (r 313),e P VP 563 v] 2), #[]⟩
def RS:Obj:=⟨y l6,none,(.cls ⟨x62,[r 141],[r 315,r 141,y v9],314,x62,true,[],[],false,none,false⟩), #[(some (r 285)),none,(some (s x62 528)),(some (s x62 536)),(some (.builtin Vl)),(some (.bool true))]⟩
def acF:Obj:=F (y Xq) #[r 315,r 315,r 315]
def acE:Obj:=F (y l7) #[.builtin Xp,r 315]
def T12(P:Params):BT:=(I (I (I (I (I (I (I (I (I (I (I (I (I (I (I (I (I (I (I (I (I (I (I (I (I (I (I (I (I (I (I (I (I (I (I (I (T11 P) 3 (agZ P)) 12 ajz) 141 ajq) 285 gI) 286 fT) 287 (acK P)) 288 af) 289 acJ) 290 acI) 291 acH) 292 af) 293 aq) 294 R6) 295 af) 296 R5) 297 R4) 298 R3) 299 af) 300 aq) 301 R1) 302 af) 303 R0) 304 RZ) 305 RY) 306 af) 307 aq) 308 RX) 309 af) 310 RW) 311 RV) 312 RU) 313 af) 314 (RT P)) 315 RS) 316 acF) 317 acE)
def S12(P:Params)(os:OsState):SharedT:=⟨T12 P,318,lf, #[],⟨0,0,0,0⟩,566,os⟩
def agY(P:Params):Obj:=ud (agZ P) [(0,e P x3 165 (s MH 598))] [e P x67 597 (r 341),e P x68 601 (.int 16 600),e P x69 609 (r 350),e P x70 621 (r 357),e P x71 631 (r 364)] 34
def ajy:Obj:=F v #[.int 1 0,z,r 20,.int 5 0,z,r 27,.int 7 0,z,r 40,.int 9 0,z,r 52,.int 11 0,z,r 64,.int 13 0,z,r 76,.int 18 0,z,r 90,.int 23 0,z,r 97,.int 26 0,z,r 104,.int 29 0,z,r 109,.int 32 0,z,r 116,.int 42 0,z,r 151,.int 46 0,z,r 170,.int 60 0,z,r 210,.int 76 0,z,r 250,.int 90 0,z,r 290,.int 100 0,z,r 323,.int 110 0,z,r 349,.int 118 0,z,r 356,.int 125 0,z,r 363]
def TX:Obj:=⟨y l6,none,(.cls ⟨uS,[y v9],[r 141,y v9],140,uS,true,[],[r 162,r 202,r 242,r 282,r 315,r 341],false,none,false⟩), #[none,none,(some (s uS 320)),(some (s uS 328)),(some (.builtin Vl)),(some (.bool true))]⟩
def acC(P:Params):Obj:=⟨y l8,none,(.dict #[e P x8 573 (s pP 294),e P x9 575 (s x67 574),e P z6 577 (.int 100 576),e P MI 585 (r 331),e P J0 592 (r 338),e P z5 594 (r 339)] 6), #[]⟩
def acB:Obj:=F v #[.int 102 0,.int 4 0,r 330,.int 106 0,.int 4 0,r 337]
def acA:Obj:=F (y l1) #[s x67 568,s x67 569,s x1 570,.int 100 0,z,z,z,z,r 321,.bool false,.int 181 0,r 322,v,v,v,v,.int 571 0,.int 100 0,s x1 572]
def acz:Obj:=⟨y l2,none,.plain, #[(some (r 323)),(some (r 3)),(some (r 320)),none,(some (s pP 294)),none,(some (r 0))]⟩
def RQ:Obj:=Q (y l0) #[s yT 581,s x72 582]
def RP:Obj:=⟨v,none,(fo (g2 23 0) x73 0 [] v v v v none v v 0), #[]⟩
def RO:Obj:=F (y l1) #[s MI 578,s x73 579,s x1 580,.int 102 0,.int 2 0,z,z,.int 3 0,r 325,.bool true,.int 181 0,r 326,v,r 327,r 328,r 329,.int 583 0,.int 102 0,s x1 584]
def RN:Obj:=⟨y l3,none,(fo (g2 23 0) x73 3 [] v v v (s pP 294) none (r 330) v 0), #[]⟩
def RM:Obj:=Q (y l0) #[s yT 589]
def RL:Obj:=⟨v,none,(fo (g2 23 1) x74 0 [] v v v v none v v 0), #[]⟩
def RK:Obj:=F (y l1) #[s J0 586,s x74 587,s x1 588,.int 106 0,.int 1 0,z,z,.int 3 0,r 332,.bool true,.int 181 0,r 333,v,r 334,r 335,r 336,.int 590 0,.int 106 0,s x1 591]
def RJ:Obj:=⟨y l3,none,(fo (g2 23 1) x74 3 [] v v v (s pP 294) none (r 337) v 0), #[]⟩
def RH:Obj:=Q (y l0) #[s x72 593]
def RG(P:Params):Obj:=⟨y l8,none,(.dict #[e P x8 573 (s pP 294),e P z6 577 (.int 100 576),e P MI 585 (r 331),e P J0 592 (r 338),e P z5 594 (r 339),e P VP 595 v] 2), #[]⟩
def RE:Obj:=⟨y l6,none,(.cls ⟨x67,[r 141],[r 341,r 141,y v9],340,x67,true,[],[],false,none,false⟩), #[(some (r 318)),none,(some (s x67 566)),(some (s x67 574)),(some (.builtin Vl)),(some (.bool true))]⟩
def acw:Obj:=F (y Xq) #[r 341,r 341,r 341]
def acv:Obj:=F (y l7) #[.builtin Xp,r 341]
def RD:Obj:=Q (y l0) #[s x75 605,s x76 606]
def RC:Obj:=⟨v,none,(fo (g1 26) x69 0 [] v v v v none v v 0), #[]⟩
def RB:Obj:=F (y l1) #[s x69 602,s x69 603,s x1 604,.int 110 0,.int 1 0,z,z,.int 3 0,r 344,.bool true,.int 181 0,r 345,v,r 346,r 347,r 348,.int 607 0,.int 110 0,s x1 608]
def RA:Obj:=⟨y l3,none,(fo (g1 26) x69 3 [] v v v (s MH 598) none (r 349) v 0), #[]⟩
def Rz:Obj:=Q (y l0) #[s x75 613,s x77 614,s x78 615,s x76 616,s x79 617,s x80 618]
def Ry:Obj:=⟨v,none,(fo (g1 27) x70 0 [] v v v v none v v 0), #[]⟩
def Rx:Obj:=F (y l1) #[s x70 610,s x70 611,s x1 612,.int 118 0,.int 1 0,z,z,.int 3 0,r 351,.bool true,.int 181 0,r 352,v,r 353,r 354,r 355,.int 619 0,.int 118 0,s x1 620]
def Rv:Obj:=⟨y l3,none,(fo (g1 27) x70 3 [] v v v (s MH 598) none (r 356) v 0), #[]⟩
def Ru:Obj:=Q (y l0) #[s x75 625,s x81 626,s x72 627,s x77 628]
def Rt:Obj:=⟨v,none,(fo (g1 28) x71 0 [] v v v v none v v 0), #[]⟩
def Rq:Obj:=F (y l1) #[s x71 622,s x71 623,s x1 624,.int 125 0,.int 1 0,z,z,.int 3 0,r 358,.bool true,.int 181 0,r 359,v,r 360,r 361,r 362,.int 629 0,.int 125 0,s x1 630]
def Rp:Obj:=⟨y l3,none,(fo (g1 28) x71 3 [] v v v (s MH 598) none (r 363) v 0), #[]⟩
def T13(P:Params):BT:=(I (I (I (I (I (I (I (I (I (I (I (I (I (I (I (I (I (I (I (I (I (I (I (I (I (I (I (I (I (I (I (I (I (I (I (I (I (I (I (I (I (I (I (I (I (I (I (I (I (I (T12 P) 3 (agY P)) 12 ajy) 141 TX) 318 gI) 319 fT) 320 (acC P)) 321 af) 322 acB) 323 acA) 324 acz) 325 af) 326 aq) 327 RQ) 328 af) 329 RP) 330 RO) 331 RN) 332 af) 333 aq) 334 RM) 335 af) 336 RL) 337 RK) 338 RJ) 339 RH) 340 (RG P)) 341 RE) 342 acw) 343 acv) 344 af) 345 aq) 346 RD) 347 af) 348 RC) 349 RB) 350 RA) 351 af) 352 aq) 353 Rz) 354 af) 355 Ry) 356 Rx) 357 Rv) 358 af) 359 aq) 360 Ru) 361 af) 362 Rt) 363 Rq) 364 Rp)
def S13(P:Params)(os:OsState):SharedT:=⟨T13 P,365,lf, #[],⟨0,0,0,0⟩,632,os⟩
def agX(P:Params):Obj:=ud (agY P) [] [e P x82 715 (r 426)] 35
def ajx:Obj:=F v #[.int 1 0,z,r 20,.int 5 0,z,r 27,.int 7 0,z,r 40,.int 9 0,z,r 52,.int 11 0,z,r 64,.int 13 0,z,r 76,.int 18 0,z,r 90,.int 23 0,z,r 97,.int 26 0,z,r 104,.int 29 0,z,r 109,.int 32 0,z,r 116,.int 42 0,z,r 151,.int 46 0,z,r 170,.int 60 0,z,r 210,.int 76 0,z,r 250,.int 90 0,z,r 290,.int 100 0,z,r 323,.int 110 0,z,r 349,.int 118 0,z,r 356,.int 125 0,z,r 363,.int 133 0,z,r 370]
def acu(P:Params):Obj:=⟨y l8,none,(.dict #[e P x8 639 (s MH 598),e P x9 641 (s x82 640),e P z6 643 (.int 133 642),e P MI 649 (r 376),e P x83 656 (r 383),e P x84 663 (r 390),e P x85 672 (r 397),e P x86 681 (r 404),e P x80 690 (r 411),e P x87 699 (r 418),e P x88 705 (r 423),e P z5 708 (r 424)] 12), #[]⟩
def acs:Obj:=F v #[.int 135 0,.int 4 0,r 375,.int 140 0,.int 4 0,r 382,.int 143 0,.int 4 0,r 389,.int 146 0,.int 4 0,r 396,.int 149 0,.int 4 0,r 403,.int 153 0,.int 4 0,r 410,.int 157 0,.int 4 0,r 417,.int 160 0,.int 4 0,r 422]
def acr:Obj:=F (y l1) #[s x82 634,s x82 635,s x1 636,.int 133 0,z,z,z,z,r 368,.bool false,.int 181 0,r 369,v,v,v,v,.int 637 0,.int 133 0,s x1 638]
def acq:Obj:=⟨y l2,none,.plain, #[(some (r 370)),(some (r 3)),(some (r 367)),none,(some (s MH 598)),none,(some (r 0))]⟩
def Ro:Obj:=⟨v,none,(fo (g2 29 0) x89 0 [] v v v v none v v 0), #[]⟩
def Rn:Obj:=F (y l1) #[s MI 644,s x89 645,s x1 646,.int 135 0,.int 2 0,z,z,.int 3 0,r 372,.bool true,.int 181 0,r 373,v,v,v,r 374,.int 647 0,.int 135 0,s x1 648]
def Rm:Obj:=⟨y l3,none,(fo (g2 29 0) x89 3 [] v v v (s MH 598) none (r 375) v 0), #[]⟩
def Rk:Obj:=Q (y l0) #[s yT 653]
def Rj:Obj:=⟨v,none,(fo (g2 29 1) x90 0 [] v v v v none v v 0), #[]⟩
def Ri:Obj:=F (y l1) #[s x83 650,s x90 651,s x1 652,.int 140 0,.int 1 0,z,z,.int 3 0,r 377,.bool true,.int 181 0,r 378,v,r 379,r 380,r 381,.int 654 0,.int 140 0,s x1 655]
def Rh:Obj:=⟨y l3,none,(fo (g2 29 1) x90 3 [] v v v (s MH 598) none (r 382) v 0), #[]⟩
def Rf:Obj:=Q (y l0) #[s yT 660]
def Rc:Obj:=⟨v,none,(fo (g2 29 2) x91 0 [] v v v v none v v 0), #[]⟩
def Rb:Obj:=F (y l1) #[s x84 657,s x91 658,s x1 659,.int 143 0,.int 1 0,z,z,.int 3 0,r 384,.bool true,.int 181 0,r 385,v,r 386,r 387,r 388,.int 661 0,.int 143 0,s x1 662]
def Ra:Obj:=⟨y l3,none,(fo (g2 29 2) x91 3 [] v v v (s MH 598) none (r 389) v 0), #[]⟩
def Q9:Obj:=Q (y l0) #[s yT 667,s x79 668,s x78 669]
def Q8:Obj:=⟨v,none,(fo (g2 29 3) x92 0 [] v v v v none v v 0), #[]⟩
def Q7:Obj:=F (y l1) #[s x85 664,s x92 665,s x1 666,.int 146 0,.int 3 0,z,z,.int 3 0,r 391,.bool true,.int 181 0,r 392,v,r 393,r 394,r 395,.int 670 0,.int 146 0,s x1 671]
def Q6:Obj:=⟨y l3,none,(fo (g2 29 3) x92 3 [] v v v (s MH 598) none (r 396) v 0), #[]⟩
def Q5:Obj:=Q (y l0) #[s yT 676,s x79 677,s x78 678]
def Q4:Obj:=⟨v,none,(fo (g2 29 4) x93 0 [] v v v v none v v 0), #[]⟩
def Q3:Obj:=F (y l1) #[s x86 673,s x93 674,s x1 675,.int 149 0,.int 3 0,z,z,.int 3 0,r 398,.bool true,.int 181 0,r 399,v,r 400,r 401,r 402,.int 679 0,.int 149 0,s x1 680]
def Q2:Obj:=⟨y l3,none,(fo (g2 29 4) x93 3 [] v v v (s MH 598) none (r 403) v 0), #[]⟩
def Q0:Obj:=Q (y l0) #[s yT 685,s x79 686,s x78 687]
def QZ:Obj:=⟨v,none,(fo (g2 29 5) x94 0 [] v v v v none v v 0), #[]⟩
def QY:Obj:=F (y l1) #[s x80 682,s x94 683,s x1 684,.int 153 0,.int 3 0,z,z,.int 3 0,r 405,.bool true,.int 181 0,r 406,v,r 407,r 408,r 409,.int 688 0,.int 153 0,s x1 689]
def QX:Obj:=⟨y l3,none,(fo (g2 29 5) x94 3 [] v v v (s MH 598) none (r 410) v 0), #[]⟩
def QW:Obj:=Q (y l0) #[s yT 694,s x79 695,s x78 696]
def QV:Obj:=⟨v,none,(fo (g2 29 6) x95 0 [] v v v v none v v 0), #[]⟩
def QU:Obj:=F (y l1) #[s x87 691,s x95 692,s x1 693,.int 157 0,.int 3 0,z,z,.int 3 0,r 412,.bool true,.int 181 0,r 413,v,r 414,r 415,r 416,.int 697 0,.int 157 0,s x1 698]
def QT:Obj:=⟨y l3,none,(fo (g2 29 6) x95 3 [] v v v (s MH 598) none (r 417) v 0), #[]⟩
def QS:Obj:=⟨v,none,(fo (g2 29 7) x96 0 [] v v v v none v v 0), #[]⟩
def QO:Obj:=F (y l1) #[s x88 700,s x96 701,s x1 702,.int 160 0,.int 1 0,z,z,.int 3 0,r 419,.bool true,.int 181 0,r 420,v,v,v,r 421,.int 703 0,.int 160 0,s x1 704]
def QN:Obj:=⟨y l3,none,(fo (g2 29 7) x96 3 [] v v v (s MH 598) none (r 422) v 0), #[]⟩
def QM:Obj:=Q (y l0) #[s x81 706,s x75 707]
def QL(P:Params):Obj:=⟨y l8,none,(.dict #[e P x8 639 (s MH 598),e P z6 643 (.int 133 642),e P MI 649 (r 376),e P x83 656 (r 383),e P x84 663 (r 390),e P x85 672 (r 397),e P x86 681 (r 404),e P x80 690 (r 411),e P x87 699 (r 418),e P x88 705 (r 423),e P z5 708 (r 424),e P x42 710 (r 427),e P x12 712 (r 428),e P VP 713 v] 4), #[]⟩
def QK:Obj:=⟨y l6,none,(.cls ⟨x82,[y v9],[r 426,y v9],425,x82,true,[],[],false,none,false⟩), #[none,none,(some (s x82 632)),(some (s x82 640)),(some (.builtin Vl)),(some (.bool true))]⟩
def QJ:Obj:=F (y l14) #[s x42 709,r 426,.builtin l18,.builtin l19]
def QI:Obj:=F (y l14) #[s x12 711,r 426,.builtin l13,v]
def aco:Obj:=F (y Xq) #[r 426,r 426,r 426]
def acn:Obj:=F (y l7) #[.builtin Xp,r 426]
def T14(P:Params):BT:=(I (I (I (I (I (I (I (I (I (I (I (I (I (I (I (I (I (I (I (I (I (I (I (I (I (I (I (I (I (I (I (I (I (I (I (I (I (I (I (I (I (I (I (I (I (I (I (I (I (I (I (I (I (I (I (I (I (I (I (I (I (I (I (I (I (I (I (I (T13 P) 3 (agX P)) 12 ajx) 365 af) 366 fT) 367 (acu P)) 368 af) 369 acs) 370 acr) 371 acq) 372 af) 373 aq) 374 Ro) 375 Rn) 376 Rm) 377 af) 378 aq) 379 Rk) 380 af) 381 Rj) 382 Ri) 383 Rh) 384 af) 385 aq) 386 Rf) 387 af) 388 Rc) 389 Rb) 390 Ra) 391 af) 392 aq) 393 Q9) 394 af) 395 Q8) 396 Q7) 397 Q6) 398 af) 399 aq) 400 Q5) 401 af) 402 Q4) 403 Q3) 404 Q2) 405 af) 406 aq) 407 Q0) 408 af) 409 QZ) 410 QY) 411 QX) 412 af) 413 aq) 414 QW) 415 af) 416 QV) 417 QU) 418 QT) 419 af) 420 aq) 421 QS) 422 QO) 423 QN) 424 QM) 425 (QL P)) 426 QK) 427 QJ) 428 QI) 429 aco) 430 acn)
def S14(P:Params)(os:OsState):SharedT:=⟨T14 P,431,lf, #[],⟨0,0,0,0⟩,716,os⟩
def agW(P:Params):Obj:=ud (agX P) [(0,e P x3 165 (s JZ 724))] [e P x98 723 (r 435),e P x99 733 (r 442),e P V1 743 (r 449),e P V0 751 (r 456),e P VZ 761 (r 463),e P VY 769 (r 470),e P VX 775 (r 475),e P VW 781 (r 480),e P VV 787 (r 485),e P VU 794 (r 492),e P VT 800 (r 497),e P VS 813 (r 504),e P VR 821 (r 511)] 48
def ajw:Obj:=F v #[.int 1 0,z,r 20,.int 5 0,z,r 27,.int 7 0,z,r 40,.int 9 0,z,r 52,.int 11 0,z,r 64,.int 13 0,z,r 76,.int 18 0,z,r 90,.int 23 0,z,r 97,.int 26 0,z,r 104,.int 29 0,z,r 109,.int 32 0,z,r 116,.int 42 0,z,r 151,.int 46 0,z,r 170,.int 60 0,z,r 210,.int 76 0,z,r 250,.int 90 0,z,r 290,.int 100 0,z,r 323,.int 110 0,z,r 349,.int 118 0,z,r 356,.int 125 0,z,r 363,.int 133 0,z,r 370,.int 166 0,z,r 434,.int 172 0,z,r 441,.int 176 0,z,r 448,.int 178 0,z,r 455,.int 182 0,z,r 462,.int 189 0,z,r 469,.int 202 0,z,r 474,.int 212 0,z,r 479,.int 222 0,z,r 484,.int 227 0,z,r 491,.int 239 0,z,r 496,.int 241 0,z,r 503,.int 249 0,z,r 510]
def QH:Obj:=⟨v,none,(fo (g1 31) x98 0 [] v v v v none v v 0), #[]⟩
def QG:Obj:=F (y l1) #[s x98 718,s x98 719,s x1 720,.int 166 0,.int 4 0,z,z,.int 3 0,r 431,.bool true,.int 181 0,r 432,v,v,v,r 433,.int 721 0,.int 166 0,s x1 722]
def QF:Obj:=⟨y l3,none,(fo (g1 31) x98 3 [] v v v (s aoT 716) none (r 434) v 0), #[]⟩
def QE:Obj:=Q (y l0) #[s akA 729,s aoS 730]
def QD:Obj:=⟨v,none,(fo (g1 33) x99 0 [] v v v v none v v 0), #[]⟩
def QC:Obj:=F (y l1) #[s x99 726,s x99 727,s x1 728,.int 172 0,.int 2 0,z,z,.int 3 0,r 436,.bool true,.int 181 0,r 437,v,r 438,r 439,r 440,.int 731 0,.int 172 0,s x1 732]
def QB:Obj:=⟨y l3,none,(fo (g1 33) x99 3 [] v v v (s JZ 724) none (r 441) v 0), #[]⟩
def QA:Obj:=Q (y l0) #[s VQ 737,s akz 738,s aoR 739,s aoQ 740]
def Qz:Obj:=⟨v,none,(fo (g1 34) V1 0 [] v v v v none v v 0), #[]⟩
def Qy:Obj:=F (y l1) #[s V1 734,s V1 735,s x1 736,.int 176 0,.int 4 0,z,z,.int 3 0,r 443,.bool true,.int 181 0,r 444,v,r 445,r 446,r 447,.int 741 0,.int 176 0,s x1 742]
def Qx:Obj:=⟨y l3,none,(fo (g1 34) V1 3 [] v v v (s JZ 724) none (r 448) v 0), #[]⟩
def Qw:Obj:=Q (y l0) #[s adV 747,s aoP 748]
def Qv:Obj:=⟨v,none,(fo (g1 35) V0 0 [] v v v v none v v 0), #[]⟩
def Qu:Obj:=F (y l1) #[s V0 744,s V0 745,s x1 746,.int 178 0,.int 2 0,z,z,.int 3 0,r 450,.bool true,.int 181 0,r 451,v,r 452,r 453,r 454,.int 749 0,.int 178 0,s x1 750]
def Qt:Obj:=⟨y l3,none,(fo (g1 35) V0 3 [] v v v (s JZ 724) none (r 455) v 0), #[]⟩
def Qs:Obj:=Q (y l0) #[s VQ 755,s aoO 756,s aoN 757,s akz 758]
def Qq:Obj:=⟨v,none,(fo (g1 36) VZ 0 [] v v v v none v v 0), #[]⟩
def Qp:Obj:=F (y l1) #[s VZ 752,s VZ 753,s x1 754,.int 182 0,.int 1 0,z,z,.int 3 0,r 457,.bool true,.int 181 0,r 458,v,r 459,r 460,r 461,.int 759 0,.int 182 0,s x1 760]
def Qo:Obj:=⟨y l3,none,(fo (g1 36) VZ 3 [] v v v (s JZ 724) none (r 462) v 0), #[]⟩
def Qn:Obj:=Q (y l0) #[s VQ 765,s aoM 766]
def Qm:Obj:=⟨v,none,(fo (g1 37) VY 0 [] v v v v none v v 0), #[]⟩
def Ql:Obj:=F (y l1) #[s VY 762,s VY 763,s x1 764,.int 189 0,.int 1 0,z,z,.int 3 0,r 464,.bool true,.int 181 0,r 465,v,r 466,r 467,r 468,.int 767 0,.int 189 0,s x1 768]
def Qk:Obj:=⟨y l3,none,(fo (g1 37) VY 3 [] v v v (s JZ 724) none (r 469) v 0), #[]⟩
def Qj:Obj:=⟨v,none,(fo (g1 38) VX 0 [] v v v v none v v 0), #[]⟩
def Qi:Obj:=F (y l1) #[s VX 770,s VX 771,s x1 772,.int 202 0,.int 3 0,z,z,.int 3 0,r 471,.bool true,.int 181 0,r 472,v,v,v,r 473,.int 773 0,.int 202 0,s x1 774]
def Qh:Obj:=⟨y l3,none,(fo (g1 38) VX 3 [] v v v (s JZ 724) none (r 474) v 0), #[]⟩
def Qg:Obj:=⟨v,none,(fo (g1 39) VW 0 [] v v v v none v v 0), #[]⟩
def Qf:Obj:=F (y l1) #[s VW 776,s VW 777,s x1 778,.int 212 0,.int 1 0,z,z,.int 3 0,r 476,.bool true,.int 181 0,r 477,v,v,v,r 478,.int 779 0,.int 212 0,s x1 780]
def Qe:Obj:=⟨y l3,none,(fo (g1 39) VW 3 [] v v v (s JZ 724) none (r 479) v 0), #[]⟩
def Qd:Obj:=⟨v,none,(fo (g1 40) VV 0 [] v v v v none v v 0), #[]⟩
def Qc:Obj:=F (y l1) #[s VV 782,s VV 783,s x1 784,.int 222 0,.int 4 0,z,z,.int 3 0,r 481,.bool true,.int 181 0,r 482,v,v,v,r 483,.int 785 0,.int 222 0,s x1 786]
def Qa:Obj:=⟨y l3,none,(fo (g1 40) VV 3 [] v v v (s JZ 724) none (r 484) v 0), #[]⟩
def P9:Obj:=Q (y l0) #[s aky 791]
def P8:Obj:=⟨v,none,(fo (g1 41) VU 0 [] v v v v none v v 0), #[]⟩
def P7:Obj:=F (y l1) #[s VU 788,s VU 789,s x1 790,.int 227 0,.int 1 0,z,z,.int 3 0,r 486,.bool true,.int 181 0,r 487,v,r 488,r 489,r 490,.int 792 0,.int 227 0,s x1 793]
def P6:Obj:=⟨y l3,none,(fo (g1 41) VU 3 [] v v v (s JZ 724) none (r 491) v 0), #[]⟩
def P5:Obj:=⟨v,none,(fo (g1 42) VT 0 [] v v v v none v v 0), #[]⟩
def P4:Obj:=F (y l1) #[s VT 795,s VT 796,s x1 797,.int 239 0,.int 1 0,z,z,.int 3 0,r 493,.bool true,.int 181 0,r 494,v,v,v,r 495,.int 798 0,.int 239 0,s x1 799]
def P1:Obj:=⟨y l3,none,(fo (g1 42) VT 3 [] v v v (s JZ 724) none (r 496) v 0), #[]⟩
def P0:Obj:=Q (y l0) #[s aha 804,s adU 805,s adT 806,s VQ 807,s akx 808,s ag9 809,s aoL 810]
def PZ:Obj:=⟨v,none,(fo (g1 43) VS 0 [] v v v v none v v 0), #[]⟩
def PY:Obj:=F (y l1) #[s VS 801,s VS 802,s x1 803,.int 241 0,.int 4 0,z,z,.int 3 0,r 498,.bool true,.int 181 0,r 499,v,r 500,r 501,r 502,.int 811 0,.int 241 0,s x1 812]
def PX:Obj:=⟨y l3,none,(fo (g1 43) VS 3 [] v v v (s JZ 724) none (r 503) v 0), #[]⟩
def PV:Obj:=Q (y l0) #[s ag9 817,s aoK 818]
def PU:Obj:=⟨v,none,(fo (g1 44) VR 0 [] v v v v none v v 0), #[]⟩
def PN:Obj:=F (y l1) #[s VR 814,s VR 815,s x1 816,.int 249 0,.int 2 0,z,z,.int 3 0,r 505,.bool true,.int 181 0,r 506,v,r 507,r 508,r 509,.int 819 0,.int 249 0,s x1 820]
def PK:Obj:=⟨y l3,none,(fo (g1 44) VR 3 [] v v v (s JZ 724) none (r 510) v 0), #[]⟩
def T15(P:Params):BT:=(I (I (I (I (I (I (I (I (I (I (I (I (I (I (I (I (I (I (I (I (I (I (I (I (I (I (I (I (I (I (I (I (I (I (I (I (I (I (I (I (I (I (I (I (I (I (I (I (I (I (I (I (I (I (I (I (I (I (I (I (I (I (I (I (I (I (I (I (I (I (I (I (I (I (I (I (I (I (I (I (I (I (I (T14 P) 3 (agW P)) 12 ajw) 431 af) 432 aq) 433 QH) 434 QG) 435 QF) 436 af) 437 aq) 438 QE) 439 af) 440 QD) 441 QC) 442 QB) 443 af) 444 aq) 445 QA) 446 af) 447 Qz) 448 Qy) 449 Qx) 450 af) 451 aq) 452 Qw) 453 af) 454 Qv) 455 Qu) 456 Qt) 457 af) 458 aq) 459 Qs) 460 af) 461 Qq) 462 Qp) 463 Qo) 464 af) 465 aq) 466 Qn) 467 af) 468 Qm) 469 Ql) 470 Qk) 471 af) 472 aq) 473 Qj) 474 Qi) 475 Qh) 476 af) 477 aq) 478 Qg) 479 Qf) 480 Qe) 481 af) 482 aq) 483 Qd) 484 Qc) 485 Qa) 486 af) 487 aq) 488 P9) 489 af) 490 P8) 491 P7) 492 P6) 493 af) 494 aq) 495 P5) 496 P4) 497 P1) 498 af) 499 aq) 500 P0) 501 af) 502 PZ) 503 PY) 504 PX) 505 af) 506 aq) 507 PV) 508 af) 509 PU) 510 PN) 511 PK)
def S15(P:Params)(os:OsState):SharedT:=⟨T15 P,512,lf, #[],⟨0,0,0,0⟩,822,os⟩
def acp(P:Params):Obj:=ud (agW P) [] [e P VO 832 (r 518),e P VN 838 (r 523),e P VM 848 (r 530),e P VL 863 (r 537),e P YG 878 (r 544)] 53
def Ug:Obj:=F v #[.int 1 0,z,r 20,.int 5 0,z,r 27,.int 7 0,z,r 40,.int 9 0,z,r 52,.int 11 0,z,r 64,.int 13 0,z,r 76,.int 18 0,z,r 90,.int 23 0,z,r 97,.int 26 0,z,r 104,.int 29 0,z,r 109,.int 32 0,z,r 116,.int 42 0,z,r 151,.int 46 0,z,r 170,.int 60 0,z,r 210,.int 76 0,z,r 250,.int 90 0,z,r 290,.int 100 0,z,r 323,.int 110 0,z,r 349,.int 118 0,z,r 356,.int 125 0,z,r 363,.int 133 0,z,r 370,.int 166 0,z,r 434,.int 172 0,z,r 441,.int 176 0,z,r 448,.int 178 0,z,r 455,.int 182 0,z,r 462,.int 189 0,z,r 469,.int 202 0,z,r 474,.int 212 0,z,r 479,.int 222 0,z,r 484,.int 227 0,z,r 491,.int 239 0,z,r 496,.int 241 0,z,r 503,.int 249 0,z,r 510,.int 253 0,z,r 517,.int 256 0,z,r 522,.int 265 0,z,r 529,.int 272 0,z,r 536,.int 278 0,z,r 543]
def PJ:Obj:=Q (y l0) #[s adS 825,s adU 826,s adT 827,s adV 828,s aoJ 829]
def PF:Obj:=⟨v,none,(fo (g1 45) VO 0 [] v v v v none v v 0), #[]⟩
def PC:Obj:=F (y l1) #[s VO 822,s VO 823,s x1 824,.int 253 0,.int 4 0,z,z,.int 3 0,r 512,.bool true,.int 181 0,r 513,v,r 514,r 515,r 516,.int 830 0,.int 253 0,s x1 831]
def PB:Obj:=⟨y l3,none,(fo (g1 45) VO 3 [] v v v (s JZ 724) none (r 517) v 0), #[]⟩
def Pz:Obj:=⟨v,none,(fo (g1 46) VN 0 [] v v v v none v v 0), #[]⟩
def Py:Obj:=F (y l1) #[s VN 833,s VN 834,s x1 835,.int 256 0,.int 5 0,z,z,.int 3 0,r 519,.bool true,.int 181 0,r 520,v,v,v,r 521,.int 836 0,.int 256 0,s x1 837]
def Px:Obj:=⟨y l3,none,(fo (g1 46) VN 3 [] v v v (s JZ 724) none (r 522) v 0), #[]⟩
def Pw:Obj:=Q (y l0) #[s adS 842,s aoI 843,s aky 844,s adV 845]
def Pu:Obj:=⟨v,none,(fo (g1 47) VM 0 [] v v v v none v v 0), #[]⟩
def Pr:Obj:=F (y l1) #[s VM 839,s VM 840,s x1 841,.int 265 0,.int 1 0,z,z,.int 3 0,r 524,.bool true,.int 181 0,r 525,v,r 526,r 527,r 528,.int 846 0,.int 265 0,s x1 847]
def Pq:Obj:=⟨y l3,none,(fo (g1 47) VM 3 [] v v v (s JZ 724) none (r 529) v 0), #[]⟩
def Pp:Obj:=Q (y l0) #[s aha 852,s adS 853,s VQ 854,s aoH 855,s aoG 856,s adU 857,s adT 858,s akx 859,s ag9 860]
def Po:Obj:=⟨v,none,(fo (g1 48) VL 0 [] v v v v none v v 0), #[]⟩
def Pk:Obj:=F (y l1) #[s VL 849,s VL 850,s x1 851,.int 272 0,.int 3 0,z,z,.int 3 0,r 531,.bool true,.int 181 0,r 532,v,r 533,r 534,r 535,.int 861 0,.int 272 0,s x1 862]
def Pj:Obj:=⟨y l3,none,(fo (g1 48) VL 3 [] v v v (s JZ 724) none (r 536) v 0), #[]⟩
def Ph:Obj:=Q (y l0) #[s akA 867,s aoF 868,s aoE 869,s adS 870,s aha 871,s VQ 872,s adU 873,s adT 874,s adV 875]
def Pg:Obj:=⟨v,none,(fo (g1 49) YG 0 [] v v v v none v v 0), #[]⟩
def Pf:Obj:=F (y l1) #[s YG 864,s YG 865,s x1 866,.int 278 0,.int 1 0,z,z,.int 3 0,r 538,.bool true,.int 181 0,r 539,v,r 540,r 541,r 542,.int 876 0,.int 278 0,s x1 877]
def Pe:Obj:=⟨y l3,none,(fo (g1 49) YG 3 [] v v v (s JZ 724) none (r 543) v 0), #[]⟩
def T16(P:Params):BT:=(I (I (I (I (I (I (I (I (I (I (I (I (I (I (I (I (I (I (I (I (I (I (I (I (I (I (I (I (I (I (I (I (I (I (I (T15 P) 3 (acp P)) 12 Ug) 512 af) 513 aq) 514 PJ) 515 af) 516 PF) 517 PC) 518 PB) 519 af) 520 aq) 521 Pz) 522 Py) 523 Px) 524 af) 525 aq) 526 Pw) 527 af) 528 Pu) 529 Pr) 530 Pq) 531 af) 532 aq) 533 Pp) 534 af) 535 Po) 536 Pk) 537 Pj) 538 af) 539 aq) 540 Ph) 541 af) 542 Pg) 543 Pf) 544 Pe)
def S16(P:Params)(os:OsState):SharedT:=⟨T16 P,545,lf, #[],⟨0,0,0,0⟩,879,os⟩
def HF(P:Params):Heap:=⟨⟨[boot_o_0 P,boot_o_1 P,boot_o_2 P,acp P,boot_o_4 P,boot_o_5 P,boot_o_6 P,boot_o_7 P,boot_o_8 P,boot_o_9 P,boot_o_10 P,af,Ug,adj,adf,af,aq,ac3,af,ac2,acX,acU,acT,fT,ag5 P,af,aq,ag4,ag3,af,acG P,acD,acy,ag2,ag1,sA,fT,ag0 P,af,aq,agV,agU,af,acm P,ack,agT,agS,sA,fT,agR P,af,aq,agQ,agP,af,acj P,aci,agO,agN,sA,fT,agM P,af,aq,agL,agK,af,ach P,acg,agJ,agI,sA,fT,agH P,af,aq,agG,agF,af,acf P,ace,agE,agD,acd,ab9,af,aq,ab8,af,ab7,ab6,ab5,af,aq,ab4,af,ab3,ab2,ab1,af,aq,Uu,af,Ut,Us,Ur,af,aq,Uq,Up,Uo,af,fT,adn P,af,adm,adl,adk,af,aq,Um,af,Ul,Uk,Uj,af,aq,Ui,af,Uh,Ue,Ud,af,aq,Uc,af,Ub,Ua,TZ,af,TY P,TX,TV,TU,adi,adh,gI,fT,adg P,af,ade,adb,ada,af,aq,TR,af,TQ,TN,TM,af,TL P,TJ,ac9,ac8,gI,fT,ac7 P,af,ac6,ac5,ac4,af,aq,TH,af,TF,Tz,Tw,af,aq,Tv,af,Tu,Tt,Tr,af,aq,Tq,af,Tp,To,Tn,af,aq,Tj,af,Ti,Th,Te,Td,Tc P,SY,ac1,ac0,gI,fT,acZ P,af,acY,acW,acV,af,aq,SX,af,SW,SV,SS,af,aq,SR,af,SQ,SO,SN,af,aq,SM,af,SK,SJ,SI,af,aq,SH,af,SG,SE,SD,SA,Sz P,Sy,acS,acR,gI,fT,acQ P,af,acP,acO,acN,af,aq,Sx,af,Sw,Sv,Ss,af,aq,Sq,af,So,Sn,Sl,af,aq,Sk,af,Sj,Si,Sf,af,aq,Se,af,Sd,Sb,Sa,R9,R8 P,R7,acM,acL,gI,fT,acK P,af,acJ,acI,acH,af,aq,R6,af,R5,R4,R3,af,aq,R1,af,R0,RZ,RY,af,aq,RX,af,RW,RV,RU,af,RT P,RS,acF,acE,gI,fT,acC P,af,acB,acA,acz,af,aq,RQ,af,RP,RO,RN,af,aq,RM,af,RL,RK,RJ,RH,RG P,RE,acw,acv,af,aq,RD,af,RC,RB,RA,af,aq,Rz,af,Ry,Rx,Rv,af,aq,Ru,af,Rt,Rq,Rp,af,fT,acu P,af,acs,acr,acq,af,aq,Ro,Rn,Rm,af,aq,Rk,af,Rj,Ri,Rh,af,aq,Rf,af,Rc,Rb,Ra,af,aq,Q9,af,Q8,Q7,Q6,af,aq,Q5,af,Q4,Q3,Q2,af,aq,Q0,af,QZ,QY,QX,af,aq,QW,af,QV,QU,QT,af,aq,QS,QO,QN,QM,QL P,QK,QJ,QI,aco,acn,af,aq,QH,QG,QF,af,aq,QE,af,QD,QC,QB,af,aq,QA,af,Qz,Qy,Qx,af,aq,Qw,af,Qv,Qu,Qt,af,aq,Qs,af,Qq,Qp,Qo,af,aq,Qn,af,Qm,Ql,Qk,af,aq,Qj,Qi,Qh,af,aq,Qg,Qf,Qe,af,aq,Qd,Qc,Qa,af,aq,P9,af,P8,P7,P6,af,aq,P5,P4,P1,af,aq,P0,af,PZ,PY,PX,af,aq,PV,af,PU,PN,PK,af,aq,PJ,af,PF,PC,PB,af,aq,Pz,Py,Px,af,aq,Pw,af,Pu,Pr,Pq,af,aq,Pp,af,Po,Pk,Pj,af,aq,Ph,af,Pg,Pf,Pe]⟩,lf⟩
def KF(P:Params):Frag:=(nat_lit 0,(boot_o_0 P))::(nat_lit 1,(boot_o_1 P))::(nat_lit 2,(boot_o_2 P))::(nat_lit 3,(acp P))::(nat_lit 4,(boot_o_4 P))::(nat_lit 5,(boot_o_5 P))::(nat_lit 6,(boot_o_6 P))::(nat_lit 7,(boot_o_7 P))::(nat_lit 8,(boot_o_8 P))::(nat_lit 9,(boot_o_9 P))::(nat_lit 10,(boot_o_10 P))::(nat_lit 11,af)::(nat_lit 12,Ug)::(nat_lit 13,adj)::(nat_lit 14,adf)::(nat_lit 15,af)::(nat_lit 16,aq)::(nat_lit 17,ac3)::(nat_lit 18,af)::(nat_lit 19,ac2)::(nat_lit 20,acX)::(nat_lit 21,acU)::(nat_lit 22,acT)::(nat_lit 29,af)::(nat_lit 30,(acG P))::(nat_lit 31,acD)::(nat_lit 32,acy)::(nat_lit 35,sA)::(nat_lit 42,af)::(nat_lit 43,(acm P))::(nat_lit 44,ack)::(nat_lit 47,sA)::(nat_lit 54,af)::(nat_lit 55,(acj P))::(nat_lit 56,aci)::(nat_lit 59,sA)::(nat_lit 66,af)::(nat_lit 67,(ach P))::(nat_lit 68,acg)::(nat_lit 71,sA)::(nat_lit 78,af)::(nat_lit 79,(acf P))::(nat_lit 80,ace)::(nat_lit 83,acd)::(nat_lit 84,ab9)::(nat_lit 85,af)::(nat_lit 86,aq)::(nat_lit 87,ab8)::(nat_lit 88,af)::(nat_lit 89,ab7)::(nat_lit 90,ab6)::(nat_lit 91,ab5)::(nat_lit 92,af)::(nat_lit 93,aq)::(nat_lit 94,ab4)::(nat_lit 95,af)::(nat_lit 96,ab3)::(nat_lit 97,ab2)::(nat_lit 98,ab1)::(nat_lit 99,af)::(nat_lit 100,aq)::(nat_lit 101,Uu)::(nat_lit 102,af)::(nat_lit 103,Ut)::(nat_lit 104,Us)::(nat_lit 105,Ur)::(nat_lit 106,af)::(nat_lit 107,aq)::(nat_lit 108,Uq)::(nat_lit 109,Up)::(nat_lit 110,Uo)::(nat_lit 118,af)::(nat_lit 119,aq)::(nat_lit 120,Um)::(nat_lit 121,af)::(nat_lit 122,Ul)::(nat_lit 123,Uk)::(nat_lit 124,Uj)::(nat_lit 125,af)::(nat_lit 126,aq)::(nat_lit 127,Ui)::(nat_lit 128,af)::(nat_lit 129,Uh)::(nat_lit 130,Ue)::(nat_lit 131,Ud)::(nat_lit 132,af)::(nat_lit 133,aq)::(nat_lit 134,Uc)::(nat_lit 135,af)::(nat_lit 136,Ub)::(nat_lit 137,Ua)::(nat_lit 138,TZ)::(nat_lit 139,af)::(nat_lit 140,(TY P))::(nat_lit 141,TX)::(nat_lit 142,TV)::(nat_lit 143,TU)::(nat_lit 146,gI)::(nat_lit 153,af)::(nat_lit 154,aq)::(nat_lit 155,TR)::(nat_lit 156,af)::(nat_lit 157,TQ)::(nat_lit 158,TN)::(nat_lit 159,TM)::(nat_lit 160,af)::(nat_lit 161,(TL P))::(nat_lit 162,TJ)::(nat_lit 165,gI)::(nat_lit 172,af)::(nat_lit 173,aq)::(nat_lit 174,TH)::(nat_lit 175,af)::(nat_lit 176,TF)::(nat_lit 177,Tz)::(nat_lit 178,Tw)::(nat_lit 179,af)::(nat_lit 180,aq)::(nat_lit 181,Tv)::(nat_lit 182,af)::(nat_lit 183,Tu)::(nat_lit 184,Tt)::(nat_lit 185,Tr)::(nat_lit 186,af)::(nat_lit 187,aq)::(nat_lit 188,Tq)::(nat_lit 189,af)::(nat_lit 190,Tp)::(nat_lit 191,To)::(nat_lit 192,Tn)::(nat_lit 193,af)::(nat_lit 194,aq)::(nat_lit 195,Tj)::(nat_lit 196,af)::(nat_lit 197,Ti)::(nat_lit 198,Th)::(nat_lit 199,Te)::(nat_lit 200,Td)::(nat_lit 201,(Tc P))::(nat_lit 202,SY)::(nat_lit 205,gI)::(nat_lit 212,af)::(nat_lit 213,aq)::(nat_lit 214,SX)::(nat_lit 215,af)::(nat_lit 216,SW)::(nat_lit 217,SV)::(nat_lit 218,SS)::(nat_lit 219,af)::(nat_lit 220,aq)::(nat_lit 221,SR)::(nat_lit 222,af)::(nat_lit 223,SQ)::(nat_lit 224,SO)::(nat_lit 225,SN)::(nat_lit 226,af)::(nat_lit 227,aq)::(nat_lit 228,SM)::(nat_lit 229,af)::(nat_lit 230,SK)::(nat_lit 231,SJ)::(nat_lit 232,SI)::(nat_lit 233,af)::(nat_lit 234,aq)::(nat_lit 235,SH)::(nat_lit 236,af)::(nat_lit 237,SG)::(nat_lit 238,SE)::(nat_lit 239,SD)::(nat_lit 240,SA)::(nat_lit 241,(Sz P))::(nat_lit 242,Sy)::(nat_lit 245,gI)::(nat_lit 252,af)::(nat_lit 253,aq)::(nat_lit 254,Sx)::(nat_lit 255,af)::(nat_lit 256,Sw)::(nat_lit 257,Sv)::(nat_lit 258,Ss)::(nat_lit 259,af)::(nat_lit 260,aq)::(nat_lit 261,Sq)::(nat_lit 262,af)::(nat_lit 263,So)::(nat_lit 264,Sn)::(nat_lit 265,Sl)::(nat_lit 266,af)::(nat_lit 267,aq)::(nat_lit 268,Sk)::(nat_lit 269,af)::(nat_lit 270,Sj)::(nat_lit 271,Si)::(nat_lit 272,Sf)::(nat_lit 273,af)::(nat_lit 274,aq)::(nat_lit 275,Se)::(nat_lit 276,af)::(nat_lit 277,Sd)::(nat_lit 278,Sb)::(nat_lit 279,Sa)::(nat_lit 280,R9)::(nat_lit 281,(R8 P))::(nat_lit 282,R7)::(nat_lit 285,gI)::(nat_lit 292,af)::(nat_lit 293,aq)::(nat_lit 294,R6)::(nat_lit 295,af)::(nat_lit 296,R5)::(nat_lit 297,R4)::(nat_lit 298,R3)::(nat_lit 299,af)::(nat_lit 300,aq)::(nat_lit 301,R1)::(nat_lit 302,af)::(nat_lit 303,R0)::(nat_lit 304,RZ)::(nat_lit 305,RY)::(nat_lit 306,af)::(nat_lit 307,aq)::(nat_lit 308,RX)::(nat_lit 309,af)::(nat_lit 310,RW)::(nat_lit 311,RV)::(nat_lit 312,RU)::(nat_lit 313,af)::(nat_lit 314,(RT P))::(nat_lit 315,RS)::(nat_lit 318,gI)::(nat_lit 325,af)::(nat_lit 326,aq)::(nat_lit 327,RQ)::(nat_lit 328,af)::(nat_lit 329,RP)::(nat_lit 330,RO)::(nat_lit 331,RN)::(nat_lit 332,af)::(nat_lit 333,aq)::(nat_lit 334,RM)::(nat_lit 335,af)::(nat_lit 336,RL)::(nat_lit 337,RK)::(nat_lit 338,RJ)::(nat_lit 339,RH)::(nat_lit 340,(RG P))::(nat_lit 341,RE)::(nat_lit 344,af)::(nat_lit 345,aq)::(nat_lit 346,RD)::(nat_lit 347,af)::(nat_lit 348,RC)::(nat_lit 349,RB)::(nat_lit 350,RA)::(nat_lit 351,af)::(nat_lit 352,aq)::(nat_lit 353,Rz)::(nat_lit 354,af)::(nat_lit 355,Ry)::(nat_lit 356,Rx)::(nat_lit 357,Rv)::(nat_lit 358,af)::(nat_lit 359,aq)::(nat_lit 360,Ru)::(nat_lit 361,af)::(nat_lit 362,Rt)::(nat_lit 363,Rq)::(nat_lit 364,Rp)::(nat_lit 372,af)::(nat_lit 373,aq)::(nat_lit 374,Ro)::(nat_lit 375,Rn)::(nat_lit 376,Rm)::(nat_lit 377,af)::(nat_lit 378,aq)::(nat_lit 379,Rk)::(nat_lit 380,af)::(nat_lit 381,Rj)::(nat_lit 382,Ri)::(nat_lit 383,Rh)::(nat_lit 384,af)::(nat_lit 385,aq)::(nat_lit 386,Rf)::(nat_lit 387,af)::(nat_lit 388,Rc)::(nat_lit 389,Rb)::(nat_lit 390,Ra)::(nat_lit 391,af)::(nat_lit 392,aq)::(nat_lit 393,Q9)::(nat_lit 394,af)::(nat_lit 395,Q8)::(nat_lit 396,Q7)::(nat_lit 397,Q6)::(nat_lit 398,af)::(nat_lit 399,aq)::(nat_lit 400,Q5)::(nat_lit 401,af)::(nat_lit 402,Q4)::(nat_lit 403,Q3)::(nat_lit 404,Q2)::(nat_lit 405,af)::(nat_lit 406,aq)::(nat_lit 407,Q0)::(nat_lit 408,af)::(nat_lit 409,QZ)::(nat_lit 410,QY)::(nat_lit 411,QX)::(nat_lit 412,af)::(nat_lit 413,aq)::(nat_lit 414,QW)::(nat_lit 415,af)::(nat_lit 416,QV)::(nat_lit 417,QU)::(nat_lit 418,QT)::(nat_lit 419,af)::(nat_lit 420,aq)::(nat_lit 421,QS)::(nat_lit 422,QO)::(nat_lit 423,QN)::(nat_lit 424,QM)::(nat_lit 425,(QL P))::(nat_lit 426,QK)::(nat_lit 427,QJ)::(nat_lit 428,QI)::(nat_lit 431,af)::(nat_lit 432,aq)::(nat_lit 433,QH)::(nat_lit 434,QG)::(nat_lit 435,QF)::(nat_lit 436,af)::(nat_lit 437,aq)::(nat_lit 438,QE)::(nat_lit 439,af)::(nat_lit 440,QD)::(nat_lit 441,QC)::(nat_lit 442,QB)::(nat_lit 443,af)::(nat_lit 444,aq)::(nat_lit 445,QA)::(nat_lit 446,af)::(nat_lit 447,Qz)::(nat_lit 448,Qy)::(nat_lit 449,Qx)::(nat_lit 450,af)::(nat_lit 451,aq)::(nat_lit 452,Qw)::(nat_lit 453,af)::(nat_lit 454,Qv)::(nat_lit 455,Qu)::(nat_lit 456,Qt)::(nat_lit 457,af)::(nat_lit 458,aq)::(nat_lit 459,Qs)::(nat_lit 460,af)::(nat_lit 461,Qq)::(nat_lit 462,Qp)::(nat_lit 463,Qo)::(nat_lit 464,af)::(nat_lit 465,aq)::(nat_lit 466,Qn)::(nat_lit 467,af)::(nat_lit 468,Qm)::(nat_lit 469,Ql)::(nat_lit 470,Qk)::(nat_lit 471,af)::(nat_lit 472,aq)::(nat_lit 473,Qj)::(nat_lit 474,Qi)::(nat_lit 475,Qh)::(nat_lit 476,af)::(nat_lit 477,aq)::(nat_lit 478,Qg)::(nat_lit 479,Qf)::(nat_lit 480,Qe)::(nat_lit 481,af)::(nat_lit 482,aq)::(nat_lit 483,Qd)::(nat_lit 484,Qc)::(nat_lit 485,Qa)::(nat_lit 486,af)::(nat_lit 487,aq)::(nat_lit 488,P9)::(nat_lit 489,af)::(nat_lit 490,P8)::(nat_lit 491,P7)::(nat_lit 492,P6)::(nat_lit 493,af)::(nat_lit 494,aq)::(nat_lit 495,P5)::(nat_lit 496,P4)::(nat_lit 497,P1)::(nat_lit 498,af)::(nat_lit 499,aq)::(nat_lit 500,P0)::(nat_lit 501,af)::(nat_lit 502,PZ)::(nat_lit 503,PY)::(nat_lit 504,PX)::(nat_lit 505,af)::(nat_lit 506,aq)::(nat_lit 507,PV)::(nat_lit 508,af)::(nat_lit 509,PU)::(nat_lit 510,PN)::(nat_lit 511,PK)::(nat_lit 512,af)::(nat_lit 513,aq)::(nat_lit 514,PJ)::(nat_lit 515,af)::(nat_lit 516,PF)::(nat_lit 517,PC)::(nat_lit 518,PB)::(nat_lit 519,af)::(nat_lit 520,aq)::(nat_lit 521,Pz)::(nat_lit 522,Py)::(nat_lit 523,Px)::(nat_lit 524,af)::(nat_lit 525,aq)::(nat_lit 526,Pw)::(nat_lit 527,af)::(nat_lit 528,Pu)::(nat_lit 529,Pr)::(nat_lit 530,Pq)::(nat_lit 531,af)::(nat_lit 532,aq)::(nat_lit 533,Pp)::(nat_lit 534,af)::(nat_lit 535,Po)::(nat_lit 536,Pk)::(nat_lit 537,Pj)::(nat_lit 538,af)::(nat_lit 539,aq)::(nat_lit 540,Ph)::(nat_lit 541,af)::(nat_lit 542,Pg)::(nat_lit 543,Pf)::(nat_lit 544,Pe)::[]
noncomputable def AF:List Nat:=[0,1,2,3,4,5,6,7,8,9,10,11,12,13,14,15,16,17,18,19,20,21,22,29,30,31,32,35,42,43,44,47,54,55,56,59,66,67,68,71,78,79,80,83,84,85,86,87,88,89,90,91,92,93,94,95,96,97,98,99,100,101,102,103,104,105,106,107,108,109,110,118,119,120,121,122,123,124,125,126,127,128,129,130,131,132,133,134,135,136,137,138,139,140,141,142,143,146,153,154,155,156,157,158,159,160,161,162,165,172,173,174,175,176,177,178,179,180,181,182,183,184,185,186,187,188,189,190,191,192,193,194,195,196,197,198,199,200,201,202,205,212,213,214,215,216,217,218,219,220,221,222,223,224,225,226,227,228,229,230,231,232,233,234,235,236,237,238,239,240,241,242,245,252,253,254,255,256,257,258,259,260,261,262,263,264,265,266,267,268,269,270,271,272,273,274,275,276,277,278,279,280,281,282,285,292,293,294,295,296,297,298,299,300,301,302,303,304,305,306,307,308,309,310,311,312,313,314,315,318,325,326,327,328,329,330,331,332,333,334,335,336,337,338,339,340,341,344,345,346,347,348,349,350,351,352,353,354,355,356,357,358,359,360,361,362,363,364,372,373,374,375,376,377,378,379,380,381,382,383,384,385,386,387,388,389,390,391,392,393,394,395,396,397,398,399,400,401,402,403,404,405,406,407,408,409,410,411,412,413,414,415,416,417,418,419,420,421,422,423,424,425,426,427,428,431,432,433,434,435,436,437,438,439,440,441,442,443,444,445,446,447,448,449,450,451,452,453,454,455,456,457,458,459,460,461,462,463,464,465,466,467,468,469,470,471,472,473,474,475,476,477,478,479,480,481,482,483,484,485,486,487,488,489,490,491,492,493,494,495,496,497,498,499,500,501,502,503,504,505,506,507,508,509,510,511,512,513,514,515,516,517,518,519,520,521,522,523,524,525,526,527,528,529,530,531,532,533,534,535,536,537,538,539,540,541,542,543,544]
def LZ:List Str:=[x5,x6,x14,x15,x16,x18,x19,x20,x21,x22,x24,x25,x26,x27,uS,x43,x46,x52,x57,x62,x67,x68,x69,x70,x71,x82,x98,x99,V1,V0,VZ,VY,VX,VW,VV,VU,VT,VS,VR,VO,VN,VM,VL]
def ev:Env:={scope:=pq.main.scope,locals:=mainNs,globals:=mainNs,cells:=[],code:=(.ref 13),frame:=some 14}
noncomputable abbrev cE:Code:= .body bE ev
noncomputable abbrev Bq:List Frame:=[topFrame ⟨0,0,0,0⟩]
def sl(i n:Nat):List Stmt:=(bE.drop i).take n
noncomputable abbrev an:Option Value:=(some (.ref 6))
def lg{w:World}{n:Nat}{s s':SharedT}{t:Thread}{f:Flow}{c:Code}{q:Pos}(h:W.Fast.tw10110043849684766642 W.Fast.tw14364793385576792824 pq w 11 an 1 n s t=some (f,s',c,q)):segRun treeTable pq w 11 an 1 n s.abs t=some (f,s'.abs,c,q):=segRun_of (by rw[W.Fast.te10110043849684766642,W.Fast.te14364793385576792824];exact h)
def lt{w:World}{n:Nat}{s:Shared}{t:Thread}{r:Option Shared}(h:W.Fast.tw14082659384304107361 W.Fast.tw14364793385576792824 pq w 11 an n s t=r):topRun treeTable pq w 11 an n s t=r:=by rw[W.Fast.te14082659384304107361,W.Fast.te14364793385576792824];exact h
def lp{w:World}{n:Nat}{s s':Shared}{p:Pos}(h:W.Fast.tw15667345088766844465 W.Fast.tw14364793385576792824 pq w 11 an n s (W.topStub pq)=some (s',⟨W.Fast.tw11892475500146522536 W.Fast.tw14364793385576792824 cE,cE,p,Bq⟩)):topGo treeTable pq w 11 an n s (topStub pq)=some (s',⟨denote treeTable cE,cE,p,Bq⟩):=by rw[W.Fast.te15667345088766844465,W.Fast.te11892475500146522536,W.Fast.te14364793385576792824];exact h
def pre(w:World)(os:OsState):topGo treeTable pq w 11 an 12 ⟨boot_heap w.params,Array.mk [],boot_drawn,boot_toks,os⟩ (topStub pq)=some ((S0 w.params os).abs,⟨denote treeTable cE,cE,⟨0,0,0,0⟩,Bq⟩):=lp (by kernel_rfl)
def sD(w:World)(os:OsState):segRun treeTable pq w 11 an 1 1 (S0 w.params os).abs (blockOf bE ev cE ⟨0,0,0,0⟩ Bq)=some (.next,(S1 w.params os).abs,cE,⟨0,0,0,0⟩):=lg (by kernel_rfl)
def g_1(w:World)(os:OsState):segRun treeTable pq w 11 an 1 225 (S1 w.params os).abs (piecesOf (sl 0 3) ev cE ⟨0,0,0,0⟩ Bq)=some (.next,(S2 w.params os).abs,cE,⟨5,0,6,8⟩):=lg (by kernel_rfl)
def g_2(w:World)(os:OsState):segRun treeTable pq w 11 an 1 214 (S2 w.params os).abs (piecesOf (sl 3 1) ev cE ⟨5,0,6,8⟩ Bq)=some (.next,(S3 w.params os).abs,cE,⟨7,0,8,8⟩):=lg (by kernel_rfl)
def g_3(w:World)(os:OsState):segRun treeTable pq w 11 an 1 214 (S3 w.params os).abs (piecesOf (sl 4 1) ev cE ⟨7,0,8,8⟩ Bq)=some (.next,(S4 w.params os).abs,cE,⟨9,0,10,8⟩):=lg (by kernel_rfl)
def g_4(w:World)(os:OsState):segRun treeTable pq w 11 an 1 214 (S4 w.params os).abs (piecesOf (sl 5 1) ev cE ⟨9,0,10,8⟩ Bq)=some (.next,(S5 w.params os).abs,cE,⟨11,0,12,8⟩):=lg (by kernel_rfl)
def g_5(w:World)(os:OsState):segRun treeTable pq w 11 an 1 388 (S5 w.params os).abs (piecesOf (sl 6 11) ev cE ⟨11,0,12,8⟩ Bq)=some (.next,(S6 w.params os).abs,cE,⟨29,0,31,67⟩):=lg (by kernel_rfl)
def g_6(w:World)(os:OsState):segRun treeTable pq w 11 an 1 284 (S6 w.params os).abs (piecesOf (sl 17 1) ev cE ⟨29,0,31,67⟩ Bq)=some (.next,(S7 w.params os).abs,cE,⟨32,0,41,16⟩):=lg (by kernel_rfl)
def g_7(w:World)(os:OsState):segRun treeTable pq w 11 an 1 244 (S7 w.params os).abs (piecesOf (sl 18 1) ev cE ⟨32,0,41,16⟩ Bq)=some (.next,(S8 w.params os).abs,cE,⟨42,0,45,25⟩):=lg (by kernel_rfl)
def g_8(w:World)(os:OsState):segRun treeTable pq w 11 an 1 340 (S8 w.params os).abs (piecesOf (sl 19 1) ev cE ⟨42,0,45,25⟩ Bq)=some (.next,(S9 w.params os).abs,cE,⟨46,0,59,16⟩):=lg (by kernel_rfl)
def g_9(w:World)(os:OsState):segRun treeTable pq w 11 an 1 342 (S9 w.params os).abs (piecesOf (sl 20 1) ev cE ⟨46,0,59,16⟩ Bq)=some (.next,(S10 w.params os).abs,cE,⟨60,0,75,16⟩):=lg (by kernel_rfl)
def aqh(w:World)(os:OsState):segRun treeTable pq w 11 an 1 340 (S10 w.params os).abs (piecesOf (sl 21 1) ev cE ⟨60,0,75,16⟩ Bq)=some (.next,(S11 w.params os).abs,cE,⟨76,0,89,16⟩):=lg (by kernel_rfl)
def aqg(w:World)(os:OsState):segRun treeTable pq w 11 an 1 307 (S11 w.params os).abs (piecesOf (sl 22 1) ev cE ⟨76,0,89,16⟩ Bq)=some (.next,(S12 w.params os).abs,cE,⟨90,0,99,17⟩):=lg (by kernel_rfl)
def aqf(w:World)(os:OsState):segRun treeTable pq w 11 an 1 391 (S12 w.params os).abs (piecesOf (sl 23 6) ev cE ⟨90,0,99,17⟩ Bq)=some (.next,(S13 w.params os).abs,cE,⟨125,0,132,15⟩):=lg (by kernel_rfl)
def aqe(w:World)(os:OsState):segRun treeTable pq w 11 an 1 442 (S13 w.params os).abs (piecesOf (sl 29 1) ev cE ⟨125,0,132,15⟩ Bq)=some (.next,(S14 w.params os).abs,cE,⟨133,0,164,19⟩):=lg (by kernel_rfl)
def aqd(w:World)(os:OsState):segRun treeTable pq w 11 an 1 397 (S14 w.params os).abs (piecesOf (sl 30 15) ev cE ⟨133,0,164,19⟩ Bq)=some (.next,(S15 w.params os).abs,cE,⟨249,0,252,101⟩):=lg (by kernel_rfl)
def aqc(w:World)(os:OsState):segRun treeTable pq w 11 an 1 166 (S15 w.params os).abs (piecesOf (sl 45 5) ev cE ⟨249,0,252,101⟩ Bq)=some (.next,(S16 w.params os).abs,cE,⟨278,0,293,51⟩):=lg (by kernel_rfl)
def fin(w:World)(os:OsState):topRun treeTable pq w 11 an 2 (S16 w.params os).abs ⟨doneF .next,cE,⟨278,0,293,51⟩,Bq⟩=some ⟨HF w.params, #[],⟨0,0,0,0⟩,879,os⟩:=lt (by kernel_rfl)
def amw:bE=sl 0 3++(sl 3 1++(sl 4 1++(sl 5 1++(sl 6 11++(sl 17 1++(sl 18 1++(sl 19 1++(sl 20 1++(sl 21 1++(sl 22 1++(sl 23 6++(sl 29 1++(sl 30 15++(sl 45 5++[])))))))))))))):=by kernel_rfl
def rest(w:World)(os:OsState):topRun treeTable pq w 11 an (225+(214+(214+(214+(388+(284+(244+(340+(342+(340+(307+(391+(442+(397+(166+(2)))))))))))))))) (S1 w.params os).abs (restOf bE ev cE ⟨0,0,0,0⟩ Bq)=some ⟨HF w.params, #[],⟨0,0,0,0⟩,879,os⟩:=(congrArg (λ l=>topRun treeTable pq w 11 an (225+(214+(214+(214+(388+(284+(244+(340+(342+(340+(307+(391+(442+(397+(166+(2)))))))))))))))) (S1 w.params os).abs (restOf l ev cE ⟨0,0,0,0⟩ Bq)) amw).trans (piece_app (g_1 w os) (piece_app (g_2 w os) (piece_app (g_3 w os) (piece_app (g_4 w os) (piece_app (g_5 w os) (piece_app (g_6 w os) (piece_app (g_7 w os) (piece_app (g_8 w os) (piece_app (g_9 w os) (piece_app (aqh w os) (piece_app (aqg w os) (piece_app (aqf w os) (piece_app (aqe w os) (piece_app (aqd w os) (piece_app (aqc w os) (piece_nil (fin w os)))))))))))))))))
def run(w:World)(os:OsState):topRun treeTable pq w 11 an (12+(1+(225+(214+(214+(214+(388+(284+(244+(340+(342+(340+(307+(391+(442+(397+(166+(2)))))))))))))))))) ⟨boot_heap w.params,Array.mk [],boot_drawn,boot_toks,os⟩ (topStub pq)=some ⟨HF w.params, #[],⟨0,0,0,0⟩,879,os⟩:=go_top (pre w os) (piece_block (sD w os) (rest w os))
noncomputable abbrev qv:Program:=view pq [49]
def lk1(w:World)(os:OsState):(staticsOk (importedModules pq.main.body) (boot_heap w.params) (HF w.params)&&namesBound pq (HF w.params)&&gensDone (Shared.mk (HF w.params) #[] ⟨0,0,0,0⟩ 879 os)&&laidKept (boot_heap w.params) (HF w.params))=true:=by kernel_rfl
def lk2(w:World)(os:OsState):openSeen qv LZ (importedModules pq.main.body) (λ _=>true) true (Shared.mk (HF w.params) #[] ⟨0,0,0,0⟩ 879 os)=openGood qv LZ:=by rw[W.Fast.te4187177175401517315];kernel_rfl
def lk3(w:World)(os:OsState):X.obsZ AF (Shared.mk (HF w.params) #[] ⟨0,0,0,0⟩ 879 os)=X.valZ KF 545 879 w:=by kernel_rfl
def hl1:LeftO pq qv LZ (λ _=>true) (X.obsZ AF) (X.valZ KF 545 879) 9112:=LeftO.of_pieces (boot_open (by kernel_rfl) (by kernel_rfl) (λ s=>by kernel_rfl)) (m₀:=11) (ann:=an) (λ w=>by kernel_rfl) run (by kernel_rfl) (λ w=>funext λ os=>looks_pair (lk1 w os) (looks_pair (lk2 w os) (lk3 w os)))
def hl:LeftO PySem.Challenge.pw_beamtable_k38_with_cell (view PySem.Challenge.pw_beamtable_k38_with_cell [49]) LZ (λ _=>true) (X.obsZ AF) (X.valZ KF 545 879) 9112:=by rw[W.Fast.te11965744960526693245];exact hl1
end KO
end
section
namespace L2
open PySem PySem.Spec PyProof.Rows
noncomputable abbrev Key:=Sum Int Str
def Ag:Key->Value->Bool
 | .inl k,v=>Value.isInt k v
 | .inr x,v=>Value.isStrOf x v
def apR(w:World):Key->Int
 | .inl k=>hashInt k
 | .inr x=>hashStr w x
def dj:∀{k:Key} {v:Value},Ag k v=true->(∃i t,k=Sum.inl i/\v=Value.int i t)\/(∃x t,k=Sum.inr x/\v=Value.str x t)
 | .inl i,v,h=>by obtain ⟨t,e⟩:=Value.isInt_shape (k:=i) (v:=v) h;exact .inl ⟨i,t,rfl,e⟩
 | .inr x,v,h=>by obtain ⟨t,e⟩:=Value.isStrOf_shape (x:=x) (v:=v) h;exact .inr ⟨x,t,rfl,e⟩
def Xv(i:Int)(t:Tok):Ag (.inl i) (.int i t)=true:=by simp[Ag,Value.isInt]
def Xu(x:Str)(t:Tok):Ag (.inr x) (.str x t)=true:=by simp[Ag,Value.isStrOf]
def aiB(a b:Int):decide ((Sum.inl a:Key)=Sum.inl b)=(a==b):=by
 by_cases e:a=b
 ·subst e;simp
 ·have h:¬(Sum.inl a:Key)=Sum.inl b:=λ q=>e (Sum.inl.inj q);rw[decide_eq_false h];exact (beq_eq_false_iff_ne.mpr e).symm
def aiy(a b:Str):decide ((Sum.inr a:Key)=Sum.inr b)=decide (a=b):=by
 by_cases e:a=b
 ·subst e;simp
 ·have h:¬(Sum.inr a:Key)=Sum.inr b:=λ q=>e (Sum.inr.inj q);rw[decide_eq_false h,decide_eq_false e]
def aiA(a:Int)(b:Str):decide ((Sum.inl a:Key)=Sum.inr b)=false:=decide_eq_false (λ q=>nomatch q)
def aiz(a:Str)(b:Int):decide ((Sum.inr a:Key)=Sum.inl b)=false:=decide_eq_false (λ q=>nomatch q)
def fG(prog:Program)(w:World):PySem.KeyKind prog w Key where
 is:=Ag
 hash:=apR w
 inj:=λ v a b ha hb=>by
  rcases dj ha with ⟨i,t,rfl,rfl⟩|⟨x,t,rfl,rfl⟩
  ·rcases dj hb with ⟨j,u,rfl,e⟩|⟨y,u,rfl,e⟩
   ·injection e with e1 _;rw[e1]
   ·exact nomatch e
  ·rcases dj hb with ⟨j,u,rfl,e⟩|⟨y,u,rfl,e⟩
   ·exact nomatch e
   ·injection e with e1 _;rw[e1]
 byValue:=λ k v h=>by
  rcases dj h with ⟨i,t,rfl,rfl⟩|⟨x,t,rfl,rfl⟩<;>rfl
 pyHash:=λ hv h=>by
  rcases dj hv with ⟨i,t,rfl,rfl⟩|⟨x,t,rfl,rfl⟩
  ·exact wpAny_pyHash_int h
  ·exact wpAny_pyHash_str h
 eqBool:=λ hu hv h=>by
  rcases dj hu with ⟨i,t,rfl,rfl⟩|⟨x,t,rfl,rfl⟩
  ·rcases dj hv with ⟨j,u,rfl,rfl⟩|⟨y,u,rfl,rfl⟩
   ·rw[aiB] at h;exact wpAny_eqBool_int h
   ·rw[aiA] at h;exact SeqAt.EqAt.int_str i t y u _ _ _ _ h
  ·rcases dj hv with ⟨j,u,rfl,rfl⟩|⟨y,u,rfl,rfl⟩
   ·rw[aiz] at h;exact SeqAt.EqAt.str_int x t j u _ _ _ _ h
   ·rw[aiy] at h;exact wpAny_eqBool_str h
 «strs»:=λ k x t v h=>by
  rcases dj h with ⟨i,u,rfl,e⟩|⟨y,u,rfl,e⟩
  ·exact nomatch e
  ·injection e with e1 _
   subst e1
   cases v<;>rfl
def ais(prog:Program)(w:World)(k:Key)(v:Value):(fG prog w).is k v=Ag k v:=rfl
def Lc(prog:Program)(w:World)(i:Int)(t:Tok):(fG prog w).is (.inl i) (.int i t)=true:=Xv i t
def Lb(prog:Program)(w:World)(x:Str)(t:Tok):(fG prog w).is (.inr x) (.str x t)=true:=Xu x t
inductive V where
 |cY|bl (b:Bool)|int (i:Int)|str (x:Str)|byt (b:Array UInt8)|flt (b:UInt64)|ref (a:Addr)|ty (n:String)
 deriving DecidableEq
noncomputable def RelV:V->Value->Prop
 | .cY,u=>u=Value.none
 | .bl b,u=>u=Value.bool b
 | .int i,u=>∃t,u=Value.int i t
 | .str x,u=>∃t,u=Value.str x t
 | .byt b,u=>∃t,u=Value.bytes b t
 | .flt b,u=>∃t,u=Value.float b t
 | .ref a,u=>u=Value.ref a
 | .ty n,u=>u=Value.type n
abbrev Vals:List V->List Value->Prop:=Paired RelV
def Vals.length{xs:List V}{us:List Value}(r:Vals xs us):xs.length=us.length:=Paired.length r
def Vals.get:∀{xs:List V} {us:List Value} {i:Nat} {x:V},Vals xs us->xs[i]? =some x->∃u,us[i]? =some u/\RelV x u
 |_,_,_,_,.nil,e=>by simp at e
 |_,_,0,_,.cons r _,e=>by simp at e;subst e;exact ⟨_,rfl,r⟩
 |_,_,i+1,x,.cons _ t,e=>by obtain ⟨u,h1,h2⟩:=Vals.get (i:=i) (x:=x) t (by simpa using e);exact ⟨u,by simpa using h1,h2⟩
def Vals.set{x:V}{u:Value}(r:RelV x u):∀{xs:List V} {us:List Value} (i:Nat),Vals xs us->Vals (xs.set i x) (us.set i u)
 |_,_,_,.nil=> .nil
 |_,_,0,.cons _ t=> .cons r t
 |_,_,i+1,.cons q t=> .cons q (Vals.set r i t)
def Vals.append:∀{xs ys:List V} {us ws:List Value},Vals xs us->Vals ys ws->Vals (xs++ys) (us++ws)
 |_,_,_,_,.nil,s=>s
 |_,_,_,_,.cons r t,s=> .cons r (Vals.append t s)
def Vals.take:∀{xs:List V} {us:List Value} (n:Nat),Vals xs us->Vals (xs.take n) (us.take n)
 |_,_,0,_=> .nil
 |_,_,_+1,.nil=> .nil
 |_,_,n+1,.cons r t=> .cons r (Vals.take n t)
def Vals.drop:∀{xs:List V} {us:List Value} (n:Nat),Vals xs us->Vals (xs.drop n) (us.drop n)
 |_,_,0,r=>r
 |_,_,_+1,.nil=> .nil
 |_,_,n+1,.cons _ t=>Vals.drop n t
def ur:Option V->Option Value->Prop
 |some v,some u=>RelV v u
 |none,none=>True
 |_,_=>False
def KV{κ:Type}:List (κ×V)->List (κ×Value)->Prop:=Paired λ(p:κ×V) (q:κ×Value)=>p.1=q.1/\RelV p.2 q.2
def kV:Key->V
 | .inl i=> .int i
 | .inr x=> .str x
inductive HO where
 /-- a list -/
 |lst (xs:List V)
 /-- a tuple (never changes) -/
 |tup (xs:List V)
 /-- a dict akB keys are ints and texts;one akB keys are tuples of ints and texts (Mw empty one is both) -/
 |dK (kvs:List (Key×V))|dT (kvs:List (List Key×V))
 /-- a set of ints:its members,its size -/
 |set (S:Int->Bool) (n:Nat)
 /-- an instance of Mw class at C,its dict at dx,its attributes -/
 |ins (C dx:Addr) (fs:List (Str×V))
 /-- Mw dict of Mw instance at x -/
 |own (x:Addr)
 /-- Mw dict of an exception -/
 |xd (fs:List (Str×V))
 /-- a bound method,f of x -/
 |met (f x:Addr)
 /-- a range object lo,lo+1,.. below hi -/
 |rng (lo hi:Int)
 /-- a thing GS is known to Mw object (Mw script;a dict while a loop walks it):read,never written while it is so -/
 |DZ (o:Obj) (u:HO)
 /-- a code alo table -/
 |qH (ps:Array Value)
 /-- any other thing,by what is true of its one object (a def of aq8 own:atj a S n:=HO.ext λ h=> ..) -/
 |ext (φ:Heap->Prop)
noncomputable abbrev Hp:=Addr->Option HO
def upd(H:Hp)(a:Addr)(o:HO):Hp:=λ b=>if b=a then some o else H b
def aG{H:Hp}{a:Addr}{o:HO}:upd H a o a=some o:=by unfold upd;rw[if_pos rfl]
def aF{H:Hp}{a b:Addr}{o:HO}(h:b≠a):upd H a o b=H b:=by unfold upd;rw[if_neg h]
def alC{H:Hp}{a b:Addr}{o u:HO}(h:H a=some o)(h':H b=some u)(d:o≠u):a≠b:=by intro e;subst e;rw[h] at h';exact d (Option.some.inj h')
def gZ{H:Hp}{a b:Addr}{o:HO}(h:H a=some o)(h':H b=none):a≠b:=by intro e;subst e;rw[h] at h';cases h'
section
variable(P:Program)(w:World)
def d8(H:Hp)(h:Heap)(a:Addr):HO->Prop
 | .lst xs=>xs.length<=sizeLine/\∃(its:List Value) (n:Nat),Vals xs its/\h.get? a=some {cls:= .type "list",data:= .seq its.toArray n}
 | .tup xs=>xs.length<=sizeLine/\∃its:List Value,Vals xs its/\IsTup h a its.toArray
 | .dK kvs=>kvs.length<=sizeLine/\(a==sysModules)=false/\∃vs,KV kvs vs/\h.DictOf (fG P w) a vs
 | .dT kvs=>kvs.length<=sizeLine/\(a==sysModules)=false/\∃xs:List (List Key×Addr×Value),Paired (λ(p:List Key×V) (q:List Key×Addr×Value)=>p.1=q.1/\H q.2.1=some (.tup (p.1.map kV))/\RelV p.2 q.2.2) kvs xs/\∃o es ep,h.get? a=some o/\o.ExactDict/\o.data= .dict es ep/\es.toList=xs.map (entryOfKey (tupleKind (fG P w)))/\(xs.map (·.1)).Nodup
 | .set S n=>h.SetOf (intKind P w) a S n
 | .ins C dx fs=>H dx=some (.own a)/\fs.length<=1000/\dx≠a/\h.get? a=some (W.instObj C dx)/\∃mA,h.Ns1 dx mA/\(∀f,ur (fs.lookup f) (mA f))/\PySem.Within mA (fs.map (·.1))
 | .own _=>∃o,h.get? a=some o
 | .xd fs=>∃mA,h.Ns1 a mA/\∀f,ur (fs.lookup f) (mA f)
 | .rng lo hi=>∃t u v,h.get? a=some {cls:= .type "range",data:= .fields #[.int lo t,.int hi u,.int 1 v]}
 | .DZ o u=>h.get? a=some o/\d8 H h a u
 | .qH ps=>h.get? a=some {cls:= .none,data:= .fields ps}
 | .met f x=>h.get? a=some (W.methodObj (.ref f) (.ref x))
 | .ext φ=>φ h/\(∃o,h.get? a=some o)/\∀h1 h2:Heap,φ h1->(∀o,h1.get? a=some o->h2.get? a=some o)->φ h2
def vf(H:Hp)(h:Heap):Prop:=∀a o,H a=some o->d8 P w H h a o
end
section
variable{P:Program}{w:World}{H H':Hp}{h h':Heap}{a:Addr}{o:HO}
def d8.lt(x:d8 P w H h a o):a<h.objs.size:=by
 cases o with
 |lst xs=>obtain ⟨_,_,_,_,e⟩:=x;exact Heap.lt_size e
 |tup xs=>obtain ⟨_,_,_,p⟩:=x;exact p.lt
 |dK kvs=>obtain ⟨_,_,_,_,o,_,_,e,_⟩:=x;exact Heap.lt_size e
 |dT kvs=>obtain ⟨_,_,_,_,o,_,_,e,_⟩:=x;exact Heap.lt_size e
 |set S n=>obtain ⟨o,_,_,_,e,_⟩:=x;exact Heap.lt_size e
 |ins C dx fs=>obtain ⟨_,_,_,e,_⟩:=x;exact Heap.lt_size e
 |own y=>obtain ⟨_,e⟩:=x;exact Heap.lt_size e
 |xd fs=>obtain ⟨_,⟨_,_,_,e,_⟩,_⟩:=x;exact Heap.lt_size e
 |rng lo hi=>obtain ⟨_,_,_,e⟩:=x;exact Heap.lt_size e
 |DZ ob u=>obtain ⟨e,_⟩:=x;exact Heap.lt_size e
 |qH ps=>exact Heap.lt_size (show h.get? a=some _ from x)
 |met f y=>exact Heap.lt_size (show h.get? a=some _ from x)
 |ext φ=>obtain ⟨_,⟨_,e⟩,_⟩:=x;exact Heap.lt_size e
def Paired.afe{α β:Type}{F G:α->β->Prop}:∀{l₁:List α} {l₂:List β},Paired F l₁ l₂->(∀a b,F a b->G a b)->Paired G l₁ l₂
 |_,_,.nil,_=> .nil
 |_,_,.cons r t,f=> .cons (f _ _ r) (Paired.afe t f)
def d8.stay(x:d8 P w H h a o)(k:∀b u,(b=a\/H b=some (.own a))->h.get? b=some u->h'.get? b=some u) (ho:∀b,H b=some (.own a)->H' b=some (.own a)) (ht:∀b xs,H b=some (.tup xs)->H' b=some (.tup xs)):d8 P w H' h' a o:=by
 induction o with
 |lst xs=>obtain ⟨z,its,n,r,e⟩:=x;exact ⟨z,its,n,r,k _ _ (.inl rfl) e⟩
 |tup xs=>obtain ⟨z,its,r,ob,e,c⟩:=x;exact ⟨z,its,r,ob,k _ _ (.inl rfl) e,c⟩
 |dK kvs=>obtain ⟨z,y,vs,r,ob,es,ep,e,c⟩:=x;exact ⟨z,y,vs,r,ob,es,ep,k _ _ (.inl rfl) e,c⟩
 |dT kvs=>obtain ⟨z,y,xs,r,ob,es,ep,e,c⟩:=x;exact ⟨z,y,xs,Paired.afe r λ p q z=>⟨z.1,ht _ _ z.2.1,z.2.2⟩,ob,es,ep,k _ _ (.inl rfl) e,c⟩
 |set S n=>obtain ⟨ob,es,ep,t,e,c⟩:=x;exact ⟨ob,es,ep,t,k _ _ (.inl rfl) e,c⟩
 |ins C dx fs=>obtain ⟨d,z,ne,e,mA,⟨od,es,ep,e2,c⟩,r⟩:=x;exact ⟨ho _ d,z,ne,k _ _ (.inl rfl) e,mA,⟨od,es,ep,k _ _ (.inr d) e2,c⟩,r⟩
 |own y=>obtain ⟨ob,e⟩:=x;exact ⟨ob,k _ _ (.inl rfl) e⟩
 |xd fs=>obtain ⟨mA,⟨od,es,ep,e,c⟩,r⟩:=x;exact ⟨mA,⟨od,es,ep,k _ _ (.inl rfl) e,c⟩,r⟩
 |rng lo hi=>obtain ⟨t,u,v,e⟩:=x;exact ⟨t,u,v,k _ _ (.inl rfl) e⟩
 |DZ ob u ih=>obtain ⟨e,q⟩:=x;exact ⟨k _ _ (.inl rfl) e,ih q⟩
 |qH ps=>have e:h.get? a=some {cls:= .none,data:= .fields ps}:=x;show h'.get? a=some {cls:= .none,data:= .fields ps};exact k a _ (.inl rfl) e
 |met f y=>have e:h.get? a=some (W.methodObj (.ref f) (.ref y)):=x;show h'.get? a=some (W.methodObj (.ref f) (.ref y));exact k a _ (.inl rfl) e
 |ext φ=>obtain ⟨p,⟨o,e⟩,st⟩:=x;exact ⟨st _ _ p λ o q=>k _ _ (.inl rfl) q,⟨o,k _ _ (.inl rfl) e⟩,st⟩
def vf.lt(x:vf P w H h)(e:H a=some o):a<h.objs.size:=(x a o e).lt
def vf.fresh(x:vf P w H h)(e:h.objs.size<=a):H a=none:=by
 cases q:H a with
 |none=>rfl
 |some u=>exact absurd (Nat.lt_of_lt_of_le (x.lt q) e) (Nat.lt_irrefl _)
def vf.kept(x:vf P w H h)(k:∀b u,h.get? b=some u->h'.get? b=some u):vf P w H h':=λ a o e=>(x a o e).stay (λ b u _ q=>k b u q) (λ _ q=>q) λ _ _ q=>q
def vf.laid(x:vf P w H h)(k:∀b u,h.get? b=some u->h'.get? b=some u)(hp:h.objs.size<=a)(new:d8 P w (upd H a o) h' a o):vf P w (upd H a o) h':=λ b u e=>by
 have hn:=x.fresh hp;by_cases hb:b=a
 ·subst hb;rw[aG] at e;cases e;exact new
 ·rw[aF hb] at e;exact (x b u e).stay (λ c v _ q=>k c v q) (λ c q=>by rw[aF (gZ q hn)];exact q) λ c xs q=>by rw[aF (gZ q hn)];exact q
end
def Rd(H:Hp)(a:Addr)(u:HO):Prop:=H a=some u\/∃o,H a=some (.DZ o u)
def Rd.ok{P:Program}{w:World}{H:Hp}{h:Heap}{a:Addr}{u:HO}(r:Rd H a u)(x:vf P w H h):d8 P w H h a u:=by
 rcases r with r|⟨o,r⟩
 ·exact x a u r
 ·obtain ⟨_,q⟩:=x a _ r;exact q
def Mut:Option HO->Prop
 |some (.lst _)=>True
 |some (.dK _)=>True
 |some (.dT _)=>True
 |some (.set _ _)=>True
 |some (.ins _ _ _)=>True
 |some (.ext _)=>True
 |_=>False
section
variable{P:Program}{w:World}{H:Hp}{h h':Heap}{x e:Addr}{o':HO}
def vf.write(ok:vf P w H h)(mu:Mut (H x))(he:e=x\/H e=some (.own x))(k:∀b u,b≠e->h.get? b=some u->h'.get? b=some u)(heo:∃u,h'.get? e=some u) (new:d8 P w (upd H x o') h' x o'):vf P w (upd H x o') h':=λ b u q=>by
 have alu:∀c y,H c=some (.own y)->c≠x:=λ c y r z=>by subst z;rw[r] at mu;exact mu
 have apu:∀c xs,H c=some (.tup xs)->c≠x:=λ c xs r z=>by subst z;rw[r] at mu;exact mu
 by_cases hb:b=x
 ·subst hb;rw[aG] at q;cases q;exact new
 ·rw[aF hb] at q;by_cases hbe:b=e
  ·have q':H b=some (.own x):=by
    rcases he with z|z
    ·exact absurd (hbe.trans z) hb
    ·rw[hbe];exact z
   rw[q] at q';cases q';obtain ⟨v,hv⟩:=heo;exact ⟨v,by rw[hbe];exact hv⟩
  ·refine (ok b u q).stay (λ c v hc r=>k c v ?_ r) (λ c r=>by rw[aF (alu c b r)];exact r) λ c xs r=>by rw[aF (apu c xs r)];exact r
   rcases hc with rfl|hc
   ·exact hbe
   ·rintro rfl
    rcases he with z|z
    ·exact alu c b hc z
    ·rw[hc] at z;cases z;exact hb rfl
end
structure Un(fs ex:List Addr)(H H':Hp)(h h':Heap):Prop where
 keep:∀b o,h.get? b=some o->H b=none->b∉fs->b∉ex->h'.get? b=some o
 slot:∀b o,h.get? b=some o->H b=none->b∈fs->b∉ex->∃sl,h'.get? b=some {o with slots:=sl}
 free:∀b o,h.get? b=some o->H b=none->b∉ex->H' b=none
 there:∀b o,h.get? b=some o->b∉ex->∃o',h'.get? b=some o'
 tups:∀b xs,H b=some (.tup xs)->H' b=some (.tup xs)
 yf:∀b o u,H b=some (.DZ o u)->H' b=some (.DZ o u)
 y9:∀b ps,H b=some (.qH ps)->∃more,H' b=some (.qH (ps++more))
section
variable{fs fs' ex ex':List Addr}{H H1 H2:Hp}{h h1 h2 h':Heap}{a x e:Addr}{o:HO}
def Un.any(u:Un fs ex H H1 h h1){b:Addr}{ob:Obj}(q:h.get? b=some ob)(n:H b=none)(hx:b∉ex):∃sl,h1.get? b=some {ob with slots:=sl}:=by
 by_cases hb:b∈fs
 ·exact u.slot b ob q n hb hx
 ·exact ⟨ob.slots,u.keep b ob q n hb hx⟩
def Un.kept(k:∀b u,h.get? b=some u->h'.get? b=some u):Un fs ex H H h h':=⟨λ b ob q _ _ _=>k b ob q,λ b ob q _ _ _=>⟨ob.slots,k b ob q⟩,λ _ _ _ n _=>n,λ b ob q _=>⟨ob,k b ob q⟩,λ _ _ q=>q,λ _ _ _ q=>q,λ _ ps q=>⟨#[],by rw[q];simp⟩⟩
def Un.refl:Un fs ex H H h h:=Un.kept λ _ _ q=>q
def Un.laid(k:∀b u,h.get? b=some u->h'.get? b=some u)(hp:h.objs.size<=a)(hn:H a=none):Un fs ex H (upd H a o) h h' where
 keep:=λ b u q _ _ _=>k b u q
 slot:=λ b u q _ _ _=>⟨u.slots,k b u q⟩
 free:=λ b u q n _=>by rw[aF (Nat.ne_of_lt (Nat.lt_of_lt_of_le (Heap.lt_size q) hp))];exact n
 there:=λ b u q _=>⟨u,k b u q⟩
 tups:=λ b xs q=>by rw[aF (gZ q hn)];exact q
 yf:=λ b u xs q=>by rw[aF (gZ q hn)];exact q
 y9:=λ b ps q=>⟨#[],by rw[aF (gZ q hn),q];simp⟩
def Un.write(mu:Mut (H x))(he:e=x\/H e=some (.own x))(k:∀b u,b≠e->h.get? b=some u->h'.get? b=some u)(heo:∃u,h'.get? e=some u):Un fs ex H (upd H x o) h h':=by
 have hx:∀b,H b=none->b≠x:=λ b n z=>by subst z;rw[n] at mu;exact mu
 have hb:∀b,H b=none->b≠e:=λ b n z=>by
  subst z;rcases he with r|r
  ·exact hx b n r
  ·rw[n] at r;cases r
 have hm:∀b u,H b=some u->¬Mut (some u)->b≠x:=λ b u q nm z=>by subst z;rw[q] at mu;exact nm mu
 refine ⟨λ b u q n _ _=>k b u (hb b n) q,λ b u q n _ _=>⟨u.slots,k b u (hb b n) q⟩,λ b u q n _=>by rw[aF (hx b n)];exact n,λ b u q _=>?_,λ b xs q=>by rw[aF (hm b _ q λ z=>z)];exact q,λ b u xs q=>by rw[aF (hm b _ q λ z=>z)];exact q,λ b ps q=>⟨#[],by rw[aF (hm b _ q λ z=>z),q];simp⟩⟩;by_cases hbe:b=e
 ·subst hbe;exact heo
 ·exact ⟨u,k b u hbe q⟩
end
def trk(h:Heap)(H:Hp):List Addr:=(List.range h.objs.size).filter λ a=>(H a).isSome
def IT(h:Heap)(H:Hp):Heap:=W.hideAll h (trk h H)
def XS(h:Heap)(H:Hp):(IT h H).objs.size=h.objs.size:=W.hideAll_size _ _
def aa6{h:Heap}{H:Hp}{b:Addr}{o:Obj}(e:h.get? b=some o)(n:H b=none):(IT h H).get? b=some o:=W.hideAll_get _ e λ hm=>by have q:(H b).isSome=true:=(List.mem_filter.mp hm).2;rw[n] at q;simp at q
def aeY{h:Heap}{H:Hp}{b:Addr}{o:Obj}(e:(IT h H).get? b=some o):h.get? b=some o/\H b=none:=by
 have e':h.get? b=some o:=W.of_hideAll (trk h H) e;refine ⟨e',?_⟩;cases q:H b with
 |none=>rfl
 |some x=>have hm:b∈trk h H:=List.mem_filter.mpr ⟨List.mem_range.mpr (Heap.lt_size e'),by simp[q]⟩;have z:(IT h H).get? b=none:=W.hideAll_none (trk h H) hm;rw[z] at e;cases e
noncomputable def afZ(g h:Heap)(L:Addr):List (Addr×Obj):=(List.range h.objs.size).filterMap λ a=>if a=L\/(g.get? a).isSome=true then none else (h.get? a).map λ o=>(a,o)
def rest(g h:Heap)(L d:Addr):List (Addr×Obj):=(afZ g h L).filter λ p=>decide (p.1≠d)
structure Mod(K:W.Frag)(mg:Str->Option Value)(base:Heap):Prop where
 kin:K.In base
 glob:base.Ns mainGlobals mg
 blt:∃mb,base.Ns builtinsNs mb/\∀x:Str,x≠"__name__"->mb x=bootBuiltins x
 nolimit:base.NoLimit
structure Cx where
 prog:Program
 w:World
 K:W.Frag
 mg:Str->Option Value
 base:Heap
 A:Around
 N:List Str
 s₀:Shared
 H₀:Hp
 env:Env
 outer:List Env
 stack:List Env
 ex:List Addr
 fn:Str->Bool
 calm:Bool
 pn:List (Addr×Obj)
 xe:Value->Shared->Prop
noncomputable def frs(l:List Env):List Addr:=l.filterMap (·.frame)
abbrev Cx.fs(X:Cx):List Addr:=frs X.outer
noncomputable def Uv(sc:Scope)(x:Str):Prop:=sc.names.lookup x=some .local\/sc.names.lookup x=some .cell\/sc.names.lookup x=some .free
noncomputable def Loc(sc:Scope)(x:Str):Prop:=sc.names.lookup x=some .local\/sc.names.lookup x=some .cell
noncomputable def Look(env:Env)(h:Heap)(m:Str->Option Value)(x:Str)(u:Value):Prop:=(env.kindOf x=some .local/\m x=some u)\/((env.kindOf x=some .cell\/env.kindOf x=some .free)/\∃c,env.cells.lookup x=some c/\h.IsCell c (some u))
structure Cx.Ok(X:Cx):Prop where
 mod:Mod X.K X.mg X.base
 kind:X.env.scope.kind= .function
 glob:X.env.globals=mainGlobals
 blt:X.env.builtins=builtinsNs
 above:X.s₀.heap.objs.size<=X.env.locals
 inj:∀x y c,X.env.cells.lookup x=some c->X.env.cells.lookup y=some c->x=y
 has:∀x,(X.env.kindOf x=some .cell\/X.env.kindOf x=some .free)->∃c,X.env.cells.lookup x=some c
 cab:∀x c,X.fn x=true->X.env.cells.lookup x=some c->X.s₀.heap.objs.size<=c
 hd:X.calm=true->X.A.handled=none
 frames:X.A.frames=some X.stack
 stk:X.stack=X.outer\/(X.stack=X.env::X.outer/\X.env.frame=some X.env.locals)
 exf:∀b∈X.ex,b≠X.env.locals/\∀x c,X.env.cells.lookup x=some c->c≠b
 bs:∀b o,X.base.get? b=some o->X.s₀.heap.get? b=some o/\X.H₀ b=none
 bsz:X.base.objs.size<=X.s₀.heap.objs.size
 Z9:∀b o,X.base.get? b=some o->b∉X.ex
 abk:∀b∈X.ex,b∉X.fs
 AU:X.s₀.heap.FunFrames X.base X.outer
 frf:∀b∈X.fs,X.H₀ b=none
structure Inv(X:Cx)(pins:List (Addr×Obj))(σ:List (Option V))(H:Hp)(s:Shared):Prop where
 ok:X.Ok
 os:s.os=X.s₀.os
 bare:AllBare s.gens
 base:Un X.fs X.ex X.H₀ H X.s₀.heap s.heap
 loc:∃m,s.heap.Ns X.env.locals m/\∀(i:Nat) (x:Str) (v:V),X.N[i]? =some x->σ[i]? =some (some v)->Uv X.env.scope x->∃u,RelV v u/\Look X.env s.heap m x u
 cell:∀x c,X.env.cells.lookup x=some c->∃v,s.heap.IsCell c v
 free:H X.env.locals=none
 nK:∀x c,X.env.cells.lookup x=some c->H c=none
 pin:∀p∈X.pn++pins,s.heap.get? p.1=some p.2/\H p.1=none/\p.1≠X.env.locals/\p.1∉X.fs/\∀v,p.2.data≠.cell v
 hok:vf X.prog X.w H s.heap
 len:σ.length=X.N.length
section
variable{X:Cx}{pins:List (Addr×Obj)}{σ:List (Option V)}{H H':Hp}{s:Shared}{h':Heap}
def Cx.Ok.apD(ok:X.Ok){b:Addr}{o:Obj}(e:X.base.get? b=some o):b∉X.fs:=λ hb=>by have:=(ok.AU.mem hb).1;rw[e] at this;cases this
def Inv.bs(I:Inv X pins σ H s):∀b o,X.base.get? b=some o->s.heap.get? b=some o/\H b=none:=λ b o e=>⟨I.base.keep b o (I.ok.bs b o e).1 (I.ok.bs b o e).2 (I.ok.apD e) (I.ok.Z9 b o e),I.base.free b o (I.ok.bs b o e).1 (I.ok.bs b o e).2 (I.ok.Z9 b o e)⟩
def Inv.bk(I:Inv X pins σ H s):∀b o,X.base.get? b=some o->s.heap.get? b=some o:=λ b o e=>(I.bs b o e).1
def Inv.mod(I:Inv X pins σ H s):Mod X.K X.mg X.base:=I.ok.mod
def Inv.Bl(I:Inv X pins σ H s):X.K.In s.heap:=I.ok.mod.kin.keeps I.bk
def Inv.lt(I:Inv X pins σ H s):X.env.locals<s.heap.objs.size:=let ⟨_,hn,_⟩:=I.loc;hn.lt
def Inv.sz(I:Inv X pins σ H s):X.s₀.heap.objs.size<=s.heap.objs.size:=Nat.le_trans I.ok.above (Nat.le_of_lt I.lt)
def Inv.apC(I:Inv X pins σ H s){a:Addr}(h:s.heap.objs.size<=a):a∉X.fs:=λ hb=>by obtain ⟨_,o,ho,_⟩:=I.ok.AU.mem hb;exact absurd (Nat.lt_of_lt_of_le (Heap.lt_size ho) (Nat.le_trans I.sz h)) (Nat.lt_irrefl _)
def Inv.cne(I:Inv X pins σ H s):∀x c,X.env.cells.lookup x=some c->c≠X.env.locals:=λ x c e z=>by obtain ⟨v,o,ho,hd⟩:=I.cell x c e;obtain ⟨m,⟨o',es,ep,ho',hd',_⟩,_⟩:=I.loc;rw[z,ho'] at ho;cases ho;rw[hd'] at hd;cases hd
def Inv.AU(I:Inv X pins σ H s):s.heap.FunFrames X.base X.outer:=by
 have all:∀(l:List Env),(∀b∈frs l,b∈X.fs)->X.s₀.heap.FunFrames X.base l->s.heap.FunFrames X.base l:=by
  intro l;induction l with
  |nil=>intro _ _;trivial
  |cons env r ih=>intro hs hl;obtain ⟨hk,⟨L,o,hf,hn,ho,hd⟩,hr⟩:=hl;have hL:L∈X.fs:=hs L (by unfold frs;rw[List.filterMap_cons,hf];exact List.mem_cons_self);obtain ⟨sl,e⟩:=I.base.slot L o ho (I.ok.frf L hL) hL λ z=>I.ok.abk L z hL;exact ⟨hk,⟨L,_,hf,hn,e,hd⟩,ih (λ b hb=>hs b (by unfold frs;rw[List.filterMap_cons,hf];exact List.mem_cons_of_mem _ hb)) hr⟩
 exact all X.outer (λ _ hb=>hb) I.ok.AU
def Inv.stack(I:Inv X pins σ H s):s.heap.FunFrames X.base X.stack:=by
 rcases I.ok.stk with e|⟨e,hf⟩
 ·rw[e];exact I.AU
 ·rw[e];obtain ⟨m,hn,_⟩:=I.loc;refine .cons (by rw[I.ok.kind];decide) hf hn ?_ I.AU;exact Heap.get?_none_of_le (Nat.le_trans I.ok.bsz I.ok.above)
def Inv.MX(I:Inv X pins σ H s):∀b∈frs X.stack,b∈X.env.locals::X.fs:=λ b hb=>by
 rcases I.ok.stk with e|⟨e,hf⟩
 ·rw[e] at hb;exact List.mem_cons_of_mem _ hb
 ·rw[e] at hb;unfold frs at hb;rw[List.filterMap_cons,hf] at hb;exact hb
def Inv.A9(I:Inv X pins σ H s):∀b∈frs X.stack,H b=none:=λ b hb=>by
 rcases List.mem_cons.mp (I.MX b hb) with e|hb
 ·rw[e];exact I.free
 ·obtain ⟨_,o,ho,_⟩:=I.ok.AU.mem hb;exact I.base.free b o ho (I.ok.frf b hb) λ z=>I.ok.abk b z hb
def Inv.step{g':Array GenState}{t':Nat}{d':Drawn}{ch:List Addr}(I:Inv X pins σ H s) (hch:∀b∈ch,(b∈X.ex\/X.s₀.heap.objs.size<=b)/\b≠X.env.locals/\(∀x c,X.env.cells.lookup x=some c->c≠b)/\∀p∈X.pn++pins,p.1≠b) (keep:∀b o,b≠X.env.locals->b∉X.fs->b∉ch->s.heap.get? b=some o->H b=none->h'.get? b=some o) (slot:∀b o,b≠X.env.locals->b∈X.fs->b∉ch->s.heap.get? b=some o->H b=none->∃sl,h'.get? b=some {o with slots:=sl}) (free:∀b o,b∉ch->s.heap.get? b=some o->H b=none->H' b=none) (there:∀b o,b∉ch->s.heap.get? b=some o->∃o',h'.get? b=some o') (tups:∀b xs,H b=some (.tup xs)->H' b=some (.tup xs)) (yf:∀b o u,H b=some (.DZ o u)->H' b=some (.DZ o u)) (y9:∀b ps,H b=some (.qH ps)->∃more,H' b=some (.qH (ps++more))) (ns:∀m,s.heap.Ns X.env.locals m->h'.Ns X.env.locals m) (hok:vf X.prog X.w H' h') (hg:AllBare g'):
  Inv X pins σ H' {s with heap:=h',gens:=g',drawn:=d',toks:=t'}:=by
 have neL:∀b o,X.s₀.heap.get? b=some o->b≠X.env.locals:=λ b o e=>Nat.ne_of_lt (Nat.lt_of_lt_of_le (Heap.lt_size e) I.ok.above);have neC:∀b o,X.s₀.heap.get? b=some o->b∉X.ex->b∉ch:=λ b o e hx hb=>by
  rcases (hch b hb).1 with z|z
  ·exact hx z
  ·exact absurd (Nat.lt_of_lt_of_le (Heap.lt_size e) z) (Nat.lt_irrefl _)
 have cellK:∀x c,X.env.cells.lookup x=some c->∀v,s.heap.IsCell c v->h'.IsCell c v:=λ x c e v ⟨o,ho,hd⟩=>by
  have nch:c∉ch:=λ z=>(hch c z).2.2.1 x c e rfl;by_cases hc:c∈X.fs
  ·obtain ⟨sl,q⟩:=slot c o (I.cne x c e) hc nch ho (I.nK x c e);exact ⟨_,q,hd⟩
  ·exact ⟨o,keep c o (I.cne x c e) hc nch ho (I.nK x c e),hd⟩
 refine ⟨I.ok,I.os,hg,⟨λ b o e n hb hx=>?_,λ b o e n hb hx=>?_,λ b o e n hx=>?_,λ b o e hx=>?_,λ b xs e=>tups b xs (I.base.tups b xs e),λ b o xs e=>yf b o xs (I.base.yf b o xs e),λ b ps e=>?_⟩,?_,λ x c e=>?_,?_,λ x c e=>?_,λ p hp=>?_,hok,I.len⟩
 ·exact keep b o (neL b o e) hb (neC b o e hx) (I.base.keep b o e n hb hx) (I.base.free b o e n hx)
 ·obtain ⟨sl,e1⟩:=I.base.slot b o e n hb hx;obtain ⟨My,e2⟩:=slot b _ (neL b o e) hb (neC b o e hx) e1 (I.base.free b o e n hx);exact ⟨My,e2⟩
 ·obtain ⟨o',e1⟩:=I.base.there b o e hx;exact free b o' (neC b o e hx) e1 (I.base.free b o e n hx)
 ·obtain ⟨o',e1⟩:=I.base.there b o e hx;exact there b o' (neC b o e hx) e1
 ·obtain ⟨m1,e1⟩:=I.base.y9 b ps e;obtain ⟨m2,e2⟩:=y9 b _ e1;exact ⟨m1++m2,by rw[e2,Array.append_assoc]⟩
 ·obtain ⟨m,hn,hl⟩:=I.loc;refine ⟨m,ns m hn,λ i x v e1 e2 e3=>?_⟩;obtain ⟨u,r,l⟩:=hl i x v e1 e2 e3;refine ⟨u,r,?_⟩;rcases l with l|⟨k,c,e,z⟩
  ·exact .inl l
  ·exact .inr ⟨k,c,e,cellK x c e _ z⟩
 ·obtain ⟨v,z⟩:=I.cell x c e;exact ⟨v,cellK x c e v z⟩
 ·obtain ⟨m,⟨o,_,_,ho,_⟩,_⟩:=I.loc;exact free _ o (λ z=>(hch _ z).2.1 rfl) ho I.free
 ·obtain ⟨v,o,ho,hd⟩:=I.cell x c e;exact free c o (λ z=>(hch c z).2.2.1 x c e rfl) ho (I.nK x c e)
 ·obtain ⟨e,n,ne,nf,d⟩:=I.pin p hp;have nch:p.1∉ch:=λ z=>(hch p.1 z).2.2.2 p hp rfl;exact ⟨keep p.1 p.2 ne nf nch e n,free p.1 p.2 nch e n,ne,nf,d⟩
def Inv.un{t':Nat}(I:Inv X pins σ H s)(u:Un X.fs [] H H' s.heap h')(hok:vf X.prog X.w H' h'):Inv X pins σ H' {s with heap:=h',toks:=t'}:=by obtain ⟨m,⟨o,es,ep,ho,r⟩,_⟩:=id I.loc;obtain ⟨sl,hL⟩:=u.any ho I.free (by simp);exact I.step (g':=s.gens) (d':=s.drawn) (ch:=[]) (λ _ z=>nomatch z) (λ b o _ hb _ e n=>u.keep b o e n hb (by simp)) (λ b o _ hb _ e n=>u.slot b o e n hb (by simp)) (λ b o _ e n=>u.free b o e n (by simp)) (λ b o _ e=>u.there b o e (by simp)) u.tups u.yf u.y9 (λ m' hm=>by obtain ⟨o',es',ep',ho',r'⟩:=hm;rw[ho] at ho';cases ho';exact ⟨_,es',ep',hL,r'⟩) hok I.bare
def Inv.call{g':Array GenState}{t':Nat}{d':Drawn}{ch:List Addr}(I:Inv X pins σ H s)(u:Un (frs X.stack) ch H H' s.heap h')(hok:vf X.prog X.w H' h')(hg:AllBare g') (hch:∀b∈ch,(b∈X.ex\/X.s₀.heap.objs.size<=b)/\b≠X.env.locals/\(∀x c,X.env.cells.lookup x=some c->c≠b)/\∀p∈X.pn++pins,p.1≠b):
  Inv X pins σ H' {s with heap:=h',gens:=g',drawn:=d',toks:=t'}:=by
 obtain ⟨m,⟨o,es,ep,ho,r⟩,_⟩:=id I.loc;obtain ⟨sl,hL⟩:=u.any ho I.free λ z=>(hch _ z).2.1 rfl;exact I.step (ch:=ch) hch (λ b o hL hb hc e n=>u.keep b o e n (λ z=>(List.mem_cons.mp (I.MX b z)).elim hL hb) hc) (λ b o _ _ hc e n=>u.any e n hc) (λ b o hc e n=>u.free b o e n hc) (λ b o hc e=>u.there b o e hc) u.tups u.yf u.y9 (λ m' hm=>by obtain ⟨o',es',ep',ho',r'⟩:=hm;rw[ho] at ho';cases ho';exact ⟨_,es',ep',hL,r'⟩) hok hg
def Inv.turned{t':Nat}{it:Addr}(I:Inv X pins σ H s)(k:∀b o,b≠it->s.heap.get? b=some o->h'.get? b=some o)(hn:H it=none)(hL:it≠X.env.locals) (h1:it∈X.ex\/X.s₀.heap.objs.size<=it) (h2:∀x c,X.env.cells.lookup x=some c->c≠it) (h3:∀p∈X.pn++pins,p.1≠it):Inv X pins σ H {s with heap:=h',toks:=t'}:=by
 have nit:∀b u,H b=some u->b≠it:=λ b u e z=>by rw[z,hn] at e;cases e
 refine I.step (g':=s.gens) (d':=s.drawn) (ch:=[it]) (λ b hb=>?_) (λ b o _ _ hc e _=>k b o (λ z=>hc (by simp[z])) e) (λ b o _ _ hc e _=>⟨o.slots,k b o (λ z=>hc (by simp[z])) e⟩) (λ _ _ _ _ n=>n)
  (λ b o hc e=>⟨o,k b o (λ z=>hc (by simp[z])) e⟩) (λ _ _ e=>e) (λ _ _ _ e=>e) (λ b ps e=>⟨#[],by rw[e];simp⟩) (λ m hm=>?_) (λ b u e=>?_) I.bare
 ·have e:b=it:=by simpa using hb
  subst e;exact ⟨h1,hL,h2,h3⟩
 ·obtain ⟨o,es,ep,ho,r⟩:=hm;exact ⟨o,es,ep,k _ o (Ne.symm hL) ho,r⟩
 ·refine (I.hok b u e).stay (λ c v hc q=>k c v ?_ q) (λ _ q=>q) λ _ _ q=>q;rcases hc with z|z
  ·rw[z];exact nit b u e
  ·exact nit c _ z
def Inv.tok(I:Inv X pins σ H s)(t:Nat):Inv X pins σ H {s with toks:=t}:=I.un (h':=s.heap) (t':=t) Un.refl I.hok
def Inv.kept{t':Nat}(I:Inv X pins σ H s)(k:∀b u,s.heap.get? b=some u->h'.get? b=some u):Inv X pins σ H {s with heap:=h',toks:=t'}:=I.un (Un.kept k) (I.hok.kept k)
def Inv.laid{a:Addr}{o:HO}{t':Nat}(I:Inv X pins σ H s)(k:∀b u,s.heap.get? b=some u->h'.get? b=some u)(hp:s.heap.objs.size<=a)(new:d8 X.prog X.w (upd H a o) h' a o):
  Inv X pins σ (upd H a o) {s with heap:=h',toks:=t'}:=I.un (Un.laid k hp (I.hok.fresh hp)) (I.hok.laid k hp new)
def Inv.write{x e:Addr}{o:HO}{t':Nat}(I:Inv X pins σ H s)(mu:Mut (H x))(he:e=x\/H e=some (.own x))(k:∀b u,b≠e->s.heap.get? b=some u->h'.get? b=some u)(heo:∃u,h'.get? e=some u) (new:d8 X.prog X.w (upd H x o) h' x o):Inv X pins σ (upd H x o) {s with heap:=h',toks:=t'}:=I.un (Un.write mu he k heo) (I.hok.write mu he k heo new)
def Inv.U3{U4:List (Addr×Obj)}(I:Inv X pins σ H s)(h:∀p∈U4,s.heap.get? p.1=some p.2/\H p.1=none/\p.1≠X.env.locals/\p.1∉X.fs/\∀v,p.2.data≠.cell v):Inv X U4 σ H s:=⟨I.ok,I.os,I.bare,I.base,I.loc,I.cell,I.free,I.nK,λ p hp=>(List.mem_append.mp hp).elim (λ z=>I.pin p (List.mem_append_left _ z)) (h p),I.hok,I.len⟩
def Cy{N:List Str}(hN:N.Nodup){i j:Nat}{x:Str}(a:N[i]? =some x)(b:N[j]? =some x):i=j:=by obtain ⟨h1,e1⟩:=List.getElem?_eq_some_iff.mp a;obtain ⟨h2,e2⟩:=List.getElem?_eq_some_iff.mp b;exact (List.getElem_inj hN).mp (e1.trans e2.symm)
def FT{M:Model}{A:Around}{E:Value->Shared->Prop}{i:Nat}{x:Str}{v:V}{u:Value}{Q:Unit->Shared->Prop}(I:Inv X pins σ H s)(hN:X.N.Nodup)(hi:X.N[i]? =some x)(hx:Loc X.env.scope x)(r:RelV v u)
  (h:∀s',Inv X pins (σ.set i (some v)) H s'->(∃a,Heap.SameBut a s.heap s'.heap/\(a=X.env.locals\/X.env.cells.lookup x=some a))->Q () s') (hf:X.fn x=true\/X.env.scope.names.lookup x=some .local:=by first|exact .inl rfl|exact .inr rfl|assumption):wpAny M A (storeName X.env x u) Q E s:=by
 obtain ⟨m,hn,hl⟩:=id I.loc
 have hcls:(X.env.scope.kind== .class||(X.env.scope.kind== .module&&X.env.locals !=X.env.globals))=false:=by rw[I.ok.kind];rfl
 have hiσ:i<σ.length:=by rw[I.len];exact (List.getElem?_eq_some_iff.mp hi).1
 have cne:=I.cne
 have tracked:∀{a:Addr} {h':Heap},(∃o,s.heap.get? a=some o/\H a=none)->Heap.SameBut a s.heap h'->vf X.prog X.w H h':=λ{a h'} ha hs b ob e=>by
  obtain ⟨_,_,hfree⟩:=ha
  refine (I.hok b ob e).stay (λ c w' hc q=>(hs.2 c ?_).trans q) (λ _ q=>q) λ _ _ q=>q
  rintro rfl
  rcases hc with rfl|hc
  ·rw[hfree] at e;cases e
  ·rw[hfree] at hc;cases hc
 rcases hx with hk|hk
 ·refine wpAny_storeName_local hk hn (λ h' hn' hs=>?_) hcls
  obtain ⟨oL,_,_,hoL,_⟩:=id hn
  refine h _ ⟨I.ok,I.os,I.bare,⟨λ b o e n hb hx=>?_,λ b o e n hb hx=>?_,I.base.free,λ b o e hx=>?_,I.base.tups,I.base.yf,I.base.y9⟩,⟨_,hn',λ j y v' e1 e2 e3=>?_⟩,λ y c e=>?_,I.free,I.nK,λ p hp=>?_,tracked ⟨oL,hoL,I.free⟩ hs,by simpa using I.len⟩ ⟨_,hs,.inl rfl⟩
  ·exact (hs.2 b (Nat.ne_of_lt (Nat.lt_of_lt_of_le (Heap.lt_size e) I.ok.above))).trans (I.base.keep b o e n hb hx)
  ·obtain ⟨sl,e1⟩:=I.base.slot b o e n hb hx
   exact ⟨sl,(hs.2 b (Nat.ne_of_lt (Nat.lt_of_lt_of_le (Heap.lt_size e) I.ok.above))).trans e1⟩
  ·obtain ⟨o',e1⟩:=I.base.there b o e hx
   exact ⟨o',(hs.2 b (Nat.ne_of_lt (Nat.lt_of_lt_of_le (Heap.lt_size e) I.ok.above))).trans e1⟩
  ·by_cases hj:j=i
   ·subst hj
    rw[hi] at e1;cases e1
    rw[List.getElem?_set_self hiσ] at e2
    cases e2
    exact ⟨u,r,.inl ⟨hk,by simp⟩⟩
   ·rw[List.getElem?_set_ne (Ne.symm hj)] at e2
    obtain ⟨u',r',q⟩:=hl j y v' e1 e2 e3
    refine ⟨u',r',?_⟩
    rcases q with ⟨k,e⟩|⟨k,c,e,z⟩
    ·refine .inl ⟨k,?_⟩
     have:y≠x:=λ e=>hj (Cy hN e1 (e▸hi))
     simp[this,e]
    ·exact .inr ⟨k,c,e,z.sameBut hs (cne y c e)⟩
  ·obtain ⟨w',z⟩:=I.cell y c e
   exact ⟨w',z.sameBut hs (cne y c e)⟩
  ·obtain ⟨e,n,ne,nf,d⟩:=I.pin p hp
   exact ⟨(hs.2 p.1 ne).trans e,n,ne,nf,d⟩
 ·have hfn:X.fn x=true:=by
   rcases hf with z|z
   ·exact z
   ·rw[z] at hk;cases hk
  obtain ⟨c,hc⟩:=I.ok.has x (.inl hk)
  obtain ⟨w',z⟩:=I.cell x c hc
  refine wpAny_storeName_cell I.ok.kind hk hc z (λ h' hc' hs=>?_)
  obtain ⟨oc,hoc,ap1⟩:=id z
  refine h {s with heap:=h'} ⟨I.ok,I.os,I.bare,⟨λ b o e n hb hx=>?_,λ b o e n hb hx=>?_,I.base.free,λ b o e hx=>?_,I.base.tups,I.base.yf,I.base.y9⟩,⟨m,hn.sameBut hs (Ne.symm (cne x c hc)),λ j y v' e1 e2 e3=>?_⟩,λ y c' e=>?_,I.free,I.nK,λ p hp=>?_,tracked ⟨oc,hoc,I.nK x c hc⟩ hs,by simpa using I.len⟩ ⟨c,hs,.inr hc⟩
  ·exact (hs.2 b (Nat.ne_of_lt (Nat.lt_of_lt_of_le (Heap.lt_size e) (I.ok.cab x c hfn hc)))).trans (I.base.keep b o e n hb hx)
  ·obtain ⟨sl,e1⟩:=I.base.slot b o e n hb hx
   exact ⟨sl,(hs.2 b (Nat.ne_of_lt (Nat.lt_of_lt_of_le (Heap.lt_size e) (I.ok.cab x c hfn hc)))).trans e1⟩
  ·obtain ⟨o',e1⟩:=I.base.there b o e hx
   exact ⟨o',(hs.2 b (Nat.ne_of_lt (Nat.lt_of_lt_of_le (Heap.lt_size e) (I.ok.cab x c hfn hc)))).trans e1⟩
  ·by_cases hj:j=i
   ·subst hj
    rw[hi] at e1;cases e1
    rw[List.getElem?_set_self hiσ] at e2
    cases e2
    exact ⟨u,r,.inr ⟨.inl hk,c,hc,hc'⟩⟩
   ·rw[List.getElem?_set_ne (Ne.symm hj)] at e2
    obtain ⟨u',r',q⟩:=hl j y v' e1 e2 e3
    refine ⟨u',r',?_⟩
    rcases q with q|⟨k,c',e,z'⟩
    ·exact .inl q
    ·refine .inr ⟨k,c',e,z'.sameBut hs ?_⟩
     rintro rfl
     exact hj (Cy hN e1 (I.ok.inj _ _ _ e hc▸hi))
  ·by_cases hcc:c'=c
   ·subst hcc;exact ⟨_,hc'⟩
   ·obtain ⟨w2,z2⟩:=I.cell y c' e
    exact ⟨w2,z2.sameBut hs hcc⟩
  ·obtain ⟨e,n,ne,nf,d⟩:=I.pin p hp
   refine ⟨(hs.2 p.1 ?_).trans e,n,ne,nf,d⟩
   intro q
   rw[q,hoc] at e
   have q':oc=p.2:=Option.some.inj e
   exact d w' (by rw[<-q'];exact ap1)
def sI{M:Model}{A:Around}{E:Value->Shared->Prop}{i:Nat}{x:Str}{v:V}{u:Value}{Q:Unit->Shared->Prop}(I:Inv X pins σ H s)(hN:X.N.Nodup)(hi:X.N[i]? =some x)(hx:Loc X.env.scope x)(r:RelV v u) (h:∀s',Inv X pins (σ.set i (some v)) H s'->Q () s') (hf:X.fn x=true\/X.env.scope.names.lookup x=some .local:=by first|exact .inl rfl|exact .inr rfl|assumption):wpAny M A (storeName X.env x u) Q E s:=FT I hN hi hx r (λ s' I' _=>h s' I') hf
def Inv.VD{s':Shared}{ch:List Addr}(I:Inv X pins σ H s)(ho:s'.os=s.os)(u:Un (frs X.stack) ch H H' s.heap s'.heap)(hok:vf X.prog X.w H' s'.heap)(hg:AllBare s'.gens) (hch:∀b∈ch,(b∈X.ex\/X.s₀.heap.objs.size<=b)/\b≠X.env.locals/\(∀x c,X.env.cells.lookup x=some c->c≠b)/\∀p∈X.pn++pins,p.1≠b):Inv X pins σ H' s':=by obtain ⟨h',g',d',t',o'⟩:=s';have e:o'=s.os:=ho;subst e;exact I.call (g':=g') (t':=t') (d':=d') u hok hg hch
end
abbrev XK:=Value->Option Addr->Hp->Prop
noncomputable abbrev St:=List (Option V)
abbrev VK:=V->Hp->Prop
abbrev TE:=St->Hp->VK->Prop
abbrev TT:=St->Hp->(Bool->Hp->Prop)->Prop
abbrev TA:=St->Hp->(List V->Hp->Prop)->Prop
structure Ends where
 nx:St->Hp->Prop
 rt:VK
 bk:St->Hp->Prop:=λ _ _=>False
 ct:St->Hp->Prop:=λ _ _=>False
abbrev TS:=Ends->St->Hp->Prop
def EP(X:Cx)(pins:List (Addr×Obj))(σ:St)(Q:VK)(u:Value)(s':Shared):Prop:=∃v H',Inv X pins σ H' s'/\RelV v u/\Q v H'
def TP(X:Cx)(pins:List (Addr×Obj))(σ:St)(Q:Bool->Hp->Prop)(b:Bool)(s':Shared):Prop:=∃H',Inv X pins σ H' s'/\Q b H'
def AP(X:Cx)(pins:List (Addr×Obj))(σ:St)(Q:List V->Hp->Prop)(us:List Value)(s':Shared):Prop:=∃vs H',Inv X pins σ H' s'/\Vals vs us/\Q vs H'
def SP(X:Cx)(pins:List (Addr×Obj))(D:Ends)(f:Flow)(s':Shared):Prop:=match f with
 | .next=>∃σ' H',Inv X pins σ' H' s'/\D.nx σ' H'
 | .brk=>∃σ' H',Inv X pins σ' H' s'/\D.bk σ' H'
 | .cont=>∃σ' H',Inv X pins σ' H' s'/\D.ct σ' H'
 | .ret u=>∃v σ' H',Inv X pins σ' H' s'/\RelV v u/\D.rt v H'
def PE(X:Cx)(e:Expr)(t:TE):Prop:=∀(pins:List (Addr×Obj)) (s:Shared) (σ:St) (H:Hp) (Q:VK),Inv X pins σ H s->t σ H Q->wpAny (model X.prog X.w) X.A (eval e X.env) (EP X pins σ Q) X.xe s
def PT(X:Cx)(e:Expr)(t:TT):Prop:=∀(pins:List (Addr×Obj)) (s:Shared) (σ:St) (H:Hp) (Q:Bool->Hp->Prop),Inv X pins σ H s->t σ H Q->wpAny (model X.prog X.w) X.A (isTrue e X.env (eval e X.env)) (TP X pins σ Q) X.xe s
def PW(X:Cx)(e:Expr)(t:TT):Prop:=∀(whole:Sem Value) (pins:List (Addr×Obj)) (s:Shared) (σ:St) (H:Hp) (Q:Bool->Hp->Prop),Inv X pins σ H s->t σ H Q->wpAny (model X.prog X.w) X.A (isTrue e X.env whole) (TP X pins σ Q) X.xe s
def PW.pt{X:Cx}{e:Expr}{t:TT}(h:PW X e t):PT X e t:=h _
def PA(X:Cx)(es:List Expr)(t:TA):Prop:=∀(pos:Pos) (pins:List (Addr×Obj)) (s:Shared) (σ:St) (H:Hp) (Q:List V->Hp->Prop),Inv X pins σ H s->t σ H Q->wpAny (model X.prog X.w) X.A (spliced (backTo pos (starEach es X.env))) (AP X pins σ Q) X.xe s
def PS(X:Cx)(st:Stmt)(t:TS):Prop:=∀(pins:List (Addr×Obj)) (s:Shared) (σ:St) (H:Hp) (D:Ends),Inv X pins σ H s->t D σ H->wpAny (model X.prog X.w) X.A (exec st X.env) (SP X pins D) X.xe s
def ME(X:Cx)(st:List Stmt)(t:TS):Prop:=∀(pins:List (Addr×Obj)) (s:Shared) (σ:St) (H:Hp) (D:Ends),Inv X pins σ H s->t D σ H->wpAny (model X.prog X.w) X.A (execs st X.env) (SP X pins D) X.xe s
def fO{α:Type}{t:Sem α}{Q Q':α->Shared->Prop}{M:Model}{A:Around}{E:Value->Shared->Prop}{s:Shared}(h:wpAny M A t Q E s)(hQ:∀a s,Q a s->Q' a s):wpAny M A t Q' E s:=wpAny_mono h hQ λ _ _ x=>x
section
variable{X:Cx}
def ao2(i:Nat):TE:=λ σ H Q=>∃v,σ[i]? =some (some v)/\Q v H
def tC(v:V):TE:=λ _ H Q=>Q v H
def vM{i:Nat}{x:Str}{pos:Pos}(hN:X.N[i]? =some x)(hv:Uv X.env.scope x)(hd:(x==("__debug__":Str))=false:=by decide)(hcd:(x==("__classdict__":Str))=false:=by decide):PE X (.Name x pos) (ao2 i):=by
 intro pins s σ H Q I h;obtain ⟨v,e,h⟩:=h;obtain ⟨m,hn,hl⟩:=I.loc;obtain ⟨u,r,l⟩:=hl i x v hN e hv;have fin:EP X pins σ Q u s:=⟨v,H,I,r,h⟩;rcases l with ⟨hk,hm⟩|⟨hk,c,hc,hcell⟩
 ·exact wpAny_Name (wpAny_loadName_local I.ok.kind hk hn hm fin) hd
 ·rcases hk with hk|hk
  ·exact wpAny_Name (wpAny_loadName_cell I.ok.kind hk hc hcell fin) hd
  ·exact wpAny_Name (wpAny_loadName_free I.ok.kind hk hc hcell fin hcd) hd
def ah5{i j pos}:PE X (.Constant (.int i) j pos) (tC (.int i)):=λ _ _ _ H _ I h=>wpAny_Constant_int ⟨.int i,H,I.tok _,⟨_,rfl⟩,h⟩
def alk{b j pos}:PE X (.Constant (.bool b) j pos) (tC (.bl b)):=λ _ _ _ H _ I h=>Constant_bool ⟨.bl b,H,I,rfl,h⟩
def ah3{j pos}:PE X (.Constant .none j pos) (tC .cY):=λ _ _ _ H _ I h=>Constant_none ⟨.cY,H,I,rfl,h⟩
def ah0{x j pos}:PE X (.Constant (.str x) j pos) (tC (.str x)):=λ _ _ _ H _ I h=>Calls.Constant_str ⟨.str x,H,I.tok _,⟨_,rfl⟩,h⟩
noncomputable def Gl(X:Cx)(x:Str):Prop:=X.env.kindOf x=some .globalImplicit
def uH{E:Value->Shared->Prop}{pins:List (Addr×Obj)}{s:Shared}{σ:St}{H:Hp}{x:Str}{u:Value}{pos:Pos}{Q:Value->Shared->Prop}(I:Inv X pins σ H s)(hg:Gl X x)(hm:X.mg x=some u)(h:Q u s) (hd:(x==("__debug__":Str))=false:=by decide):wpAny (model X.prog X.w) X.A (eval (.Name x pos) X.env) Q E s:=Calls.Name_function_global I.ok.kind hg (Calls.loadGlobal_global (by rw[I.ok.glob];exact I.mod.glob.keeps I.bk) hm h) hd
def C6{E:Value->Shared->Prop}{pins:List (Addr×Obj)}{s:Shared}{σ:St}{H:Hp}{x:Str}{u:Value}{pos:Pos}{Q:Value->Shared->Prop}(I:Inv X pins σ H s)(hg:Gl X x)(hm:X.mg x=none)(hv:bootBuiltins x=some u)(h:Q u s) (hn:x≠"__name__":=by decide) (hd:(x==("__debug__":Str))=false:=by decide):wpAny (model X.prog X.w) X.A (eval (.Name x pos) X.env) Q E s:=by obtain ⟨mb,h1,h2⟩:=I.mod.blt;exact Calls.Name_function_global I.ok.kind hg (Calls.loadGlobal_builtin (by rw[I.ok.glob];exact I.mod.glob.keeps I.bk) hm (by rw[I.ok.blt];exact h1.keeps I.bk) ((h2 x hn).trans hv) h) hd
def U5{x:Str}{v:V}{u:Value}{pos:Pos}(hg:Gl X x)(hm:X.mg x=some u)(r:RelV v u)(hd:(x==("__debug__":Str))=false:=by decide):PE X (.Name x pos) (tC v):=λ _ _ _ H _ I h=>uH I hg hm ⟨v,H,I,r,h⟩ hd
def aeN{x:Str}{v:V}{u:Value}{pos:Pos}(hg:Gl X x)(hm:X.mg x=none)(hv:bootBuiltins x=some u)(r:RelV v u)(hn:x≠"__name__":=by decide)(hd:(x==("__debug__":Str))=false:=by decide):PE X (.Name x pos) (tC v):=λ _ _ _ H _ I h=>C6 I hg hm hv ⟨v,H,I,r,h⟩ hn hd
variable{a b:Expr}{ta tb:TE}{pos:Pos}
def tB(t:TE):TT:=λ σ H Q=>t σ H λ x H1=>∃c,x= .bl c/\Q c H1
def ahQ{e:Expr}{t:TE}(h:PE X e t)(he:∀whole,isTrue e X.env whole=(do let v <-whole;standAt e.pos;holding [v] (truthy v)):=by intro _;rfl):PT X e (tB t):=by
 intro pins s σ H Q I hw
 refine isTrue_plain (fO (h pins s σ H _ I hw) λ v s1 ⟨x,H1,I1,r1,q1⟩=>?_) (he _)
 obtain ⟨d,rfl,q⟩:=q1
 cases r1
 exact wpAny_truthy_bool ⟨H1,I1,q⟩
variable{tA tB':TT}{rest:List Expr}
def ape(t u:TT):TT:=λ σ H Q=>t σ H λ c H1=>if c=true then u σ H1 Q else Q false H1
def tOr(t u:TT):TT:=λ σ H Q=>t σ H λ c H1=>if c=true then Q true H1 else u σ H1 Q
def ao8(t:TT):TT:=λ σ H Q=>t σ H λ c H1=>Q (!c) H1
def aev(ha:PT X a tA):PW X (.BoolOp .And [a] pos) tA:=by
 intro wh pins s σ H Q I h;refine isTrue_and (fO (ha pins s σ H Q I h) λ c s1 e=>?_);cases c with
 |true=>exact isTrue_and_nil e
 |false=>exact e
def ahO(ha:PT X a tA):PW X (.BoolOp .Or [a] pos) tA:=by
 intro wh pins s σ H Q I h;refine isTrue_or (fO (ha pins s σ H Q I h) λ c s1 e=>?_);cases c with
 |false=>exact isTrue_or_nil e
 |true=>exact e
def ahP(ha:PT X a tA)(hb:PW X (.BoolOp .And (b::rest) pos) tB'):PW X (.BoolOp .And (a::b::rest) pos) (ape tA tB'):=by
 intro wh pins s σ H Q I h;refine isTrue_and (fO (ha pins s σ H _ I h) λ c s1 ⟨H1,I1,q1⟩=>?_);cases c with
 |true=>exact hb wh pins s1 σ H1 Q I1 q1
 |false=>exact ⟨H1,I1,q1⟩
def alf(ha:PT X a tA)(hb:PW X (.BoolOp .Or (b::rest) pos) tB'):PW X (.BoolOp .Or (a::b::rest) pos) (tOr tA tB'):=by
 intro wh pins s σ H Q I h;refine isTrue_or (fO (ha pins s σ H _ I h) λ c s1 ⟨H1,I1,q1⟩=>?_);cases c with
 |true=>exact ⟨H1,I1,q1⟩
 |false=>exact hb wh pins s1 σ H1 Q I1 q1
def ahR(ha:PT X a tA):PT X (.UnaryOp .Not a pos) (ao8 tA):=by intro pins s σ H Q I h;exact isTrue_not (ha pins s σ H (λ c H1=>Q (!c) H1) I h)
def akU(ta tb:TE):TE:=λ σ H Q=>ta σ H λ x H1=>∃c,x= .bl c/\if c=true then tb σ H1 Q else Q (.bl false) H1
def ao7(ta tb:TE):TE:=λ σ H Q=>ta σ H λ x H1=>∃c,x= .bl c/\if c=true then Q (.bl true) H1 else tb σ H1 Q
def akO(ta:TE):TE:=λ σ H Q=>ta σ H λ x H1=>∃c,x= .bl c/\Q (.bl (!c)) H1
def ah1{op}{t:TE}(h:PE X a t):PE X (.BoolOp op [a] pos) t:=λ pins s σ H Q I hw=>BoolOp_one (h pins s σ H Q I hw)
def ah7(ha:PE X a ta)(hb:PE X (.BoolOp .And (b::rest) pos) tb):PE X (.BoolOp .And (a::b::rest) pos) (akU ta tb):=by
 intro pins s σ H Q I h;refine BoolOp_and (fO (ha pins s σ H _ I h) λ v s1 ⟨x,H1,I1,r1,q1⟩=>?_);obtain ⟨c,rfl,q1⟩:=q1;cases r1;refine wpAny_truthy_bool ?_;cases c with
 |true=>exact hb pins s1 σ H1 Q I1 q1
 |false=>exact ⟨.bl false,H1,I1,rfl,q1⟩
def alj(ha:PE X a ta)(hb:PE X (.BoolOp .Or (b::rest) pos) tb):PE X (.BoolOp .Or (a::b::rest) pos) (ao7 ta tb):=by
 intro pins s σ H Q I h;refine BoolOp_or (fO (ha pins s σ H _ I h) λ v s1 ⟨x,H1,I1,r1,q1⟩=>?_);obtain ⟨c,rfl,q1⟩:=q1;cases r1;refine wpAny_truthy_bool ?_;cases c with
 |false=>exact hb pins s1 σ H1 Q I1 q1
 |true=>exact ⟨.bl true,H1,I1,rfl,q1⟩
def ah2(ha:PE X a ta):PE X (.UnaryOp .Not a pos) (akO ta):=by intro pins s σ H Q I h;refine UnaryOp_ (fO (ha pins s σ H _ I h) λ v s1 ⟨x,H1,I1,r1,q1⟩=>?_);obtain ⟨c,rfl,q1⟩:=q1;cases r1;exact not_of (wpAny_truthy_bool ⟨.bl (!c),H1,I1,rfl,q1⟩)
end
def vD(K:W.Frag)(H:Hp)(a:Addr)(xs:List V):Prop:=Rd H a (.lst xs)\/∃(o:Obj) (its:Array Value) (n:Nat),K.lookup a=some o/\o.cls= .type "list"/\o.dict=none/\o.data= .seq its n/\its.size<=sizeLine/\Vals xs its.toList
def A7(K:W.Frag)(H:Hp)(a:Addr)(xs:List V):Prop:=Rd H a (.tup xs)\/∃(o:Obj) (its:Array Value) (n:Nat),K.lookup a=some o/\o.cls= .type "tuple"/\o.data= .seq its n/\its.size<=sizeLine/\Vals xs its.toList
noncomputable def aqw:Value->Option V
 | .none=>some .cY
 | .bool b=>some (.bl b)
 | .int i _=>some (.int i)
 | .str x _=>some (.str x)
 | .bytes b _=>some (.byt b)
 | .float b _=>some (.flt b)
 | .ref a=>some (.ref a)
 | .type n=>some (.ty n)
 |_=>none
def RelV.abs{x:V}{u:Value}(r:RelV x u):aqw u=some x:=by
 cases x with
 |cY=>cases r;rfl
 |bl _=>cases r;rfl
 |int _=>obtain ⟨t,rfl⟩:=r;rfl
 |str _=>obtain ⟨t,rfl⟩:=r;rfl
 |byt _=>obtain ⟨t,rfl⟩:=r;rfl
 |flt _=>obtain ⟨t,rfl⟩:=r;rfl
 |ref _=>cases r;rfl
 |ty _=>cases r;rfl
def RelV.inj{x y:V}{u:Value}(r:RelV x u)(q:RelV y u):x=y:=Option.some.inj (r.abs.symm.trans q.abs)
def Vals.inj:∀{xs ys:List V} {us:List Value},Vals xs us->Vals ys us->xs=ys
 |_,_,_,.nil,.nil=>rfl
 |_,_,_,.cons r t,.cons r' t'=>by rw[r.inj r',Vals.inj t t']
section
variable{X:Cx}{pins:List (Addr×Obj)}{σ:St}{H:Hp}{s:Shared}{a:Addr}{xs ys:List V}
def vD.of{K:W.Frag}(h:H a=some (.lst xs)):vD K H a xs:= .inl (.inl h)
def Inv.list(I:Inv X pins σ H s)(h:vD X.K H a xs):∃its:List Value,Vals xs its/\PlainL s.heap a its.toArray/\xs.length<=sizeLine:=by
 rcases h with h|⟨o,its,n,hk,hc,hd,hs,hz,r⟩
 ·obtain ⟨z,its,n,r,e⟩:=h.ok I.hok;exact ⟨its,r,⟨_,n,e,rfl,rfl,rfl⟩,z⟩
 ·refine ⟨its.toList,r,⟨o,n,I.Bl a o hk,hc,hd,by simpa using hs⟩,?_⟩;have e:=r.length;simp only[Array.length_toList] at e;omega
def Inv.tuple(I:Inv X pins σ H s)(h:A7 X.K H a xs):∃its:List Value,Vals xs its/\IsTup s.heap a its.toArray/\xs.length<=sizeLine:=by
 rcases h with h|⟨o,its,n,hk,hc,hs,hz,r⟩
 ·obtain ⟨z,its,r,p⟩:=h.ok I.hok;exact ⟨its,r,p,z⟩
 ·refine ⟨its.toList,r,⟨o,I.Bl a o hk,hc,n,by simpa using hs⟩,?_⟩;have e:=r.length;simp only[Array.length_toList] at e;omega
def Inv.aaq(I:Inv X pins σ H s)(h:vD X.K H a xs)(h':vD X.K H a ys):xs=ys:=by
 obtain ⟨its,r,⟨o,n,e,_,_,d⟩,_⟩:=I.list h;obtain ⟨its',r',⟨o',n',e',_,_,d'⟩,_⟩:=I.list h';rw[e] at e';cases e';rw[d] at d';injection d' with d1 _;have:its=its':=by simpa using congrArg Array.toList d1
 subst this;exact r.inj r'
def Inv.FP(I:Inv X pins σ H s)(h:A7 X.K H a xs)(h':A7 X.K H a ys):xs=ys:=by
 obtain ⟨its,r,⟨o,e,_,n,d⟩,_⟩:=I.tuple h;obtain ⟨its',r',⟨o',e',_,n',d'⟩,_⟩:=I.tuple h';rw[e] at e';cases e';rw[d] at d';injection d' with d1 _;have:its=its':=by simpa using congrArg Array.toList d1
 subst this;exact r.inj r'
end
section
variable{X:Cx}{pins:List (Addr×Obj)}{σ:St}{H:Hp}{s:Shared}{E:Value->Shared->Prop}
end
section
variable{X:Cx}{st:Stmt}{rest:List Stmt}{t u:TS}{e:Expr}{te:TE}{pos:Pos}
def akP:TS:=λ D σ H=>D.nx σ H
def ao4(t u:TS):TS:=λ D σ H=>t {D with nx:=u D} σ H
def aey:ME X [] akP:=λ _ _ σ H _ I h=>wpAny_execs_nil ⟨σ,H,I,h⟩
def Zq(h1:PS X st t)(h2:ME X rest u):ME X (st::rest) (ao4 t u):=by
 intro pins s σ H D I h;refine wpAny_execs_cons (fO (h1 pins s σ H {D with nx:=u D} I h) λ f s1 q=>?_);cases f with
 |next=>obtain ⟨σ',H',I',q⟩:=q;exact h2 pins s1 σ' H' D I' q
 |ret v=>exact q
 |brk=>exact q
 |cont=>exact q
def aex(h1:PS X st t):ME X [st] t:=by
 intro pins s σ H D I h;refine wpAny_execs_cons (fO (h1 pins s σ H D I h) λ f s1 q=>?_);cases f with
 |next=>exact wpAny_execs_nil q
 |ret v=>exact q
 |brk=>exact q
 |cont=>exact q
def Inv.quiet{pins:List (Addr×Obj)}{σ:St}{H:Hp}{s:Shared}(I:Inv X pins σ H s):interactive X.env=false:=by simp[interactive,I.ok.kind]
def akR(te:TE):TS:=λ D σ H=>te σ H λ _ H1=>D.nx σ H1
def Be(he:PE X e te)(hs:swapsWith e none pos.line X.env=pure false:=by rfl):PS X (.Expr e pos) (akR te):=by intro pins s σ H D I h;exact wpAny_Expr_any (fO (he pins s σ H _ I h) λ v s1 ⟨x,H1,I1,r1,q1⟩=>⟨σ,H1,I1,q1⟩) I.quiet hs
def ao5(te:TE):TS:=λ D σ H=>te σ H D.rt
def B4(he:PE X e te):PS X (.Return (some e) pos) (ao5 te):=by intro pins s σ H D I h;exact wpAny_Return_some (fO (he pins s σ H _ I h) λ v s1 ⟨x,H1,I1,r1,q1⟩=>⟨x,σ,H1,I1,r1,q1⟩)
def apa(c:TT)(t u:TS):TS:=λ D σ H=>c σ H λ b H1=>if b=true then t D σ H1 else u D σ H1
def age{c:Expr}{a b:List Stmt}{tc:TT}(hc:PT X c tc)(ha:ME X a t)(hb:ME X b u):PS X (.If c a b pos) (apa tc t u):=by
 intro pins s σ H D I h;refine wpAny_If (fO (hc pins s σ H _ I h) λ d s1 ⟨H1,I1,q1⟩=>?_);cases d with
 |true=>exact ha pins s1 σ H1 D I1 q1
 |false=>exact hb pins s1 σ H1 D I1 q1
end
abbrev TG:=V->St->Hp->(St->Hp->Prop)->Prop
abbrev TGs:=List V->St->Hp->(St->Hp->Prop)->Prop
def PG(X:Cx)(target:Expr)(t:TG):Prop:=∀(pins:List (Addr×Obj)) (s:Shared) (σ:St) (H:Hp) (v:V) (u:Value) (Q:St->Hp->Prop),Inv X pins σ H s->RelV v u->t v σ H Q->wpAny (model X.prog X.w) X.A (assign target X.env u) (λ _ s'=>∃σ' H',Inv X pins σ' H' s'/\Q σ' H') X.xe s
def PGs(X:Cx)(ts:List Expr)(t:TGs):Prop:=∀(pins:List (Addr×Obj)) (s:Shared) (σ:St) (H:Hp) (vs:List V) (us:List Value) (Q:St->Hp->Prop),Inv X pins σ H s->Vals vs us->t vs σ H Q->wpAny (model X.prog X.w) X.A (assignInOrder ((assignEach ts X.env).map (·.2)) us) (λ _ s'=>∃σ' H',Inv X pins σ' H' s'/\Q σ' H') X.xe s
abbrev ajC:=V->V->V->Hp->(Hp->Prop)->Prop
def amY(X:Cx)(t:ajC):Prop:=∀(pins:List (Addr×Obj)) (s:Shared) (σ:St) (H:Hp) (o i v:V) (ov iv u:Value) (Q:Hp->Prop),Inv X pins σ H s->RelV o ov->RelV i iv->RelV v u->t o i v H Q->wpAny (model X.prog X.w) X.A (setItem ov iv u) (λ _ s'=>∃H',Inv X pins σ H' s'/\Q H') X.xe s
section
variable{X:Cx}{pos:Pos}
def agt(i:Nat):TG:=λ v σ H Q=>Q (σ.set i (some v)) H
def aeI{i:Nat}{x:Str}(hN:X.N.Nodup)(hi:X.N[i]? =some x)(hx:Loc X.env.scope x)(hf:X.fn x=true\/X.env.scope.names.lookup x=some .local:=by first|exact .inl rfl|exact .inr rfl|assumption):PG X (.Name x pos) (agt i):=by intro pins s σ H v u Q I r h;exact wpAny_assign_Name (sI I hN hi hx r (λ s' I'=>⟨_,H,I',h⟩) hf)
def aqk:TGs:=λ vs σ H Q=>vs=[]/\Q σ H
def al3(t:TG)(u:TGs):TGs:=λ vs σ H Q=>∃v r,vs=v::r/\t v σ H λ σ' H'=>u r σ' H' Q
def aeH:PGs X [] aqk:=by intro pins s σ H vs us Q I r h;obtain ⟨e,h⟩:=h;subst e;cases r;exact assignInOrder_nil ⟨σ,H,I,h⟩
def ZE{e:Expr}{es:List Expr}{t:TG}{u:TGs}(h1:PG X e t)(h2:PGs X es u) (hs:(assignEach (e::es) X.env).map (·.2)=assign e X.env::(assignEach es X.env).map (·.2):=by rfl):PGs X (e::es) (al3 t u):=by
 intro pins s σ H vs us Q I r h;obtain ⟨v,vr,e1,h⟩:=h;subst e1;cases r with
 |cons r rr=>rw[hs];refine assignInOrder_cons (fO (h1 pins s σ H _ _ _ I r h) λ _ s1 ⟨σ1,H1,I1,q1⟩=>?_);exact h2 pins s1 σ1 H1 _ _ Q I1 rr q1
def aqi(K:W.Frag)(n:Nat)(t:TGs):TG:=λ v σ H Q=>∃a xs,v= .ref a/\A7 K H a xs/\xs.length=n/\t xs σ H Q
def ahY{es:List Expr}{k:Nat}{t:TGs}{n:Nat}(hc:X.calm=true)(h:PGs X es t) (hn:(assignEach es X.env).length=n:=by rfl) (hst:(assignEach es X.env).findIdx? (·.1)=none:=by rfl):PG X (.Tuple es k pos) (aqi X.K n t):=by intro pins s σ H v u Q I r hw;obtain ⟨a,xs,e1,hq,hl,hw⟩:=hw;subst e1;cases r;obtain ⟨its,rv,ht,hz⟩:=I.tuple hq;refine assign_Tuple_tuple (I.ok.hd hc) ht (by simp[hn, <-hl,rv.length]) hst λ h' hx=>?_;have I1:Inv X pins σ H {s with heap:=h'}:=I.kept (t':=s.toks) λ b o e=>hx b o (Nat.ne_of_lt (Heap.lt_size e)) e;exact h pins _ σ H xs _ Q I1 (by simpa using rv) hw
def aqj(to ti:TE)(t:ajC):TG:=λ v σ H Q=>to σ H λ o H1=>ti σ H1 λ i H2=>t o i v H2 λ H3=>Q σ H3
def ahZ{o i:Expr}{to ti:TE}{t:ajC}(ho:PE X o to)(hi:PE X i ti)(hs:amY X t)
  (ha:∀v,assign (.Subscript o i pos) X.env v=(do
   let ov <-holding [v] (eval o X.env)
   let iv <-holding [v,ov] (eval i X.env)
   standAt pos
   holding [v,ov,iv] (setItem ov iv v)
   release [v,ov,iv] []):=by intro _;rfl):PG X (.Subscript o i pos) (aqj to ti t):=by
 intro pins s σ H v u Q I r h
 rw[ha]
 refine wpAny_bind (wpAny_holding (fO (ho pins s σ H _ I h) λ ov s1 ⟨x,H1,I1,r1,q1⟩=>?_))
 refine wpAny_bind (wpAny_holding (fO (hi pins s1 σ H1 _ I1 q1) λ iv s2 ⟨y,H2,I2,r2,q2⟩=>?_))
 refine wpAny_bind (wpAny_standAt (wpAny_bind (wpAny_holding (fO (hs pins s2 σ H2 x y v ov iv u _ I2 r1 r2 r q2) λ _ s3 ⟨H3,I3,q3⟩=>?_))))
 exact wpAny_release ⟨σ,H3,I3,q3⟩
def akT(te:TE)(g:TG):TS:=λ D σ H=>te σ H λ x H1=>g x σ H1 D.nx
def Zs{tg e:Expr}{te:TE}{g:TG}(he:PE X e te)(hg:PG X tg g)(hs:swapsWithSole [tg] e pos.line X.env=pure false:=by rfl)(hw:swappedStores [tg] e X.env=pure none:=by rfl) (h1:(assignEach [tg] X.env).map (·.2)=[assign tg X.env]:=by rfl):PS X (.Assign [tg] e pos) (akT te g):=by intro pins s σ H D I h;refine wpAny_Assign_stores (fO (he pins s σ H _ I h) λ v s1 ⟨x,H1,I1,r1,q1⟩=>?_) hs hw;rw[h1];exact fO (hg pins s1 σ H1 x v _ I1 r1 q1) λ _ s2 q=>q
def G8{i:Nat}{x:Str}{e:Expr}{te:TE}{pos':Pos}(hN:X.N.Nodup)(hi:X.N[i]? =some x)(hx:Loc X.env.scope x)(he:PE X e te)(hs:swapsWith e (some (.Name x pos')) pos.line X.env=pure false:=by rfl)(hf:X.fn x=true\/X.env.scope.names.lookup x=some .local:=by first|exact .inl rfl|exact .inr rfl|assumption):
  PS X (.Assign [.Name x pos'] e pos) (akT te (agt i)):=by
 intro pins s σ H D I h;refine wpAny_Assign_Name (fO (he pins s σ H _ I h) λ v s1 ⟨y,H1,I1,r1,q1⟩=>?_) hs;exact sI I1 hN hi hx r1 (λ s2 I2=>⟨_,H1,I2,q1⟩) hf
def ao6(i j:Nat)(ta:TA):TS:=λ D σ H=>ta σ H λ vs H1=>∃v w,vs=[v,w]/\D.nx ((σ.set i (some v)).set j (some w)) H1
def ahT{i j:Nat}{x y:Str}{a b:Expr}{ta:TA}{px py pt:Pos}{kt k2 pt2}(hc:X.calm=true)(hN:X.N.Nodup)(hi:X.N[i]? =some x)(hj:X.N[j]? =some y)(hij:i≠j)
  (hx:X.env.scope.names.lookup x=some .local) (hy:X.env.scope.names.lookup y=some .local) (ha:PA X [a,b] ta)
  (hw:swappedStores [.Tuple [.Name x px,.Name y py] kt pt] (.Tuple [a,b] k2 pt2) X.env=pure (some [x,y]))
  (hs:swapsWithSole [.Tuple [.Name x px,.Name y py] kt pt] (.Tuple [a,b] k2 pt2) pos.line X.env=pure false:=by rfl):
  PS X (.Assign [.Tuple [.Name x px,.Name y py] kt pt] (.Tuple [a,b] k2 pt2) pos) (ao6 i j ta):=by
 intro pins s σ H D I h
 rw[exec_Assign_arm]
 refine wpAny_bind (wpAny_standAt ?_)
 rw[hs]
 refine wpAny_bind (wpAny_pure ?_)
 rw[if_neg (by decide)]
 refine wpAny_bind (Tuple_ (fO (ha _ pins s σ H _ I h) λ us s1 ⟨vs,H1,I1,r1,q1⟩=>?_))
 obtain ⟨v,w,e1,q1⟩:=q1
 subst e1
 obtain ⟨u1,u2,rfl,rv,rw'⟩:∃u1 u2,us=[u1,u2]/\RelV v u1/\RelV w u2:=by
  cases r1 with
  |cons p q=>
   cases q with
   |cons p' q'=>
    cases q'
    exact ⟨_,_,rfl,p,p'⟩
 refine wpAny_newObj_type ?_ (by show 2<=sizeLine;decide)
 have I2:Inv X pins σ H1 {s1 with heap:=s1.heap.push {cls:= .type "tuple",data:= .seq [u1,u2].toArray}}:=I1.kept (t':=s1.toks) λ b o e=>Heap.get?_push_of_some _ e
 rw[hw]
 refine wpAny_bind (wpAny_pure ?_)
 show wpAny (model X.prog X.w) X.A (do rule "assign.swapped-stores";let items <-unpackItems (.ref s1.heap.objs.size) 2 none;assignInOrder [λ v=>bindName X.env y v,λ v=>bindName X.env x v] items.reverse;pure Flow.next) _ _ _
 refine wpAny_bind (wpAny_rule (wpAny_bind (unpackItems_tuple (items:= #[u1,u2]) (I.ok.hd hc) (IsTup.new s1.heap _) λ h' hx'=>?_)))
 have I3:=I2.kept (h':=h') (t':=s1.toks) λ b o e=>hx' b o (Nat.ne_of_lt (Heap.lt_size e)) e
 show wpAny _ _ (assignInOrder [λ v=>bindName X.env y v,λ v=>bindName X.env x v] [u2,u1]>>=λ _=>pure Flow.next) _ _ _
 refine wpAny_bind (assignInOrder_cons (wpAny_bindName (sI I3 hN hj (.inl hy) rw' (λ s2 I4=>?_) (.inr hy))))
 refine assignInOrder_cons (wpAny_bindName (sI I4 hN hi (.inl hx) rv (λ s3 I5=>assignInOrder_nil (wpAny_pure ?_)) (.inr hx)))
 rw[List.set_comm _ _ (Ne.symm hij)] at I5
 exact ⟨_,H1,I5,q1⟩
def aht(c:TT)(tb:TS):TS:=λ D σ H=>∃W:Nat->St->Hp->Prop,(∃m,W m σ H)/\∀m σ H,W m σ H->c σ H λ b H1=>if b=true then ∃N:St->Hp->Prop,(∀σ' H',N σ' H'->∃m',m'<m/\W m' σ' H')/\tb {D with nx:=N,ct:=N,bk:=D.nx} σ H1 else D.nx σ H1
def Zr{c:Expr}{body:List Stmt}{tc:TT}{tb:TS}(hp:PassesOwn (model X.prog X.w) X.A X.env X.xe)(hc:PT X c tc)(hb:ME X body tb):PS X (.While c body [] pos) (aht tc tb):=by
 intro pins s σ H D I h;obtain ⟨W,⟨m0,w0⟩,turn⟩:=h;refine wpAny_While (codeAny_whileLoop (λ n s'=>∃σ' H',Inv X pins σ' H' s'/\W n σ' H') ?_ m0 ⟨σ,H,I,w0⟩)
 rintro n s1 ⟨σ1,H1,I1,w1⟩
 refine wpAny_passesOwn hp (fO (hc pins s1 σ1 H1 _ I1 (turn n σ1 H1 w1)) λ b s2 ⟨H2,I2,q2⟩=>?_);cases b with
 |true=>
  obtain ⟨N,hN,q2⟩:=q2;rw[if_pos rfl];refine wpAny_passesOwn hp (fO (hb pins s2 σ1 H2 _ I2 q2) λ f s3 q3=>?_);cases f with
  |next=>obtain ⟨σ3,H3,I3,n3⟩:=q3;obtain ⟨m',hm,w3⟩:=hN σ3 H3 n3;exact ⟨m',hm,σ3,H3,I3,w3⟩
  |cont=>obtain ⟨σ3,H3,I3,n3⟩:=q3;obtain ⟨m',hm,w3⟩:=hN σ3 H3 n3;exact ⟨m',hm,σ3,H3,I3,w3⟩
  |brk=>exact q3
  |ret v=>exact q3
 |false=>rw[if_neg Bool.false_ne_true];exact wpAny_execs_nil ⟨σ1,H2,I2,q2⟩
end
structure It where
 go:Nat->Hp->Prop
 yld:Nat->Hp->V->Hp->Prop
 stop:Nat->Hp->Prop
def DW(X:Cx)(pins:List (Addr×Obj))(H:Hp)(b:Addr):Prop:=H b=none/\b≠X.env.locals/\b∉X.fs/\(b∈X.ex\/X.s₀.heap.objs.size<=b)/\(∀x c,X.env.cells.lookup x=some c->c≠b)/\∀p∈X.pn++pins,p.1≠b
def Inv.OA{X:Cx}{pins:List (Addr×Obj)}{σ:St}{H H':Hp}{s:Shared}{b:Addr}(I:Inv X pins σ H s)(hb:s.heap.objs.size<=b)(hn:H' b=none):DW X pins H' b:=by
 refine ⟨hn,Nat.ne_of_gt (Nat.lt_of_lt_of_le I.lt hb),I.apC hb,.inr (Nat.le_trans I.sz hb),λ x c e z=>?_,λ p hp z=>?_⟩
 ·obtain ⟨v,q⟩:=I.cell x c e;exact absurd (Nat.lt_of_lt_of_le q.lt (by rw[z];exact hb)) (Nat.lt_irrefl _)
 ·exact absurd (Nat.lt_of_lt_of_le (Heap.lt_size (I.pin p hp).1) (by rw[z];exact hb)) (Nat.lt_irrefl _)
structure Turn(P:Program)(w:World)(K:W.Frag)(tg:Expr)(J:It)(fp:List Addr)(it:Addr)(tn:Nat->Heap->Prop):Prop where
 mem:it∈fp
 obj:∀i h,tn i h->∀b∈fp,∃o,h.get? b=some o/\∀v,o.data≠.cell v
 keep:∀i h h',tn i h->(∀b∈fp,∀o,h.get? b=some o->h'.get? b=some o)->tn i h'
 item:∀(X:Cx),X.prog=P->X.w=w->X.K=K->X.calm=true->∀(i:Nat) (pins:List (Addr×Obj)) (s:Shared) (σ:St) (H:Hp) (E:Value->Shared->Prop),Inv X pins σ H s->(∀b∈fp,DW X pins H b)->tn i s.heap->J.go i H->
  wpAny (model P w) X.A (pyNext (.ref it)) (λ r s1=>∃u,r=some u/\
   wpAny (model P w) X.A (letOwnedTupleGo tg (.ref it) u) (λ _ s2=>∃x H',Inv X pins σ H' s2/\RelV x u/\J.yld i H x H'/\tn (i+1) s2.heap/\∀b∈fp,H' b=none) E s1) E s
 done:∀(X:Cx),X.prog=P->X.w=w->X.K=K->X.calm=true->∀(i:Nat) (pins:List (Addr×Obj)) (s:Shared) (σ:St) (H:Hp) (E:Value->Shared->Prop),Inv X pins σ H s->(∀b∈fp,DW X pins H b)->tn i s.heap->J.stop i H->
  wpAny (model P w) X.A (pyNext (.ref it)) (λ r s1=>r=none/\Inv X pins σ H s1) E s
 self:∀(A:Around) (i:Nat) (s:Shared) (Q:Value->Shared->Prop) (E:Value->Shared->Prop),tn i s.heap->Q (.ref it) s->wpAny (model P w) A (pyIter (.ref it)) Q E s
abbrev TI:=St->Hp->(It->Hp->Prop)->Prop
def PIE(X:Cx)(pins:List (Addr×Obj))(σ:St)(tg:Expr)(R:It->Hp->Prop)(itv:Value)(s2:Shared):Prop:=∃(it:Addr) (fp:List Addr) (tn:Nat->Heap->Prop) (J:It) (H':Hp),itv= .ref it/\Inv X pins σ H' s2/\Turn X.prog X.w X.K tg J fp it tn/\tn 0 s2.heap/\(∀b∈fp,DW X pins H' b)/\R J H'
def PI(X:Cx)(tg iter:Expr)(wi:TI):Prop:=∀(pins:List (Addr×Obj)) (s:Shared) (σ:St) (H:Hp) (R:It->Hp->Prop),Inv X pins σ H s->wi σ H R->wpAny (model X.prog X.w) X.A (eval iter X.env) (λ v s1=>wpAny (model X.prog X.w) X.A (pyIter v) (PIE X pins σ tg R) X.xe s1) X.xe s
def LD{M:Model}{A:Around}{E:Value->Shared->Prop}{s:Shared}{tg:Expr}{it:Addr}{u:Value}{o:Obj}{n:String}{vs:Array Value}{Q:Unit->Shared->Prop}(ho:s.heap.get? it=some o)(hc:o.cls= .type n)(hd:o.data= .fields vs) (hn:["enumerate","zip","dict_itemiterator","dict_reverseitemiterator","odict_iterator","itertools.zip_longest","itertools.pairwise"].contains n=false) (hQ:Q () s):wpAny M A (letOwnedTupleGo tg (.ref it) u) Q E s:=by
 unfold letOwnedTupleGo;cases tg<;>first
  |exact wpAny_pure hQ
  |(cases u<;>first
    |exact wpAny_pure hQ
    |(refine wpAny_bind (wpAny_load ho ?_)
      rw[hc,hd]
      show wpAny M A (if (["enumerate","zip","dict_itemiterator","dict_reverseitemiterator","odict_iterator","itertools.zip_longest","itertools.pairwise"].contains n&&vs[0]? ==some (rawInt _))=true then _ else _) Q E s
      rw[if_neg (by intro h;rw[hn,Bool.false_and] at h;cases h)]
      exact wpAny_pure hQ))
def Itl(K:W.Frag)(a:Addr):It:=⟨λ i H=>∃xs x,vD K H a xs/\xs[i]? =some x,λ i H x H'=>H'=H/\∀xs,vD K H a xs->xs[i]? =some x,λ i H=>∃xs,vD K H a xs/\xs.length<=i⟩
def Itt(K:W.Frag)(a:Addr):It:=⟨λ i H=>∃xs x,A7 K H a xs/\xs[i]? =some x,λ i H x H'=>H'=H/\∀xs,A7 K H a xs->xs[i]? =some x,λ i H=>∃xs,A7 K H a xs/\xs.length<=i⟩
def Itr(lo:Int)(n:Nat):It:=⟨λ i _=>i<n,λ i H x H'=>H'=H/\x= .int (lo+i),λ i _=>n<=i⟩
def V8{P:Program}{w:World}{K:W.Frag}{tg:Expr}(a it:Addr):Turn P w K tg (Itl K a) [it] it (λ i h=>h.IsListIter it a i) where
 mem:=by simp
 obj:=λ i h st b hb=>by
  have e:b=it:=by simpa using hb
  subst e
  obtain ⟨o,e,c,d⟩:=st
  exact ⟨o,e,λ v z=>by rw[d] at z;cases z⟩
 keep:=λ i h h' st k=>st.at λ o e=>k it (by simp) o e
 item:=by
  intro X hP hw hK hc i pins s σ H E I hf st hg
  subst hP hw hK
  obtain ⟨xs,x,hq,hx⟩:=hg
  obtain ⟨its,rv,p,hz⟩:=I.list hq
  obtain ⟨u,hu,ru⟩:=rv.get hx
  obtain ⟨f0,f1,f2,f3,f4,f5⟩:=hf it (by simp)
  refine wpAny_pyNext_list_item st p.isList (x:=u) (by simpa using hu) λ h' st' sb=>?_
  have I1:Inv X pins σ H {s with heap:=h'}:=I.turned (t':=s.toks) (λ b o hb e=>(sb.2 b hb).trans e) f0 f1 f3 f4 f5
  obtain ⟨o,e,c,d⟩:=id st'
  exact ⟨u,rfl,LD (s:={s with heap:=h'}) e c d (by decide) ⟨x,H,I1,ru,⟨rfl,λ ys hy=>by rw[I.aaq hy hq];exact hx⟩,st',λ b hb=>(hf b hb).1⟩⟩
 done:=by
  intro X hP hw hK hc i pins s σ H E I hf st hg
  subst hP hw hK
  obtain ⟨xs,hq,hx⟩:=hg
  obtain ⟨its,rv,p,hz⟩:=I.list hq
  obtain ⟨f0,f1,f2,f3,f4,f5⟩:=hf it (by simp)
  have hl:=rv.length
  exact wpAny_pyNext_list_end (I.ok.hd hc) st p.isList (by simp;omega) λ h' eb=>⟨rfl,I.turned (t':=s.toks) (λ b o hb e=>eb b o hb e) f0 f1 f3 f4 f5⟩
 self:=λ _ _ _ _ _ st h=>wpAny_pyIter_listiter st h
def MQ{P:Program}{w:World}{K:W.Frag}{tg:Expr}(a it:Addr):Turn P w K tg (Itt K a) [it] it (λ i h=>h.IsTupleIter it a i) where
 mem:=by simp
 obj:=λ i h st b hb=>by
  have e:b=it:=by simpa using hb
  subst e
  obtain ⟨o,e,c,d⟩:=st
  exact ⟨o,e,λ v z=>by rw[d] at z;cases z⟩
 keep:=λ i h h' st k=>st.at λ o e=>k it (by simp) o e
 item:=by
  intro X hP hw hK hc i pins s σ H E I hf st hg
  subst hP hw hK
  obtain ⟨xs,x,hq,hx⟩:=hg
  obtain ⟨its,rv,p,hz⟩:=I.tuple hq
  obtain ⟨u,hu,ru⟩:=rv.get hx
  obtain ⟨f0,f1,f2,f3,f4,f5⟩:=hf it (by simp)
  refine wpAny_pyNext_tuple_item st (show s.heap.IsTuple a its.toArray from p) (x:=u) (by simpa using hu) λ h' st' sb=>?_
  have I1:Inv X pins σ H {s with heap:=h'}:=I.turned (t':=s.toks) (λ b o hb e=>(sb.2 b hb).trans e) f0 f1 f3 f4 f5
  obtain ⟨o,e,c,d⟩:=id st'
  exact ⟨u,rfl,LD (s:={s with heap:=h'}) e c d (by decide) ⟨x,H,I1,ru,⟨rfl,λ ys hy=>by rw[I.FP hy hq];exact hx⟩,st',λ b hb=>(hf b hb).1⟩⟩
 done:=by
  intro X hP hw hK hc i pins s σ H E I hf st hg
  subst hP hw hK
  obtain ⟨xs,hq,hx⟩:=hg
  obtain ⟨its,rv,p,hz⟩:=I.tuple hq
  obtain ⟨f0,f1,f2,f3,f4,f5⟩:=hf it (by simp)
  have hl:=rv.length
  exact wpAny_pyNext_tuple_end (I.ok.hd hc) st (show s.heap.IsTuple a its.toArray from p) (by simp;omega) λ h' eb=>⟨rfl,I.turned (t':=s.toks) (λ b o hb e=>eb b o hb e) f0 f1 f3 f4 f5⟩
 self:=λ _ _ _ _ _ st h=>wpAny_pyIter_tupleiter st h
def MR{P:Program}{w:World}{K:PySem.W.Frag}{tg:Expr}(it:Addr)(lo:Int)(n:Nat):Turn P w K tg (Itr lo n) [it] it (λ i h=>IsRangeIter h it (lo+(i:Nat)*1) ((n:Int) -(i:Nat)) 1) where
 mem:=by simp
 obj:=λ i h st b hb=>by
  have e:b=it:=by simpa using hb
  subst e
  exact ⟨_,st,λ v z=>by
   have z':Data.fields _=Data.cell v:=z
   cases z'⟩
 keep:=λ i h h' st k=>k it (by simp) _ st
 item:=by
  intro X hP hw hK hc i pins s σ H E I hf st hg
  subst hP hw hK
  obtain ⟨f0,f1,f2,f3,f4,f5⟩:=hf it (by simp)
  have W:=Walks.range (prog:=X.prog) (w:=X.w) (I.ok.hd hc) it lo 1 n
  refine W.item i s _ _ hg st λ v h' tk hv st' kk=>?_
  obtain ⟨t,rfl⟩:=hv
  have I1:Inv X pins σ H {s with heap:=h',toks:=tk}:=I.turned (λ b o hb e=>kk b o (by simpa using hb) e) f0 f1 f3 f4 f5
  refine ⟨_,rfl,LD (s:={s with heap:=h',toks:=tk}) (n:="range_iterator") st' rfl rfl (by decide) ⟨.int (lo+i),H,I1,⟨t,?_⟩,⟨rfl,rfl⟩,st',λ b hb=>(hf b hb).1⟩⟩
  rw[Int.mul_one]
 done:=by
  intro X hP hw hK hc i pins s σ H E I hf st hg
  subst hP hw hK
  obtain ⟨f0,f1,f2,f3,f4,f5⟩:=hf it (by simp)
  exact wpAny_pyNext_range_end (I.ok.hd hc) st (by have:n<=i:=hg;omega) λ h' eb=>⟨rfl,I.turned (t':=s.toks) (λ b o hb e=>eb b o hb e) f0 f1 f3 f4 f5⟩
 self:=λ _ _ _ _ _ st h=>wpAny_pyIter_rangeiter st h
section
variable{X:Cx}{tg:Expr}
def alZ(K:W.Frag)(tl:TE):TI:=λ σ H R=>tl σ H λ x H1=>∃a,x= .ref a/\(∃xs,vD K H1 a xs)/\R (Itl K a) H1
def apT(K:W.Frag)(tl:TE):TI:=λ σ H R=>tl σ H λ x H1=>∃a,x= .ref a/\(∃xs,A7 K H1 a xs)/\R (Itt K a) H1
def uE{l:Expr}{tl:TE}(hl:PE X l tl):PI X tg l (alZ X.K tl):=by
 intro pins s σ H R I h;refine fO (hl pins s σ H _ I h) λ v s1 ⟨x,H1,I1,r1,q1⟩=>?_;obtain ⟨a,e,⟨xs,hq⟩,q⟩:=q1;subst e;cases r1;obtain ⟨its,rv,p,hz⟩:=I1.list hq;refine wpAny_pyIter_list p.isList ?_;refine ⟨s1.heap.objs.size,[s1.heap.objs.size],_,_,H1,rfl,I1.kept (t':=s1.toks) λ b o e=>Heap.get?_push_of_some _ e,V8 a _,⟨_,Heap.get?_push_size _ rfl,rfl,rfl⟩,λ b hb=>?_,q⟩;have e:b=s1.heap.objs.size:=by simpa using hb
 subst e;exact I1.OA (Nat.le_refl _) (I1.hok.fresh (Nat.le_refl _))
def Hr{l:Expr}{tl:TE}(hl:PE X l tl):PI X tg l (apT X.K tl):=by
 intro pins s σ H R I h;refine fO (hl pins s σ H _ I h) λ v s1 ⟨x,H1,I1,r1,q1⟩=>?_;obtain ⟨a,e,⟨xs,hq⟩,q⟩:=q1;subst e;cases r1;obtain ⟨its,rv,p,hz⟩:=I1.tuple hq;refine wpAny_pyIter_tuple (show s1.heap.IsTuple a its.toArray from p) ?_;refine ⟨s1.heap.objs.size,[s1.heap.objs.size],_,_,H1,rfl,I1.kept (t':=s1.toks) λ b o e=>Heap.get?_push_of_some _ e,MQ a _,⟨_,Heap.get?_push_size _ rfl,rfl,rfl⟩,λ b hb=>?_,q⟩;have e:b=s1.heap.objs.size:=by simpa using hb
 subst e;exact I1.OA (Nat.le_refl _) (I1.hok.fresh (Nat.le_refl _))
def Zm{pins:List (Addr×Obj)}{σ:St}{H:Hp}{s:Shared}{R:It->Hp->Prop}{E:Value->Shared->Prop}{lo hi:Int}{t u v:Tok}{tk:Nat}(I:Inv X pins σ H s)(h1: -(2^62)<=lo)(h2:lo<2^62)(h3: -(2^62)<=hi)(h4:hi<2^62) (q:R (Itr lo (hi- lo).toNat) H):wpAny (model X.prog X.w) X.A (pyIter (.ref s.heap.objs.size)) (PIE X pins σ tg R) E {s with heap:=s.heap.push {cls:= .type "range",data:= .fields #[.int lo t,.int hi u,.int 1 v]},toks:=tk}:=by
 refine wpAny_pyIter_range (IsRange.new ..) (small_one h1 h2 h3 h4) ?_;have I1:Inv X pins σ H {s with heap:=s.heap.push {cls:= .type "range",data:= .fields #[.int lo t,.int hi u,.int 1 v]},toks:=tk}:=I.kept λ b o e=>Heap.get?_push_of_some _ e;refine ⟨(s.heap.push {cls:= .type "range",data:= .fields #[.int lo t,.int hi u,.int 1 v]}).objs.size,[(s.heap.push {cls:= .type "range",data:= .fields #[.int lo t,.int hi u,.int 1 v]}).objs.size],_,_,H,rfl,
  I1.kept (t':=tk) λ b o e=>Heap.get?_push_of_some _ e,MR _ lo (hi- lo).toNat,?_,λ b hb=>?_,q⟩
 ·have e1:lo+((0:Nat):Int)*1=lo:=by simp
  have e2:(((hi- lo).toNat:Nat):Int) -((0:Nat):Int)=Builtin.Range.rangeSize lo hi 1:=by rw[rangeSize_one];split<;>omega
  show IsRangeIter _ _ (lo+((0:Nat):Int)*1) ((((hi- lo).toNat:Nat):Int) -((0:Nat):Int)) 1;rw[e1,e2];exact Heap.get?_push_size _ rfl
 ·have e:b=(s.heap.push {cls:= .type "range",data:= .fields #[.int lo t,.int hi u,.int 1 v]}).objs.size:=by simpa using hb
  subst e;exact I1.OA (Nat.le_refl _) (I1.hok.fresh (Nat.le_refl _))
def kM(ta:TA):TI:=λ σ H R=>ta σ H λ vs H1=>∃j:Int,vs=[.int j]/\ -(2^62)<=j/\j<2^62/\R (Itr 0 j.toNat) H1
def Ww{a:Expr}{ta:TA}{p pos:Pos}(hg:Gl X "range")(hm:X.mg "range"=none)(ha:PA X [a] ta)(hs:starEach [a] X.env=[(false,eval a X.env)]:=by rfl):PI X tg (.Call (.Name "range" p) [a] [] pos) (kM ta):=by
 intro pins s σ H R I h;refine Call_ (C6 I hg hm boot_range (PyProof.Rows.callWith_type1 (fO (ha pos pins s σ H _ I h) λ us s1 ⟨vs,H1,I1,r1,q1⟩=>?_) hs rfl));obtain ⟨j,e,q1,q2,q⟩:=q1;subst e;cases r1 with
 |cons r rr=>cases rr;obtain ⟨t,rfl⟩:=r;exact call_range_1 (Zm I1 (by omega) (by omega) q1 q2 (by simpa using q))
def apb(wi:TI)(g:TG)(tb:TS):TS:=λ D σ H=>wi σ H λ J H1=>∃W:Nat->Nat->St->Hp->Prop,(∃m,W 0 m σ H1)/\∀i m σ H,W i m σ H->(J.stop i H/\D.nx σ H)\/(J.go i H/\∃N:St->Hp->Prop,(∀σ' H',N σ' H'->∃m',m'<m/\W (i+1) m' σ' H')/\∀x H',J.yld i H x H'->g x σ H' λ σ2 H2=>tb {D with nx:=N,ct:=N,bk:=D.nx} σ2 H2)
noncomputable def B9(fp:List Addr)(h:Heap):List (Addr×Obj):=fp.filterMap λ b=>(h.get? b).map λ o=>(b,o)
def rQ{fp:List Addr}{h:Heap}{b:Addr}{o:Obj}(hb:b∈fp)(e:h.get? b=some o):(b,o)∈B9 fp h:=List.mem_filterMap.mpr ⟨b,hb,by rw[e];rfl⟩
def WR{fp:List Addr}{h:Heap}{p:Addr×Obj}(hp:p∈B9 fp h):p.1∈fp/\h.get? p.1=some p.2:=by
 obtain ⟨b,hb,e⟩:=List.mem_filterMap.mp hp;cases q:h.get? b with
 |none=>rw[q] at e;cases e
 |some o=>rw[q] at e;have e':(b,o)=p:=Option.some.inj e;subst e';exact ⟨hb,q⟩
def Inv.pinned{pins:List (Addr×Obj)}{σ:St}{H:Hp}{s:Shared}{fp:List Addr}(I:Inv X pins σ H s)(hf:∀b∈fp,DW X pins H b)(ho:∀b∈fp,∃o,s.heap.get? b=some o/\∀v,o.data≠.cell v):Inv X (pins++B9 fp s.heap) σ H s:=I.U3 λ p hp=>(List.mem_append.mp hp).elim (λ z=>I.pin p (List.mem_append_right _ z)) λ z=>by obtain ⟨hb,e⟩:=WR z;obtain ⟨f0,f1,f2,_⟩:=hf p.1 hb;obtain ⟨o,e',d⟩:=ho p.1 hb;rw[e] at e';cases e';exact ⟨e,f0,f1,f2,d⟩
def Inv.sH{pins pl:List (Addr×Obj)}{σ:St}{H:Hp}{s:Shared}(I:Inv X (pins++pl) σ H s):Inv X pins σ H s:=I.U3 λ p hp=>I.pin p (List.mem_append_right _ (List.mem_append_left _ hp))
def ahU{iter:Expr}{body:List Stmt}{wi:TI}{g:TG}{tb:TS}{pos:Pos}(hp:PassesOwn (model X.prog X.w) X.A X.env X.xe)(hc:X.calm=true)(hi:PI X tg iter wi)(hg:PG X tg g)(hb:ME X body tb) (hs:∀x,foldedSetIterable iter X.env x=pure x:=by intro _;rfl):PS X (.For tg iter body [] pos) (apb wi g tb):=by
 intro pins s σ H D I h;refine wpAny_For (fO (hi pins s σ H _ I h) λ v s1 h1=>fO h1 λ itv s2 h2=>?_) hs;obtain ⟨it,fp,tn,J,H2,e,I2,T,st2,f2,W,⟨m0,w0⟩,turn⟩:=h2;subst e
 -- what stays true of Mw aiI objects through Mw loop
 have ahz:∀{H':Hp},(∀b∈fp,H' b=none)->∀b∈fp,DW X pins H' b:=λ hn b hb=>⟨hn b hb,(f2 b hb).2⟩;refine codeAny_forLoop_any (λ n s'=>∃i σ' H',Inv X pins σ' H' s'/\tn i s'.heap/\(∀b∈fp,H' b=none)/\W i n σ' H') ?_ m0 ⟨0,σ,H2,I2,st2,λ b hb=>(f2 b hb).1,w0⟩
 rintro n s3 ⟨i,σ3,H3,I3,st3,fr3,w3⟩
 rcases turn i n σ3 H3 w3 with ⟨stop,qn⟩|⟨go,N,hN,step⟩
 ·refine wpAny_passesOwn hp (fO (T.done X rfl rfl rfl hc i pins s3 σ3 H3 X.xe I3 (ahz fr3) st3 stop) λ r s4 ⟨hr,I4⟩=>?_);subst hr;exact wpAny_execs_nil ⟨σ3,H3,I4,qn⟩
 ·refine wpAny_passesOwn hp (fO (T.item X rfl rfl rfl hc i pins s3 σ3 H3 X.xe I3 (ahz fr3) st3 go) λ r s4 ⟨u,hr,h4⟩=>?_);subst hr;refine wpAny_passesOwn hp (fO h4 λ _ s5 ⟨x,H5,I5,r5,y5,st5,fr5⟩=>?_);have I5':=I5.pinned (ahz fr5) (T.obj _ _ st5);refine wpAny_passesOwn hp (fO (hg _ s5 σ3 H5 x u _ I5' r5 (step x H5 y5)) λ _ s6 ⟨σ6,H6,I6,q6⟩=>?_);refine wpAny_passesOwn hp (fO (hb _ s6 σ6 H6 _ I6 q6) λ f s7 q7=>?_);have again:∀{σ7:St} {H7:Hp},Inv X (pins++B9 fp s5.heap) σ7 H7 s7->N σ7 H7->∃m,m<n/\∃i σ' H',Inv X pins σ' H' s7/\tn i s7.heap/\(∀b∈fp,H' b=none)/\W i m σ' H':=λ{σ7 H7} I7 n7=>by obtain ⟨m',hm,w7⟩:=hN σ7 H7 n7;refine ⟨m',hm,i+1,σ7,H7,I7.sH,T.keep _ _ _ st5 λ b hb o e=>(I7.pin (b,o) (List.mem_append_right _ (List.mem_append_right _ (rQ hb e)))).1,λ b hb=>?_,w7⟩;obtain ⟨o,e,d⟩:=T.obj _ _ st5 b hb;exact (I7.pin (b,o) (List.mem_append_right _ (List.mem_append_right _ (rQ hb e)))).2.1
  cases f with
  |next=>obtain ⟨σ7,H7,I7,n7⟩:=q7;exact again I7 n7
  |cont=>obtain ⟨σ7,H7,I7,n7⟩:=q7;exact again I7 n7
  |brk=>obtain ⟨σ7,H7,I7,q7⟩:=q7;exact ⟨σ7,H7,I7.sH,q7⟩
  |ret v=>obtain ⟨x7,σ7,H7,I7,r7,q7⟩:=q7;exact ⟨x7,σ7,H7,I7.sH,r7,q7⟩
end
abbrev R2:=V->V->Hp->VK->Prop
def qw(X:Cx)(f:Value->Value->Sem Value)(r:R2):Prop:=∀(pins:List (Addr×Obj)) (s:Shared) (σ:St) (H:Hp) (x y:V) (v u:Value) (Q:VK),Inv X pins σ H s->RelV x v->RelV y u->r x y H Q->wpAny (model X.prog X.w) X.A (f v u) (EP X pins σ Q) X.xe s
def UnR(X:Cx)(f:Value->Sem Value)(r:V->Hp->VK->Prop):Prop:=∀(pins:List (Addr×Obj)) (s:Shared) (σ:St) (H:Hp) (x:V) (v:Value) (Q:VK),Inv X pins σ H s->RelV x v->r x H Q->wpAny (model X.prog X.w) X.A (f v) (EP X pins σ Q) X.xe s
def vE(X:Cx)(f:Value)(r:List V->Hp->VK->Prop):Prop:=∀(pins:List (Addr×Obj)) (s:Shared) (σ:St) (H:Hp) (xs:List V) (us:List Value) (Q:VK),Inv X pins σ H s->Vals xs us->r xs H Q->wpAny (model X.prog X.w) X.A (call f us) (EP X pins σ Q) X.xe s
def tOp(r:R2)(ta tb:TE):TE:=λ σ H Q=>ta σ H λ x H1=>tb σ H1 λ y H2=>r x y H2 Q
def tUn(r:V->Hp->VK->Prop)(ta:TE):TE:=λ σ H Q=>ta σ H λ x H1=>r x H1 Q
def rI(C:Int->Int->Prop)(g:Int->Int->V):R2:=λ x y H Q=>∃i j,x= .int i/\y= .int j/\C i j/\Q (g i j) H
def rI0(g:Int->Int->V):R2:=λ x y H Q=>∃i j,x= .int i/\y= .int j/\Q (g i j) H
def rU(g:Int->V):V->Hp->VK->Prop:=λ x H Q=>∃i,x= .int i/\Q (g i) H
section
variable{X:Cx}{a b c:Expr}{ta tb tc:TE}{pos:Pos}
def ajm(ha:PE X a ta)(hb:PE X b tb){pins:List (Addr×Obj)}{s:Shared}{σ:St}{H:Hp}{R:V->V->Hp->Prop}(I:Inv X pins σ H s) (h:ta σ H λ x H1=>tb σ H1 λ y H2=>R x y H2) {Q:Value->Shared->Prop} {f:Value->Value->Sem Value} (hf:∀v u s2 x y H2,Inv X pins σ H2 s2->RelV x v->RelV y u->R x y H2->wpAny (model X.prog X.w) X.A (f v u) Q X.xe s2):
  wpAny (model X.prog X.w) X.A (eval a X.env) (λ v s₁=>wpAny (model X.prog X.w) X.A (eval b X.env) (λ u s₂=>wpAny (model X.prog X.w) X.A (f v u) Q X.xe s₂) X.xe s₁) X.xe s:=by
 refine fO (ha pins s σ H _ I h) λ v s1 ⟨x,H1,I1,r1,q1⟩=>?_;refine fO (hb pins s1 σ H1 _ I1 q1) λ u s2 ⟨y,H2,I2,r2,q2⟩=>?_;exact hf v u s2 x y H2 I2 r1 r2 q2
def agf{op:Operator}{r:R2}(ho:qw X (binaryOp op) r)(ha:PE X a ta)(hb:PE X b tb):PE X (.BinOp a op b pos) (tOp r ta tb):=by intro pins s σ H Q I h;exact wpAny_BinOp (ajm ha hb I h λ v u s2 x y H2 I2 rx ry q=>ho pins s2 σ H2 x y v u Q I2 rx ry q)
def ali{op:UnaryOp}{r:V->Hp->VK->Prop}(ho:UnR X (unaryOp op) r)(ha:PE X a ta):PE X (.UnaryOp op a pos) (tUn r ta):=by intro pins s σ H Q I h;exact UnaryOp_ (fO (ha pins s σ H _ I h) λ v s1 ⟨x,H1,I1,r1,q1⟩=>ho pins s1 σ H1 x v Q I1 r1 q1)
def opI{f:Value->Value->Sem Value}{C:Int->Int->Prop}{g:Int->Int->Int} (rule:∀(i j:Int) (t u:Tok) (s:Shared) (Q:Value->Shared->Prop) (E:Value->Shared->Prop),C i j->Q (.int (g i j) s.toks) {s with toks:=s.toks+1}->wpAny (model X.prog X.w) X.A (f (.int i t) (.int j u)) Q E s):
  qw X f (rI C λ i j=> .int (g i j)):=by
 intro pins s σ H x y v u Q I rx ry h;obtain ⟨i,j,rfl,rfl,hc,q⟩:=h;obtain ⟨t,rfl⟩:=rx;obtain ⟨t',rfl⟩:=ry;exact rule i j t t' s _ _ hc ⟨.int (g i j),H,I.tok _,⟨_,rfl⟩,q⟩
def aid{f:Value->Value->Sem Value}{g:Int->Int->Int} (rule:∀(i j:Int) (t u:Tok) (s:Shared) (Q:Value->Shared->Prop) (E:Value->Shared->Prop),Q (.int (g i j) s.toks) {s with toks:=s.toks+1}->wpAny (model X.prog X.w) X.A (f (.int i t) (.int j u)) Q E s):
  qw X f (rI0 λ i j=> .int (g i j)):=by
 intro pins s σ H x y v u Q I rx ry h;obtain ⟨i,j,rfl,rfl,q⟩:=h;obtain ⟨t,rfl⟩:=rx;obtain ⟨t',rfl⟩:=ry;exact rule i j t t' s _ _ ⟨.int (g i j),H,I.tok _,⟨_,rfl⟩,q⟩
def aie{f:Value->Value->Sem Value}{g:Int->Int->Bool} (rule:∀(i j:Int) (t u:Tok) (s:Shared) (Q:Value->Shared->Prop) (E:Value->Shared->Prop),Q (.bool (g i j)) s->wpAny (model X.prog X.w) X.A (f (.int i t) (.int j u)) Q E s):
  qw X f (rI0 λ i j=> .bl (g i j)):=by
 intro pins s σ H x y v u Q I rx ry h;obtain ⟨i,j,rfl,rfl,q⟩:=h;obtain ⟨t,rfl⟩:=rx;obtain ⟨t',rfl⟩:=ry;exact rule i j t t' s _ _ ⟨.bl (g i j),H,I,rfl,q⟩
noncomputable def aqK(i j:Int):Prop:=0<=j/\j<=1000000/\i.natAbs<2^64
def aic:qw X (binaryOp .Add) (rI0 λ i j=> .int (i+j)):=aid λ _ _ _ _ _ _ _ q=>add_int q
def ah9:qw X (binaryOp .Sub) (rI0 λ i j=> .int (i- j)):=aid λ _ _ _ _ _ _ _ q=>sub_int q
def aeU:qw X (binaryOp .Mod) (rI (λ _ j=>j≠0) λ i j=> .int (i.fmod j)):=opI λ _ _ _ _ _ _ _ hc q=>mod_int' hc q
def aia:qw X (binaryOp .Pow) (rI aqK λ i j=> .int (i^j.toNat)):=opI λ _ _ _ _ _ _ _ hc q=>pow_int_small hc.1 hc.2.1 hc.2.2 q
def ah8:qw X (binaryOp .BitXor) (rI0 λ i j=> .int (Builtin.bitXor i j)):=aid λ _ _ _ _ _ _ _ q=>xor_int q
def unI{f:Value->Sem Value}{g:Int->Int} (rule:∀(i:Int) (t:Tok) (s:Shared) (Q:Value->Shared->Prop) (E:Value->Shared->Prop),Q (.int (g i) s.toks) {s with toks:=s.toks+1}->wpAny (model X.prog X.w) X.A (f (.int i t)) Q E s):
  UnR X f (rU λ i=> .int (g i)):=by
 intro pins s σ H x v Q I rx h;obtain ⟨i,rfl,q⟩:=h;obtain ⟨t,rfl⟩:=rx;exact rule i t s _ _ ⟨.int (g i),H,I.tok _,⟨_,rfl⟩,q⟩
def aho:UnR X (unaryOp .USub) (rU λ i=> .int (-i)):=unI λ _ _ _ _ _ q=>neg_int q
def ai1{pins:List (Addr×Obj)}{σ:St}{H:Hp}{s:Shared}{Q:VK}{k k':Bool}(I:Inv X pins σ H s)(q:Q (.bl k) H)(e:k=k'):EP X pins σ Q (.bool k') s:=by subst e;exact ⟨.bl k,H,I,rfl,q⟩
def U8:qw X (compareOp .Lt) (rI0 λ i j=> .bl (decide (i<j))):=aie λ _ _ _ _ _ _ _ q=>lt_int q
def z9:qw X (compareOp .LtE) (rI0 λ i j=> .bl (decide (i<=j))):=aie λ _ _ _ _ _ _ _ q=>le_int q
def aln:qw X (compareOp .Gt) (rI0 λ i j=> .bl (decide (j<i))):=aie λ _ _ _ _ _ _ _ q=>gt_int q
def WJ:qw X (compareOp .In) (λ x y H Q=>∃i j,x= .str i/\y= .str j/\Q (.bl (!(Builtin.Str.occurrences j i 0 j.length 1).isEmpty)) H):=by intro pins s σ H x y v u Q I rx ry h;obtain ⟨i,j,rfl,rfl,q⟩:=h;obtain ⟨t,rfl⟩:=rx;obtain ⟨t',rfl⟩:=ry;exact in_str (ai1 I q rfl)
def qw.or{f:Value->Value->Sem Value}{r r':R2}(h:qw X f r)(h':qw X f r'):qw X f (λ x y H Q=>r x y H Q\/r' x y H Q):=by
 intro pins s σ H x y v u Q I rx ry q;rcases q with q|q
 ·exact h pins s σ H x y v u Q I rx ry q
 ·exact h' pins s σ H x y v u Q I rx ry q
def rP(b:Expr){op:CmpOp}(h:op≠.In:=by decide)(h2:op≠.NotIn:=by decide):behindInMarks op b=false:=by
 have e1:(op==CmpOp.In)=false:=by cases op<;>first|rfl|exact absurd rfl h
 have e2:(op==CmpOp.NotIn)=false:=by cases op<;>first|rfl|exact absurd rfl h2
 cases b<;>simp[behindInMarks,e1,e2]
def aeM{op:CmpOp}{r:R2}(ho:qw X (compareOp op) r)(ha:PE X a ta)(hb:PE X b tb)(hm:behindInMarks op b=false):PE X (.Compare a [op] [b] pos) (tOp r ta tb):=by intro pins s σ H Q I h;exact wpAny_Compare1 (ajm ha hb I h λ v u s2 x y H2 I2 rx ry q=>ho pins s2 σ H2 x y v u Q I2 rx ry q) hm
def Y7(t:TE):TT:=λ σ H Q=>t σ H λ x H'=>∃k,x= .bl k/\Q k H'
def aew{op:CmpOp}{r:R2}(ho:qw X (compareOp op) r)(ha:PE X a ta)(hb:PE X b tb)(hm:behindInMarks op b=false):PT X (.Compare a [op] [b] pos) (Y7 (tOp r ta tb)):=by intro pins s σ H Q I h;refine wpAny_isTrue_Compare1 (fO (ha pins s σ H _ I h) λ v s1 ⟨x,H1,I1,r1,q1⟩=>fO (hb pins s1 σ H1 _ I1 q1) λ u s2 ⟨y,H2,I2,r2,q2⟩=>fO (ho pins s2 σ H2 x y v u _ I2 r1 r2 q2) λ c s3 ⟨z,H3,I3,r3,k,e,q3⟩=>?_) hm;subst e;cases r3;exact wpAny_truthy_bool ⟨H3,I3,q3⟩
def MW(r r':R2)(ta tb tc:TE):TE:=λ σ H Q=>ta σ H λ x H1=>tb σ H1 λ y H2=>r x y H2 λ z H3=>∃k,z= .bl k/\(if k=true then tc σ H3 λ w' H4=>r' y w' H4 Q else Q (.bl false) H3)
def ZN{op op':CmpOp}{r r':R2}(ho:qw X (compareOp op) r)(ho':qw X (compareOp op') r')(ha:PE X a ta)(hb:PE X b tb)(hc:PE X c tc) (hm:lastMarks [op,op'] [b,c]=false:=by with_unfolding_all rfl):PE X (.Compare a [op,op'] [b,c] pos) (MW r r' ta tb tc):=by
 intro pins s σ H Q I h;refine Compare_chain (fO (ha pins s σ H _ I h) λ v s1 ⟨x,H1,I1,r1,q1⟩=>chain_link (fO (hb pins s1 σ H1 _ I1 q1) λ u s2 ⟨y,H2,I2,r2,q2⟩=>fO (ho pins s2 σ H2 x y v u _ I2 r1 r2 q2) λ d s3 ⟨z,H3,I3,r3,k,e,q3⟩=>?_)) hm;subst e;cases r3;refine wpAny_truthy_bool ?_;cases k with
 |false=>exact ite_ff ⟨.bl false,H3,I3,rfl,q3⟩
 |true=>exact ite_tt (chain_last (fO (hc pins s3 σ H3 _ I3 q3) λ w' s4 ⟨z',H4,I4,r4,q4⟩=>ho' pins s4 σ H4 y z' u w' Q I4 r2 r4 q4))
def Zp{op op':CmpOp}{r r':R2}(ho:qw X (compareOp op) r)(ho':qw X (compareOp op') r')(ha:PE X a ta)(hb:PE X b tb)(hc:PE X c tc) (hm:lastMarks [op,op'] [b,c]=false:=by with_unfolding_all rfl):PT X (.Compare a [op,op'] [b,c] pos) (Y7 (MW r r' ta tb tc)):=by
 intro pins s σ H Q I h;refine isTrue_chain (fO (ha pins s σ H _ I h) λ v s1 ⟨x,H1,I1,r1,q1⟩=>test_link (fO (hb pins s1 σ H1 _ I1 q1) λ u s2 ⟨y,H2,I2,r2,q2⟩=>fO (ho pins s2 σ H2 x y v u _ I2 r1 r2 q2) λ d s3 ⟨z,H3,I3,r3,k,e,q3⟩=>?_)) hm;subst e;cases r3;refine wpAny_truthy_bool ?_;cases k with
 |false=>obtain ⟨k',e',q'⟩:=q3;cases e';exact ite_ff ⟨H3,I3,q'⟩
 |true=>refine ite_tt (test_last (fO (hc pins s3 σ H3 _ I3 q3) λ w' s4 ⟨z',H4,I4,r4,q4⟩=>fO (ho' pins s4 σ H4 y z' u w' _ I4 r2 r4 q4) λ d' s5 ⟨z2,H5,I5,r5,k2,e2,q5⟩=>?_));subst e2;cases r5;exact wpAny_truthy_bool ⟨H5,I5,q5⟩
def C4:(sizeLine:Nat)<2^63:=by rw[sizeLine_eq];decide
def Nl:qw X (binaryOp .Add) (λ x y H Q=>∃i j,x= .str i/\y= .str j/\i.length+j.length<=sizeLine/\Q (.str (i++j)) H):=by intro pins s σ H x y v u Q I rx ry h;obtain ⟨i,j,rfl,rfl,hz,q⟩:=h;obtain ⟨t,rfl⟩:=rx;obtain ⟨t',rfl⟩:=ry;exact add_str (λ t' tk=>⟨.str (i++j),H,I.tok _,⟨_,rfl⟩,q⟩) hz
def vals1{x:V}{us:List Value}(r:Vals [x] us):∃u,us=[u]/\RelV x u:=by
 cases r with
 |cons r1 r2=>cases r2;exact ⟨_,rfl,r1⟩
def vals2{x y:V}{us:List Value}(r:Vals [x,y] us):∃u w',us=[u,w']/\RelV x u/\RelV y w':=by
 cases r with
 |cons r1 r2=>
  cases r2 with
  |cons r3 r4=>cases r4;exact ⟨_,_,rfl,r1,r3⟩
def Yh(hc:X.calm=true):vE X (.builtin "max") (λ xs H Q=>∃i j,xs=[.int i,.int j]/\Q (.int (if j>i then j else i)) H):=by
 intro pins s σ H xs us Q I r h;obtain ⟨i,j,rfl,q⟩:=h;obtain ⟨u,w',rfl,⟨t,rfl⟩,⟨t',rfl⟩⟩:=vals2 r;refine max_two_ints (I.ok.hd hc) λ h' tk k=>⟨_,H,I.kept k,?_,q⟩;by_cases hj:j>i
 ·rw[if_pos hj,if_pos hj];exact ⟨_,rfl⟩
 ·rw[if_neg hj,if_neg hj];exact ⟨_,rfl⟩
def Yg(hc:X.calm=true):vE X (.builtin "min") (λ xs H Q=>∃i j,xs=[.int i,.int j]/\Q (.int (if j<i then j else i)) H):=by
 intro pins s σ H xs us Q I r h;obtain ⟨i,j,rfl,q⟩:=h;obtain ⟨u,w',rfl,⟨t,rfl⟩,⟨t',rfl⟩⟩:=vals2 r;refine min_two_ints (I.ok.hd hc) λ h' tk k=>⟨_,H,I.kept k,?_,q⟩;by_cases hj:j<i
 ·rw[if_pos hj,if_pos hj];exact ⟨_,rfl⟩
 ·rw[if_neg hj,if_neg hj];exact ⟨_,rfl⟩
def aqD(K:W.Frag)(x:V)(H:Hp)(n:Nat):Prop:=match x with
 | .str y=>y.length<=sizeLine/\n=y.length
 | .byt y=>y.size<=sizeLine/\n=y.size
 | .ref p=>(∃xs,vD K H p xs/\n=xs.length)\/∃xs,A7 K H p xs/\n=xs.length
 |_=>False
def abR:vE X (.builtin "len") (λ xs H Q=>∃x n,xs=[x]/\aqD X.K x H n/\Q (.int n) H):=by
 intro pins s σ H xs us Q I r h;obtain ⟨x,n,rfl,e,q⟩:=h;obtain ⟨u,rfl,rx⟩:=vals1 r;have hl:=C4;have hs:sizeLine=16777216:=sizeLine_eq;cases x with
 |str y=>obtain ⟨t,rfl⟩:=rx;obtain ⟨hy,e'⟩:y.length<=sizeLine/\n=y.length:=e;subst e';exact len_str (by omega) ⟨.int _,H,I.tok _,⟨_,rfl⟩,q⟩
 |byt y=>obtain ⟨t,rfl⟩:=rx;obtain ⟨hy,e'⟩:y.size<=sizeLine/\n=y.size:=e;subst e';exact W.len_bytes (by omega) ⟨.int _,H,I.tok _,⟨_,rfl⟩,q⟩
 |ref p=>
  cases rx;have e':(∃xs,vD X.K H p xs/\n=xs.length)\/∃xs,A7 X.K H p xs/\n=xs.length:=e;rcases e' with ⟨xs,hx,e'⟩|⟨xs,hx,e'⟩
  ·subst e';obtain ⟨its,r',pl,hz⟩:=I.list hx;have hlen:=r'.length;exact Calls.call_len_list pl.isList (by simp only[List.size_toArray];omega) ⟨.int xs.length,H,I.tok _,⟨_,by simp only[List.size_toArray];rw[hlen]⟩,q⟩
  ·subst e';obtain ⟨its,r',pl,hz⟩:=I.tuple hx;have hlen:=r'.length;exact len_tuple pl (by simp only[List.size_toArray];omega) ⟨.int xs.length,H,I.tok _,⟨_,by simp only[List.size_toArray];rw[hlen]⟩,q⟩
 |_=>exact (show False from e).elim
end
structure Ux(h:Heap)(x dx C:Addr)(mA:Str->Option Value):Prop where
 obj:h.get? x=some (W.instObj C dx)
 ns:h.Ns1 dx mA
 ne:dx≠x
def Xf{h:Heap}{dx:Addr}{mA:Str->Option Value}(n:h.Ns1 dx mA):∃od,h.get? dx=some od/\∀name,W.lookIn name od=some (mA name):=by
 obtain ⟨o,es,ep,ho,hd,hk,_,hm⟩:=n;refine ⟨o,ho,λ name=>?_⟩;have e:=hm name;unfold nsFind findBy at e;rw[<-Array.find?_toList] at e;unfold W.lookIn;rw[hd];dsimp only;split
 ·rename_i y q;rw[q] at e;exact congrArg some e
 ·rename_i q;rw[q] at e;have a:es.toList.any (·.refKey)=false:=by rw[List.any_eq_false];intro y hy;obtain ⟨z,t,hkey⟩:=hk y (Array.mem_toList_iff.mp hy);simp[DictEntry.refKey,hkey]
  have a':¬es.toList.any (·.refKey)=true:=by rw[a];exact Bool.false_ne_true
  rw[if_neg a'];exact congrArg some e
def Ux.look{h:Heap}{x dx C:Addr}{mA:Str->Option Value}(I:Ux h x dx C mA):∃od,W.InstAt h x (W.instObj C dx) C (some od)/\∀name,W.lookIn name od=some (mA name):=let ⟨od,ho,hl⟩:=Xf I.ns
 ⟨od,⟨I.obj,rfl,rfl,ho⟩,hl⟩
section
variable{prog:Program}{w:World}{A:Around}{E:Value->Shared->Prop}{s:Shared}{K:W.Frag}{x dx C f:Addr}{mA:Str->Option Value}{name:Str}{v:Value}
def get_map{expr:Bool}{Q:Value->Shared->Prop}(X:K.In s.heap)(I:Ux s.heap x dx C mA)(hg:W.plainGet K C name=true)(hh:W.hasDictIn K C=true) (ha:W.findIn K (.ref C) name=some none) (hv:mA name=some v) (hv':W.handedIn v=true) (h:Q v {s with toks:=s.toks+1}):
  wpAny (model prog w) A (getAttr (.ref x) name expr) Q E s:=by
 obtain ⟨od,J,hl⟩:=I.look;exact W.get_value X J (W.plainGet_of hg).1 (W.findObj_own hh ha rfl (by rw[hl,hv])) hv' h
def abb{pl:Sem Bool}{Q:Value×List Value->Shared->Prop}(X:K.In s.heap)(I:Ux s.heap x dx C mA)(hg:W.plainGet K C name=true) (hf:W.findIn K (.ref C) name=some (some (.ref f))) (ht:W.isFn K (.ref f)=true) (hv:mA name=none) (h:Q (.ref f,[.ref x]) s):
  wpAny (model prog w) A (getMethod (.ref x) name pl) Q E s:=by
 obtain ⟨od,J,hl⟩:=I.look;exact W.method_fn X J (W.plainGet_of hg).1 (W.plainGet_of hg).2 hf (beq_iff_eq.mp ht) (by show (W.lookIn name od).map (·.isSome)=some false;rw[hl,hv];rfl) h
def ael{ns:List Str}{Q:Unit->Shared->Prop}(X:K.In s.heap)(I:Ux s.heap x dx C mA) (hs:W.findIn K (.ref C) "__setattr__"=some (some (.builtin "object.__setattr__"))) (hp:W.plainOver K C=true) (ht:W.takerIn K C name=some none) (hh:W.hasDictIn K C=true) (hw:PySem.Within mA ns) (hsz:ns.length<=sizeLine) (h:∀h',Ux h' x dx C (λ y=>if y=name then some v else mA y)->Heap.SameBut dx s.heap h'->Q () {s with heap:=h',toks:=s.toks+2}):
  wpAny (model prog w) A (setAttr (.ref x) name v) Q E s:=by
 obtain ⟨od,J,hl⟩:=I.look;refine W.set_plain X J hs (W.osa_open (s:={s with toks:=s.toks+1}) (r:=none) X J hp ht λ b=>?_);obtain ⟨cd,hc,hd'⟩:=W.any_some hh;have hx:s.heap.get? x=some ⟨.ref C,some dx,.plain, #[]⟩:=I.obj;refine wpAny_bind (wpAny_pure (wpAny_bind (wpAny_bind (wpAny_loadPart hx (wpAny_bind (W.Looks.here (s:={s with toks:=s.toks+1}) (W.looks_clsIn X hc) ?_))))));rw[hd'];refine wpAny_pure (a:=some dx) (wpAny_bind (wpAny_pure (wpAny_bind ?_)));refine wpAny_nsSet1 (s:={s with toks:=s.toks+1}) I.ns λ h' hn2 hs2=>?_;obtain ⟨oD,esD,epD,hoD,hdD,hcD⟩:=hn2.count (PySem.Within.cons name v hw);refine wpAny_bind (wpAny_lookBehind hoD (by rw[hdD];exact pastItsLine_dict (Nat.le_trans hcD (by rw[List.length_cons];omega))) ?_);exact wpAny_pure (h _ ⟨(hs2.2 _ (Ne.symm I.ne)).trans I.obj,hn2,I.ne⟩ hs2)
def aam{R:Result->Shared->Prop}{vs:List Value}{kw:List (Str×Value)}(X:K.In s.heap)(hm:W.makesIn K C=true) (hi:W.findIn K (.ref C) "__init__"=some (some (.ref f))) (hf:W.typeIn K (.ref f)=some (.type "function")) (h:codeAny (model prog w) (A.under (.builtin "type.__call__" ⟨.ref C::vs,kw⟩)) (.call (.ref f) ⟨.ref (s.heap.objs.size+1)::vs,kw⟩) (W.InitBack (s.heap.objs.size+1) R) {s with heap:=(s.heap.push W.emptyDict).push (W.instObj C s.heap.objs.size)}):
  codeAny (model prog w) A (.call (.ref C) ⟨vs,kw⟩) R s:=by
 obtain ⟨hh,g,d,t,os⟩:=s;exact W.make_core (W.makes_of X hm) (W.looks_findIn X hi) (λ self=>W.bind_fn X self hf) (.inl rfl) h
end
def rH(f:Str)(v:V):List (Str×V)->List (Str×V)
 |[]=>[(f,v)]
 |(g,x)::r=>if g=f then (g,v)::r else (g,x)::rH f v r
def Ae(f g:Str)(v:V):∀fs:List (Str×V),(rH f v fs).lookup g=if g=f then some v else fs.lookup g
 |[]=>by
  show List.lookup g [(f,v)]=_;by_cases h:g=f
  ·have hb:(g==f)=true:=beq_iff_eq.mpr h;simp only[List.lookup,hb,if_pos h]
  ·have hb:(g==f)=false:=beq_eq_false_iff_ne.mpr h;simp only[List.lookup,hb,if_neg h]
 |(k,x)::r=>by
  have ih:=Ae f g v r;rw[show rH f v ((k,x)::r)=(if k=f then (k,v)::r else (k,x)::rH f v r) from rfl];by_cases hk:k=f
  ·rw[if_pos hk];by_cases h:g=k
   ·have hb:(g==k)=true:=beq_iff_eq.mpr h;simp only[List.lookup,hb,if_pos (h.trans hk)]
   ·have hb:(g==k)=false:=beq_eq_false_iff_ne.mpr h;simp only[List.lookup,hb,if_neg (λ e:g=f=>h (e.trans hk.symm))]
  ·rw[if_neg hk];by_cases h:g=k
   ·have hb:(g==k)=true:=beq_iff_eq.mpr h;simp only[List.lookup,hb,if_neg (λ e:g=f=>hk (h.symm.trans e))]
   ·have hb:(g==k)=false:=beq_eq_false_iff_ne.mpr h;simp only[List.lookup,hb];exact ih
def zL(f:Str)(v:V):∀fs:List (Str×V),f∈(rH f v fs).map (·.1)/\∀g,g∈fs.map (·.1)->g∈(rH f v fs).map (·.1)
 |[]=>⟨by simp[rH],λ g h=>by simp at h⟩
 |(k,x)::r=>by
  obtain ⟨i1,i2⟩:=zL f v r;rw[show rH f v ((k,x)::r)=(if k=f then (k,v)::r else (k,x)::rH f v r) from rfl];by_cases hk:k=f
  ·rw[if_pos hk];subst hk;exact ⟨by simp,λ g h=>by simpa using h⟩
  ·rw[if_neg hk];refine ⟨?_,λ g h=>?_⟩
   ·rw[List.map_cons];exact List.mem_cons_of_mem _ i1
   ·rw[List.map_cons] at h ⊢;rcases List.mem_cons.mp h with e|e
    ·exact List.mem_cons.mpr (.inl e)
    ·exact List.mem_cons_of_mem _ (i2 g e)
def Af(f:Str)(v:V):∀fs:List (Str×V),(rH f v fs).length<=fs.length+1
 |[]=>by simp[rH]
 |(k,x)::r=>by
  have ih:=Af f v r;rw[show rH f v ((k,x)::r)=(if k=f then (k,v)::r else (k,x)::rH f v r) from rfl];by_cases hk:k=f
  ·rw[if_pos hk,List.length_cons,List.length_cons];omega
  ·rw[if_neg hk,List.length_cons,List.length_cons];omega
def ur.some_of{v:V}{o:Option Value}(r:ur (some v) o):∃u,o=some u/\RelV v u:=by
 cases o with
 |none=>exact (show False from r).elim
 |some u=>exact ⟨u,rfl,r⟩
def ur.none_of{o:Option Value}(r:ur none o):o=none:=by
 cases o with
 |none=>rfl
 |some u=>exact (show False from r).elim
def XX{v:V}{u:Value}(r:RelV v u):W.handedIn u=true:=by
 cases v with
 |cY=>cases (show u=Value.none from r);rfl
 |bl b=>cases (show u=Value.bool b from r);rfl
 |int i=>obtain ⟨t,e⟩:=(show ∃t,u=Value.int i t from r);cases e;rfl
 |str x=>obtain ⟨t,e⟩:=(show ∃t,u=Value.str x t from r);cases e;rfl
 |byt b=>obtain ⟨t,e⟩:=(show ∃t,u=Value.bytes b t from r);cases e;rfl
 |flt b=>obtain ⟨t,e⟩:=(show ∃t,u=Value.float b t from r);cases e;rfl
 |ref a=>cases (show u=Value.ref a from r);rfl
 |ty n=>cases (show u=Value.type n from r);rfl
section
variable{P:Program}{w:World}{H H':Hp}{h h':Heap}{a C dx:Addr}{fs fs':List (Str×V)}
def Bp(hok:vf P w H h)(e:H a=some (.ins C dx fs)):∃mA,Ux h a dx C mA/\(∀f,ur (fs.lookup f) (mA f))/\PySem.Within mA (fs.map (·.1))/\fs.length<=1000/\H dx=some (.own a):=by obtain ⟨d,z,ne,ob,mA,n,r,q⟩:=(show d8 P w H h a (.ins C dx fs) from hok a _ e);exact ⟨mA,⟨ob,n,ne⟩,r,q,z,d⟩
end
structure zZ(K:W.Frag)(C:Addr):Prop where
 pg:W.plainGet K C Str.empty=true
 hd:W.hasDictIn K C=true
 po:W.plainOver K C=true
 sa:W.findIn K (.ref C) "__setattr__"=some (some (.builtin "object.__setattr__"))
def zZ.get{K:W.Frag}{C:Addr}(c:zZ K C)(f:Str):W.plainGet K C f=true:=c.pg
noncomputable def uv(K:W.Frag)(C:Addr)(f:Str):Prop:=W.findIn K (.ref C) f=some none
def uv.akL{K:W.Frag}{C:Addr}{f:Str}(n:uv K C f):W.takerIn K C f=some none:=by unfold W.takerIn;rw[show W.findIn K (.ref C) f=some none from n];rfl
structure Con(K:W.Frag)(C:Addr)(f:Str)(v:V)(u:Value):Prop where
 at_:W.findIn K (.ref C) f=some (some u)
 rel:RelV v u
 get:W.specialIn K u "__get__"=some none
 cp:W.copiedNames.contains f=false
structure Meth(K:W.Frag)(C:Addr)(m:Str)(f:Addr):Prop where
 at_:W.findIn K (.ref C) m=some (some (.ref f))
 fn:W.isFn K (.ref f)=true
 kp:W.keepIn K (.ref f)=true
section
variable{X:Cx}{pins:List (Addr×Obj)}{σ:St}{H:Hp}{s:Shared}{a C dx:Addr}{fs:List (Str×V)}{f:Str}{v:V}{A:Around}{E:Value->Shared->Prop}
def Ot{b:Bool}{Q:Value->Shared->Prop}(I:Inv X pins σ H s)(e:H a=some (.ins C dx fs))(c:zZ X.K C)(n:uv X.K C f)(l:fs.lookup f=some v) (h:∀u s',Inv X pins σ H s'->RelV v u->Q u s'):wpAny (model X.prog X.w) A (getAttr (.ref a) f b) Q E s:=by obtain ⟨mA,O,r,_,_,_⟩:=Bp I.hok e;obtain ⟨u,hu,ru⟩:=ur.some_of (v:=v) (o:=mA f) (by rw[<-l];exact r f);exact get_map I.Bl O (c.get f) c.hd n hu (XX ru) (h u _ (I.tok _) ru)
def Dj{m:Str}{g:Addr}{pl:Sem Bool}{Q:Value×List Value->Shared->Prop}(I:Inv X pins σ H s)(e:H a=some (.ins C dx fs))(c:zZ X.K C)(k:Meth X.K C m g)(l:fs.lookup m=none) (h:Q (.ref g,[.ref a]) s):wpAny (model X.prog X.w) A (getMethod (.ref a) m pl) Q E s:=by obtain ⟨mA,O,r,_,_,_⟩:=Bp I.hok e;have hn:mA m=none:=ur.none_of (by rw[<-l];exact r m);exact abb I.Bl O (c.get m) k.at_ k.fn hn h
def M8{y:V}{u:Value}{Q:Unit->Shared->Prop}(I:Inv X pins σ H s)(e:H a=some (.ins C dx fs))(c:zZ X.K C)(n:uv X.K C f)(hl:fs.length<1000)(ry:RelV y u) (h:∀s',Inv X pins σ (upd H a (.ins C dx (rH f y fs))) s'->Q () s'):wpAny (model X.prog X.w) A (setAttr (.ref a) f u) Q E s:=by
 obtain ⟨mA,O,r,wi,_,ho⟩:=Bp I.hok e;have hz:(fs.map (·.1)).length<=sizeLine:=by rw[List.length_map,sizeLine_eq];omega
 refine ael I.Bl O c.sa c.po n.akL c.hd wi hz λ h' O' sb=>h _ ?_;have hd:∃o,h'.get? dx=some o:=let ⟨o,_,_,e',_⟩:=O'.ns;⟨o,e'⟩
 refine I.write (x:=a) (e:=dx) (by rw[e];exact True.intro) (.inr ho) (λ b q hb z=>(sb.2 b hb).trans z) hd ?_;refine ⟨by rw[aF O.ne];exact ho,?_,O.ne,O'.obj,_,O'.ns,λ g=>?_,λ g hg=>?_⟩
 ·have:=Af f y fs;omega
 ·show ur ((rH f y fs).lookup g) (if g=f then some u else mA g);rw[Ae];by_cases q:g=f
  ·rw[if_pos q,if_pos q];exact ry
  ·rw[if_neg q,if_neg q];exact r g
 ·by_cases q:g=f
  ·rw[q];exact (zL f y fs).1
  ·refine (zL f y fs).2 g (wi g λ z=>hg ?_);show (if g=f then some u else mA g)=none;rw[if_neg q];exact z
def Inv.made(I:Inv X pins σ H s):Inv X pins σ (upd (upd H s.heap.objs.size (.own (s.heap.objs.size+1))) (s.heap.objs.size+1) (.ins C s.heap.objs.size [])) {s with heap:=(s.heap.push W.emptyDict).push (W.instObj C s.heap.objs.size)}:=by
 have e1:(s.heap.push W.emptyDict).get? s.heap.objs.size=some W.emptyDict:=Heap.get?_push_size s.heap rfl;have e2:((s.heap.push W.emptyDict).push (W.instObj C s.heap.objs.size)).get? (s.heap.objs.size+1)=some (W.instObj C s.heap.objs.size):=by have:=Heap.get?_push_size (s.heap.push W.emptyDict) (o:=W.instObj C s.heap.objs.size) rfl;rwa [Heap.size_push] at this
 have e3:(s.heap.push W.emptyDict).Ns s.heap.objs.size (λ _=>none):=⟨W.emptyDict, #[],_,e1,rfl,(λ e he=>absurd he (by simp)),λ _=>rfl⟩;have I1:=I.laid (a:=s.heap.objs.size) (o:= .own (s.heap.objs.size+1)) (h':=s.heap.push W.emptyDict) (t':=s.toks) (λ b u q=>Heap.get?_push_of_some _ q) (Nat.le_refl _) ⟨_,e1⟩;refine I1.laid (a:=s.heap.objs.size+1) (o:= .ins C s.heap.objs.size []) (t':=s.toks) (λ b u q=>Heap.get?_push_of_some _ q) (Nat.le_of_eq (Heap.size_push _ _)) ?_;have ne:s.heap.objs.size≠s.heap.objs.size+1:=Nat.ne_of_lt (Nat.lt_succ_self _);refine ⟨by rw[aF ne,aG],Nat.zero_le _,ne,e2,λ _=>none,(Heap.Ns1.of_empty e3).at λ o q=>Heap.get?_push_of_some _ q,λ _=>True.intro,λ y hy=>absurd rfl hy⟩
def afY{prog:Program}{w:World}{env:Env}{e:Expr}{f:Str}{pos:Pos}{s:Shared}{Q:Value->Shared->Prop}(hb:attributeBase e f env (eval e env)=eval e env) (h:wpAny (model prog w) A (eval e env) (λ o s₁=>wpAny (model prog w) A (getAttr o f true) Q E s₁) E s):wpAny (model prog w) A (eval (.Attribute e f pos) env) Q E s:=Attribute_any_ h (by rw[arm_eval_Attribute,hb])
end
def apc(K:W.Frag)(ta:TE)(f:Str):TE:=λ σ H Q=>ta σ H λ x H1=>∃a C dx fs v,x= .ref a/\H1 a=some (.ins C dx fs)/\zZ K C/\uv K C f/\fs.lookup f=some v/\Q v H1
def apg(K:W.Frag)(ta tv:TE)(f:Str):TS:=λ D σ H=>tv σ H λ y H1=>ta σ H1 λ x H2=>∃a C dx fs,x= .ref a/\H2 a=some (.ins C dx fs)/\zZ K C/\uv K C f/\fs.length<1000/\D.nx σ (upd H2 a (.ins C dx (rH f y fs)))
section
variable{X:Cx}{o e value:Expr}{f:Str}{pos pos' tpos:Pos}{ta tv:TE}
def ah6(he:PE X e ta)(hb:attributeBase e f X.env (eval e X.env)=eval e X.env):PE X (.Attribute e f pos) (apc X.K ta f):=by intro pins s σ H Q I h;refine afY hb (fO (he pins s σ H _ I h) λ u s1 ⟨x,H1,I1,rx,a,C,dx,fs,v,ex,ea,c,n,l,q⟩=>?_);subst ex;obtain rfl:u=Value.ref a:=rx;exact Ot I1 ea c n l λ u' s2 I2 ru=>⟨v,H1,I2,ru,q⟩
def ahV(ha:PE X o ta)(hv:PE X value tv)(hs:swapsWith value (some (.Attribute o f pos')) pos.line X.env=pure false):PS X (.Assign [.Attribute o f pos'] value pos) (apg X.K ta tv f):=by intro pins s σ H D I h;refine plainObj_wpAny_Assign_Attribute (fO (hv pins s σ H _ I h) λ u s1 ⟨y,H1,I1,ry,q⟩=>fO (ha pins s1 σ H1 _ I1 q) λ ov s2 ⟨x,H2,I2,rx,a,C,dx,fs,ex,ea,c,n,l,q2⟩=>?_) hs;subst ex;obtain rfl:ov=Value.ref a:=rx;exact M8 I2 ea c n l ry λ s3 I3=>⟨σ,_,I3,q2⟩
end
section
variable{X:Cx}{pins:List (Addr×Obj)}{σ:St}{H:Hp}{s:Shared}{A:Around}{E:Value->Shared->Prop}{Q:Value->Shared->Prop}{c:Value}{b:Bool}
inductive DU(K:W.Frag)(H:Hp):V->Value->Prop where
 |cY:DU K H .cY (.type "NoneType")
 |bl (x:Bool):DU K H (.bl x) (.type "bool")
 |int (i:Int):DU K H (.int i) (.type "int")
 |str (x:Str):DU K H (.str x) (.type "str")
 |flt (x:UInt64):DU K H (.flt x) (.type "float")
 |lst {a:Addr} {xs:List V} (e:H a=some (.lst xs)):DU K H (.ref a) (.type "list")
 |DZ {a:Addr} {o:Obj} {xs:List V} (e:H a=some (.DZ o (.lst xs))):DU K H (.ref a) (.type "list")
 |tup {a:Addr} {xs:List V} (e:H a=some (.tup xs)):DU K H (.ref a) (.type "tuple")
 |dK {a:Addr} {kvs:List (Key×V)} (e:H a=some (.dK kvs)):DU K H (.ref a) (.type "dict")
 |dT {a:Addr} {kvs:List (List Key×V)} (e:H a=some (.dT kvs)):DU K H (.ref a) (.type "dict")
 |ins {a C dx:Addr} {fs:List (Str×V)} (e:H a=some (.ins C dx fs)) (cl:zZ K C) (ha:W.findIn K (.ref C) "__class__"=some (some (.builtin "object.__class__")))
   (hn:W.specialIn K (.builtin "object.__class__") "__get__"=some (some (.builtin "getset_descriptor.__get__"))) (htk:W.takesIn K (.builtin "object.__class__")=some true)
   (hm:W.mroIn K C (.type "object")=some true):DU K H (.ref a) (.ref C)
end
structure fN(k:Nat)(A:Around):Prop where
 hd:A.handled=none
 dp:A.depth+3*k+5<recursionLimit
 un:A.units+16*k+200<cLine
def fN.mono{j k:Nat}{A:Around}(r:fN k A)(h:j<=k):fN j A:=⟨r.hd,by have:=r.dp;omega,by have:=r.un;omega⟩
def fN.deeper{k:Nat}{A:Around}(r:fN (k+1) A)(env:Env):fN k (A.deeper env):=⟨r.hd,by have:=r.dp;show A.depth+1+3*k+5<_;omega,by have:=r.un;show A.units+3+16*k+200<_;omega⟩
def NZ{A:Around}{C:Addr}{us:List Value}{kw:List (Str×Value)}:(A.under (.builtin "type.__call__" ⟨.ref C::us,kw⟩)).depth=A.depth+1:=by first|rfl|simp[Around.under,Code.weight,Code.isCreation,Code.isGuard,Code.isCaller,Code.frames,Code.isFrame,guardIds]
def NY{A:Around}{C:Addr}{us:List Value}{kw:List (Str×Value)}:(A.under (.builtin "type.__call__" ⟨.ref C::us,kw⟩)).units=A.units+1:=by first|rfl|simp[Around.under,Code.cUnits,Code.frames,Code.isFrame]
def fN.make{k:Nat}{A:Around}(r:fN (k+1) A)(C:Addr)(us:List Value)(kw:List (Str×Value)):fN k (A.under (.builtin "type.__call__" ⟨.ref C::us,kw⟩)):=⟨r.hd,by have:=r.dp;rw[NZ];omega,by have:=r.un;rw[NY];omega⟩
def fN.depth{k:Nat}{A:Around}(r:fN k A):A.depth<recursionLimit:=by have:=r.dp;omega
def fN.units{k:Nat}{A:Around}(r:fN k A):A.units+64<cLine:=by have:=r.un;omega
def ahu:TA:=λ _ H Q=>Q [] H
def Y8(ta:TE)(tr:TA):TA:=λ σ H Q=>ta σ H λ x H1=>tr σ H1 λ xs H2=>Q (x::xs) H2
section
variable{X:Cx}{e:Expr}{es:List Expr}{te:TE}{t:TA}{pos:Pos}
def zh:PA X [] ahu:=λ _ _ _ _ H Q I h=>Calls.spliced_nil ⟨[],H,I,.nil,h⟩
def nR(ha:PE X e te)(hr:PA X es t)(hs:starEach (e::es) X.env=(false,eval e X.env)::starEach es X.env:=by rfl):PA X (e::es) (Y8 te t):=by intro pos pins s σ H Q I h;rw[hs];show wpAny _ _ (spliced ((false,eval e X.env)::backTo pos (starEach es X.env))) _ _ s;refine Calls.spliced_cons (fO (ha pins s σ H _ I h) λ u s1 ⟨x,H1,I1,r1,q1⟩=>?_);exact fO (hr pos pins s1 σ H1 _ I1 q1) λ us s2 ⟨xs,H2,I2,r2,q2⟩=>⟨x::xs,H2,I2,.cons r1 r2,q2⟩
def ao3(t:TA):TE:=λ σ H Q=>t σ H λ xs H1=>xs.length<=sizeLine/\∀p,H1 p=none->Q (.ref p) (upd H1 p (.tup xs))
def ao9(t:TA):TE:=λ σ H Q=>t σ H λ xs H1=>xs.length<=sizeLine/\∀p,H1 p=none->Q (.ref p) (upd H1 p (.lst xs))
def ZI{x1}(h:PA X es t):PE X (.Tuple es x1 pos) (ao3 t):=by intro pins s σ H Q I hq;refine wpAny_Tuple_spliced (fO (h pos pins s σ H _ I hq) λ us s1 ⟨xs,H1,I1,r,z,q⟩=>⟨by rw[<-r.length];exact z,?_⟩);have hf:H1 s1.heap.objs.size=none:=I1.hok.fresh (Nat.le_refl _);refine ⟨.ref s1.heap.objs.size,upd H1 s1.heap.objs.size (.tup xs),I1.laid (t':=s1.toks) (λ b u e=>Heap.get?_push_of_some _ e) (Nat.le_refl _) ?_,rfl,q _ hf⟩;exact ⟨z,us,r,⟨_,Heap.get?_push_size _ rfl,rfl,_,rfl⟩⟩
def ah4(h:PA X es t):PE X (.List es pos) (ao9 t):=by intro pins s σ H Q I hq;refine wpAny_List_spliced (fO (h pos pins s σ H _ I hq) λ us s1 ⟨xs,H1,I1,r,z,q⟩=>⟨by rw[<-r.length];exact z,?_⟩);have hf:H1 s1.heap.objs.size=none:=I1.hok.fresh (Nat.le_refl _);refine ⟨.ref s1.heap.objs.size,upd H1 s1.heap.objs.size (.lst xs),I1.laid (t':=s1.toks) (λ b u e=>Heap.get?_push_of_some _ e) (Nat.le_refl _) ?_,rfl,q _ hf⟩;exact ⟨z,us,0,r,Heap.get?_push_size _ rfl⟩
end
abbrev Sp:=List V->Hp->VK->XK->Prop
abbrev CXT:=List Env->Hp->Shared->XK->Value->Shared->Prop
structure Uz(P:Program)(w:World)(K:W.Frag)(mg:Str->Option Value)(base:Heap)(A:Around)(outer:List Env)(s:Shared)(H:Hp):Prop where
 frames:A.frames=some outer
 mod:Mod K mg base
 bs:∀b o,base.get? b=some o->s.heap.get? b=some o/\H b=none
 bsz:base.objs.size<=s.heap.objs.size
 AU:s.heap.FunFrames base outer
 frf:∀b∈frs outer,H b=none
 hok:vf P w H s.heap
 bare:AllBare s.gens
def CE(outer:List Env)(P:Program)(w:World)(H:Hp)(s:Shared)(Q:VK)(u:Value)(s':Shared):Prop:=∃v H',s'.os=s.os/\AllBare s'.gens/\Un (frs outer) [] H H' s.heap s'.heap/\vf P w H' s'.heap/\RelV v u/\Q v H'
def CR(CX:CXT)(outer:List Env)(P:Program)(w:World)(H:Hp)(s:Shared)(Q:VK)(E:XK)(r:Result)(s':Shared):Prop:=match r with
 | .ok (.ret u)=>CE outer P w H s Q u s'
 | .ok _=>False
 | .error e=>CX outer H s E e s'
structure Uy(P:Program)(w:World)(K:W.Frag)(mg:Str->Option Value)(base:Heap)(CX:CXT)(k:Nat)(f:Addr)(fd:FuncData)(ps:List Str)(sp:Sp):Prop where
 len:∀vs H Q E,sp vs H Q E->vs.length=ps.length
 run:∀(A:Around) (outer:List Env) (s:Shared) (H:Hp) (args:Args) (us:List Value) (vs:List V) (Q:VK) (E:XK),fN k A->Uz P w K mg base A outer s H->BindsTo s fd args (ps.zip us)->Vals vs us->sp vs H Q E->
  codeAny (model P w) A (.call (.ref f) args) (CR CX outer P w H s Q E) s
def Uy.imp{P:Program}{w:World}{K:W.Frag}{mg:Str->Option Value}{base:Heap}{CX:CXT}{k:Nat}{f:Addr}{fd:FuncData}{ps:List Str}{sp sp':Sp}(F:Uy P w K mg base CX k f fd ps sp) (h:∀vs H Q E,sp' vs H Q E->sp vs H Q E):Uy P w K mg base CX k f fd ps sp':=⟨λ vs H Q E q=>F.len vs H Q E (h _ _ _ _ q),λ A outer s H args us vs Q E hr he hb hv hs=>F.run A outer s H args us vs Q E hr he hb hv (h _ _ _ _ hs)⟩
def Uz.make{P:Program}{w:World}{K:W.Frag}{mg:Str->Option Value}{base:Heap}{A:Around}{outer:List Env}{s:Shared}{H:Hp}(e:Uz P w K mg base A outer s H)(C:Addr)(us:List Value)(kw:List (Str×Value)):
  Uz P w K mg base (A.under (.builtin "type.__call__" ⟨.ref C::us,kw⟩)) outer s H:=⟨by first|exact e.frames|(simpa[Around.under,Code.envs,Code.isFrame,pushEnvs] using e.frames),e.mod,e.bs,e.bsz,e.AU,e.frf,e.hok,e.bare⟩
section
variable{X:Cx}{pins:List (Addr×Obj)}{σ:St}{H:Hp}{s s':Shared}
def Inv.ai7(I:Inv X pins σ H s):Uz X.prog X.w X.K X.mg X.base X.A X.stack s H:=⟨I.ok.frames,I.ok.mod,I.bs,Nat.le_trans I.ok.bsz I.sz,I.stack,I.A9,I.hok,I.bare⟩
def Inv.after{Q:VK}{u:Value}(I:Inv X pins σ H s)(h:CE X.stack X.prog X.w H s Q u s'):EP X pins σ Q u s':=by obtain ⟨v,H',os,bare,un,hok,r,q⟩:=h;obtain ⟨hh,g,d,t,os'⟩:=s';obtain rfl:os'=s.os:=os;exact ⟨v,H',I.call (h':=hh) (g':=g) (d':=d) (t':=t) (ch:=[]) un hok bare (λ b z=>absurd z (by simp)),r,q⟩
end
def Binds(K:W.Frag)(fd:FuncData)(ps:List Str)(ds:List Value):Prop:=∀(s:Shared) (us:List Value),K.In s.heap->(us++ds).length=ps.length->BindsTo s fd ⟨us,[]⟩ (ps.zip (us++ds))
def Binds.all{K:W.Frag}{fd:FuncData}{ps:List Str}(h:∀us:List Value,us.length=ps.length->bindArgs fd ⟨us,[]⟩=pure (ps.zip us)):Binds K fd ps []:=λ s us _ hl=>by rw[List.append_nil] at hl ⊢;exact .of_eq (h us hl)
section
variable{X:Cx}{CX:CXT}{k:Nat}{f C:Addr}{fd:FuncData}{ps:List Str}{sp:Sp}{dvs:List V}{ds:List Value}{E:XK}{x m:Str}{p pos apos:Pos}{e o:Expr}{es:List Expr}{ta:TE}{t:TA}
structure Mk(K:W.Frag)(C f:Addr):Prop where
 makes:W.makesIn K C=true
 init:W.findIn K (.ref C) "__init__"=some (some (.ref f))
 fn:W.isFn K (.ref f)=true
 kp:W.keepIn K (.ref C)=true
end
section
variable{X:Cx}{CX:CXT}{k:Nat}{f C:Addr}{fd:FuncData}{ps ks:List Str}{sp:Sp}{E:XK}{x m:Str}{p pos apos kpos:Pos}{e o:Expr}{es:List Expr}{kws:List Keyword}{te ta:TE}{t tk:TA}{nm:Option Str}
structure aqE(K:W.Frag)(fd:FuncData)(ps ks:List Str)(g:List Value->List Value->List Value)(gV:List V->List V->List V):Prop where
 to:∀(s:Shared) (us ws:List Value),K.In s.heap->(g us ws).length=ps.length->BindsTo s fd ⟨us,ks.zip ws⟩ (ps.zip (g us ws))
 rel:∀{vs:List V} {us:List Value} {zs:List V} {ws:List Value},Vals vs us->Vals zs ws->Vals (gV vs zs) (g us ws)
variable{g:List Value->List Value->List Value}{gV:List V->List V->List V}
end
structure qg(N P:List Str)(sc:Scope):Prop where
 kind:sc.kind= .function
 co:sc.isCoroutine=false
 gen:sc.isGenerator=false
 nd:N.Nodup
 pre:N.take P.length=P
 par:∀x∈P,sc.names.lookup x=some .local\/sc.names.lookup x=some .cell
 ain:∀y∈sc.names,y.2≠.free
def GH{kindOf:Str->Option NameKind}{x:Str}:∀{binds:List (Str×Value)} {m:Str->Option Value},(∀v,(x,v)∉binds)->bindL kindOf binds m x=m x
 |[],_,_=>rfl
 |(n,v)::r,m,h=>by
  unfold bindL;rw[GH λ w hw=>h w (List.mem_cons_of_mem _ hw)];split
  ·have:x≠n:=by rintro rfl;exact h v List.mem_cons_self
   simp[this]
  ·rfl
def GJ{kindOf:Str->Option NameKind}{x:Str}:∀{binds:List (Str×Value)} {m:Str->Option Value},(∀v,(x,v)∉binds)->bindC kindOf binds m x=m x
 |[],_,_=>rfl
 |(n,v)::r,m,h=>by
  unfold bindC;rw[GJ λ w hw=>h w (List.mem_cons_of_mem _ hw)];split
  ·rfl
  ·have:x≠n:=by rintro rfl;exact h v List.mem_cons_self
   simp[this]
def GI{kindOf:Str->Option NameKind}{x:Str}{v:Value}:∀{P:List Str} {vs:List Value} {i:Nat} {m:Str->Option Value},P.Nodup->P[i]? =some x->vs[i]? =some v->kindOf x=some .local->bindL kindOf (P.zip vs) m x=some v
 |[],_,_,_,_,h,_,_=>by simp at h
 |_::_,[],_,_,_,_,h,_=>by simp at h
 |p::P,w::vs,0,m,nd,h1,h2,hk=>by simp at h1 h2;subst h1;subst h2;show bindL kindOf ((p,w)::P.zip vs) m p=_;unfold bindL;rw[GH λ v hv=>(List.nodup_cons.mp nd).1 (List.of_mem_zip hv).1,if_pos hk];simp
 |p::P,w::vs,i+1,m,nd,h1,h2,hk=>by show bindL kindOf ((p,w)::P.zip vs) m x=_;unfold bindL;exact GI (i:=i) (List.nodup_cons.mp nd).2 (by simpa using h1) (by simpa using h2) hk
def GK{kindOf:Str->Option NameKind}{x:Str}{v:Value}:∀{P:List Str} {vs:List Value} {i:Nat} {m:Str->Option Value},P.Nodup->P[i]? =some x->vs[i]? =some v->kindOf x≠some .local->bindC kindOf (P.zip vs) m x=some v
 |[],_,_,_,_,h,_,_=>by simp at h
 |_::_,[],_,_,_,_,h,_=>by simp at h
 |p::P,w::vs,0,m,nd,h1,h2,hk=>by simp at h1 h2;subst h1;subst h2;show bindC kindOf ((p,w)::P.zip vs) m p=_;unfold bindC;rw[GJ λ v hv=>(List.nodup_cons.mp nd).1 (List.of_mem_zip hv).1,if_neg hk];simp
 |p::P,w::vs,i+1,m,nd,h1,h2,hk=>by show bindC kindOf ((p,w)::P.zip vs) m x=_;unfold bindC;exact GK (i:=i) (List.nodup_cons.mp nd).2 (by simpa using h1) (by simpa using h2) hk
def start(N:List Str)(vs:List V):St:=vs.map some++List.replicate (N.length- vs.length) none
def qu(CX:CXT)(P:Program)(w:World)(K:W.Frag)(mg:Str->Option Value)(base:Heap)(N:List Str)(qual:Str)(scope:Scope)(f:Addr)(cd:Value)(A:Around)(outer:List Env)(s:Shared)(H:Hp)(E:XK):Cx where
 prog:=P
 w:=w
 K:=K
 mg:=mg
 base:=base
 A:=A.deeper (envOfC qual scope s.heap.objs.size f cd)
 N:=N
 s₀:=s
 H₀:=H
 env:=envOfC qual scope s.heap.objs.size f cd
 outer:=outer
 stack:=envOfC qual scope s.heap.objs.size f cd::outer
 ex:=[]
 calm:=true
 fn:=λ _=>true
 pn:=[]
 xe:=λ e s'=>wpAny (model P w) (A.deeper (envOfC qual scope s.heap.objs.size f cd)) (leaving (envOfC qual scope s.heap.objs.size f cd) e) (λ _ s''=>CX outer H s E e s'') (λ e' s''=>CX outer H s E e' s'') s'
def Ma{sc:Scope}{n:Nat}{x:Str}(h:sc.names.lookup x=some .cell):∃c,(cellsFrom n sc.names []).lookup x=some c:=by have q:=W.cellsFrom_some sc.names n [] (.inl h);exact Option.isSome_iff_exists.mp q
def XD{CX:CXT}{P:Program}{w:World}{K:W.Frag}{mg:Str->Option Value}{base:Heap}{N ps:List Str}{qual:Str}{scope:Scope}{f:Addr}{cd:Value}{A:Around}{outer:List Env}{s s1:Shared}{H:Hp}{E:XK}{us:List Value}{vs:List V} (S:qg N ps scope) (hd:A.handled=none) (e0:Uz P w K mg base A outer s H) (hl:vs.length=ps.length) (r:Vals vs us) (x:InCallC s s.heap.objs.size (bindL (envOfC qual scope s.heap.objs.size f cd).kindOf (ps.zip us) λ _=>none) (cellsFrom (s.heap.objs.size+1) scope.names []) (bindC (envOfC qual scope s.heap.objs.size f cd).kindOf (ps.zip us) λ _=>none) s1):
  Inv (qu CX P w K mg base N qual scope f cd A outer s H E) [] (start N vs) H s1:=by
 have hpl:ps.length<=N.length:=by have:=congrArg List.length S.pre;rw[List.length_take] at this;omega
 obtain ⟨h1,tk,rfl,hk⟩:=x.done;have noA:∀b:Addr,b∉(qu CX P w K mg base N qual scope f cd A outer s H E).ex:=λ b z=>absurd (show b∈([]:List Addr) from z) (by simp);refine ⟨⟨e0.mod,S.kind,rfl,rfl,Nat.le_refl _,λ y z c h1 h2=>?_,λ y hy=>?_,λ y c _ h=>?_,λ _=>hd,Around.frames_deeper e0.frames,.inr ⟨rfl,rfl⟩,λ b z=>absurd z (noA b),e0.bs,e0.bsz,λ b _ _=>noA b,λ b z=>absurd z (noA b),e0.AU,e0.frf⟩,
  rfl,e0.bare,Un.kept hk,⟨_,x.toInCall.ns,λ i y v h1 h2 h3=>?_⟩,λ y c h=>⟨_,x.cell y c h⟩,e0.hok.fresh (Nat.le_refl _),λ y c h=>?_,λ p hp=>absurd (show p∈([]:List (Addr×Obj)) from hp) (by simp),e0.hok.kept hk,?_⟩
 ·exact name_of_addr x.apart (PySem.mem_of_lookup h1) (PySem.mem_of_lookup h2)
 ·have hy:scope.names.lookup y=some .cell\/scope.names.lookup y=some .free:=hy;rcases hy with hy|hy
  ·exact Ma hy
  ·exact absurd rfl (S.ain _ (PySem.mem_of_lookup hy))
 ·exact Nat.le_of_lt (x.above y c (PySem.mem_of_lookup h))
 ·have hi:i<vs.length:=by
   unfold start at h2;by_cases hi:i<vs.length
   ·exact hi
   ·rw[List.getElem?_append_right (by simpa using hi)] at h2;rw[List.getElem?_replicate] at h2;split at h2<;>cases h2
  have ha:vs[i]? =some v:=by
   unfold start at h2;rw[List.getElem?_append_left (by simpa using hi),List.getElem?_map] at h2;cases e:vs[i]? with
   |none=>rw[e] at h2;cases h2
   |some a=>rw[e] at h2;cases h2;rfl
  obtain ⟨u,hu,rv⟩:=r.get ha;have hp:ps[i]? =some y:=by rw[<-S.pre,List.getElem?_take_of_lt (by omega)];exact h1
  have ndP:ps.Nodup:=by rw[<-S.pre];exact S.nd.sublist (List.take_sublist _ _)
  refine ⟨u,rv,?_⟩;rcases S.par y (List.mem_of_getElem? hp) with k|k
  ·exact .inl ⟨k,GI ndP hp hu k⟩
  ·obtain ⟨c,e⟩:=Ma (n:=s.heap.objs.size+1) k;refine .inr ⟨.inl k,c,e,?_⟩;have q:=x.cell y c e;rw[GK ndP hp hu (by show scope.names.lookup y≠_;rw[k];decide)] at q;exact q
 ·exact e0.hok.fresh (Nat.le_of_lt (x.above y c (PySem.mem_of_lookup h)))
 ·unfold start;show _=N.length;rw[List.length_append,List.length_map,List.length_replicate];omega
def agv{CX:CXT}{P:Program}{w:World}{K:W.Frag}{mg:Str->Option Value}{base:Heap}{k:Nat}{f:Addr}{name qual:Str}{params:Arguments}{body:List Stmt}{scope:Scope}{dV kV doc pm cdv ct oc:Value}{an od:Option Addr} {osl:Array (Option Value)} {N ps:List Str} {sp:Sp} (lk:K.lookup f=some ⟨oc,od,.func (W.fnOf name qual params body scope dV kV doc pm an cdv ct),osl⟩) (hcd:W.codeIn K cdv qual=true) (S:qg N ps scope) (len:∀vs H Q E,sp vs H Q E->vs.length=ps.length) (hbody:∀(A:Around) (outer:List Env) (s:Shared) (H:Hp) (vs:List V) (Q:VK) (E:XK),fN k (A.deeper (envOfC qual scope s.heap.objs.size f cdv))->sp vs H Q E->∃t,ME (qu CX P w K mg base N qual scope f cdv A outer s H E) body t/\t {nx:=λ _ H'=>Q .cY H',rt:=Q} (start N vs) H):
  Uy P w K mg base CX (k+1) f (W.fnOf name qual params body scope dV kV doc pm an cdv ct) ps sp:=by
 refine ⟨len,λ A outer s H args us vs Q E hr e0 hb r J1=>?_⟩;have hl:=len _ _ _ _ J1;have KX:K.In s.heap:=e0.mod.kin.keeps λ b o e=>(e0.bs b o e).1;have lim:s.heap.NoLimit:=e0.mod.nolimit.keeps λ b o e=>(e0.bs b o e).1;have hkind:∀y∈ps.zip us,scope.names.lookup y.1=some .local\/(scope.names.lookup y.1=some .cell/\((cellsFrom (s.heap.objs.size+1) scope.names []).lookup y.1).isSome=true):=λ⟨n,v⟩ hy=>by
  rcases S.par n (List.of_mem_zip hy).1 with q|q
  ·exact .inl q
  ·exact .inr ⟨q,W.cellsFrom_some _ _ _ (.inl q)⟩
 refine codeAny_call_function hr.depth (KX _ _ lk) rfl S.co S.gen rfl (W.codeRec_of KX hcd) (hb _ _ _ _ ?_);refine wpAny_newFunctionEnv_cells S.kind hkind λ env he s1 x=>?_;subst he;refine ⟨lim.keeps x.toInCall.keep,codeAny_func ?_⟩;obtain ⟨t,ht,hq⟩:=hbody A outer s H vs Q E (hr.deeper _) J1;have I:Inv (qu CX P w K mg base N qual scope f cdv A outer s H E) [] (start N vs) H s1:=XD S hr.hd e0 hl r x;refine wpAny_mono (ht [] s1 (start N vs) H _ I hq) (λ fl s' hs=>?_) λ e s' hs=>hs;have fin:∀{σ':St} {H':Hp} {v:V} {u:Value},Inv (qu CX P w K mg base N qual scope f cdv A outer s H E) [] σ' H' s'->RelV v u->Q v H'->CE outer P w H s Q u s':=
  λ{σ' H' v u} J rv q=>⟨v,H',J.os,J.bare,J.base,J.hok,rv,q⟩
 cases fl with
 |ret u=>obtain ⟨v,σ',H',J,rv,q⟩:=hs;exact fin J rv q
 |next=>obtain ⟨σ',H',J,q⟩:=hs;exact fin (v:=V.cY) (u:=Value.none) J rfl q
 |brk=>obtain ⟨_,_,_,q⟩:=hs;exact False.elim q
 |cont=>obtain ⟨_,_,_,q⟩:=hs;exact False.elim q
section
variable{X:Cx}{x:Str}{p pos:Pos}{e:Expr}{es:List Expr}{t:TA}{id T:String}{r:List V->Hp->VK->Prop}
def tCB(r:List V->Hp->VK->Prop)(t:TA):TE:=λ σ H Q=>t σ H λ vs H1=>r vs H1 Q
def qV(hc:vE X (.builtin id) r)(hg:Gl X x)(hm:X.mg x=none)(hv:bootBuiltins x=some (.builtin id))(ha:PA X (e::es) t)(hn:x≠"__name__":=by decide)(hdb:(x==("__debug__":Str))=false:=by decide) (he:starEach (e::es) X.env=(false,eval e X.env)::starEach es X.env:=by rfl) (hpl:(backTo pos (starEach es X.env)).any (·.1)=false:=by rfl):PE X (.Call (.Name x p) (e::es) [] pos) (tCB r t):=by intro pins s σ H Q I h;refine wpAny_Call_Name_kw (C6 I hg hm hv ?_ hn hdb);exact PyProof.Rows.callWith_builtin1 (fO (ha pos pins s σ H _ I h) λ us s1 ⟨vs,H1,I1,r1,q1⟩=>hc pins s1 σ H1 vs us Q I1 r1 q1) he hpl
def FZ(hc:vE X (.type T) r)(hg:Gl X x)(hm:X.mg x=none)(hv:bootBuiltins x=some (.type T))(ha:PA X (e::es) t)(hn:x≠"__name__":=by decide)(hdb:(x==("__debug__":Str))=false:=by decide) (he:starEach (e::es) X.env=(false,eval e X.env)::starEach es X.env:=by rfl) (hpl:(backTo pos (starEach es X.env)).any (·.1)=false:=by rfl):PE X (.Call (.Name x p) (e::es) [] pos) (tCB r t):=by intro pins s σ H Q I h;refine wpAny_Call_Name_kw (C6 I hg hm hv ?_ hn hdb);exact PyProof.Rows.callWith_type1 (fO (ha pos pins s σ H _ I h) λ us s1 ⟨vs,H1,I1,r1,q1⟩=>hc pins s1 σ H1 vs us Q I1 r1 q1) he hpl
end
end L2
namespace HT
open PySem PyProof.Rows
def lexLt:List Int->List Int->Bool
 |[],[]=>false
 |[],_::_=>true
 |_::_,[]=>false
 |x::xs,y::ys=>if x=y then lexLt xs ys else decide (x<y)
def aiu(x y:Int)(xs ys:List Int):lexLt (x::xs) (y::ys)=if x=y then lexLt xs ys else decide (x<y):=rfl
def adw:lexLt [] []=false:=rfl
def aar(y:Int)(ys:List Int):lexLt [] (y::ys)=true:=rfl
def aas(x:Int)(xs:List Int):lexLt (x::xs) []=false:=rfl
section
open PySem.SeqAt
open PySem.AutoSeq1 (wpAny_loadPart')
open PySem.MeetsSeq PySem.MeetsSeq2 PySem.MeetsSeq3
end
section
variable{prog:Program}{w:World}{A:Around}{E:Value->Shared->Prop}{s:Shared}
def Ba(n d:Nat):Option Int->Nat
 |none=>d
 |some v=>if v<0 then (v+(n:Int)).toNat else min v.toNat n
def ak2(n d:Nat):Ba n d none=d:=rfl
end
end HT
namespace L2
open PySem PySem.Spec PyProof.Rows
abbrev TO:=St->Hp->(Option Int->Hp->Prop)->Prop
def PO(X:Cx)(e:Option Expr)(t:TO):Prop:=∀(pins:List (Addr×Obj)) (s:Shared) (σ:St) (H:Hp) (Q:Option Int->Hp->Prop),Inv X pins σ H s->t σ H Q->wpAny (model X.prog X.w) X.A (evalPart e X.env) (λ u s'=>∃o H',Inv X pins σ H' s'/\IsPart u o/\Q o H') X.xe s
def aeg:TO:=λ _ H Q=>Q none H
def akM(t:TE):TO:=λ σ H Q=>t σ H λ x H1=>∃i,x= .int i/\Q (some i) H1
section
variable{X:Cx}{e:Expr}{te:TE}{lo hi:Option Expr}{tl th:TO}{pos p2:Pos}
def aeB:PO X none aeg:=by intro pins s σ H Q I h;rw[evalPart_none];exact wpAny_pure ⟨none,H,I,.none,h⟩
def aeA(h:PE X e te):PO X (some e) (akM te):=by intro pins s σ H Q I hw;rw[evalPart_some];refine fO (h pins s σ H _ I hw) λ u s1 ⟨x,H1,I1,r1,q1⟩=>?_;obtain ⟨i,rfl,q⟩:=q1;obtain ⟨t,rfl⟩:=r1;exact ⟨some i,H1,I1,.int i t,q⟩
def SlR(X:Cx)(r:V->Option Int->Option Int->Hp->VK->Prop):Prop:=∀(pins:List (Addr×Obj)) (s:Shared) (σ:St) (H:Hp) (x:V) (v vl vu:Value) (lo hi:Option Int) (sl:Addr) (Q:VK),Inv X pins σ H s->RelV x v->s.heap.IsSliceOf sl vl vu .none->IsPart vl lo->IsPart vu hi->r x lo hi H Q->∃T id,typeLookup (.type T) "__getitem__"=pure (some (.builtin id))/\s.TypeIs v T/\wpAny (model X.prog X.w) X.A (getItem v (.ref sl)) (EP X pins σ Q) X.xe s
def tSl(r:V->Option Int->Option Int->Hp->VK->Prop)(te:TE)(tl th:TO):TE:=λ σ H Q=>te σ H λ x H1=>tl σ H1 λ l H2=>th σ H2 λ u H3=>r x l u H3 Q
def KA{r:V->Option Int->Option Int->Hp->VK->Prop}(hr:SlR X r)(he:PE X e te)(hl:PO X lo tl)(hu:PO X hi th):PE X (.Subscript e (.Slice lo hi none p2) pos) (tSl r te tl th):=by intro pins s σ H Q I h;refine Subscript_ (fO (he pins s σ H _ I h) λ v s1 ⟨x,H1,I1,r1,q1⟩=>?_);refine wpAny_Slice (fO (hl pins s1 σ H1 _ I1 q1) λ vl s2 ⟨l,H2,I2,pl,q2⟩=>fO (hu pins s2 σ H2 _ I2 q2) λ vu s3 ⟨u,H3,I3,pu,q3⟩=>?_);rw[evalPart_none];refine wpAny_pure ?_;have I4:Inv X pins σ H3 {s3 with heap:=s3.heap.push {cls:= .type "slice",data:= .fields #[vl,vu,.none]}}:=I3.kept (t':=s3.toks) λ b ob q=>Heap.get?_push_of_some _ q;obtain ⟨T,id,hT,ht,hg⟩:=hr pins {s3 with heap:=s3.heap.push {cls:= .type "slice",data:= .fields #[vl,vu,.none]}} σ H3 x v vl vu l u s3.heap.objs.size Q I4 r1 (Heap.IsSliceOf.new ..) pl pu q3;show wpAny (model X.prog X.w) X.A (subscriptTail e (.Slice lo hi none p2) v (.ref s3.heap.objs.size)) (EP X pins σ Q) X.xe {s3 with heap:=s3.heap.push {cls:= .type "slice",data:= .fields #[vl,vu,.none]}};exact tail_any (ops:=[.ref s3.heap.objs.size,v]) ht hT hg (by with_unfolding_all rfl)
def OM(xs:List V)(lo hi:Option Int):List V:=(xs.drop (HT.Ba xs.length 0 lo)).take (HT.Ba xs.length xs.length hi- HT.Ba xs.length 0 lo)
def L0(xs:List V)(lo hi:Option Int):(OM xs lo hi).length<=xs.length:=by unfold OM;rw[List.length_take,List.length_drop];omega
end
noncomputable def nZ(n:Nat)(i:Int):Option Nat:=if 0<=i then (if i<n then some i.toNat else none) else if -(n:Int)<=i then some (i+n).toNat else none
def qy{α:Type}(xs:List α)(i:Int):Option α:=(nZ xs.length i).bind λ j=>xs[j]?
def Vr{n:Nat}{i:Int}{j:Nat}(h:nZ n i=some j):seqIndex? i n=some j/\j<n/\ -(n:Int)<=i/\i<n:=by
 unfold nZ at h;by_cases h0:0<=i
 ·rw[if_pos h0] at h;by_cases h1:i<n
  ·rw[if_pos h1] at h;have e:i.toNat=j:=Option.some.inj h;exact ⟨by rw[seqIndex_of h0 h1,e],by omega,by omega,h1⟩
  ·rw[if_neg h1] at h;cases h
 ·rw[if_neg h0] at h;by_cases h1: -(n:Int)<=i
  ·rw[if_pos h1] at h;have e:(i+n).toNat=j:=Option.some.inj h;exact ⟨by rw[seqIndex_neg (by omega) h1,e],by omega,h1,by omega⟩
  ·rw[if_neg h1] at h;cases h
def JH{α:Type}{xs:List α}{i:Int}{v:α}(h:qy xs i=some v):∃j,seqIndex? i xs.length=some j/\xs[j]? =some v/\j<xs.length/\ -(xs.length:Int)<=i/\i<xs.length:=by
 unfold qy at h;cases e:nZ xs.length i with
 |none=>rw[e] at h;cases h
 |some j=>rw[e] at h;obtain ⟨h1,h2,h3,h4⟩:=Vr e;exact ⟨j,h1,h,h2,h3,h4⟩
noncomputable def JV(b:Expr):Prop:=∀o i,subscripted b false o i=operate [o,i] (getItem o i)
def IxR(X:Cx)(r:R2):Prop:=∀(value slice:Expr) (pins:List (Addr×Obj)) (s:Shared) (σ:St) (H:Hp) (x y:V) (v u:Value) (Q:VK),Inv X pins σ H s->RelV x v->RelV y u->r x y H Q->subscripted slice false v u=operate [v,u] (getItem v u)->wpAny (model X.prog X.w) X.A (subscriptTail value slice v u) (EP X pins σ Q) X.xe s
def MtR(X:Cx)(id:String)(r:V->List V->Hp->VK->Prop):Prop:=∀(pins:List (Addr×Obj)) (s:Shared) (σ:St) (H:Hp) (x:V) (xs:List V) (v:Value) (us:List Value) (Q:VK),Inv X pins σ H s->RelV x v->Vals xs us->r x xs H Q->wpAny (model X.prog X.w) X.A (call (.builtin id) (v::us)) (EP X pins σ Q) X.xe s
section
variable{X:Cx}{a b:Expr}{ta tb:TE}{pos:Pos}
def IxR.or{r r':R2}(h:IxR X r)(h':IxR X r'):IxR X (λ x y H Q=>r x y H Q\/r' x y H Q):=by
 intro value slice pins s σ H x y v u Q I rx ry q hs;rcases q with q|q
 ·exact h value slice pins s σ H x y v u Q I rx ry q hs
 ·exact h' value slice pins s σ H x y v u Q I rx ry q hs
def agg{r:R2}(hr:IxR X r)(ha:PE X a ta)(hb:PE X b tb)(hs:JV b):PE X (.Subscript a b pos) (tOp r ta tb):=by intro pins s σ H Q I h;exact Subscript_ (ajm ha hb I h λ v u s2 x y H2 I2 rx ry q=>hr a b pins s2 σ H2 x y v u Q I2 rx ry q (hs _ _))
def alb(K:W.Frag):R2:=λ x y H Q=>∃p xs i v,x= .ref p/\y= .int i/\vD K H p xs/\qy xs i=some v/\Q v H
def ak9(K:W.Frag):R2:=λ x y H Q=>∃p xs i v,x= .ref p/\y= .int i/\A7 K H p xs/\qy xs i=some v/\Q v H
def ala:R2:=λ x y H Q=>∃z i c,x= .str z/\y= .int i/\z.length<=sizeLine/\qy z.cps.toList i=some c/\Q (.str ⟨#[c]⟩) H
def afr:IxR X (alb X.K):=by
 intro value slice pins s σ H x y v u Q I rx ry h hs;obtain ⟨p,xs,i,z,rfl,rfl,hq,he,q⟩:=h;cases rx;obtain ⟨t,rfl⟩:=ry;obtain ⟨its,r,pl,hz⟩:=I.list hq;obtain ⟨j,h1,h2,h3,h4,h5⟩:=JH he;obtain ⟨w,ew,rw'⟩:=r.get h2;have hl:=r.length;have hn:=C4;have fin:EP X pins σ Q w s:=⟨z,H,I,rw',q⟩;by_cases h0:0<=i
 ·have hj:i.toNat=j:=by rw[seqIndex_of h0 h5] at h1;exact Option.some.inj h1
  exact item_listR pl.isList h0 (by omega) (by rw[hj];simpa using ew) fin hs
 ·have hj:(i+(its.toArray.size:Int)).toNat=j:=by rw[seqIndex_neg (by omega) h4] at h1;rw[List.size_toArray, <-hl];exact Option.some.inj h1
  exact subscriptTail_builtinR (x:=w) pl.isList.typeIs slot_list_getitem.lookup
   (wpAny_getItem_list_neg (Q:=λ r s'=>r=w/\EP X pins σ Q r s') pl.isList (by omega) (by rw[List.size_toArray]<;>omega) (by omega) (by rw[hj];simpa using ew) ⟨rfl,fin⟩) hs
def aiG:IxR X (ak9 X.K):=by
 intro value slice pins s σ H x y v u Q I rx ry h hs;obtain ⟨p,xs,i,z,rfl,rfl,hq,he,q⟩:=h;cases rx;obtain ⟨t,rfl⟩:=ry;obtain ⟨its,r,pl,hz⟩:=I.tuple hq;obtain ⟨j,h1,h2,h3,h4,h5⟩:=JH he;obtain ⟨w,ew,rw'⟩:=r.get h2;have hl:=r.length;have hn:=C4;have fin:EP X pins σ Q w s:=⟨z,H,I,rw',q⟩;exact subscriptTail_builtinR (x:=w) pl.typeIs slot_tuple_getitem.lookup
  (getItem_tuple (j:=j) (Q:=λ r s'=>r=w/\EP X pins σ Q r s') pl (by omega) (by omega) (by rw[List.size_toArray, <-hl];exact h1) (by simpa using ew) ⟨rfl,fin⟩) hs
def aiH:IxR X ala:=by
 intro value slice pins s σ H x y v u Q I rx ry h hs;obtain ⟨z,i,c,rfl,rfl,hz,he,q⟩:=h;obtain ⟨t,rfl⟩:=rx;obtain ⟨t',rfl⟩:=ry;obtain ⟨j,h1,h2,h3,h4,h5⟩:=JH he;have hl:z.cps.toList.length=z.length:=by simp[Str.length]
 rw[hl] at h1 h4 h5;have hn:=C4;exact tail_any (typeIs_str s z t) slot_str_getitem.lookup (getItem_str (c:=c) (by have e1:decide (i< -(2^63:Int))=false:=decide_eq_false (by omega);have e2:decide (i>=2^63)=false:=decide_eq_false (by omega);rw[e1,e2,Bool.or_false]) (by rw[h1];simpa using h2) ⟨.str ⟨#[c]⟩,H,I.tok _,⟨_,rfl⟩,q⟩) hs
def rIx(K:W.Frag):R2:=λ x y H Q=>alb K x y H Q\/ak9 K x y H Q\/ala x y H Q
def aaQ:IxR X (rIx X.K):=afr.or (aiG.or aiH)
def NX(its:List Value)(n j:Nat)(u:Value):Obj.mapSeq (·.setIfInBounds j u) {cls:= .type "list",data:= .seq its.toArray n}={cls:= .type "list",data:= .seq (its.set j u).toArray n}:=by simp[Obj.mapSeq]
def Inv.lst{pins:List (Addr×Obj)}{σ:St}{H:Hp}{s:Shared}{p:Addr}{xs:List V}(I:Inv X pins σ H s)(h:H p=some (.lst xs)):
  ∃(its:List Value) (n:Nat),Vals xs its/\s.heap.get? p=some {cls:= .type "list",data:= .seq its.toArray n}/\xs.length<=sizeLine:=by
 obtain ⟨z,its,n,r,e⟩:=I.hok p _ h;exact ⟨its,n,r,e,z⟩
def Inv.ait{pins:List (Addr×Obj)}{σ:St}{H:Hp}{s:Shared}{p:Addr}{xs ys:List V}{its its':List Value}{n n':Nat}{f:Obj->Obj}(I:Inv X pins σ H s)(h:H p=some (.lst xs)) (ho:s.heap.get? p=some {cls:= .type "list",data:= .seq its.toArray n}) (hf:f {cls:= .type "list",data:= .seq its.toArray n}={cls:= .type "list",data:= .seq its'.toArray n'}) (r:Vals ys its') (hz:ys.length<=sizeLine) (t:Nat):
  Inv X pins σ (upd H p (.lst ys)) {s with heap:=s.heap.update p f,toks:=t}:=by
 have e:(s.heap.update p f).get? p=some {cls:= .type "list",data:= .seq its'.toArray n'}:=by rw[Heap.get?_update_self f ho (by rw[hf]<;>rfl),hf]
 refine I.write (x:=p) (e:=p) (by rw[h];trivial) (.inl rfl) (λ b u hb q=>(Heap.get?_update_other _ _ (Ne.symm hb)).trans q) ⟨_,e⟩ ?_;exact ⟨hz,its',n',r,e⟩
def ak8:V->V->V->Hp->(Hp->Prop)->Prop:=λ o i v H Q=>∃p xs k j,o= .ref p/\i= .int k/\H p=some (.lst xs)/\nZ xs.length k=some j/\Q (upd H p (.lst (xs.set j v)))
def set_list:amY X ak8:=by
 intro pins s σ H o i v ov iv u Q I ro ri rv h;obtain ⟨p,xs,k,j,rfl,rfl,hp,hj,q⟩:=h;cases ro;obtain ⟨t,rfl⟩:=ri;obtain ⟨its,n,r,ho,hz⟩:=I.lst hp;obtain ⟨h1,h2,h3,h4⟩:=Vr hj;have hl:=r.length;have hn:=C4;have I':Inv X pins σ (upd H p (.lst (xs.set j v))) {s with heap:=s.heap.update p (Obj.mapSeq (·.setIfInBounds j u))}:=
  I.ait hp ho (NX its n j u) (r.set rv j) (by rw[List.length_set];exact hz) s.toks
 by_cases h0:0<=k
 ·have hk:k.toNat=j:=by rw[seqIndex_of h0 h4] at h1;exact Option.some.inj h1
  exact W.ki_setAt ho h0 (by omega) (by rw[List.size_toArray, <-hl];exact h4) (by rw[hk];exact ⟨_,I',q⟩)
 ·have hk:(k+(its.toArray.size:Int)).toNat=j:=by rw[seqIndex_neg (by omega) h3] at h1;rw[List.size_toArray, <-hl];exact Option.some.inj h1
  exact W.ki_setBack ho (by omega) (by rw[List.size_toArray, <-hl];exact h3) (by omega) (by rw[hk];exact ⟨_,I',q⟩)
def GU(lo hi:Option Int)(n:Nat):(sliceBounds lo hi none n).1=((HT.Ba n 0 lo:Nat):Int)/\(sliceBounds lo hi none n).2.1=((HT.Ba n n hi:Nat):Int)/\(sliceBounds lo hi none n).2.2=1:=by
 refine ⟨?_,?_,rfl⟩
 ·cases lo with
  |none=>simp[sliceBounds,HT.Ba]
  |some i=>
   simp only[sliceBounds,HT.Ba,Option.getD_none,show (1:Int)>0 by decide,if_true];by_cases h:i<0
   ·simp only[h,if_true]<;>omega
   ·simp only[h,if_false]<;>omega
 ·cases hi with
  |none=>simp[sliceBounds,HT.Ba]
  |some i=>
   simp only[sliceBounds,HT.Ba,Option.getD_none,show (1:Int)>0 by decide,if_true];by_cases h:i<0
   ·simp only[h,if_true]<;>omega
   ·simp only[h,if_false]<;>omega
def D3(its:List Value)(lo hi:Option Int):slicePick its.toArray lo hi none=((its.drop (HT.Ba its.length 0 lo)).take (HT.Ba its.length its.length hi- HT.Ba its.length 0 lo)).toArray:=by obtain ⟨h1,h2,h3⟩:=GU lo hi its.toArray.size;unfold slicePick;rw[h1,h2,h3];simp only[sliceRange_one,pick_run,List.size_toArray]<;>rfl
def apl(K:W.Frag):V->Option Int->Option Int->Hp->VK->Prop:=λ x lo hi H Q=>∃a xs,x= .ref a/\vD K H a xs/\∀p,H p=none->Q (.ref p) (upd H p (.lst (OM xs lo hi)))
def aei:SlR X (apl X.K):=by intro pins s σ H x v vl vu lo hi sl Q I rx hs pl pu h;obtain ⟨a,xs,rfl,hx,q⟩:=h;cases rx;obtain ⟨its,r,ht,hz⟩:=I.list hx;have hlen:=r.length;refine ⟨"list",_,slot_list_getitem.lookup,ht.isList.typeIs,?_⟩;refine wpAny_getItem_list_slice ht.isList hs pl pu .none (by simp) ?_ (by rw[List.size_toArray]<;>omega);rw[D3, <-hlen];refine ⟨.ref s.heap.objs.size,_,I.laid (t':=s.toks) (o:= .lst (OM xs lo hi)) (λ b ob q=>Heap.get?_push_of_some _ q) (Nat.le_refl _) ?_,rfl,q _ (I.hok.fresh (Nat.le_refl _))⟩;exact ⟨Nat.le_trans (L0 xs lo hi) hz,_,0,(r.drop (HT.Ba xs.length 0 lo)).take (HT.Ba xs.length xs.length hi- HT.Ba xs.length 0 lo),Heap.get?_push_size _ rfl⟩
noncomputable def vn:V->Bool
 | .cY=>true
 | .bl _=>true
 | .int _=>true
 | .str _=>true
 |_=>false
noncomputable def eqV:V->V->Bool
 | .cY,.cY=>true
 | .bl a,.bl b=>a==b
 | .bl a,.int b=>(if a then 1 else 0)==b
 | .int a,.bl b=>a==(if b then 1 else 0)
 | .int a,.int b=>a==b
 | .str a,.str b=>a==b
 |_,_=>false
def ai6{A:Around}{s:Shared}{y x:V}{u v:Value}(ry:RelV y u)(rx:RelV x v)(fy:vn y=true)(fx:vn x=true):SeqAt.EqAt A s u v (eqV y x):=by
 cases y with
 |cY=>
  cases ry;cases x with
  |cY=>cases rx;exact SeqAt.EqAt.same _
  |bl b=>cases rx;exact SeqAt.EqAt.none_bool b
  |int b=>obtain ⟨t,rfl⟩:=rx;exact SeqAt.EqAt.none_int b t
  |str b=>obtain ⟨t,rfl⟩:=rx;exact SeqAt.EqAt.none_str b t
  |_=>exact absurd (show false=true from fx) Bool.false_ne_true
 |bl a=>
  cases ry;cases x with
  |cY=>cases rx;exact SeqAt.EqAt.bool_none a
  |bl b=>cases rx;exact SeqAt.EqAt.bool_bool a b
  |int b=>obtain ⟨t,rfl⟩:=rx;exact SeqAt.EqAt.bool_int a b t
  |str b=>obtain ⟨t,rfl⟩:=rx;exact SeqAt.EqAt.bool_str a b t
  |_=>exact absurd (show false=true from fx) Bool.false_ne_true
 |int a=>
  obtain ⟨t',rfl⟩:=ry;cases x with
  |cY=>cases rx;exact SeqAt.EqAt.int_none a t'
  |bl b=>cases rx;exact SeqAt.EqAt.int_bool a t' b
  |int b=>obtain ⟨t,rfl⟩:=rx;exact SeqAt.EqAt.int_int a t' b t
  |str b=>obtain ⟨t,rfl⟩:=rx;exact SeqAt.EqAt.int_str a t' b t
  |_=>exact absurd (show false=true from fx) Bool.false_ne_true
 |str a=>
  obtain ⟨t',rfl⟩:=ry;cases x with
  |cY=>cases rx;exact SeqAt.EqAt.str_none a t'
  |bl b=>cases rx;exact SeqAt.EqAt.str_bool a t' b
  |int b=>obtain ⟨t,rfl⟩:=rx;exact SeqAt.EqAt.str_int a t' b t
  |str b=>obtain ⟨t,rfl⟩:=rx;exact SeqAt.EqAt.str_str a t' b t
  |_=>exact absurd (show false=true from fx) Bool.false_ne_true
 |_=>exact absurd (show false=true from fy) Bool.false_ne_true
def OE(x:V)(u:Value):Bool:=match u with
 | .none=>eqV .cY x
 | .bool b=>eqV (.bl b) x
 | .int i _=>eqV (.int i) x
 | .str z _=>eqV (.str z) x
 |_=>false
def abo{x y:V}{u:Value}(r:RelV y u)(f:vn y=true):OE x u=eqV y x:=by
 cases y with
 |cY=>cases r;rfl
 |bl b=>cases r;rfl
 |int i=>obtain ⟨t,rfl⟩:=r;rfl
 |str z=>obtain ⟨t,rfl⟩:=r;rfl
 |_=>exact absurd (show false=true from f) Bool.false_ne_true
def yM{x:V}:∀{xs:List V} {us:List Value},Vals xs us->xs.all vn=true->us.any (OE x)=xs.any λ y=>eqV y x
 |_,_,.nil,_=>rfl
 |y::xs,u::us,.cons r t,f=>by rw[List.all_cons,Bool.and_eq_true] at f;rw[List.any_cons,List.any_cons,abo r f.1,yM t f.2]
def tL{A:Around}{s:Shared}{x:V}{v:Value}(rx:RelV x v)(fx:vn x=true):∀{xs:List V} {us:List Value},Vals xs us->xs.all vn=true->∀u∈us,SeqAt.EqAt A s u v (OE x u)
 |_,_,.nil,_=>λ u hu=>by cases hu
 |y::xs,u::us,.cons r t,f=>λ u' hu=>by
  rw[List.all_cons,Bool.and_eq_true] at f;rcases List.mem_cons.mp hu with rfl|hu
  ·rw[abo r f.1];exact ai6 r rx f.1 fx
  ·exact tL rx fx t f.2 u' hu
def inV(x:V)(xs:List V):Bool:=xs.any λ y=>eqV y x
def rIn(K:W.Frag)(neg:Bool):R2:=λ x y H Q=>∃p xs,y= .ref p/\(vD K H p xs\/A7 K H p xs)/\vn x=true/\xs.all vn=true/\Q (.bl (if neg then !inV x xs else inV x xs)) H
def WK:qw X (compareOp .In) (rIn X.K false):=by
 intro pins s σ H x y v u Q I rx ry h;obtain ⟨p,xs,rfl,hq,fx,fs,q⟩:=h;cases ry;rcases hq with hq|hq
 ·obtain ⟨its,r,pl,hz⟩:=I.list hq;refine SeqAt.in_listAt (OE x) pl.isList (λ w hw=>tL rx fx r fs w (by simpa using hw)) ⟨.bl _,H,I,rfl,?_⟩;rw[show its.toArray.any (OE x)=its.any (OE x) by simp,yM r fs];exact q
 ·obtain ⟨its,r,pl,hz⟩:=I.tuple hq;refine SeqAt.in_tupleAt (OE x) pl (λ w hw=>tL rx fx r fs w (by simpa using hw)) ⟨.bl _,H,I,rfl,?_⟩;rw[show its.toArray.any (OE x)=its.any (OE x) by simp,yM r fs];exact q
def Hu:qw X (compareOp .NotIn) (rIn X.K true):=by
 intro pins s σ H x y v u Q I rx ry h;obtain ⟨p,xs,rfl,hq,fx,fs,q⟩:=h;cases ry;rcases hq with hq|hq
 ·obtain ⟨its,r,pl,hz⟩:=I.list hq;refine SeqAt.notIn_listAt (OE x) pl.isList (λ w hw=>tL rx fx r fs w (by simpa using hw)) ⟨.bl _,H,I,rfl,?_⟩;rw[show its.toArray.any (OE x)=its.any (OE x) by simp,yM r fs];exact q
 ·obtain ⟨its,r,pl,hz⟩:=I.tuple hq;refine SeqAt.notIn_tupleAt (OE x) pl (λ w hw=>tL rx fx r fs w (by simpa using hw)) ⟨.bl _,H,I,rfl,?_⟩;rw[show its.toArray.any (OE x)=its.any (OE x) by simp,yM r fs];exact q
def JB:vE X (.type "list") (λ xs H Q=>∃p ys,xs=[.ref p]/\(vD X.K H p ys\/A7 X.K H p ys)/\∀l,H l=none->Q (.ref l) (upd H l (.lst ys))):=by
 intro pins s σ H xs us Q I r h;obtain ⟨p,ys,rfl,hq,q⟩:=h;obtain ⟨u,rfl,rx⟩:=vals1 r;cases rx;have fin:∀(its:List Value),Vals ys its->ys.length<=sizeLine->∀(h':Heap) (c':Nat),(∀b o',s.heap.get? b=some o'->h'.get? b=some o')->
   h'.get? s.heap.objs.size=some {cls:= .type "list",dict:=none,data:= .seq its.toArray c',slots:= #[]}->EP X pins σ Q (.ref s.heap.objs.size) {s with heap:=h'}:=λ its r' hz h' c' kp e=>
  ⟨.ref s.heap.objs.size,_,I.laid (t':=s.toks) kp (Nat.le_refl _) (show d8 X.prog X.w _ h' _ (.lst ys) from ⟨hz,its,c',r',e⟩),rfl,q _ (I.hok.fresh (Nat.le_refl _))⟩
 rcases hq with hq|hq
 ·obtain ⟨its,r',pl,hz⟩:=I.list hq;have hlen:=r'.length;obtain ⟨o,ho,hc,n,hd⟩:=pl.isList;exact call_list_seq p (.inl rfl) ho hc hd (λ h' c' kp e=>fin its r' hz h' c' kp e) (by simp only[List.size_toArray]<;>omega)
 ·obtain ⟨its,r',pl,hz⟩:=I.tuple hq;have hlen:=r'.length;obtain ⟨o,ho,hc,n,hd⟩:=pl;exact call_list_seq p (.inr rfl) ho hc hd (λ h' c' kp e=>fin its r' hz h' c' kp e) (by simp only[List.size_toArray]<;>omega)
def Fq:vE X (.type "tuple") (λ xs H Q=>∃p ys,xs=[.ref p]/\((vD X.K H p ys/\∀l,H l=none->Q (.ref l) (upd H l (.tup ys)))\/(A7 X.K H p ys/\Q (.ref p) H))):=by
 intro pins s σ H xs us Q I r h;obtain ⟨p,ys,rfl,h⟩:=h;obtain ⟨u,rfl,rx⟩:=vals1 r;cases rx;rcases h with ⟨hq,q⟩|⟨hq,q⟩
 ·obtain ⟨its,r',pl,hz⟩:=I.list hq;have hlen:=r'.length;refine call_tuple_list pl.isList (λ h' kp=>?_) (by simp only[List.size_toArray]<;>omega);have I1:Inv X pins σ H {s with heap:=h'}:=I.kept (t':=s.toks) kp;have I2:Inv X pins σ (upd H h'.objs.size (.tup ys)) {s with heap:=h'.push {cls:= .type "tuple",data:= .seq its.toArray}}:=
   I1.laid (t':=s.toks) (λ b o e=>Heap.get?_push_of_some _ e) (Nat.le_refl _) (show d8 X.prog X.w _ _ _ (.tup ys) from ⟨hz,its,r',IsTup.new _ _⟩)
  exact ⟨.ref h'.objs.size,_,I2,rfl,q _ (I1.hok.fresh (Nat.le_refl _))⟩
 ·obtain ⟨its,r',pl,hz⟩:=I.tuple hq;exact call_tuple_same pl ⟨.ref p,H,I,rfl,q⟩
def tyV(K:W.Frag)(T:String)(x:V)(H:Hp):Prop:=match x with
 | .str _=>T="str"
 | .int _=>T="int"
 | .ref p=>(T="list"/\∃xs,vD K H p xs)\/(T="tuple"/\∃o,K.lookup p=some o/\o.cls= .type "tuple"/\o.dict=none)\/(T="dict"/\((∃kvs,H p=some (.dK kvs))\/∃kvs,H p=some (.dT kvs)))\/(T="set"/\∃S n,H p=some (.set S n))
 |_=>False
def ahq{pins:List (Addr×Obj)}{σ:St}{H:Hp}{s:Shared}{T:String}{x:V}{v:Value}(I:Inv X pins σ H s)(r:RelV x v)(ty:tyV X.K T x H):
  s.TypeIs v T/\∀a,v= .ref a->∃ob,s.heap.get? a=some ob/\ob.dict=none:=by
 cases x with
 |str z=>obtain ⟨t,rfl⟩:=r;cases (show T="str" from ty);exact ⟨typeIs_str s z t,λ _ e=>nomatch e⟩
 |int i=>obtain ⟨t,rfl⟩:=r;cases (show T="int" from ty);exact ⟨typeIs_int s i t,λ _ e=>nomatch e⟩
 |ref p=>
  cases r;rcases ty with ⟨rfl,xs,hq⟩|⟨rfl,o,hk,hc,hd⟩|⟨rfl,hk⟩|⟨rfl,S,n,hk⟩
  ·obtain ⟨its,_,pl,_⟩:=I.list hq;refine ⟨pl.isList.typeIs,λ a e=>?_⟩;cases e;obtain ⟨o,n,e,c,hd,_⟩:=pl;exact ⟨o,e,hd⟩
  ·refine ⟨⟨o,I.Bl p o hk,hc⟩,λ a e=>?_⟩;cases e;exact ⟨o,I.Bl _ o hk,hd⟩
  ·have z:∃o,s.heap.get? p=some o/\o.ExactDict:=by
    rcases hk with ⟨kvs,hk⟩|⟨kvs,hk⟩
    ·obtain ⟨_,_,_,_,o,_,_,e,ex,_⟩:=I.hok p _ hk;exact ⟨o,e,ex⟩
    ·obtain ⟨_,_,_,_,o,_,_,e,ex,_⟩:=I.hok p _ hk;exact ⟨o,e,ex⟩
   obtain ⟨o,e,ex⟩:=z;refine ⟨⟨o,e,ex.1⟩,λ a e2=>?_⟩;cases e2;exact ⟨o,e,ex.2.1⟩
  ·obtain ⟨o,_,_,_,e,ex,_⟩:=I.hok p _ hk;refine ⟨⟨o,e,ex.1⟩,λ a e2=>?_⟩;cases e2;exact ⟨o,e,ex.2.1⟩
 |_=>exact False.elim ty
def tBM(K:W.Frag)(T:String)(r:V->List V->Hp->VK->Prop)(to:TE)(t:TA):TE:=λ σ H Q=>to σ H λ x H1=>tyV K T x H1/\t σ H1 λ xs H2=>r x xs H2 Q
variable{o e:Expr}{es:List Expr}{to:TE}{t:TA}{name:Str}{apos cpos:Pos}{T id:String}{r:V->List V->Hp->VK->Prop}
def agh(pa:PlainAttrs T)(slot:Slot T name id)(hty:typeOf (.builtin id)=pure (.type "method_descriptor"))(hm:MtR X id r)(ho:PE X o to)(ha:PA X (e::es) t) (hbase:attributeBase o name X.env (eval o X.env)=eval o X.env:=by rfl) (hfew:((backTo cpos (starEach (e::es) X.env)).all (λ x=>!x.1)&&(backToKw cpos (keywordEach [] X.env)).all (λ x=>x.1.isSome)
   &&decide ((e::es).length+([]:List Keyword).length+(if ([]:List Keyword).isEmpty then 0 else 1)<30))=true:=by rfl)
  (hline:(apos.endLine==cpos.line)=true:=by rfl) (hs:starEach (e::es) X.env=(false,eval e X.env)::starEach es X.env:=by rfl) (hplain:(backTo cpos (starEach es X.env)).any (·.1)=false:=by rfl):
  PE X (.Call (.Attribute o name apos) (e::es) [] cpos) (tBM X.K T r to t):=by
 intro pins s σ H Q I h;refine wpAny_Call_method_late hbase hfew hline rfl (fO (ho pins s σ H _ I h) λ v s1 ⟨x,H1,I1,r1,ty,q1⟩=>?_);obtain ⟨h1,h2⟩:=ahq I1 r1 ty;refine ⟨T,id,pa,slot,hty,h1,h2,?_⟩;have hA:=ha cpos pins s1 σ H1 _ I1 q1;rw[hs] at hA ⊢;refine Calls.callWith_builtin (by show (false||(backTo cpos (starEach es X.env)).any (·.1))=false;rw[hplain]<;>rfl) (Calls.evalArgs_plain ?_);exact fO hA λ us s2 ⟨vs,H2,I2,r2,q2⟩=>hm pins s2 σ H2 x vs v us Q I2 r1 r2 q2
end
def MtM(X:Cx)(id:String)(r:V->List V->Hp->VK->Prop):Prop:=∀(pins:List (Addr×Obj)) (s:Shared) (σ:St) (H:Hp) (x:V) (xs:List V) (v:Value) (us:List Value) (Q:VK),Inv X pins σ H s->RelV x v->Vals xs us->r x xs H Q->wpAny (model X.prog X.w) X.A (call (.builtin id) (v::us)) (EP X pins σ Q) X.xe s
def Vals.one:∀{x:V} {us:List Value},Vals [x] us->∃u,us=[u]/\RelV x u
 |_,_,.cons r .nil=>⟨_,rfl,r⟩
section
variable{X:Cx}{pins:List (Addr×Obj)}{σ:St}{H:Hp}{s:Shared}{l b:Addr}{xs ys zs:List V}
def Inv.apJ{its its':List Value}{n:Nat}{f:Array Value->Array Value}{t':Nat}(I:Inv X pins σ H s)(hH:H l=some (.lst xs)) (e:s.heap.get? l=some {cls:= .type "list",data:= .seq its.toArray n}) (hf:f its.toArray=its'.toArray) (hv:Vals ys its') (hz:ys.length<=sizeLine):
  Inv X pins σ (upd H l (.lst ys)) {s with heap:=s.heap.update l (Obj.mapSeq f),toks:=t'}:=by
 have q:=PySem.IsL.update e f;rw[hf] at q;refine I.write (x:=l) (e:=l) (by rw[hH];exact trivial) (.inl rfl) (λ b' u hb hu=>(Heap.get?_update_other s.heap (Obj.mapSeq f) (Ne.symm hb)).trans hu) ⟨_,q⟩ ?_;exact ⟨hz,its',_,hv,q⟩
def Inv.apK{its:List Value}{t':Nat}(I:Inv X pins σ H s)(hv:Vals ys its)(hz:ys.length<=sizeLine):
  Inv X pins σ (upd H s.heap.objs.size (.lst ys)) {s with heap:=s.heap.push {cls:= .type "list",data:= .seq its.toArray},toks:=t'}:=
 I.laid (λ _ _ q=>Heap.get?_push_of_some _ q) (Nat.le_refl _) ⟨hz,its,0,hv,Heap.get?_push_size _ rfl⟩
def Inv.fresh(I:Inv X pins σ H s):H s.heap.objs.size=none:=I.hok.fresh (Nat.le_refl _)
def Inv.apI(I:Inv X pins σ H s)(hH:H l=some (.lst xs)):xs.length<=sizeLine/\∃(its:List Value) (n:Nat),Vals xs its/\xs.length=its.length/\s.heap.get? l=some {cls:= .type "list",data:= .seq its.toArray n}:=by obtain ⟨z,its,n,r,e⟩:=I.hok l _ hH;exact ⟨z,its,n,r,r.length,e⟩
end
section
variable{X:Cx}
def UW:V->List V->Hp->VK->Prop:=λ x vs H Q=>∃l xs y,x= .ref l/\vs=[y]/\H l=some (.lst xs)/\xs.length<sizeLine/\Q .cY (upd H l (.lst (xs++[y])))
def zD:MtM X "list.append" UW:=by intro pins s σ H x vs v us Q I rx rv h;obtain ⟨l,xs,y,rfl,rfl,hH,hz,q⟩:=h;cases rx;obtain ⟨u,rfl,ru⟩:=rv.one;obtain ⟨z,its,n,r,hl,e⟩:=I.apI hH;refine call_meets F.slot_list_append ⟨_,e,rfl⟩ F.entry_list_append (F.args_list_append_2 _ _) (PySem.list_append l its.toArray n u (by rw[List.size_toArray];omega)) ⟨e,?_⟩;refine ⟨.cY,_,I.apJ (its':=its++[u]) hH e (by simp) (r.append (.cons ru .nil)) ?_,rfl,q⟩;rw[List.length_append,List.length_singleton];omega
end
section
variable{prog:Program}{w:World}{A:Around}{E:Value->Shared->Prop}{s:Shared}
end
section
variable{X:Cx}
end
section
variable{κ:Type} [DecidableEq κ]
noncomputable def oJ(kvs:List (κ×V))(k:κ):Option V:=(kvs.find? λ kv=>decide (kv.1=k)).map (·.2)
def putK(kvs:List (κ×V))(k:κ)(v:V):List (κ×V):=if (kvs.any λ kv=>decide (kv.1=k))=true then kvs.map (λ kv=>if kv.1=k then (kv.1,v) else kv) else kvs++[(k,v)]
def akG{k:κ}:oJ ([]:List (κ×V)) k=none:=rfl
def BK{p:κ×V}{r:List (κ×V)}{k:κ}(e:p.1=k):oJ (p::r) k=some p.2:=by simp[oJ,List.find?_cons,e]
def BL{p:κ×V}{r:List (κ×V)}{k:κ}(e:¬p.1=k):oJ (p::r) k=oJ r k:=by simp[oJ,List.find?_cons,e]
def BN(k:κ):∀kvs:List (κ×V),(kvs.any λ kv=>decide (kv.1=k))=(oJ kvs k).isSome
 |[]=>rfl
 |p::r=>by
  rw[List.any_cons];by_cases e:p.1=k
  ·simp only[BK e,decide_eq_true e,Bool.true_or,Option.isSome_some]
  ·rw[BL e,decide_eq_false e,Bool.false_or];exact BN k r
def tQ(kvs:List (κ×V))(k:κ)(v:V):(putK kvs k v).length<=kvs.length+1:=by
 unfold putK;split
 ·rw[List.length_map];omega
 ·rw[List.length_append,List.length_cons,List.length_nil];omega
def ur.Xy{o:Option V}{u:Option Value}(r:ur o u):o.isSome=u.isSome:=by
 cases o with
 |none=>cases u with
  |none=>rfl
  |some _=>exact (show False from r).elim
 |some _=>cases u with
  |none=>exact (show False from r).elim
  |some _=>rfl
def KV.val{kvs:List (κ×V)}{vs:List (κ×Value)}(r:KV kvs vs)(k:κ):ur (oJ kvs k) (valueAt vs k):=by
 unfold KV at r;induction r with
 |nil=>exact True.intro
 | @cons p q ps qs h t ih=>
  obtain ⟨h1,h2⟩:=h;by_cases e:p.1=k
  ·have e':q.1=k:=h1.symm.trans e;have b:valueAt (q::qs) k=some q.2:=by simp[valueAt,List.find?_cons,e']
   rw[BK e,b];exact h2
  ·have e':¬q.1=k:=λ z=>e (h1.trans z);have b:valueAt (q::qs) k=valueAt qs k:=by simp[valueAt,List.find?_cons,e']
   rw[BL e,b];exact ih
def KV.any{kvs:List (κ×V)}{vs:List (κ×Value)}(r:KV kvs vs)(k:κ):(kvs.any λ kv=>decide (kv.1=k))=vs.any λ kv=>decide (kv.1=k):=by
 unfold KV at r;induction r with
 |nil=>rfl
 |cons h t ih=>rw[List.any_cons,List.any_cons,ih,h.1]
def KV.repl{kvs:List (κ×V)}{vs:List (κ×Value)}(r:KV kvs vs)(k:κ){y:V}{u:Value}(ry:RelV y u):
  KV (kvs.map λ kv=>if kv.1=k then (kv.1,y) else kv) (vs.map λ kv=>if kv.1=k then (kv.1,u) else kv):=by
 unfold KV at r ⊢;induction r with
 |nil=>exact .nil
 | @cons p q ps qs h t ih=>
  rw[List.map_cons,List.map_cons];refine .cons ?_ ih;obtain ⟨h1,h2⟩:=h;by_cases e:p.1=k
  ·rw[if_pos e,if_pos (h1.symm.trans e)];exact ⟨h1,ry⟩
  ·rw[if_neg e,if_neg (λ z=>e (h1.trans z))];exact ⟨h1,h2⟩
def KV.put{kvs:List (κ×V)}{vs:List (κ×Value)}(r:KV kvs vs)(k:κ){y:V}{u:Value}(ry:RelV y u):KV (putK kvs k y) (stored vs k u):=by
 unfold putK stored;rw[r.any k];by_cases e:(vs.any λ kv=>decide (kv.1=k))=true
 ·rw[if_pos e,if_pos e];exact r.repl k ry
 ·rw[if_neg e,if_neg e];exact Paired.snoc r ⟨rfl,ry⟩
def KV.length{kvs:List (κ×V)}{vs:List (κ×Value)}(r:KV kvs vs):kvs.length=vs.length:=Paired.length r
end
def aaO{P:Program}{w:World}{k:Key}{u:Value}(r:RelV (kV k) u):(fG P w).is k u=true:=by
 cases k with
 |inl i=>obtain ⟨t,e⟩:=(show ∃t,u=Value.int i t from r);subst e;exact Lc P w i t
 |inr x=>obtain ⟨t,e⟩:=(show ∃t,u=Value.str x t from r);subst e;exact Lb P w x t
def Gf{P:Program}{w:World}:∀{ks:List Key} {us:List Value},Vals (ks.map kV) us->ItemsAre (fG P w) ks us
 |[],_,r=>by rw[List.map_nil] at r;cases r;exact .nil
 |k::ks,_,r=>by
  rw[List.map_cons] at r;cases r with
  |cons h t=>exact .cons (aaO h) (Gf t)
abbrev KT(H:Hp):List (List Key×V)->List (List Key×Addr×Value)->Prop:=Paired λ p q=>p.1=q.1/\H q.2.1=some (.tup (p.1.map kV))/\RelV p.2 q.2.2
def KT.val{H:Hp}{kvs:List (List Key×V)}{xs:List (List Key×Addr×Value)}(r:KT H kvs xs)(k:List Key):ur (oJ kvs k) ((atKey xs k).map (·.2)):=by
 induction r with
 |nil=>exact True.intro
 | @cons p q ps qs h t ih=>
  obtain ⟨h1,_,h2⟩:=h;by_cases e:p.1=k
  ·have e':q.1=k:=h1.symm.trans e;have b:atKey (q::qs) k=some q.2:=by simp[atKey,List.find?_cons,e']
   rw[BK e,b];exact h2
  ·have e':¬q.1=k:=λ z=>e (h1.trans z);have b:atKey (q::qs) k=atKey qs k:=by simp[atKey,List.find?_cons,e']
   rw[BL e,b];exact ih
def KT.repl{H:Hp}{kvs:List (List Key×V)}{xs:List (List Key×Addr×Value)}(r:KT H kvs xs)(k:List Key){y:V}{u:Value}(ry:RelV y u):
  KT H (kvs.map λ kv=>if kv.1=k then (kv.1,y) else kv) (xs.map (putAt k u)):=by
 induction r with
 |nil=>exact .nil
 | @cons p q ps qs h t ih=>
  rw[List.map_cons,List.map_cons];refine .cons ?_ ih;obtain ⟨h1,h2,h3⟩:=h;unfold putAt;by_cases e:p.1=k
  ·rw[if_pos e,if_pos (h1.symm.trans e)];exact ⟨h1,h2,ry⟩
  ·rw[if_neg e,if_neg (λ z=>e (h1.trans z))];exact ⟨h1,h2,h3⟩
def KT.put{H:Hp}{kvs:List (List Key×V)}{xs:List (List Key×Addr×Value)}(r:KT H kvs xs)(k:List Key){b:Addr}{y:V}{u:Value}(hb:H b=some (.tup (k.map kV)))(ry:RelV y u):
  KT H (putK kvs k y) (storedH xs k b u):=by
 have e:(kvs.any λ kv=>decide (kv.1=k))=(atKey xs k).isSome:=by rw[BN,(r.val k).Xy,Option.isSome_map]
 unfold putK storedH;rw[e];by_cases q:(atKey xs k).isSome=true
 ·rw[if_pos q,if_pos q];exact r.repl k ry
 ·rw[if_neg q,if_neg q];exact Paired.snoc r ⟨rfl,hb,ry⟩
def KT.keeps{H H':Hp}{kvs:List (List Key×V)}{xs:List (List Key×Addr×Value)}(r:KT H kvs xs)(ht:∀b ys,H b=some (.tup ys)->H' b=some (.tup ys)):KT H' kvs xs:=Paired.afe r λ _ _ z=>⟨z.1,ht _ _ z.2.1,z.2.2⟩
section
variable{P:Program}{w:World}{H:Hp}{h:Heap}{a:Addr}
def agd{u:HO}(ok:vf P w H h)(e:Rd H a u):d8 P w H h a u:=e.ok ok
def agy{kvs:List (Key×V)}(ok:vf P w H h)(e:Rd H a (.dK kvs)):kvs.length<=sizeLine/\(a==sysModules)=false/\∃vs,KV kvs vs/\h.DictOf (fG P w) a vs:=show d8 P w H h a (.dK kvs) from agd ok e
def agz{kvs:List (Key×V)}(ok:vf P w H h)(e:H a=some (.dK kvs)):kvs.length<=sizeLine/\(a==sysModules)=false/\∃vs,KV kvs vs/\h.DictOf (fG P w) a vs:=agy ok (.inl e)
def aaJ{ks:List Key}(ok:vf P w H h)(e:H a=some (.tup (ks.map kV))):(tupleKind (fG P w)).is h ks a:=by obtain ⟨_,its,r,o,h1,h2,n,h3⟩:=(show d8 P w H h a (.tup (ks.map kV)) from ok a _ e);exact ⟨o,its.toArray,n,h1,h2,h3,by simpa using Gf r⟩
def agx{kvs:List (List Key×V)}(ok:vf P w H h)(e:Rd H a (.dT kvs)):kvs.length<=sizeLine/\(a==sysModules)=false/\∃xs,KT H kvs xs/\h.DictOfH (tupleKind (fG P w)) a xs:=by
 obtain ⟨z,y,xs,r,o,es,ep,h1,h2,h3,h4,h5⟩:=(show d8 P w H h a (.dT kvs) from agd ok e);refine ⟨z,y,xs,r,o,es,ep,h1,h2,h3,h4,λ x hx=>?_,h5⟩;have all:∀{l:List (List Key×V)} {m:List (List Key×Addr×Value)},KT H l m->∀x∈m,(tupleKind (fG P w)).is h x.1 x.2.1:=by
  intro l m q;induction q with
  |nil=>intro x hx;exact nomatch hx
  | @cons p q ps qs hq t ih=>
   intro x hx;rcases List.mem_cons.mp hx with e|hx
   ·subst e;exact aaJ ok (by rw[<-hq.1];exact hq.2.1)
   ·exact ih x hx
 exact all r x hx
def al9{kvs:List (List Key×V)}(ok:vf P w H h)(e:H a=some (.dT kvs)):kvs.length<=sizeLine/\(a==sysModules)=false/\∃xs,KT H kvs xs/\h.DictOfH (tupleKind (fG P w)) a xs:=agx ok (.inl e)
end
def am3(H:Hp)(a:Addr)(y v:V)(H':Hp):Prop:=(∃kvs k,H a=some (.dK kvs)/\y=kV k/\kvs.length<sizeLine/\H'=upd H a (.dK (putK kvs k v)))\/∃kvs k b,H a=some (.dT kvs)/\y= .ref b/\H b=some (.tup (k.map kV))/\kvs.length<sizeLine/\H'=upd H a (.dT (putK kvs k v))
section
variable{X:Cx}{pins:List (Addr×Obj)}{σ:St}{H:Hp}{s:Shared}{a:Addr}{y v:V}{u r:Value}{o:Option V}{A:Around}{E:Value->Shared->Prop}
def Inv.big(I:Inv X pins σ H s):sysModules<s.heap.objs.size:=by have h:mainGlobals<s.heap.objs.size:=(I.mod.glob.keeps I.bk).lt;exact Nat.lt_trans (by decide) h
def Jl{h':Heap}{t':Nat}{ob:HO}(I:Inv X pins σ H s)(mu:Mut (H a))(hs:Heap.SameBut a s.heap h')(he:∃q,h'.get? a=some q)(new:d8 X.prog X.w (upd H a ob) h' a ob):
  Inv X pins σ (upd H a ob) {s with heap:=h',toks:=t'}:=
 I.write (x:=a) (e:=a) mu (.inl rfl) (λ b q hb z=>(hs.2 b hb).trans z) he new
def abv{P:Program}{w:World}{H':Hp}{h':Heap}{kvs:List (Key×V)}{vs:List (Key×Value)}(z:kvs.length<=sizeLine)(hd:(a==sysModules)=false)(rel:KV kvs vs)(dd:h'.DictOf (fG P w) a vs):
  d8 P w H' h' a (.dK kvs):=⟨z,hd,vs,rel,dd⟩
def X8{H':Hp}{Q:Unit->Shared->Prop}(hu:A.units+1<cLine)(I:Inv X pins σ H s)(g:am3 H a y v H')(ry:RelV y u)(rv:RelV v r)(h:∀s',Inv X pins σ H' s'->Q () s'):
  wpAny (model X.prog X.w) A (setItem (.ref a) u r) Q E s:=by
 rcases g with ⟨kvs,k,e,ey,l,eH⟩|⟨kvs,k,b,e,ey,eb,l,eH⟩
 ·subst ey eH;obtain ⟨z,hd,vs,rel,dd⟩:=agz I.hok e;have hz:vs.length<=sizeLine:=by rw[<-rel.length];exact z
  have hl:(putK kvs k v).length<=sizeLine:=by have:=tQ kvs k v;omega
  refine wpAny_setItem_pairs (hsz:=hz) (aaO ry) dd λ h' dd' hs=>h _ ?_;have he:∃q,h'.get? a=some q:=let ⟨q,_,_,hq,_⟩:=dd';⟨q,hq⟩
  exact Jl I (by rw[e];exact True.intro) hs he (abv hl hd (rel.put k rv) dd')
 ·subst ey eH;cases (show u=Value.ref b from ry);obtain ⟨z,hd,xs,rel,dd⟩:=al9 I.hok e;have hz:xs.length<=sizeLine:=by rw[<-Paired.length rel];exact z
  have hl:(putK kvs k v).length<=sizeLine:=by have:=tQ kvs k v;omega
  refine wpAny_setItem_heap (hsz:=hz) (tupleKind_room_in1 hu) (aaJ I.hok eb) dd λ h' dd' hs=>h _ ?_;obtain ⟨q,es,ep,hq,h2,h3,h4,_,h5⟩:=dd';refine Jl I (by rw[e];exact True.intro) hs ⟨q,hq⟩ ⟨hl,hd,_,(rel.put k eb rv).keeps λ c ys ec=>?_,q,es,ep,hq,h2,h3,h4,h5⟩;rw[aF (alC ec e (λ z=>nomatch z))];exact ec
end
section
variable{X:Cx}{pins:List (Addr×Obj)}{σ:St}{H:Hp}{s:Shared}{a:Addr}{kvs:List (Key×V)}{k:Key}{u:Value}{A:Around}{E:Value->Shared->Prop}
end
def ak3(td ty tv:TE):TS:=λ D σ H=>tv σ H λ v H1=>td σ H1 λ x H2=>ty σ H2 λ y H3=>∃a H4,x= .ref a/\am3 H3 a y v H4/\D.nx σ H4
section
variable{X:Cx}{o i e value:Expr}{pos pos' tpos:Pos}{td ty tv:TE}
def aez(hu:X.A.units+1<cLine)(ho:PE X o td)(hi:PE X i ty)(hv:PE X value tv)(hs:swapsWith value (some (.Subscript o i pos')) pos.line X.env=pure false):
  PS X (.Assign [.Subscript o i pos'] value pos) (ak3 td ty tv):=by
 intro pins s σ H D I h;refine wpAny_Assign_Subscript (fO (hv pins s σ H _ I h) λ r s1 ⟨v,H1,I1,rv,q1⟩=>fO (ho pins s1 σ H1 _ I1 q1) λ u s2 ⟨x,H2,I2,rx,q2⟩=>fO (hi pins s2 σ H2 _ I2 q2) λ iv s3 ⟨y,H3,I3,ry,a,H4,ex,g,q3⟩=>?_) hs;subst ex;obtain rfl:u=Value.ref a:=rx;exact X8 hu I3 g ry rv λ s4 I4=>⟨σ,H4,I4,q3⟩
end
def abw{P:Program}{w:World}{H:Hp}(h:Heap)(hb:sysModules<h.objs.size):d8 P w H (h.push {cls:= .type "dict",data:= .dict #[]}) h.objs.size (.dK []):=⟨Nat.zero_le _,beq_eq_false_iff_ne.mpr (Ne.symm (Nat.ne_of_lt hb)),[],.nil,Heap.DictOf.new h⟩
def abr{P:Program}{w:World}{H:Hp}(h:Heap)(hb:sysModules<h.objs.size):d8 P w H (h.push {cls:= .type "dict",data:= .dict #[]}) h.objs.size (.dT []):=⟨Nat.zero_le _,beq_eq_false_iff_ne.mpr (Ne.symm (Nat.ne_of_lt hb)),[],.nil,_, #[],0,Heap.get?_push_size _ rfl,⟨rfl,rfl,rfl⟩,rfl,rfl,List.nodup_nil⟩
def ahx:TE:=λ _ H Q=>∀p,H p=none->Q (.ref p) (upd H p (.dK []))
def ahw:TE:=λ _ H Q=>∀p,H p=none->Q (.ref p) (upd H p (.dT []))
section
variable{X:Cx}{pos:Pos}
def ZL:PE X (.Dict [] [] pos) ahx:=λ pins s σ H Q I h=>wpAny_Dict_empty ⟨.ref s.heap.objs.size,_,I.laid (a:=s.heap.objs.size) (o:= .dK []) (t':=s.toks) (λ _ _ q=>Heap.get?_push_of_some _ q) (Nat.le_refl _) (abw s.heap I.big),rfl,h _ (I.hok.fresh (Nat.le_refl _))⟩
def ZK:PE X (.Dict [] [] pos) ahw:=λ pins s σ H Q I h=>wpAny_Dict_empty ⟨.ref s.heap.objs.size,_,I.laid (a:=s.heap.objs.size) (o:= .dT []) (t':=s.toks) (λ _ _ q=>Heap.get?_push_of_some _ q) (Nat.le_refl _) (abr s.heap I.big),rfl,h _ (I.hok.fresh (Nat.le_refl _))⟩
end
structure M1(X:Cx)(o:Expr)(m:Str)(apos:Pos)(e:Expr)(cpos:Pos):Prop where
 base:attributeBase o m X.env (eval o X.env)=eval o X.env
 few:((backTo cpos (starEach [e] X.env)).all (λ x=>!x.1)&&(backToKw cpos (keywordEach [] X.env)).all (λ x=>x.1.isSome)
  &&decide (([e]:List Expr).length+([]:List Keyword).length+(if ([]:List Keyword).isEmpty then 0 else 1)<30))=true
 line:(apos.endLine==cpos.line)=true
 trees:backTo cpos (starEach [e] X.env)=[(false,eval e X.env)]
structure M2(X:Cx)(o:Expr)(m:Str)(apos:Pos)(e f:Expr)(cpos:Pos):Prop where
 base:attributeBase o m X.env (eval o X.env)=eval o X.env
 few:((backTo cpos (starEach [e,f] X.env)).all (λ x=>!x.1)&&(backToKw cpos (keywordEach [] X.env)).all (λ x=>x.1.isSome)
  &&decide (([e,f]:List Expr).length+([]:List Keyword).length+(if ([]:List Keyword).isEmpty then 0 else 1)<30))=true
 line:(apos.endLine==cpos.line)=true
 trees:backTo cpos (starEach [e,f] X.env)=[(false,eval e X.env),(false,eval f X.env)]
def IsD(H:Hp)(a:Addr):Prop:=(∃kvs,Rd H a (.dK kvs))\/∃kvs,Rd H a (.dT kvs)
def aaU{X:Cx}{pins:List (Addr×Obj)}{σ:St}{H:Hp}{s:Shared}{a:Addr}(I:Inv X pins σ H s)(d:IsD H a):
  s.TypeIs (.ref a) "dict"/\(∀b,Value.ref a= .ref b->∃ob,s.heap.get? b=some ob/\ob.dict=none)/\(a==sysModules)=false:=by
 rcases d with ⟨kvs,e⟩|⟨kvs,e⟩
 ·obtain ⟨_,hd,vs,_,dd⟩:=agy I.hok e;refine ⟨dd.typeIs,λ b q=>?_,hd⟩;cases q;obtain ⟨ob,_,_,h1,h2,_⟩:=dd;exact ⟨ob,h1,h2.2.1⟩
 ·obtain ⟨_,hd,xs,_,dd⟩:=agx I.hok e;refine ⟨dd.typeIs,λ b q=>?_,hd⟩;cases q;obtain ⟨ob,_,_,h1,h2,_⟩:=dd;exact ⟨ob,h1,h2.2.1⟩
section
variable{X:Cx}{pins:List (Addr×Obj)}{σ:St}{H:Hp}{s:Shared}{a:Addr}{y d:V}{u r:Value}{o:Option V}{A:Around}{E:Value->Shared->Prop}
end
section
variable{X:Cx}{o e f:Expr}{apos cpos:Pos}{td ty tx:TE}
end
section
variable{X:Cx}{pins:List (Addr×Obj)}{σ:St}{H:Hp}{s:Shared}{a:Addr}{kvs:List (Key×V)}{A:Around}{E:Value->Shared->Prop}
end
section
variable{X:Cx}{pins:List (Addr×Obj)}{σ:St}{H:Hp}{s:Shared}{a:Addr}{y:V}{u:Value}{A:Around}{E:Value->Shared->Prop}
end
end L2
namespace Att
open PySem PySem.W PySem.Calls PyProof.Rows
def AO{P:Params}{h:Heap}:∀(ns:List Int) (vs:List Value),WellAll P h vs (ns.map WData.int)->IntsAre vs ns:=by
 intro ns;induction ns with
 |nil=>intro vs w;rw[List.map_nil] at w;cases w;exact .nil
 |cons n ns ih=>
  intro vs w;rw[List.map_cons] at w;cases w with
  |cons a b=>cases a;exact .cons _ _ (ih _ b)
def Wc{l:OpenLaw}{n:Nat}(hn:l.most=some n){P:Params}{h:Heap}{args:List WData}{vals:List Value} (hpre:l.row.toRowW.claim.pre args=true) (hwl:WellAll P h vals args):
  ∃a vs ns,vals=[Value.ref a]/\args=[WData.list (ns.map WData.int)]/\h.get? a=some {cls:= .type "list",data:= .seq vs.toArray}/\IntsAre vs ns/\ns.length<=n:=by
 have hsh:WShape.hasAll [] args [.list .int]=true:=(pre_splitW hpre).1;have hc:l.pre.holds [] {args:=args}=true:=(pre_splitW hpre).2;obtain ⟨d,r,rfl,h1,h2⟩:=hasAllW_cons hsh;obtain rfl:=hasAllW_nil h2;obtain ⟨xs,rfl,h3⟩:=hasW_list h1;obtain ⟨ns,rfl⟩:=items_int h3;have hlen:ns.length<=n:=by
  unfold OpenLaw.pre at hc;have h4:(WTm.not (.lt (.lit (.int (n:Int))) (.len (.arg 0)))).holds [] {args:=[.list (ns.map .int)]}=true:=by have h4:=(holds_andW hc).1;rw[hn] at h4;exact h4
  have h5:=condW_of h4 (w_not (w_lt w_lit (w_len_list (w_arg rfl))));rw[List.length_map] at h5;refine Nat.le_of_not_lt λ q=>?_;have q':(n:Int)<((ns.length:Nat):Int):=by omega
  first
   |(rw[decide_eq_true q'] at h5;exact absurd h5 (by decide))
   |(simp at h5;omega)
 cases hwl with
 |cons w1 w2=>
  cases w2;cases w1 with
  |list ho hall=>exact ⟨_,_,ns,rfl,rfl,ho,AO ns _ hall,hlen⟩
def Wq(l:OpenLaw)(args:List WData):l.row.toRowW.claim.post args (.bool true) args=true:=postW_of (r:=l.row.toRowW) (X:=(true==true))
  (show WShape.has [] (.bool true) .bool=true by first|rfl|decide|simp[WShape.has,WShape.arms,WShape.armsAll])
  (show (WTm.eq .res (.lit (.bool true))).value [] {args:=args,res:=some (.bool true),after:=args}=some (.bool (true==true)) from w_eq_bool (w_res rfl) w_lit) rfl
def Mr{l:OpenLaw}{n:Nat}{q:Program}{loose:List Str}{XP:(Str->Option Value)->Heap->Prop}{YP:World->Heap->Prop}{d:DefRec} (hn:l.most=some n) (hdf:d.params.defaults=[]) (call:∀(w:World) (s₀ s₁:Shared) (mg mb:Str->Option Value) (fa:Addr) (o:Obj) (pm cd doc:Value) (a:Addr) (vs:List Value) (ns:List Int),Ground q loose [] XP w s₀ mg mb s₁.heap->YP w s₁.heap->s₁.heap.get? fa=some o->o.data= .func (docDef d.name d.params d.body d.scope pm cd doc)->s₁.heap.CodeRec cd d.name->mg d.name=some (.ref fa)->s₁.heap.get? a=some {cls:= .type "list",data:= .seq vs.toArray}->IntsAre vs ns->ns.length<=n->s₁.gens= #[]->codeAny (model l.prog w) callerA (.call (.ref fa) ⟨[.ref a],[]⟩) (λ r s'=>r= .ok (.ret (.bool true))/\OldK s₁.heap s'.heap/\s'.os=s₁.os/\AllBare s'.gens) s₁):
  WalkO q loose XP YP l.row.toRowW d [] (λ f vs=>PySem.call f vs):=by
 intro w s₀ s₁ mg mb G Y fa o pm cd doc dV kV ho hd hcd hD hmg hg args vals as hpre hlay hrd hwl hlo;obtain rfl:dV= .none:=Dflts.none hD hdf;obtain rfl:kV= .none:=Dflts.noKw hD;obtain ⟨a,vs,ns,rfl,rfl,hobj,hints,hlen⟩:=Wc hn hpre hwl;refine enter_call (codeAny_mono (call w s₀ s₁ mg mb fa o pm cd doc a vs ns G Y ho (fd_plain hd) hcd hmg hobj hints hlen hg) λ r s' hq=>?_);obtain ⟨rfl,h2,h3,h4⟩:=hq;exact ⟨.inl ⟨.bool true,.bool true,[],rfl,λ _=>rfl,.bool true,Wq l _,λ _=>⟨List.Pairwise.nil,λ _ hm=>(nomatch hm)⟩⟩,h2,h3,h4⟩
section
variable{prog:Program}{w:World}{A:Around}{E:Value->Shared->Prop}{s:Shared}{K:Frag}
end
end Att
namespace L2
open PySem PySem.Spec PyProof.Rows
def FN:∀{vs:List Value} {ns:List Int},IntsAre vs ns->Vals (ns.map V.int) vs
 |_,_,.nil=> .nil
 |_,_,.cons n t h=> .cons ⟨t,rfl⟩ (FN h)
def ajD(H:Hp):Prop:=∀b,H b=none\/∃o xs,H b=some (.DZ o (.lst xs))
def aaz{P:Program}{w:World}{K:W.Frag}{mg mb:Str->Option Value}{CX:CXT}{k:Nat}{fa a:Addr}{fd:FuncData}{x:Str}{sp:Sp}{s₁:Shared}{vs:List Value}{ns:List Int} (KX:K.In s₁.heap) (hns:s₁.heap.Ns mainGlobals mg) (hb:s₁.heap.Ns builtinsNs mb) (hbb:∀x:Str,x≠"__name__"->mb x=bootBuiltins x) (hlim:s₁.heap.NoLimit) (hg:s₁.gens= #[]) (ha:s₁.heap.get? a=some {cls:= .type "list",data:= .seq vs.toArray}) (hi:IntsAre vs ns) (hl:ns.length<=sizeLine) (hr:fN k callerA) (F:∀base:Heap,K.In base->base.Ns mainGlobals mg->Uy P w K mg base CX k fa fd [x] sp) (hbind:∀(s:Shared) (u:Value),BindsTo s fd ⟨[u],[]⟩ [(x,u)]) (J1:∀H:Hp,ajD H->vD K H a (ns.map V.int)->sp [.ref a] H (λ v _=>v= .bl true) λ _ _ _=>False) (hCX:∀H e s',CX [] H s₁ (λ _ _ _=>False) e s'->False):
  codeAny (model P w) callerA (.call (.ref fa) ⟨[.ref a],[]⟩) (λ r s'=>r= .ok (.ret (.bool true))/\OldK s₁.heap s'.heap/\s'.os=s₁.os/\AllBare s'.gens) s₁:=by
 have rv:=FN hi;have apM:=hi.length
 -- from an abstract heap in which nothing but Mw script may be tracked
 have core:∀H:Hp,ajD H->vD K H a (ns.map V.int)->vf P w H s₁.heap->(∀b,H b≠none->b=a)->(H a≠none->K.lookup a=none)->codeAny (model P w) callerA (.call (.ref fa) ⟨[.ref a],[]⟩) (λ r s'=>r= .ok (.ret (.bool true))/\OldK s₁.heap s'.heap/\s'.os=s₁.os/\AllBare s'.gens) s₁:=by
  intro H hO hS hok hA hK;have VG:∀{b:Addr} {o:Obj},s₁.heap.get? b=some o->H b=none->(IT s₁.heap H).get? b=some o:=λ e n=>aa6 e n;have noA:∀{b:Addr} {o:Obj} {es:Array DictEntry} {ep:Nat},s₁.heap.get? b=some o->o.data= .dict es ep->H b=none:=λ{b o es ep} e d=>by
   cases q:H b with
   |none=>rfl
   |some u=>have e':b=a:=hA b (by rw[q];simp);subst e';rw[ha] at e;cases e;have d':Data.seq vs.toArray _=Data.dict es ep:=d;cases d'
  have nsK:∀{b:Addr} {m:Str->Option Value},s₁.heap.Ns b m->(IT s₁.heap H).Ns b m:=λ{b m} ⟨o,es,ep,e,d,r⟩=>⟨o,es,ep,VG e (noA e d),d,r⟩;have hKb:K.In (IT s₁.heap H):=λ b o e=>VG (KX b o e) (by
   cases q:H b with
   |none=>rfl
   |some u=>have e':b=a:=hA b (by rw[q];simp);subst e';rw[hK (by rw[q];simp)] at e;cases e)
  have hM:Mod K mg (IT s₁.heap H):=⟨hKb,nsK hns,⟨mb,nsK hb,hbb⟩,let ⟨mc,h1,h2⟩:=hlim;⟨mc,nsK h1,h2⟩⟩;have e0:Uz P w K mg (IT s₁.heap H) callerA [] s₁ H:=⟨rfl,hM,λ b o e=>aeY e,Nat.le_of_eq (XS _ _),trivial,λ b hb=>absurd (show b∈([]:List Addr) from hb) (by simp),hok,.of_eq hg⟩;refine codeAny_mono ((F _ hKb (nsK hns)).run callerA [] s₁ H ⟨[.ref a],[]⟩ [.ref a] [.ref a] _ _ hr e0 (hbind s₁ (.ref a)) (.cons rfl .nil) (J1 H hO hS)) λ r s' h=>?_;cases r with
  |error e=>exact (hCX H e s' h).elim
  |ok fl=>
   cases fl with
   |next=>exact False.elim h
   |brk=>exact False.elim h
   |cont=>exact False.elim h
   |ret u=>
    obtain ⟨v,H',os,bare,un,ap0,r',q⟩:=h;have q':v= .bl true:=q;subst q';obtain rfl:u=Value.bool true:=r';refine ⟨rfl,OldK.of_keep λ b o e=>?_,os,bare⟩;cases q:H b with
    |none=>exact un.keep b o e q (by intro z;exact absurd (show b∈([]:List Addr) from z) (by simp)) (by simp)
    |some u=>
     rcases hO b with z|⟨ob,xs,z⟩
     ·rw[q] at z;cases z
     ·have z2:=un.yf b ob _ z;obtain ⟨e1,_⟩:=hok b _ z;obtain ⟨e2,_⟩:=ap0 b _ z2;rw[e] at e1;cases e1;exact e2
 cases hk:K.lookup a with
 |some o=>
  -- Mw script is one of Mw alJ own objects
  have e:=KX a o hk;rw[ha] at e;cases e;refine core (λ _=>none) (λ _=> .inl rfl) (.inr ⟨_,vs.toArray,_,hk,rfl,rfl,rfl,by rw[List.size_toArray,apM];exact hl,by simpa using rv⟩) (λ b u z=>by have z':(none:Option HO)=some u:=z;cases z') (λ b z=>absurd rfl z) λ z=>absurd rfl z
 |none=>
  refine core (λ b=>if b=a then some (.DZ {cls:= .type "list",data:= .seq vs.toArray} (.lst (ns.map V.int))) else none) (λ b=>?_) (.inl (.inr ⟨{cls:= .type "list",data:= .seq vs.toArray},if_pos rfl⟩)) (λ b u z=>?_) (λ b z=>?_) λ _=>hk
  ·by_cases hb:b=a
   ·exact .inr ⟨_,_,if_pos hb⟩
   ·exact .inl (if_neg hb)
  ·by_cases hb:b=a
   ·have z':=(if_pos hb).symm.trans z;cases z';subst hb;exact ⟨ha,by rw[List.length_map];exact hl,vs,_,rv,ha⟩
   ·have z':=(if_neg hb).symm.trans z;cases z'
  ·by_cases hb:b=a
   ·exact hb
   ·exact absurd (if_neg hb) z
def ad7{l:W.OpenLaw}{n k:Nat}{q:Program}{loose:List Str}{XP:(Str->Option Value)->Heap->Prop}{YP:World->Heap->Prop}{d:DefRec}{K:Params->W.Frag}{CX:World->CXT}{sp:World->Sp}{x:Str} (hn:l.most=some n) (hn2:n<=sizeLine) (hdf:d.params.defaults=[]) (hr:fN k callerA) (hY:∀(w:World) (h:Heap),YP w h->(K w.params).In h) (F:∀(w:World) (mg:Str->Option Value) (fa:Addr) (h:Heap),(K w.params).In h->h.Ns mainGlobals mg->mg d.name=some (.ref fa)->∃fd:FuncData,(∀(s:Shared) (u:Value),BindsTo s fd ⟨[u],[]⟩ [(x,u)])/\∀base:Heap,(K w.params).In base->base.Ns mainGlobals mg->Uy l.prog w (K w.params) mg base (CX w) k fa fd [x] (sp w)) (J1:∀(w:World) (H:Hp) (a:Addr) (ns:List Int),ns.length<=n->ajD H->vD (K w.params) H a (ns.map V.int)->sp w [.ref a] H (λ v _=>v= .bl true) λ _ _ _=>False) (hCX:∀(w:World) (H:Hp) (s:Shared) (e:Value) (s':Shared),CX w [] H s (λ _ _ _=>False) e s'->False):
  W.WalkO q loose XP YP l.row.toRowW d [] (λ f vs=>PySem.call f vs):=by
 refine Att.Mr hn hdf λ w s₀ s₁ mg mb fa o pm cd doc a vs ns G Y ho hd hcd hmg hobj hints hlen hg=>?_;have KX:=hY w _ Y;obtain ⟨fd,hb,hF⟩:=F w mg fa _ KX G.T.g hmg;exact aaz KX G.T.g G.T.b G.T.builtins G.T.nolimit hg hobj hints (Nat.le_trans hlen hn2) hr hF hb (λ H hO hS=>J1 w H a ns hlen hO hS) λ H e s'=>hCX w H s₁ e s'
def aJ(s:Stmt):Arguments:=match s with
 | .FunctionDef _ a _ _ _ _ _ _ _ _=>a
 |_=>{posonlyargs:=[],args:=[],vararg:=none,kwonlyargs:=[],kw_defaults:=[],kwarg:=none,defaults:=[]}
def aH(s:Stmt):List Stmt:=match s with
 | .FunctionDef _ _ b _ _ _ _ _ _ _=>b
 |_=>[]
def aA(s:Stmt):Scope:=match s with
 | .FunctionDef _ _ _ _ _ _ sc _ _ _=>sc
 |_=>{kind:= .function,names:=[],isGenerator:=false,isCoroutine:=false}
abbrev E0:XK:=λ _ _ _=>False
structure nM(K:W.Frag)(x qual:Str)(st:Stmt)(f:Addr)(fd:FuncData):Prop where
 ex:∃(oc:Value) (od:Option Addr) (kV doc pm:Value) (an:Option Addr) (cdv ct:Value) (osl:Array (Option Value)),
  fd=W.fnOf x qual (aJ st) (aH st) (aA st) .none kV doc pm an cdv ct/\K.lookup f=some ⟨oc,od,.func fd,osl⟩/\W.codeIn K cdv qual=true
 kp:W.keepIn K (.ref f)=true
section
variable{P:Program}{w:World}{K:W.Frag}{mg:Str->Option Value}{base:Heap}
def nM.binds{x qual:Str}{st:Stmt}{f:Addr}{fd:FuncData}{ps:List Str}(F:nM K x qual st f fd) (h:∀(kV doc pm:Value) (an:Option Addr) (cdv ct:Value) (us:List Value),us.length=ps.length->bindArgs (W.fnOf x qual (aJ st) (aH st) (aA st) .none kV doc pm an cdv ct) ⟨us,[]⟩=pure (ps.zip us)):Binds K fd ps []:=by obtain ⟨oc,od,kV,doc,pm,an,cdv,ct,osl,rfl,lk,hcd⟩:=F.ex;exact .all (h kV doc pm an cdv ct)
def aV{x qual:Str}{st:Stmt}{f:Addr}{oc:Value}{od an:Option Addr}{osl:Array (Option Value)}{kV doc pm cdv ct:Value}(l:K.lookup f=some ⟨oc,od,.func (W.fnOf x qual (aJ st) (aH st) (aA st) .none kV doc pm an cdv ct),osl⟩) (c:W.codeIn K cdv qual=true) (k:W.keepIn K (.ref f)=true):nM K x qual st f (W.fnOf x qual (aJ st) (aH st) (aA st) .none kV doc pm an cdv ct):=⟨⟨oc,od,kV,doc,pm,an,cdv,ct,osl,rfl,l,c⟩,k⟩
end
def uB{n:Nat}(h:n<=1000):n<sizeLine:=Nat.lt_of_le_of_lt h (by decide)
section
variable{X:Cx}
end
def Ly{A B:Prop}(h:B):if false=true then A else B:=by rw[if_neg Bool.false_ne_true];exact h
def Lx{A B:Prop}(h:A):if true=true then A else B:=by rw[if_pos rfl];exact h
def ay(H H':Hp):Prop:=∀b o,H b=some o->H' b=some o
def ay.refl(H:Hp):ay H H:=λ _ _ h=>h
def ay.trans{H H1 H2:Hp}(a:ay H H1)(b:ay H1 H2):ay H H2:=λ c o h=>b c o (a c o h)
def ay.free{H H':Hp}(e:ay H H'){l:Addr}(h:H' l=Option.none):H l=Option.none:=by
 cases q:H l with
 |none=>rfl
 |some o=>rw[e l o q] at h;cases h
section
variable{κ:Type} [DecidableEq κ]
end
end L2
end
section
namespace L4
open PySem
def nZ(n:Nat)(i:Int):Option Nat:=if 0<=i then (if i<n then some i.toNat else none) else if -(n:Int)<=i then some (i+n).toNat else none
def qy{α:Type}(xs:List α)(i:Int):Option α:=(nZ xs.length i).bind λ j=>xs[j]?
def Ba(n d:Nat):Option Int->Nat
 |none=>d
 |some v=>if v<0 then (v+(n:Int)).toNat else min v.toNat n
inductive Ks where
 |s (ks:List (Sum Int Str))|t (ks:List (List (Sum Int Str)))
def Ks.len:Ks->Nat
 | .s ks=>ks.length
 | .t ks=>ks.length
inductive D where
 |cY|bl (b:Bool)|int (i:Int)|str (x:Str)|tup (xs:List D)|lst (xs:List D)
 /-- a tuple GS is a constant of Mw module -/
 |gt (xs:List D)
 /-- an instance GS aio changes any more;an exception -/
 |obj (c:String) (ns:List Str) (xs:List D)|exc (c:String)
 /-- a list GS anf nI:for this expression (true),for this call (false) -/
 |bor (t:Bool) (xs:List D)
 /-- a dict GS aio changes;a lent one -/
 |uQ (ks:Ks) (xs:List D)|yR (t:Bool) (ks:Ks) (xs:List D)
 /-- a lent instance GS may change -/
 |yQ (t:Bool) (c:String) (ns:List Str) (xs:List D)
inductive M where
 |d (x:D)|l (xs:List D)|n (ms:List M)|t (ms:List M)|k (ks:Ks) (xs:List D)
 /-- an instance GS may change -/
 |o (c:String) (ns:List Str) (xs:List D)
 /-- a dict of what it owns -/
 |q (ks:Ks) (ms:List M)
mutual
/-- lent for an expression -/
noncomputable def lend:M->D
 | .d x=>x
 | .l xs=> .bor true xs
 | .n ms=> .bor true (nI ms)
 | .t ms=> .tup (nI ms)
 | .k ks xs=> .yR true ks xs
 | .o c ns xs=> .yQ true c ns xs
 | .q ks ms=> .yR true ks (nI ms)
noncomputable def nI:List M->List D
 |[]=>[]
 |m::ms=>lend m::nI ms
end
mutual
/-- changed no more -/
noncomputable def LK:M->D
 | .d x=>x
 | .l xs=> .lst xs
 | .n ms=> .lst (uY ms)
 | .t ms=> .tup (uY ms)
 | .k ks xs=> .uQ ks xs
 | .o _ _ _=> .cY
 | .q ks ms=> .uQ ks (uY ms)
noncomputable def uY:List M->List D
 |[]=>[]
 |m::ms=>LK m::uY ms
end
mutual
/-- no instance GS may change is in it -/
noncomputable def AS:M->Bool
 | .n ms=>ye ms
 | .t ms=>ye ms
 | .q _ ms=>ye ms
 | .o _ _ _=>false
 |_=>true
noncomputable def ye:List M->Bool
 |[]=>true
 |m::ms=>AS m&&ye ms
end
mutual
/-- nothing lent for Mw expression alone is in it -/
noncomputable def nt:D->Bool
 | .tup xs=>fV xs
 | .gt xs=>fV xs
 | .lst xs=>fV xs
 | .obj _ _ xs=>fV xs
 | .uQ _ xs=>fV xs
 | .bor t xs=>!t&&fV xs
 | .yR t _ xs=>!t&&fV xs
 | .yQ t _ _ xs=>!t&&fV xs
 |_=>true
noncomputable def fV:List D->Bool
 |[]=>true
 |d::ds=>nt d&&fV ds
end
mutual
/-- nothing lent is in it -/
noncomputable def nb:D->Bool
 | .tup xs=>qx xs
 | .gt xs=>qx xs
 | .lst xs=>qx xs
 | .obj _ _ xs=>qx xs
 | .uQ _ xs=>qx xs
 | .bor _ _=>false
 | .yR _ _ _=>false
 | .yQ _ _ _ _=>false
 |_=>true
noncomputable def qx:List D->Bool
 |[]=>true
 |d::ds=>nb d&&qx ds
end
mutual
/-- lent on to a def GS is called -/
noncomputable def dn:D->D
 | .tup xs=> .tup (vp xs)
 | .gt xs=> .gt (vp xs)
 | .lst xs=> .lst (vp xs)
 | .obj c ns xs=> .obj c ns (vp xs)
 | .uQ ks xs=> .uQ ks (vp xs)
 | .bor _ xs=> .bor false (vp xs)
 | .yR _ ks xs=> .yR false ks (vp xs)
 | .yQ _ c ns xs=> .yQ false c ns (vp xs)
 |d=>d
noncomputable def vp:List D->List D
 |[]=>[]
 |d::ds=>dn d::vp ds
end
mutual
def MB:M->Bool
 | .d x=>nb x
 | .l xs=>qx xs
 | .n ms=>W0 ms
 | .t ms=>W0 ms
 | .k _ xs=>qx xs
 | .o _ _ xs=>qx xs
 | .q _ ms=>W0 ms
def W0:List M->Bool
 |[]=>true
 |m::ms=>MB m&&W0 ms
end
mutual
def xJ:M->Bool
 | .d x=>nt x
 | .l xs=>fV xs
 | .n ms=>vZ ms
 | .t ms=>vZ ms
 | .k _ xs=>fV xs
 | .o _ _ xs=>fV xs
 | .q _ ms=>vZ ms
def vZ:List M->Bool
 |[]=>true
 |m::ms=>xJ m&&vZ ms
end
inductive Res(α:Type) where
 |ok (a:α)|err (c:String)|bad
def Res.bnd{α β:Type}(r:Res α)(f:α->Res β):Res β:=match r with
 | .ok a=>f a
 | .err c=> .err c
 | .bad=> .bad
@[simp] theorem Res.bD{α β:Type}(a:α)(f:α->Res β):(Res.ok a).bnd f=f a:=(rfl)
@[simp] theorem Res.Bu{α β:Type}(c:String)(f:α->Res β):(Res.err c:Res α).bnd f= .err c:=(rfl)
@[simp] theorem Res.Bv{α β:Type}(f:α->Res β):(Res.bad:Res α).bnd f= .bad:=(rfl)
inductive Slot where
 |no|val (d:D)|own (m:M)|par (m:M)
noncomputable abbrev Sg:=List Slot
inductive Out where
 |nx (Γ:Sg)|bk (Γ:Sg)|ct (Γ:Sg)|rt (d:D)|Wj (m:M)|rtG (d:D) (Γ:Sg)|BX (m:M) (Γ:Sg)|err (c:String) (Γ:Sg)|bad
def aj(i:Nat):Sg->Res D:=λ Γ=>match Γ[i]? with
 |some (.val d)=> .ok d
 |_=> .bad
def d7(i:Nat):Sg->Res D:=λ Γ=>match Γ[i]? with
 |some (.val d)=> .ok d
 |some (.own m)=> .ok (lend m)
 |some (.par m)=> .ok (lend m)
 |_=> .bad
def dC(d:D):Sg->Res D:=λ _=> .ok d
def aI(r:D->D->Res D)(f g:Sg->Res D):Sg->Res D:=λ Γ=>(f Γ).bnd λ x=>(g Γ).bnd λ y=>r x y
def tst:D->Res Bool
 | .bl b=> .ok b
 |_=> .bad
def dT(f:Sg->Res D):Sg->Res Bool:=λ Γ=>(f Γ).bnd tst
def Yq(f g:Sg->Res Bool):Sg->Res Bool:=λ Γ=>(f Γ).bnd λ c=>if c=true then g Γ else .ok false
def cOr(f g:Sg->Res Bool):Sg->Res Bool:=λ Γ=>(f Γ).bnd λ c=>if c=true then .ok true else g Γ
def yK(f:Sg->Res Bool):Sg->Res Bool:=λ Γ=>(f Γ).bnd λ c=> .ok (!c)
def Jo(f g:Sg->Res D):Sg->Res D:=λ Γ=>(f Γ).bnd λ x=>(tst x).bnd λ c=>if c=true then g Γ else .ok (.bl false)
def dOr(f g:Sg->Res D):Sg->Res D:=λ Γ=>(f Γ).bnd λ x=>(tst x).bnd λ c=>if c=true then .ok (.bl true) else g Γ
def aje(f:Sg->Res D):Sg->Res D:=λ Γ=>(f Γ).bnd λ x=>(tst x).bnd λ c=> .ok (.bl (!c))
def aB:Sg->Res (List D):=λ _=> .ok []
def ai(f:Sg->Res D)(r:Sg->Res (List D)):Sg->Res (List D):=λ Γ=>(f Γ).bnd λ x=>(r Γ).bnd λ xs=> .ok (x::xs)
def jm(r:Sg->Res (List D)):Sg->Res D:=λ Γ=>(r Γ).bnd λ xs=>if xs.length<=1000 then .ok (.tup xs) else .bad
def Dy(r:Sg->Res (List D)):Sg->Res (List D):=λ Γ=>(r Γ).bnd λ xs=>if xs.length<=1000 then .ok xs else .bad
def vc(f:Sg->Res (List D)):Sg->Res D:=λ Γ=>(f Γ).bnd λ ds=> .ok (.lst ds)
def oE{α:Type}(r:Res α)(Γ:Sg)(k:α->Out):Out:=match r with
 | .ok d=>k d
 | .err c=> .err c Γ
 | .bad=> .bad
@[simp] theorem Va{α:Type}(d:α)(Γ:Sg)(k:α->Out):oE (.ok d) Γ k=k d:=(rfl)
@[simp] theorem apt{α:Type}(c:String)(Γ:Sg)(k:α->Out):oE (.err c) Γ k= .err c Γ:=(rfl)
def cz:Sg->Out:=λ Γ=> .nx Γ
def aX(F G:Sg->Out):Sg->Out:=λ Γ=>match F Γ with
 | .nx Γ'=>G Γ'
 |o=>o
def sr(f:Sg->Res D):Sg->Out:=λ Γ=>oE (f Γ) Γ λ _=> .nx Γ
def eN(f:Sg->Res D):Sg->Out:=λ Γ=>oE (f Γ) Γ λ d=> .rt d
def Kp(f:Sg->Res D):Sg->Out:=λ Γ=>oE (f Γ) Γ λ d=>if nt d=true then .rt d else .bad
def Zk(f:Sg->Res M):Sg->Out:=λ Γ=>oE (f Γ) Γ λ m=>if xJ m=true then .Wj m else .bad
def qU(i:Nat):Sg->Out:=λ Γ=>match Γ[i]? with
 |some (.own m)=> .Wj m
 |some (.val d)=> .rt d
 |_=> .bad
def sj(p:Sg->Res Bool)(F G:Sg->Out):Sg->Out:=λ Γ=>oE (p Γ) Γ λ c=>if c=true then F Γ else G Γ
def i8(i:Nat)(f:Sg->Res D):Sg->Out:=λ Γ=>oE (f Γ) Γ λ d=> .nx (Γ.set i (.val d))
def FY(i:Nat)(f:Sg->Res D):Sg->Out:=λ Γ=>oE (f Γ) Γ λ d=>if nt d=true then .nx (Γ.set i (.val d)) else .bad
def gX(i:Nat)(f:Sg->Res M):Sg->Out:=λ Γ=>oE (f Γ) Γ λ m=>if xJ m=true then .nx (Γ.set i (.own m)) else .bad
def mL(f:Sg->Res (List D)):Sg->Res M:=λ Γ=>(f Γ).bnd λ ds=> .ok (.l ds)
def mD(f:Sg->Res D):Sg->Res M:=λ Γ=>(f Γ).bnd λ d=> .ok (.d d)
def MC(m:M):Res D:=if AS m=true then .ok (LK m) else .bad
def om(f:Sg->Res M):Sg->Res D:=λ Γ=>(f Γ).bnd MC
abbrev Tg:=D->Sg->Option Sg
abbrev Tgs:=List D->Sg->Option Sg
def aD(i:Nat):Tg:=λ d Γ=>some (Γ.set i (.val d))
def oO:Tgs:=λ ds Γ=>match ds with
 |[]=>some Γ
 |_=>none
def b3(t:Tg)(u:Tgs):Tgs:=λ ds Γ=>match ds with
 |d::r=>(t d Γ).bind λ Γ'=>u r Γ'
 |[]=>none
def nH(n:Nat)(t:Tgs):Tg:=λ d Γ=>match d with
 | .tup ds=>if ds.length=n then t ds Γ else none
 |_=>none
def Wh(f:Sg->Res D)(t:Tg):Sg->Out:=λ Γ=>oE (f Γ) Γ λ d=>match t d Γ with
 |some Γ'=> .nx Γ'
 |none=> .bad
def ahH(i k:Nat)(r:Sg->Res (List D)):Sg->Out:=λ Γ=>oE (r Γ) Γ λ ds=>match ds with
 |[x,y]=> .nx ((Γ.set i (.val x)).set k (.val y))
 |_=> .bad
def fP(t:Tg)(B:Sg->Out):List D->Sg->Out
 |[],Γ=> .nx Γ
 |x::xs,Γ=>match t x Γ with
  |none=> .bad
  |some Γ1=>match B Γ1 with
   | .nx Γ'=>fP t B xs Γ'
   | .ct Γ'=>fP t B xs Γ'
   | .bk Γ'=> .nx Γ'
   |o=>o
def lu(p:Sg->Res Bool)(B:Sg->Out):Nat->Sg->Out
 |0,_=> .bad
 |n+1,Γ=>oE (p Γ) Γ λ c=>if c=true then (match B Γ with
   | .nx Γ'=>lu p B n Γ'
   | .ct Γ'=>lu p B n Γ'
   | .bk Γ'=> .nx Γ'
   |o=>o) else .nx Γ
def drop_one{α:Type}{xs:List α}{i:Nat}{d:α}(h:xs[i]? =some d):xs.drop i=d::xs.drop (i+1):=by obtain ⟨hi,e⟩:=List.getElem?_eq_some_iff.mp h;rw[List.drop_eq_getElem_cons hi,e]
def fQ(lo:Int)(n:Nat):List D:=(List.range n).map λ(k:Nat)=>D.int (lo+k)
def XE{lo:Int}{n i:Nat}(h:i<n):(fQ lo n)[i]? =some (.int (lo+i)):=by unfold fQ;rw[List.getElem?_map,List.getElem?_range h];rfl
def Gh{lo:Int}{n:Nat}:(fQ lo n).length=n:=by simp[fQ]
def G5(ds:List D):Res (List D):=match ds with
 |[.int j]=>if -(2^62)<=j/\j<2^62 then .ok (fQ 0 j.toNat) else .bad
 |_=> .bad
def aeq{ds:List D}{xs:List D}(h:G5 ds= .ok xs):∃j,ds=[.int j]/\ -(2^62)<=j/\j<2^62/\xs=fQ 0 j.toNat:=by
 unfold G5 at h;split at h
 ·split at h
  ·rename_i j hj;cases h;exact ⟨j,rfl,hj.1,hj.2,rfl⟩
  ·cases h
 ·cases h
def aer(ds:List D)(c:String):G5 ds≠.err c:=by
 unfold G5;split
 ·split<;>exact λ z=>nomatch z
 ·exact λ z=>nomatch z
def ase(ds:List D):Res (List D):=match ds with
 |[.int i,.int j]=>if -(2^62)<=i/\i<2^62/\ -(2^62)<=j/\j<2^62 then .ok (fQ i (j- i).toNat) else .bad
 |_=> .bad
inductive cV where
 |ok (d:D)|new (m:M)|MA (d:D) (os:List (Nat×M))|CA (m:M) (os:List (Nat×M))|err (c:String)|bad
def bP:Nat->Sg->List (Nat×M)
 |_,[]=>[]
 |i,.par m::r=>(i,m)::bP (i+1) r
 |i,_::r=>bP (i+1) r
def qf:Out->cV
 | .nx _=> .ok .cY
 | .rt d=> .ok d
 | .Wj m=> .new m
 | .rtG d Γ=> .MA d (bP 0 Γ)
 | .BX m Γ=> .CA m (bP 0 Γ)
 | .err c _=> .err c
 |_=> .bad
def A4:Out->cV
 | .nx Γ=> .MA .cY (bP 0 Γ)
 |o=>qf o
def AZ:cV->Res D
 | .ok d=> .ok d
 | .new m=>MC m
 | .err c=> .err c
 |_=> .bad
def rR:cV->Res M
 | .ok d=> .ok (.d d)
 | .new m=> .ok m
 | .err c=> .err c
 |_=> .bad
def bz(n:Nat)(F:List Slot->cV)(fa:Sg->Res (List D)):Sg->Res D:=λ Γ=>(fa Γ).bnd λ ds=>if ds.length=n then AZ (F (ds.map Slot.val)) else .bad
def aao(n:Nat)(F:List Slot->cV)(fa:Sg->Res (List D)):Sg->Res M:=λ Γ=>(fa Γ).bnd λ ds=>if ds.length=n then rR (F (ds.map Slot.val)) else .bad
def ntR(d:D):Res D:=if nt d=true then .ok d else .bad
def dNt(f:Sg->Res D):Sg->Res D:=λ Γ=>(f Γ).bnd ntR
def kW(n:Nat)(F:List Slot->cV)(fa:Sg->Res (List D)):Sg->Res D:=λ Γ=>(fa Γ).bnd λ ds=>if ds.length=n/\fV ds=true then AZ (F (ds.map Slot.val)) else .bad
def v8(n:Nat)(F:List Slot->cV)(fa:Sg->Res (List D)):Sg->Res M:=λ Γ=>(fa Γ).bnd λ ds=>if ds.length=n/\fV ds=true then rR (F (ds.map Slot.val)) else .bad
def nbA:cV->cV
 | .ok d=>if nb d=true then .ok d else .bad
 | .new m=>if MB m=true then .new m else .bad
 | .err c=> .err c
 |_=> .bad
def r9(n:Nat)(F:List Slot->cV)(fa:Sg->Res (List D)):Sg->Res D:=λ Γ=>(fa Γ).bnd λ ds=>if ds.length=n then AZ (nbA (F ((vp ds).map Slot.val))) else .bad
def N1(n:Nat)(F:List Slot->cV)(fa:Sg->Res (List D)):Sg->Res M:=λ Γ=>(fa Γ).bnd λ ds=>if ds.length=n then rR (nbA (F ((vp ds).map Slot.val))) else .bad
def cN(N:List Str)(as:List Slot):Sg:=as++List.replicate (N.length- as.length) Slot.no
def intD(C:Int->Int->Bool)(g:Int->Int->D):D->D->Res D
 | .int i,.int j=>if C i j=true then .ok (g i j) else .bad
 |_,_=> .bad
@[simp] theorem aaV(C:Int->Int->Bool)(g:Int->Int->D)(i j:Int):intD C g (.int i) (.int j)=if C i j=true then .ok (g i j) else .bad:=(rfl)
noncomputable abbrev yes:Int->Int->Bool:=λ _ _=>true
def Y9:D->D->Res D:=intD yes λ i j=> .int (i- j)
noncomputable def xQ(i j:Int):Bool:=decide (Builtin.Int.intBits i<=64)||decide (Builtin.Int.intBits j<=64)||(decide (Builtin.Int.intBits i<=2^20)&&decide (Builtin.Int.intBits j<=2^20))
def kF:D->D->Res D:=intD xQ λ i j=> .int (i*j)
noncomputable def Gz(_ j:Int):Bool:=decide (j≠0)&&decide (j.natAbs.log2<9000)
def ig:D->D->Res D:=intD Gz λ i j=> .int (i.fdiv j)
def mX:D->D->Res D:=intD (λ _ j=>decide (j≠0)) λ i j=> .int (i.fmod j)
noncomputable def U0(i j:Int):Bool:=decide (0<=j)&&decide (j<=1000000)&&decide (i.natAbs<2^64)
def Zu:D->D->Res D:=intD U0 λ i j=> .int (i^j.toNat)
def adE:D->D->Res D:=intD yes λ i j=> .int (Builtin.bitXor i j)
def ltI:D->D->Res D:=intD yes λ i j=> .bl (decide (i<j))
def leI:D->D->Res D:=intD yes λ i j=> .bl (decide (i<=j))
def gtI:D->D->Res D:=intD yes λ i j=> .bl (decide (j<i))
def ae5:D->Res D
 | .int i=> .ok (.int (-i))
 |_=> .bad
def dUn(r:D->Res D)(f:Sg->Res D):Sg->Res D:=λ Γ=>(f Γ).bnd r
def nv(r:List D->Res D)(fa:Sg->Res (List D)):Sg->Res D:=λ Γ=>(fa Γ).bnd r
def b4:List D->Res D
 |[.lst ds]=> .ok (.int ds.length)
 |[.tup ds]=> .ok (.int ds.length)
 |[.gt ds]=> .ok (.int ds.length)
 |[.bor _ ds]=> .ok (.int ds.length)
 |[.str x]=>if x.length<=sizeLine then .ok (.int x.length) else .bad
 |_=> .bad
mutual
noncomputable def py:D->PyData
 | .cY=> .none
 | .bl b=> .bool b
 | .int i=> .int i
 | .str x=> .str x
 | .tup ds=> .tuple (zc ds)
 | .gt ds=> .tuple (zc ds)
 | .lst ds=> .list (zc ds)
 | .bor _ ds=> .list (zc ds)
 | .obj _ _ _=> .none
 | .exc _=> .none
 | .uQ _ _=> .none
 | .yR _ _ _=> .none
 | .yQ _ _ _ _=> .none
noncomputable def zc:List D->List PyData
 |[]=>[]
 |d::ds=>py d::zc ds
end
noncomputable def gK:Nat->D->Bool
 |_,.cY=>true
 |_,.bl _=>true
 |_,.int _=>true
 |_,.str x=>PyData.strOk x
 |n+1,.tup ds=>ds.all (gK n)
 |n+1,.gt ds=>ds.all (gK n)
 |n+1,.lst ds=>ds.all (gK n)
 |n+1,.bor _ ds=>ds.all (gK n)
 |_,_=>false
def LS(x y:D):Bool:=(py x).eqv (py y)
def pQ(x y:D):Res D:=if gK 12 x=true/\gK 12 y=true then .ok (.bl (LS x y)) else .bad
def CB(x y:D):Res D:=if gK 12 x=true/\gK 12 y=true then .ok (.bl (!LS x y)) else .bad
def VF(i j:Int):(i==j)=decide (i=j):=by
 by_cases h:i=j
 ·subst h;simp
 ·simp[h]
@[simp] theorem anL(i j:Int):pQ (.int i) (.int j)= .ok (.bl (decide (i=j))):=by simp[pQ,gK,LS,py,PyData.eqv,VF]
@[simp] theorem Vg(i j:Int):CB (.int i) (.int j)= .ok (.bl (!decide (i=j))):=by simp[CB,gK,LS,py,PyData.eqv,VF]
def bV:D->D->Res D
 | .lst ds,.int i=>match qy ds i with
  |some d=> .ok d
  |none=> .bad
 | .bor _ ds,.int i=>match qy ds i with
  |some d=> .ok d
  |none=> .bad
 | .tup ds,.int i=>match qy ds i with
  |some d=> .ok d
  |none=> .bad
 | .gt ds,.int i=>match qy ds i with
  |some d=> .ok d
  |none=> .bad
 | .str x,.int i=>if x.length<=sizeLine then (match qy x.cps.toList i with
  |some c=> .ok (.str ⟨#[c]⟩)
  |none=> .bad) else .bad
 |_,_=> .bad
def jV:D->D->Res D
 | .int i,.int j=> .ok (.int (i+j))
 | .str x,.str y=>if x.length+y.length<=sizeLine then .ok (.str (x++y)) else .bad
 |_,_=> .bad
@[simp] theorem amy(i j:Int):jV (.int i) (.int j)= .ok (.int (i+j)):=(rfl)
noncomputable def asL:D->Option (List D)
 | .lst xs=>some xs
 | .bor _ xs=>some xs
 |_=>none
@[simp] theorem anV(xs:List D):asL (.lst xs)=some xs:=(rfl)
@[simp] theorem anW(t:Bool)(xs:List D):asL (.bor t xs)=some xs:=(rfl)
def Ye(x y:D):Res (List D):=match asL x,asL y with
 |some xs,some ys=>if xs.length+ys.length<=sizeLine then .ok (xs++ys) else .bad
 |_,_=> .bad
def lOp(r:D->D->Res (List D))(f g:Sg->Res D):Sg->Res (List D):=λ Γ=>(f Γ).bnd λ x=>(g Γ).bnd λ y=>r x y
def Jp{α:Type}(xs:List α)(lo hi:Option Int):List α:=(xs.drop (Ba xs.length 0 lo)).take (Ba xs.length xs.length hi- Ba xs.length 0 lo)
def AY:Sg->Res (Option Int):=λ _=> .ok none
def dP(f:Sg->Res D):Sg->Res (Option Int):=λ Γ=>(f Γ).bnd λ d=>match d with
 | .int i=> .ok (some i)
 |_=> .bad
def AL(f:Sg->Res D)(l u:Sg->Res (Option Int)):Sg->Res (List D):=λ Γ=>(f Γ).bnd λ d=>(l Γ).bnd λ lo=>(u Γ).bnd λ hi=>match asL d with
 |some xs=> .ok (Jp xs lo hi)
 |none=> .bad
noncomputable def pJ:M->List Nat->Option M
 |m,[]=>some m
 | .n ms,k::ks=>(ms[k]?).bind λ m=>pJ m ks
 | .t ms,k::ks=>(ms[k]?).bind λ m=>pJ m ks
 | .q _ ms,k::ks=>(ms[k]?).bind λ m=>pJ m ks
 |_,_::_=>none
noncomputable def mW:M->List Nat->M->M
 |_,[],m'=>m'
 | .n ms,k::ks,m'=> .n (match ms[k]? with
  |some m=>ms.set k (mW m ks m')
  |none=>ms)
 | .t ms,k::ks,m'=> .t (match ms[k]? with
  |some m=>ms.set k (mW m ks m')
  |none=>ms)
 | .q kq ms,k::ks,m'=> .q kq (match ms[k]? with
  |some m=>ms.set k (mW m ks m')
  |none=>ms)
 |m,_::_,_=>m
noncomputable def Iv:M->Option Nat
 | .n ms=>some ms.length
 | .t ms=>some ms.length
 |_=>none
noncomputable def Mx:Slot->Option M
 | .own m=>some m
 | .par m=>some m
 |_=>none
def jg(i:Nat):Sg->Res (List Nat):=λ Γ=>match (Γ[i]?).bind Mx with
 |some _=> .ok []
 |none=> .bad
def pIx(i:Nat)(g:Sg->Res (List Nat))(f:Sg->Res D):Sg->Res (List Nat):=λ Γ=>(g Γ).bnd λ ks=>(f Γ).bnd λ d=>match d,(((Γ[i]?).bind Mx).bind λ m=>(pJ m ks).bind Iv) with
 | .int z,some n=>(match nZ n z with
  |some k=> .ok (ks++[k])
  |none=> .bad)
 |_,_=> .bad
def Wo:Slot->M->Slot
 | .own _,m=> .own m
 | .par _,m=> .par m
 |s,_=>s
def vg(i:Nat)(ks:List Nat)(f:M->Option M)(Γ:Sg):Option Sg:=(Γ[i]?).bind λ s=>(Mx s).bind λ m=>(pJ m ks).bind λ m'=>(f m').map λ jA=>Γ.set i (Wo s (mW m ks jA))
def oUp:Option Sg->Out
 |some Γ=> .nx Γ
 |none=> .bad
def JJ(d:D):M->Option M
 | .l xs=>if xs.length<1000000/\nt d=true then some (.l (xs++[d])) else none
 | .n ms=>if ms.length<1000000/\nt d=true then some (.n (ms++[.d d])) else none
 |_=>none
def setM(z:Int)(d:D):M->Option M
 | .l xs=>if nt d=true then (nZ xs.length z).map λ j=> .l (xs.set j d) else none
 | .n ms=>if nt d=true then (nZ ms.length z).map λ j=> .n (ms.set j (.d d)) else none
 |_=>none
noncomputable def Of:Option M->Bool
 |some (.l _)=>true
 |some (.n _)=>true
 |_=>false
def xK(i:Nat)(ks:List Nat)(Γ:Sg):Option M:=((Γ[i]?).bind Mx).bind λ m=>pJ m ks
def uC(i:Nat)(g:Sg->Res (List Nat))(f:Sg->Res D):Sg->Out:=λ Γ=>oE (g Γ) Γ λ ks=>if Of (xK i ks Γ)=true then oE (f Γ) Γ λ d=>oUp (vg i ks (JJ d) Γ) else .bad
def lz(i:Nat)(g:Sg->Res (List Nat))(fk f:Sg->Res D):Sg->Out:=λ Γ=>oE (f Γ) Γ λ d=>oE (g Γ) Γ λ ks=>oE (fk Γ) Γ λ z=>match z with
 | .int z=>oUp (vg i ks (setM z d) Γ)
 |_=> .bad
noncomputable def signs(x:Str):List D:=x.cps.toList.map λ c=> .str ⟨#[c]⟩
def ahF:D->Res (List D)
 | .lst xs=> .ok xs
 | .bor _ xs=> .ok xs
 | .tup xs=> .ok xs
 | .gt xs=> .ok xs
 | .str x=> .ok (signs x)
 |_=> .bad
def gY(fi:Sg->Res (List D))(t:Tg)(B:Sg->Out):Sg->Out:=λ Γ=>oE (fi Γ) Γ λ xs=>fP t B xs Γ
def XR(f:Sg->Res D):Sg->Res (List D):=λ Γ=>(f Γ).bnd ahF
def kM(r:Sg->Res (List D)):Sg->Res (List D):=λ Γ=>(r Γ).bnd G5
def amv(tm:Bool):Slot->Slot
 | .val d=> .val d
 | .own m=>if tm=true then .val (lend m) else .no
 | .par m=>if tm=true then .val (lend m) else .no
 | .no=> .no
def sD(tm:Bool)(k:Nat)(caps:List Nat)(Γ:Sg):Sg:=List.replicate k .no++caps.map λ i=>amv tm ((Γ[i]?).getD .no)
def VE{tm:Bool}{k:Nat}{caps:List Nat}{Γ:Sg}{i:Nat}{sl:Slot}(h:(sD tm k caps Γ)[i]? =some sl):sl= .no\/∃c sc,caps[i- k]? =some c/\k<=i/\Γ[c]? =some sc/\sl=amv tm sc:=by
 unfold sD at h;by_cases hi:i<k
 ·rw[List.getElem?_append_left (by simpa using hi),List.getElem?_replicate,if_pos hi] at h;cases h;exact .inl rfl
 ·rw[List.getElem?_append_right (by simpa using hi),List.length_replicate,List.getElem?_map] at h;cases q:caps[i- k]? with
  |none=>rw[q] at h;cases h
  |some c=>
   rw[q] at h;simp only[Option.map_some,Option.some.injEq] at h;subst h;cases q2:Γ[c]? with
   |none=>exact .inl rfl
   |some sl=>exact .inr ⟨c,sl,rfl,Nat.le_of_not_lt hi,q2,rfl⟩
def wK(t:Tg)(p:Sg->Res Bool)(fe:Sg->Res D)(Γ0:Sg)(x:D):Res (Option D):=match t x Γ0 with
 |none=> .bad
 |some Γ1=>match p Γ1 with
  | .ok true=>(match fe Γ1 with
   | .ok d=> .ok (some d)
   |_=> .bad)
  | .ok false=> .ok none
  |_=> .bad
def jN(e:D->Res (Option D)):List D->Res (List D)
 |[]=> .ok []
 |x::xs=>(e x).bnd λ o=>(jN e xs).bnd λ r=> .ok (match o with
  |some d=>d::r
  |none=>r)
def dh(tm:Bool)(fi:Sg->Res (List D))(k:Nat)(caps:List Nat)(t:Tg)(p:Sg->Res Bool)(fe:Sg->Res D):Sg->Res (List D):=λ Γ=>(fi Γ).bnd λ xs=>if xs.length<1000000 then jN (wK t p fe (sD tm k caps Γ)) xs else .bad
def Yz(t:Tg)(p:Sg->Res Bool)(fe:Sg->Res M)(Γ0:Sg)(x:D):Res (Option M):=match t x Γ0 with
 |none=> .bad
 |some Γ1=>match p Γ1 with
  | .ok true=>(match fe Γ1 with
   | .ok d=> .ok (some d)
   |_=> .bad)
  | .ok false=> .ok none
  |_=> .bad
def nL(e:D->Res (Option M)):List D->Res (List M)
 |[]=> .ok []
 |x::xs=>(e x).bnd λ o=>(nL e xs).bnd λ r=> .ok (match o with
  |some d=>d::r
  |none=>r)
def mZ(tm:Bool)(fi:Sg->Res (List D))(k:Nat)(caps:List Nat)(t:Tg)(p:Sg->Res Bool)(fe:Sg->Res M):Sg->Res (List M):=λ Γ=>(fi Γ).bnd λ xs=>if xs.length<1000000 then nL (Yz t p fe (sD tm k caps Γ)) xs else .bad
def mN(f:Sg->Res (List M)):Sg->Res M:=λ Γ=>(f Γ).bnd λ ms=> .ok (.n ms)
def ai9{t:Tg}{p:Sg->Res Bool}{fe:Sg->Res M}{Γ0:Sg}{x:D}{c:String}:Yz t p fe Γ0 x≠.err c:=by
 unfold Yz;split
 ·exact λ z=>nomatch z
 ·split
  ·split<;>exact λ z=>nomatch z
  ·exact λ z=>nomatch z
  ·exact λ z=>nomatch z
def L6{e:D->Res (Option M)}(he:∀x c,e x≠.err c):∀xs c,nL e xs≠.err c
 |[],c=>λ z=>nomatch z
 |x::xs,c=>by
  simp only[nL];cases q:e x with
  |ok o=>
   cases q2:nL e xs with
   |ok r=>exact λ z=>nomatch z
   |err c'=>exact absurd q2 (L6 he xs c')
   |bad=>exact λ z=>nomatch z
  |err c'=>exact absurd q (he x c')
  |bad=>exact λ z=>nomatch z
def OT{e:D->Res (Option M)}{x:D}{xs:List D}{r:List M}(h:nL e (x::xs)= .ok r):∃o r',e x= .ok o/\nL e xs= .ok r'/\r=(match o with|some d=>d::r'|none=>r'):=by
 simp only[nL] at h;cases q:e x with
 |ok o=>
  cases q2:nL e xs with
  |ok r'=>rw[q,q2] at h;cases h;exact ⟨o,r',rfl,rfl,rfl⟩
  |err c'=>rw[q,q2] at h;cases h
  |bad=>rw[q,q2] at h;cases h
 |err c'=>rw[q] at h;cases h
 |bad=>rw[q] at h;cases h
def afN{t:Tg}{p:Sg->Res Bool}{fe:Sg->Res D}{Γ0:Sg}{x:D}:Yz t p (mD fe) Γ0 x=(wK t p fe Γ0 x).bnd λ o=> .ok (o.map M.d):=by
 unfold Yz wK mD;cases t x Γ0 with
 |none=>rfl
 |some Γ1=>
  dsimp only;cases p Γ1 with
  |ok b=>
   cases b with
   |false=>rfl
   |true=>dsimp only;cases fe Γ1<;>rfl
  |err c=>rfl
  |bad=>rfl
def Al{t:Tg}{p:Sg->Res Bool}{fe:Sg->Res D}{Γ0:Sg}:∀(xs:List D),nL (Yz t p (mD fe) Γ0) xs=(jN (wK t p fe Γ0) xs).bnd λ ds=> .ok (ds.map M.d)
 |[]=>rfl
 |x::xs=>by
  simp only[nL,jN,Al xs,afN];cases wK t p fe Γ0 x with
  |ok o=>
   simp only[Res.bD];cases jN (wK t p fe Γ0) xs with
   |ok r=>cases o<;>rfl
   |err c=>rfl
   |bad=>rfl
  |err c=>rfl
  |bad=>rfl
def gz:Sg->Res Bool:=λ _=> .ok true
def alv(Γ:Sg):Prop:=∀(i:Nat) (m:M),Γ[i]?≠some (.own m)/\Γ[i]?≠some (.par m)
def oV(c:String)(fa:Sg->Res (List D)):Sg->Out:=λ Γ=>oE (fa Γ) Γ λ ds=>if ds.length<=1000 then .err c Γ else .bad
def tryD(hit:String->Option Bool)(F:Sg->Out)(G:String->Sg->Out):Sg->Out:=λ Γ=>match F Γ with
 | .err c Γ1=>(match hit c with
  |some true=>G c Γ1
  |_=> .bad)
 |o=>o
noncomputable def aeX(i:Nat):Out->Out
 | .nx Γ=> .nx (Γ.set i .no)
 | .bk Γ=> .bk (Γ.set i .no)
 | .ct Γ=> .ct (Γ.set i .no)
 | .err _ _=> .bad
 |o=>o
def Ah(mt:List (String×List String))(T:String):String->Option Bool:=λ c=>(mt.lookup c).map (·.contains T)
def zb(i:Nat)(hit:String->Option Bool)(F G:Sg->Out):Sg->Out:=tryD hit F λ c Γ1=>aeX i (G (Γ1.set i (.val (.exc c))))
def kinds(mt:List (String×List String)):D->Option (List String)
 | .cY=>some ["NoneType"]
 | .bl _=>some ["bool","int"]
 | .int _=>some ["int"]
 | .str _=>some ["str"]
 | .tup _=>some ["tuple"]
 | .gt _=>some ["tuple"]
 | .lst _=>some ["list"]
 | .bor _ _=>some ["list"]
 | .obj c _ _=>mt.lookup c
 | .exc c=>mt.lookup c
 | .uQ _ _=>some ["dict"]
 | .yR _ _ _=>some ["dict"]
 | .yQ _ _ _ _=>none
def yb(mt:List (String×List String))(cs:List String)(d:D):Res D:=match kinds mt d with
 |some ks=> .ok (.bl (cs.any λ c=>ks.contains c))
 |none=> .bad
def LX(mt:List (String×List String))(cs:List String)(f:Sg->Res D):Sg->Res D:=λ Γ=>(f Γ).bnd (yb mt cs)
def bools:List D->Option (List Bool)
 |[]=>some []
 | .bl b::r=>(bools r).map (b:: ·)
 |_::_=>none
def af0:List D->Res D
 |[x]=>match asL x with
  |some ds=>(match bools ds with
   |some bs=> .ok (.bl (bs.all id))
   |none=> .bad)
  |none=> .bad
 |_=> .bad
def Dl(f:Str):D->Res D
 | .obj _ ns xs=>match (ns.zip xs).lookup f with
  |some d=> .ok d
  |none=> .bad
 | .yQ _ _ ns xs=>match (ns.zip xs).lookup f with
  |some d=> .ok d
  |none=> .bad
 |_=> .bad
def qt(f:Str)(g:Sg->Res D):Sg->Res D:=λ Γ=>(g Γ).bnd (Dl f)
noncomputable def mY(qH:List (String×(List Slot->cV))):D->Option (List Slot->cV)
 | .obj c _ _=>qH.lookup c
 |_=>none
def vj(n:Nat)(qH:List (String×(List Slot->cV)))(fo:Sg->Res D)(fa:Sg->Res (List D)):Sg->Res M:=λ Γ=>(fo Γ).bnd λ o=>match mY qH o with
 |some F=>(fa Γ).bnd λ ds=>if ds.length=n then rR (F ((o::ds).map Slot.val)) else .bad
 |none=> .bad
def qp(n:Nat)(qH:List (String×(List Slot->cV)))(fo:Sg->Res D)(fa:Sg->Res (List D)):Sg->Res M:=λ Γ=>(fo Γ).bnd λ o=>match mY qH o with
 |some F=>(fa Γ).bnd λ ds=>if ds.length=n/\fV (o::ds)=true then rR (F ((o::ds).map Slot.val)) else .bad
 |none=> .bad
def oY(c:String)(ns:List Str):cV->Res D
 | .MA .cY [(0,.o c' ns' xs)]=>if c'=c/\ns'=ns then .ok (.obj c ns xs) else .bad
 | .err x=> .err x
 |_=> .bad
def nbX(c:String)(ns:List Str):Res D->Res D
 | .ok d=>if nb d=true then .ok d else .bad
 |r=>r
def t9(n:Nat)(c:String)(ns:List Str)(F:List Slot->cV)(fa:Sg->Res (List D)):Sg->Res D:=λ Γ=>(fa Γ).bnd λ ds=>if ds.length=n then oY c ns (F (.par (.o c [] [])::ds.map Slot.val)) else .bad
def zQ(n:Nat)(c:String)(ns:List Str)(F:List Slot->cV)(fa:Sg->Res (List D)):Sg->Res D:=λ Γ=>(fa Γ).bnd λ ds=>if ds.length=n then nbX c ns (oY c ns (F (.par (.o c [] [])::(vp ds).map Slot.val))) else .bad
def B3(ft:List (String×List Str))(f:Str)(d:D):M->Option M
 | .o c ns xs=>(ft.lookup c).bind λ full=>if nt d=true/\ns.length<full.length/\ns.length<900/\f∉ns then some (.o c (ns++[f]) (xs++[d])) else none
 |_=>none
def oU(i:Nat)(ft:List (String×List Str))(f:Str)(g:Sg->Res D):Sg->Out:=λ Γ=>oE (g Γ) Γ λ d=>oE (jg i Γ) Γ λ ks=>oUp (vg i ks (B3 ft f d) Γ)
noncomputable def vo:D->Bool
 | .cY=>true
 | .bl _=>true
 | .int _=>true
 | .str _=>true
 |_=>false
noncomputable def eqF:D->D->Bool
 | .cY,.cY=>true
 | .bl a,.bl b=>a==b
 | .bl a,.int b=>(if a then 1 else 0)==b
 | .int a,.bl b=>a==(if b then 1 else 0)
 | .int a,.int b=>a==b
 | .str a,.str b=>a==b
 |_,_=>false
def inF(x:D)(xs:List D):Bool:=xs.any λ y=>eqF y x
noncomputable def qi:D->Option (List D)
 | .lst xs=>some xs
 | .bor _ xs=>some xs
 | .tup xs=>some xs
 | .gt xs=>some xs
 |_=>none
def inD(x y:D):Res D:=match qi y with
 |some xs=>if vo x=true/\xs.all vo=true then .ok (.bl (inF x xs)) else .bad
 |none=> .bad
def HY(x y:D):Res D:=match qi y with
 |some xs=>if vo x=true/\xs.all vo=true then .ok (.bl (!inF x xs)) else .bad
 |none=> .bad
noncomputable def Vw(i j:Str):Bool:=!(Builtin.Str.occurrences j i 0 j.length 1).isEmpty
def inA(x y:D):Res D:=match y with
 | .str j=>(match x with
  | .str i=> .ok (.bl (Vw i j))
  |_=> .bad)
 |_=>inD x y
def vq(f:Sg->Res D)(l u:Sg->Res (Option Int)):Sg->Res D:=λ Γ=>(f Γ).bnd λ d=>(l Γ).bnd λ lo=>(u Γ).bnd λ hi=>match d with
 | .str x=>if x.length<=sizeLine then .ok (.str (Txt.slice x lo hi)) else .bad
 |_=> .bad
def C1:List D->Res D
 |[.int i,.int j]=> .ok (.int (if j>i then j else i))
 |_=> .bad
def CZ:List D->Res D
 |[.int i,.int j]=> .ok (.int (if j<i then j else i))
 |_=> .bad
def vm:List D->Res (List D)
 |[x]=>match qi x with
  |some xs=> .ok xs
  |none=> .bad
 |_=> .bad
def lCB(r:List D->Res (List D))(fa:Sg->Res (List D)):Sg->Res (List D):=λ Γ=>(fa Γ).bnd r
def nA:List D->Res D
 |[x]=>match qi x with
  |some xs=> .ok (match x with
   | .gt ys=> .gt ys
   |_=> .tup xs)
  |none=> .bad
 |_=> .bad
noncomputable def aaK:D->Option (Sum Int Str)
 | .int i=>some (.inl i)
 | .str x=>some (.inr x)
 |_=>none
def dcO:D->Option (List (Sum Int Str)×List D)
 | .uQ (.s ks) xs=>some (ks,xs)
 | .yR _ (.s ks) xs=>some (ks,xs)
 |_=>none
noncomputable def aqb(ks:List (Sum Int Str))(xs:List D)(k:Sum Int Str):Option D:=((ks.zip xs).find? λ kv=>decide (kv.1=k)).map (·.2)
def getD(o y:D):Res D:=match dcO o with
 |some (ks,xs)=>(match aaK y with
  |some k=>(match aqb ks xs k with
   |some d=> .ok d
   |none=> .bad)
  |none=> .bad)
 |none=>bV o y
def nG(r r':D->D->Res D)(f g h:Sg->Res D):Sg->Res D:=λ Γ=>(f Γ).bnd λ x=>(g Γ).bnd λ y=>(r x y).bnd λ z=>match z with
 | .bl true=>(h Γ).bnd λ w=>r' y w
 | .bl false=> .ok (.bl false)
 |_=> .bad
mutual
/-- no instance GS may change is in it -/
noncomputable def noO:M->Bool
 | .n ms=>NL ms
 | .t ms=>NL ms
 | .q _ ms=>NL ms
 | .o _ _ _=>false
 |_=>true
noncomputable def NL:List M->Bool
 |[]=>true
 |m::ms=>noO m&&NL ms
end
def XA:D->D->Res D
 |x,.cY=> .ok (.bl (match x with
  | .cY=>true
  |_=>false))
 |x,.bl b=> .ok (.bl (match x with
  | .bl c=>c==b
  |_=>false))
 |_,_=> .bad
def Gg:D->D->Res D
 |x,.cY=> .ok (.bl (match x with
  | .cY=>false
  |_=>true))
 |x,.bl b=> .ok (.bl (match x with
  | .bl c=>!(c==b)
  |_=>true))
 |_,_=> .bad
def ae0(o:Out)(G:Sg->Out):Out:=match o with
 | .nx Γ'=>G Γ'
 |o=>o
def asv(i:Nat)(h:String->Option Bool)(o:Out)(G:Sg->Out):Out:=match o with
 | .err c Γ1=>(match h c with
  |some true=>aeX i (G (Γ1.set i (.val (.exc c))))
  |_=> .bad)
 |o=>o
def aim(r:Res Bool)(F G:Sg->Out)(Γ:Sg):Out:=oE r Γ λ c=>if c=true then F Γ else G Γ
def ahN(r:Res Bool)(q:Sg->Res Bool)(Γ:Sg):Res Bool:=r.bnd λ c=>if c=true then q Γ else .ok false
def rOr(r:Res Bool)(q:Sg->Res Bool)(Γ:Sg):Res Bool:=r.bnd λ c=>if c=true then .ok true else q Γ
def ad8(r:Res Bool)(q:Sg->Res D)(Γ:Sg):Res D:=r.bnd λ c=>if c=true then q Γ else .ok (.bl false)
def vOr(r:Res Bool)(q:Sg->Res D)(Γ:Sg):Res D:=r.bnd λ c=>if c=true then .ok (.bl true) else q Γ
section
variable(Γ:Sg)(f g:Sg->Res D)(p q:Sg->Res Bool)(F G:Sg->Out)(fa:Sg->Res (List D))
@[simp] theorem bT:aX F G Γ=ae0 (F Γ) G:=(rfl)
@[simp] theorem cP:ae0 (.nx Γ) G=G Γ:=(rfl)
@[simp] theorem anr(d:D):ae0 (.rt d) G= .rt d:=(rfl)
@[simp] theorem alq(c:String):ae0 (.err c Γ) G= .err c Γ:=(rfl)
@[simp] theorem aj1:cz Γ= .nx Γ:=(rfl)
@[simp] theorem US:sj p F G Γ=aim (p Γ) F G Γ:=(rfl)
@[simp] theorem ant:aim (.ok true) F G Γ=F Γ:=(rfl)
@[simp] theorem anu:aim (.ok false) F G Γ=G Γ:=(rfl)
@[simp] theorem anm:ahN (.ok true) q Γ=q Γ:=(rfl)
@[simp] theorem ano:ahN (.ok false) q Γ= .ok false:=(rfl)
@[simp] theorem apm:rOr (.ok false) q Γ=q Γ:=(rfl)
@[simp] theorem am9:ad8 (.ok true) f Γ=f Γ:=(rfl)
@[simp] theorem ana:ad8 (.ok false) f Γ= .ok (.bl false):=(rfl)
@[simp] theorem aoV:vOr (.ok true) f Γ= .ok (.bl true):=(rfl)
@[simp] theorem aoW:vOr (.ok false) f Γ=f Γ:=(rfl)
@[simp] theorem ak0:eN f Γ=oE (f Γ) Γ λ d=> .rt d:=(rfl)
@[simp] theorem aj2:sr f Γ=oE (f Γ) Γ λ _=> .nx Γ:=(rfl)
@[simp] theorem akZ(i:Nat):i8 i f Γ=oE (f Γ) Γ λ d=> .nx (Γ.set i (.val d)):=(rfl)
@[simp] theorem ajZ(i:Nat)(fm:Sg->Res M):gX i fm Γ=oE (fm Γ) Γ λ m=>if xJ m=true then .nx (Γ.set i (.own m)) else .bad:=(rfl)
@[simp] theorem ajY(i:Nat):FY i f Γ=oE (f Γ) Γ λ d=>if nt d=true then .nx (Γ.set i (.val d)) else .bad:=(rfl)
@[simp] theorem apH:mL fa Γ=(fa Γ).bnd λ ds=> .ok (.l ds):=(rfl)
@[simp] theorem amf(fm:Sg->Res M):om fm Γ=(fm Γ).bnd MC:=(rfl)
@[simp] theorem amg(n:Str):qt n f Γ=(f Γ).bnd (Dl n):=(rfl)
@[simp] theorem ake(i:Nat):d7 i Γ=match Γ[i]? with
 |some (.val d)=> .ok d
 |some (.own m)=> .ok (lend m)
 |some (.par m)=> .ok (lend m)
 |_=> .bad:=(rfl)
@[simp] theorem ak1(i k:Nat):ahH i k fa Γ=oE (fa Γ) Γ λ ds=>match ds with
 |[x,y]=> .nx ((Γ.set i (.val x)).set k (.val y))
 |_=> .bad:=(rfl)
@[simp] theorem ak4(t:Tg):Wh f t Γ=oE (f Γ) Γ λ d=>match t d Γ with
 |some Γ'=> .nx Γ'
 |none=> .bad:=(rfl)
@[simp] theorem Dv(i:Nat):aj i Γ=match Γ[i]? with
 |some (.val d)=> .ok d
 |_=> .bad:=(rfl)
@[simp] theorem aji(d:D):dC d Γ= .ok d:=(rfl)
@[simp] theorem afR(r:D->D->Res D):aI r f g Γ=(f Γ).bnd λ x=>(g Γ).bnd λ y=>r x y:=(rfl)
@[simp] theorem anE(r:D->D->Res (List D)):lOp r f g Γ=(f Γ).bnd λ x=>(g Γ).bnd λ y=>r x y:=(rfl)
@[simp] theorem aqs:dT f Γ=(f Γ).bnd tst:=(rfl)
@[simp] theorem ao1(b:Bool):tst (.bl b)= .ok b:=(rfl)
@[simp] theorem amu:Yq p q Γ=ahN (p Γ) q Γ:=(rfl)
@[simp] theorem anT:cOr p q Γ=rOr (p Γ) q Γ:=(rfl)
@[simp] theorem amt:yK p Γ=(p Γ).bnd λ c=> .ok (!c):=(rfl)
@[simp] theorem amj:Jo f g Γ=ad8 ((f Γ).bnd tst) g Γ:=by cases h:f Γ<;>simp only[Jo,ad8,h,Res.bD,Res.Bu,Res.Bv]
@[simp] theorem anO:dOr f g Γ=vOr ((f Γ).bnd tst) g Γ:=by cases h:f Γ<;>simp only[dOr,vOr,h,Res.bD,Res.Bu,Res.Bv]
@[simp] theorem amb:aje f Γ=(f Γ).bnd λ x=>(tst x).bnd λ c=> .ok (.bl (!c)):=(rfl)
@[simp] theorem Dw:aB Γ= .ok []:=(rfl)
@[simp] theorem lN:ai f fa Γ=(f Γ).bnd λ x=>(fa Γ).bnd λ xs=> .ok (x::xs):=(rfl)
@[simp] theorem abD:jm fa Γ=(fa Γ).bnd λ xs=>if xs.length<=1000 then .ok (.tup xs) else .bad:=(rfl)
@[simp] theorem amd:Dy fa Γ=(fa Γ).bnd λ xs=>if xs.length<=1000 then .ok xs else .bad:=(rfl)
@[simp] theorem uR:vc fa Γ=(fa Γ).bnd λ ds=> .ok (.lst ds):=(rfl)
@[simp] theorem anM(r:D->Res D):dUn r f Γ=(f Γ).bnd r:=(rfl)
@[simp] theorem alA(i:Int):ae5 (.int i)= .ok (.int (-i)):=(rfl)
@[simp] theorem Jm(r:List D->Res D):nv r fa Γ=(fa Γ).bnd r:=(rfl)
@[simp] theorem akh(n:Nat)(K:List Slot->cV):bz n K fa Γ=(fa Γ).bnd λ ds=>if ds.length=n then AZ (K (ds.map Slot.val)) else .bad:=(rfl)
@[simp] theorem ajh(n:Nat)(K:List Slot->cV):kW n K fa Γ=(fa Γ).bnd λ ds=>if ds.length=n/\fV ds=true then AZ (K (ds.map Slot.val)) else .bad:=(rfl)
@[simp] theorem ajg(n:Nat)(K:List Slot->cV):r9 n K fa Γ=(fa Γ).bnd λ ds=>if ds.length=n then AZ (nbA (K ((vp ds).map Slot.val))) else .bad:=(rfl)
@[simp] theorem akf(n:Nat)(c:String)(ns:List Str)(K:List Slot->cV):t9 n c ns K fa Γ=(fa Γ).bnd λ ds=>if ds.length=n then oY c ns (K (.par (.o c [] [])::ds.map Slot.val)) else .bad:=(rfl)
@[simp] theorem ame(mt:List (String×List String))(cs:List String):LX mt cs f Γ=(f Γ).bnd (yb mt cs):=(rfl)
@[simp] theorem amc:AY Γ= .ok none:=(rfl)
@[simp] theorem alY:XR f Γ=(f Γ).bnd ahF:=(rfl)
@[simp] theorem ams:gz Γ= .ok true:=(rfl)
@[simp] theorem rG(i:Nat)(d:D):aD i d Γ=some (Γ.set i (.val d)):=(rfl)
@[simp] theorem ajV:oO [] Γ=some Γ:=(rfl)
@[simp] theorem ahs(t:Tg)(u:Tgs)(d:D)(r:List D):b3 t u (d::r) Γ=(t d Γ).bind λ Γ'=>u r Γ':=(rfl)
@[simp] theorem ajU(n:Nat)(t:Tgs)(ds:List D):nH n t (.tup ds) Γ=if ds.length=n then t ds Γ else none:=(rfl)
end
@[simp] theorem anR(d:D):AZ (.ok d)= .ok d:=(rfl)
@[simp] theorem amh(m:M):AZ (.new m)=MC m:=(rfl)
@[simp] theorem ami(c:String):AZ (.err c)= .err c:=(rfl)
@[simp] theorem anB(d:D):rR (.ok d)= .ok (.d d):=(rfl)
@[simp] theorem alO(m:M):rR (.new m)= .ok m:=(rfl)
@[simp] theorem alP(c:String):rR (.err c)= .err c:=(rfl)
@[simp] theorem arz(d:D):MC (.d d)= .ok d:=(rfl)
@[simp] theorem ara(xs:List D):xJ (.l xs)=fV xs:=by simp[xJ]
@[simp] theorem apz(i:Int):nt (.int i)=true:=by simp[nt]
@[simp] theorem apw(i:Str):nt (.str i)=true:=by simp[nt]
@[simp] theorem apv(xs:List D):nt (.tup xs)=fV xs:=by simp[nt]
@[simp] theorem apy(xs:List D):nt (.lst xs)=fV xs:=by simp[nt]
@[simp] theorem anv:fV []=true:=by simp[fV]
@[simp] theorem alr(d:D)(ds:List D):fV (d::ds)=(nt d&&fV ds):=by simp[fV]
@[simp] theorem aj6:nI []=[]:=by simp[nI]
@[simp] theorem aiv(m:M)(ms:List M):nI (m::ms)=lend m::nI ms:=by simp[nI]
@[simp] theorem apL(xs:List D):lend (.l xs)= .bor true xs:=by simp[lend]
@[simp] theorem anU(m:M):pJ m []=some m:=by cases m<;>rfl
@[simp] theorem alg(m m':M):mW m [] m'=m':=by cases m<;>rfl
@[simp] theorem anh(m:M):Mx (.own m)=some m:=(rfl)
@[simp] theorem ang(m:M):Mx (.par m)=some m:=(rfl)
@[simp] theorem anl(m m':M):Wo (.own m) m'= .own m':=(rfl)
@[simp] theorem ank(m m':M):Wo (.par m) m'= .par m':=(rfl)
@[simp] theorem alp(Γ:Sg):oUp (some Γ)= .nx Γ:=(rfl)
@[simp] theorem aqv(Γ:Sg):qf (.nx Γ)= .ok .cY:=(rfl)
@[simp] theorem aqu(d:D):qf (.rt d)= .ok d:=(rfl)
@[simp] theorem anY(m:M):qf (.Wj m)= .new m:=(rfl)
@[simp] theorem an0(Γ:Sg):A4 (.nx Γ)= .MA .cY (bP 0 Γ):=(rfl)
@[simp] theorem amx(c:String)(Γ:Sg):A4 (.err c Γ)= .err c:=(rfl)
@[simp] theorem anZ(c:String)(Γ:Sg):qf (.err c Γ)= .err c:=(rfl)
@[simp] theorem akV(i j:Int):Y9 (.int i) (.int j)= .ok (.int (i- j)):=(rfl)
@[simp] theorem anC(i j:Int):ltI (.int i) (.int j)= .ok (.bl (decide (i<j))):=(rfl)
@[simp] theorem anD(i j:Int):leI (.int i) (.int j)= .ok (.bl (decide (i<=j))):=(rfl)
def K9(i j:Int)(h:xQ i j=true):kF (.int i) (.int j)= .ok (.int (i*j)):=by simp[kF,h]
def X3(i j:Int)(h:Gz i j=true):ig (.int i) (.int j)= .ok (.int (i.fdiv j)):=by simp[ig,h]
def qY(i j:Int)(h:j≠0):mX (.int i) (.int j)= .ok (.int (i.fmod j)):=by simp[mX,h]
@[simp] theorem aqq(a b:Bool):pQ (.bl a) (.bl b)= .ok (.bl (a==b)):=by simp[pQ,gK,LS,py,zc,PyData.eqv]
def bits_le{i:Int}{n:Nat}(h:i.natAbs<2^n):Builtin.Int.intBits i<=n:=by
 unfold Builtin.Int.intBits;split
 ·exact Nat.zero_le _
 ·rename_i hz;have:i.natAbs≠0:=by simpa using hz
  exact Nat.succ_le_of_lt ((Nat.log2_lt this).mpr h)
def K8{i j:Int}(h:j.natAbs<2^64):xQ i j=true:=by simp[xQ,bits_le h]
def NS{i j:Int}(h:i.natAbs<2^64):xQ i j=true:=by simp[xQ,bits_le h]
def aby{i j:Int}(h0:j≠0)(h:j.natAbs<2^9000):Gz i j=true:=by
 have:j.natAbs≠0:=by simpa using h0
 simp only[Gz,Bool.and_eq_true,decide_eq_true_eq];exact ⟨h0,(Nat.log2_lt this).mpr h⟩
@[simp] theorem alK(i j:Int)(h:j≠0):mX (.int i) (.int j)= .ok (.int (i.fmod j)):=qY i j h
@[simp] theorem aaf(i j:Int)(h:j.natAbs<18446744073709551616):kF (.int i) (.int j)= .ok (.int (i*j)):=K9 i j (K8 h)
@[simp] theorem zC(i j:Int)(h:i.natAbs<18446744073709551616):kF (.int i) (.int j)= .ok (.int (i*j)):=K9 i j (NS h)
@[simp] theorem Gs(i j:Int)(h:j≠0)(h2:j.natAbs<18446744073709551616):ig (.int i) (.int j)= .ok (.int (i.fdiv j)):=X3 i j (aby h (Nat.lt_of_lt_of_le h2 (show 2^64<=2^9000 from Nat.pow_le_pow_right (by decide) (by decide))))
@[simp] theorem Zt(i j:Int)(h0:0<=j)(h1:j<=1000000)(h2:i.natAbs<18446744073709551616):Zu (.int i) (.int j)= .ok (.int (i^j.toNat)):=by
 have:U0 i j=true:=by simp[U0,h0,h1];omega
 simp[Zu,this]
section
variable(f:Sg->Res D)(r:Sg->Res (List D))(t:Tg)(B:Sg->Out)(Γ:Sg)(xs:List D)
end
@[simp] theorem al5(t:Tg)(B:Sg->Out)(Γ:Sg):fP t B [] Γ= .nx Γ:=(rfl)
section
variable(Γ:Sg)(f g h:Sg->Res D)(fa:Sg->Res (List D))(t:Tg)(B:Sg->Out)
def sO(n:Nat)(qH:List (String×(List Slot->cV)))(o:D)(r:Res (List D)):Res M:=match mY qH o with
 |some F=>r.bnd λ ds=>if ds.length=n then rR (F ((o::ds).map Slot.val)) else .bad
 |none=> .bad
@[simp] theorem aj5(n:Nat)(qH:List (String×(List Slot->cV))):vj n qH f fa Γ=(f Γ).bnd λ o=>sO n qH o (fa Γ):=(rfl)
@[simp] theorem apx(c:String)(ns:List Str)(xs:List D):nt (.obj c ns xs)=fV xs:=by simp[nt]
def YZ(r:Res D)(r':D->D->Res D)(y:D)(h:Sg->Res D)(Γ:Sg):Res D:=r.bnd λ z=>match z with
 | .bl true=>(h Γ).bnd λ w=>r' y w
 | .bl false=> .ok (.bl false)
 |_=> .bad
@[simp] theorem ajf(r r':D->D->Res D):nG r r' f g h Γ=(f Γ).bnd λ x=>(g Γ).bnd λ y=>YZ (r x y) r' y h Γ:=(rfl)
@[simp] theorem ajT(r':D->D->Res D)(y:D):YZ (.ok (.bl true)) r' y h Γ=(h Γ).bnd λ w=>r' y w:=(rfl)
@[simp] theorem aj0(i:Nat)(ft:List (String×List Str))(n:Str):oU i ft n f Γ=oE (f Γ) Γ λ d=>oE (jg i Γ) Γ λ ks=>oUp (vg i ks (B3 ft n d) Γ):=(rfl)
@[simp] theorem jJ(tm:Bool)(k:Nat)(caps:List Nat)(p:Sg->Res Bool):dh tm fa k caps t p f Γ=(fa Γ).bnd λ xs=>if xs.length<1000000 then jN (wK t p f (sD tm k caps Γ)) xs else .bad:=(rfl)
end
end L4
end
section
namespace L4
open PySem PySem.Spec PyProof.Rows L2
abbrev St:=L2.St
structure Cb where
 exc:String->Option Addr
 cls:String->Option (Addr×List Str)
 /-- all classes of instances -/
 ins:String->Option Addr
structure Cf where
 cb:Cb
 L:Hp
 io:Addr->Prop
 args:List V
structure Ct where
 f:Cf
 B:Hp
 tm:Bool
def Cf.z(c:Cf):Ct:=⟨c,λ _=>none,false⟩
def Cf.at'(c:Cf)(H:Hp):Ct:=⟨c,H,true⟩
noncomputable def rB(a C:Addr):Heap->Prop:=λ h=>∃o,h.get? a=some o/\o.cls= .ref C
def FzL(K:W.Frag)(H:Hp)(a:Addr)(vs:List V):Prop:=(∃o,H a=some (.DZ o (.lst vs)))\/∃(o:Obj) (its:Array Value) (n:Nat),K.lookup a=some o/\o.cls= .type "list"/\o.dict=none/\o.data= .seq its n/\its.size<=sizeLine/\Vals vs its.toList
def FzL.sq{K:W.Frag}{H:Hp}{a:Addr}{vs:List V}(h:FzL K H a vs):vD K H a vs:=by
 rcases h with ⟨o,h⟩|h
 ·exact .inl (.inr ⟨o,h⟩)
 ·exact .inr h
def Ct.lo(ct:Ct)(t:Bool):Hp:=if t=true then ct.B else ct.f.L
def SqK(K:W.Frag)(a:Addr)(xs:List V):Prop:=∃(o:Obj) (its:Array Value) (n:Nat),K.lookup a=some o/\o.cls= .type "tuple"/\o.data= .seq its n/\its.size<=sizeLine/\Vals xs its.toList
def SqK.sq{K:W.Frag}{H:Hp}{a:Addr}{xs:List V}(h:SqK K a xs):A7 K H a xs:= .inr h
def qN{K:W.Frag}{H:Hp}{a:Addr}{xs:List V}(h:H a=some (.tup xs)):A7 K H a xs:= .inl (.inl h)
def Ks.ho:Ks->List V->HO
 | .s ks,vs=> .dK (ks.zip vs)
 | .t ks,vs=> .dT (ks.zip vs)
mutual
def Tl(K:W.Frag)(ct:Ct)(H:Hp):D->V->Prop
 | .cY,v=>v= .cY
 | .bl b,v=>v= .bl b
 | .int i,v=>v= .int i
 | .str x,v=>v= .str x
 | .tup ds,v=>∃a vs,v= .ref a/\H a=some (.tup vs)/\aL K ct H ds vs
 | .gt ds,v=>∃a vs,v= .ref a/\SqK K a vs/\aL K ct H ds vs
 | .lst ds,v=>∃a vs,v= .ref a/\FzL K H a vs/\aL K ct H ds vs
 | .obj c ns ds,v=>∃a C dx vs,v= .ref a/\ct.f.cb.cls c=some (C,ns)/\H a=some (.ins C dx (ns.zip vs))/\ns.length=vs.length/\aL K ct H ds vs
 | .exc c,v=>∃a C,v= .ref a/\ct.f.cb.exc c=some C/\H a=some (.ext (rB a C))
 | .bor t ds,v=>∃a vs,v= .ref a/\ct.lo t a=some (.lst vs)/\aL K ct H ds vs
 | .uQ ks ds,v=>∃a vs,v= .ref a/\(∃o,H a=some (.DZ o (ks.ho vs)))/\ks.len=vs.length/\aL K ct H ds vs
 | .yR t ks ds,v=>∃a vs,v= .ref a/\ct.lo t a=some (ks.ho vs)/\ks.len=vs.length/\aL K ct H ds vs
 | .yQ t c ns ds,v=>∃a C dx vs,v= .ref a/\ct.f.cb.ins c=some C/\ct.lo t a=some (.ins C dx (ns.zip vs))/\ns.length=vs.length/\aL K ct H ds vs
def aL(K:W.Frag)(ct:Ct)(H:Hp):List D->List V->Prop
 |[],vs=>vs=[]
 |d::ds,vs=>∃v r,vs=v::r/\Tl K ct H d v/\aL K ct H ds r
end
def Yu(cb:Cb):HO->Prop
 | .tup _=>True
 | .DZ _ _=>True
 | .ins C _ fs=>∃c ns,cb.cls c=some (C,ns)/\fs.map (·.1)=ns
 | .ext _=>True
 |_=>False
def aU(cb:Cb)(H H':Hp):Prop:=∀b o,H b=some o->Yu cb o->H' b=some o
def ay.keep{cb:Cb}{H H':Hp}(e:ay H H'):aU cb H H':=λ b o h _=>e b o h
def aU.refl{cb:Cb}(H:Hp):aU cb H H:=λ _ _ h _=>h
def aU.trans{cb:Cb}{H H1 H2:Hp}(a:aU cb H H1)(b:aU cb H1 H2):aU cb H H2:=λ c o h s=>b c o (a c o h s) s
def aU.lst{cb:Cb}{H:Hp}{a:Addr}{vs:List V}{o:HO}(h:H a=some (.lst vs)):aU cb H (upd H a o):=λ b u hb st=>by
 have:b≠a:=by rintro rfl;rw[h] at hb;cases hb;exact st
 rw[aF this];exact hb
def aU.dK{cb:Cb}{H:Hp}{a:Addr}{kvs:List (Key×V)}{o:HO}(h:H a=some (.dK kvs)):aU cb H (upd H a o):=λ b u hb st=>by
 have:b≠a:=by rintro rfl;rw[h] at hb;cases hb;exact st
 rw[aF this];exact hb
def aU.dT{cb:Cb}{H:Hp}{a:Addr}{kvs:List (List Key×V)}{o:HO}(h:H a=some (.dT kvs)):aU cb H (upd H a o):=λ b u hb st=>by
 have:b≠a:=by rintro rfl;rw[h] at hb;cases hb;exact st
 rw[aF this];exact hb
def Ks.tK{cb:Cb}{ks:Ks}{vs:List V}:¬Yu cb (ks.ho vs):=by cases ks<;>exact λ q=>q
def aU.sqT{cb:Cb}{K:W.Frag}{H H':Hp}{a:Addr}{xs:List V}(e:aU cb H H')(h:A7 K H a xs):A7 K H' a xs:=by
 rcases h with (h|⟨o,h⟩)|h
 ·exact .inl (.inl (e _ _ h trivial))
 ·exact .inl (.inr ⟨o,e _ _ h trivial⟩)
 ·exact .inr h
def aU.fzL{cb:Cb}{K:W.Frag}{H H':Hp}{a:Addr}{xs:List V}(e:aU cb H H')(h:FzL K H a xs):FzL K H' a xs:=by
 rcases h with ⟨o,h⟩|h
 ·exact .inl ⟨o,e _ _ h trivial⟩
 ·exact .inr h
def By{α β:Type}:∀{ns:List α} {vs:List β},ns.length=vs.length->(ns.zip vs).map (·.1)=ns
 |[],_,_=>by simp
 |n::ns,[],h=>by simp at h
 |n::ns,v::vs,h=>by simp only[List.zip_cons_cons,List.map_cons,List.cons.injEq,true_and];exact By (by simpa using h)
mutual
def Tl.keep{K:W.Frag}{ct:Ct}{H H':Hp}(e:aU ct.f.cb H H'):∀{d:D} {v:V},Tl K ct H d v->Tl K ct H' d v
 | .cY,_,h=>by simpa[Tl] using h
 | .bl b,_,h=>by simpa[Tl] using h
 | .int i,_,h=>by simpa[Tl] using h
 | .str x,_,h=>by simpa[Tl] using h
 | .tup ds,v,h=>by simp only[Tl] at h ⊢;obtain ⟨a,vs,h1,h2,h3⟩:=h;exact ⟨a,vs,h1,e _ _ h2 trivial,aL.keep e h3⟩
 | .gt ds,v,h=>by simp only[Tl] at h ⊢;obtain ⟨a,vs,h1,h2,h3⟩:=h;exact ⟨a,vs,h1,h2,aL.keep e h3⟩
 | .lst ds,v,h=>by simp only[Tl] at h ⊢;obtain ⟨a,vs,h1,h2,h3⟩:=h;exact ⟨a,vs,h1,e.fzL h2,aL.keep e h3⟩
 | .obj c ns ds,v,h=>by simp only[Tl] at h ⊢;obtain ⟨a,C,dx,vs,h1,h2,h3,h4,h5⟩:=h;exact ⟨a,C,dx,vs,h1,h2,e _ _ h3 ⟨c,ns,h2,By h4⟩,h4,aL.keep e h5⟩
 | .exc c,v,h=>by simp only[Tl] at h ⊢;obtain ⟨a,C,h1,h2,h3⟩:=h;exact ⟨a,C,h1,h2,e _ _ h3 trivial⟩
 | .bor t ds,v,h=>by simp only[Tl] at h ⊢;obtain ⟨a,vs,h1,h2,h3⟩:=h;exact ⟨a,vs,h1,h2,aL.keep e h3⟩
 | .uQ ks ds,v,h=>by simp only[Tl] at h ⊢;obtain ⟨a,vs,h1,⟨o,h2⟩,h3,h4⟩:=h;exact ⟨a,vs,h1,⟨o,e _ _ h2 trivial⟩,h3,aL.keep e h4⟩
 | .yR t ks ds,v,h=>by simp only[Tl] at h ⊢;obtain ⟨a,vs,h1,h2,h3,h4⟩:=h;exact ⟨a,vs,h1,h2,h3,aL.keep e h4⟩
 | .yQ t c ns ds,v,h=>by simp only[Tl] at h ⊢;obtain ⟨a,C,dx,vs,h1,h2,h3,h4,h5⟩:=h;exact ⟨a,C,dx,vs,h1,h2,h3,h4,aL.keep e h5⟩
def aL.keep{K:W.Frag}{ct:Ct}{H H':Hp}(e:aU ct.f.cb H H'):∀{ds:List D} {vs:List V},aL K ct H ds vs->aL K ct H' ds vs
 |[],_,h=>by simpa[aL] using h
 |d::ds,_,h=>by simp only[aL] at h ⊢;obtain ⟨v,r,h1,h2,h3⟩:=h;exact ⟨v,r,h1,Tl.keep e h2,aL.keep e h3⟩
end
structure adp(ct i6:Ct)(p:Bool->Bool)(g:Bool->Bool):Prop where
 cb:i6.f.cb=ct.f.cb
 at':∀t a o,p t=true->ct.lo t a=some o->i6.lo (g t) a=some o
mutual
noncomputable def D9(g:Bool->Bool):D->D
 | .tup xs=> .tup (uT g xs)
 | .gt xs=> .gt (uT g xs)
 | .lst xs=> .lst (uT g xs)
 | .obj c ns xs=> .obj c ns (uT g xs)
 | .uQ ks xs=> .uQ ks (uT g xs)
 | .bor t xs=> .bor (g t) (uT g xs)
 | .yR t ks xs=> .yR (g t) ks (uT g xs)
 | .yQ t c ns xs=> .yQ (g t) c ns (uT g xs)
 | .cY=> .cY
 | .bl b=> .bl b
 | .int i=> .int i
 | .str x=> .str x
 | .exc c=> .exc c
noncomputable def uT(g:Bool->Bool):List D->List D
 |[]=>[]
 |d::ds=>D9 g d::uT g ds
end
mutual
noncomputable def F0(p:Bool->Bool):D->Bool
 | .tup xs=>tE p xs
 | .gt xs=>tE p xs
 | .lst xs=>tE p xs
 | .obj _ _ xs=>tE p xs
 | .uQ _ xs=>tE p xs
 | .bor t xs=>p t&&tE p xs
 | .yR t _ xs=>p t&&tE p xs
 | .yQ t _ _ xs=>p t&&tE p xs
 |_=>true
noncomputable def tE(p:Bool->Bool):List D->Bool
 |[]=>true
 |d::ds=>F0 p d&&tE p ds
end
mutual
def Tl.re{K:W.Frag}{ct i6:Ct}{H:Hp}{p g:Bool->Bool}(r:adp ct i6 p g):∀{d:D} {v:V},F0 p d=true->Tl K ct H d v->Tl K i6 H (D9 g d) v
 | .cY,_,_,h=>by simpa[Tl,D9] using h
 | .bl b,_,_,h=>by simpa[Tl,D9] using h
 | .int i,_,_,h=>by simpa[Tl,D9] using h
 | .str x,_,_,h=>by simpa[Tl,D9] using h
 | .exc c,v,_,h=>by simp only[Tl,D9] at h ⊢;rw[r.cb];exact h
 | .tup ds,v,q,h=>by simp only[Tl,D9,F0] at h q ⊢;obtain ⟨a,vs,h1,h2,h3⟩:=h;exact ⟨a,vs,h1,h2,aL.re r q h3⟩
 | .gt ds,v,q,h=>by simp only[Tl,D9,F0] at h q ⊢;obtain ⟨a,vs,h1,h2,h3⟩:=h;exact ⟨a,vs,h1,h2,aL.re r q h3⟩
 | .lst ds,v,q,h=>by simp only[Tl,D9,F0] at h q ⊢;obtain ⟨a,vs,h1,h2,h3⟩:=h;exact ⟨a,vs,h1,h2,aL.re r q h3⟩
 | .obj c ns ds,v,q,h=>by simp only[Tl,D9,F0] at h q ⊢;obtain ⟨a,C,dx,vs,h1,h2,h3,h4,h5⟩:=h;exact ⟨a,C,dx,vs,h1,by rw[r.cb];exact h2,h3,h4,aL.re r q h5⟩
 | .bor t ds,v,q,h=>by simp only[Tl,D9,F0,Bool.and_eq_true] at h q ⊢;obtain ⟨a,vs,h1,h2,h3⟩:=h;exact ⟨a,vs,h1,r.at' t a _ q.1 h2,aL.re r q.2 h3⟩
 | .uQ ks ds,v,q,h=>by simp only[Tl,D9,F0] at h q ⊢;obtain ⟨a,vs,h1,h2,h3,h4⟩:=h;exact ⟨a,vs,h1,h2,h3,aL.re r q h4⟩
 | .yR t ks ds,v,q,h=>by simp only[Tl,D9,F0,Bool.and_eq_true] at h q ⊢;obtain ⟨a,vs,h1,h2,h3,h4⟩:=h;exact ⟨a,vs,h1,r.at' t a _ q.1 h2,h3,aL.re r q.2 h4⟩
 | .yQ t c ns ds,v,q,h=>by simp only[Tl,D9,F0,Bool.and_eq_true] at h q ⊢;obtain ⟨a,C,dx,vs,h1,h2,h3,h4,h5⟩:=h;exact ⟨a,C,dx,vs,h1,by rw[r.cb];exact h2,r.at' t a _ q.1 h3,h4,aL.re r q.2 h5⟩
def aL.re{K:W.Frag}{ct i6:Ct}{H:Hp}{p g:Bool->Bool}(r:adp ct i6 p g):∀{ds:List D} {vs:List V},tE p ds=true->aL K ct H ds vs->aL K i6 H (uT g ds) vs
 |[],_,_,h=>by simpa[aL,uT] using h
 |d::ds,_,q,h=>by simp only[aL,uT,tE,Bool.and_eq_true] at h q ⊢;obtain ⟨v,w,h1,h2,h3⟩:=h;exact ⟨v,w,h1,Tl.re r q.1 h2,aL.re r q.2 h3⟩
end
mutual
def BY:∀(d:D),D9 id d=d
 | .cY| .bl _| .int _| .str _| .exc _=>by simp[D9]
 | .tup ds| .gt ds| .lst ds| .obj _ _ ds| .uQ _ ds| .bor _ ds| .yR _ _ ds| .yQ _ _ _ ds=>by simp[D9,uD ds]
def uD:∀(ds:List D),uT id ds=ds
 |[]=>rfl
 |d::ds=>by simp[uT,BY d,uD ds]
end
mutual
def ahM:∀(d:D),D9 (λ _=>false) d=dn d
 | .cY| .bl _| .int _| .str _| .exc _=>by simp[D9,dn]
 | .tup ds| .gt ds| .lst ds| .obj _ _ ds| .uQ _ ds| .bor _ ds| .yR _ _ ds| .yQ _ _ _ ds=>by simp[D9,dn,G7 ds]
def G7:∀(ds:List D),uT (λ _=>false) ds=vp ds
 |[]=>rfl
 |d::ds=>by simp[uT,vp,ahM d,G7 ds]
end
mutual
def HD:∀(d:D),F0 (λ _=>true) d=true
 | .cY| .bl _| .int _| .str _| .exc _=>by simp[F0]
 | .tup ds| .gt ds| .lst ds| .obj _ _ ds| .uQ _ ds| .bor _ ds| .yR _ _ ds| .yQ _ _ _ ds=>by simp[F0,tw ds]
def tw:∀(ds:List D),tE (λ _=>true) ds=true
 |[]=>rfl
 |d::ds=>by simp[tE,HD d,tw ds]
end
mutual
def Z1:∀(d:D),F0 (λ t=>!t) d=nt d
 | .cY| .bl _| .int _| .str _| .exc _=>by simp[F0,nt]
 | .tup ds| .gt ds| .lst ds| .obj _ _ ds| .uQ _ ds| .bor _ ds| .yR _ _ ds| .yQ _ _ _ ds=>by simp[F0,nt,HB ds]
def HB:∀(ds:List D),tE (λ t=>!t) ds=fV ds
 |[]=>rfl
 |d::ds=>by simp[tE,fV,Z1 d,HB ds]
end
mutual
def Z2:∀(d:D),F0 (λ _=>false) d=nb d
 | .cY| .bl _| .int _| .str _| .exc _=>by simp[F0,nb]
 | .tup ds| .gt ds| .lst ds| .obj _ _ ds| .uQ _ ds=>by simp[F0,nb,HC ds]
 | .bor _ ds| .yR _ _ ds| .yQ _ _ _ ds=>by simp[F0,nb]
def HC:∀(ds:List D),tE (λ _=>false) ds=qx ds
 |[]=>rfl
 |d::ds=>by simp[tE,qx,Z2 d,HC ds]
end
def Tl.lift{K:W.Frag}{c:Cf}{B H:Hp}{d:D}{v:V}(h:Tl K c.z H d v):Tl K (c.at' B) H d v:=by
 have:=Tl.re (ct:=c.z) (i6:=c.at' B) (p:=λ _=>true) (g:=id) ⟨rfl,λ t a o _ q=>by cases t with
  |true=>exact absurd q (by simp[Ct.lo,Cf.z])
  |false=>exact q⟩ (HD d) h
 rwa [BY] at this
def Tl.down{K:W.Frag}{c:Cf}{B H:Hp}{tm:Bool}{d:D}{v:V}(h:Tl K ⟨c,B,tm⟩ H d v)(n:nt d=true):Tl K c.z H d v:=by
 have:=Tl.re (ct:=⟨c,B,tm⟩) (i6:=c.z) (p:=λ t=>!t) (g:=id) ⟨rfl,λ t a o p q=>by cases t with
  |true=>cases p
  |false=>exact q⟩ (by rw[Z1];exact n) h
 rwa [BY] at this
def Tl.bare{K:W.Frag}{ct i6:Ct}{H:Hp}{d:D}{v:V}(e:i6.f.cb=ct.f.cb)(h:Tl K ct H d v)(n:nb d=true):Tl K i6 H d v:=by have:=Tl.re (ct:=ct) (i6:=i6) (p:=λ _=>false) (g:=id) ⟨e,λ t a o p q=>nomatch p⟩ (by rw[Z2];exact n) h;rwa [BY] at this
def aL.bare{K:W.Frag}{ct i6:Ct}{H:Hp}{d:List D}{v:List V}(e:i6.f.cb=ct.f.cb)(h:aL K ct H d v)(n:qx d=true):aL K i6 H d v:=by have:=aL.re (ct:=ct) (i6:=i6) (p:=λ _=>false) (g:=id) ⟨e,λ t a o p q=>nomatch p⟩ (by rw[HC];exact n) h;rwa [uD] at this
def aL.lift{K:W.Frag}{c:Cf}{B H:Hp}{d:List D}{v:List V}(h:aL K c.z H d v):aL K (c.at' B) H d v:=by
 have:=aL.re (ct:=c.z) (i6:=c.at' B) (p:=λ _=>true) (g:=id) ⟨rfl,λ t a o _ q=>by cases t with
  |true=>exact absurd q (by simp[Ct.lo,Cf.z])
  |false=>exact q⟩ (tw d) h
 rwa [uD] at this
def aL.down{K:W.Frag}{c:Cf}{B H:Hp}{tm:Bool}{d:List D}{v:List V}(h:aL K ⟨c,B,tm⟩ H d v)(n:fV d=true):aL K c.z H d v:=by
 have:=aL.re (ct:=⟨c,B,tm⟩) (i6:=c.z) (p:=λ t=>!t) (g:=id) ⟨rfl,λ t a o p q=>by cases t with
  |true=>cases p
  |false=>exact q⟩ (by rw[HB];exact n) h
 rwa [uD] at this
def aL.lent{K:W.Frag}{ct:Ct}{c':Cf}{H:Hp}{d:List D}{v:List V}(e:c'.cb=ct.f.cb)(eL:c'.L=H)(l:ay ct.f.L H)(b:ay ct.B H)(h:aL K ct H d v):aL K c'.z H (vp d) v:=by
 have:=aL.re (ct:=ct) (i6:=c'.z) (p:=λ _=>true) (g:=λ _=>false) ⟨e,λ t a o _ q=>by
  show c'.L a=some o;rw[eL];cases t with
  |true=>exact b a o q
  |false=>exact l a o q⟩ (tw d) h
 rwa [G7] at this
def aL.length{K:W.Frag}{ct:Ct}{H:Hp}:∀{ds:List D} {vs:List V},aL K ct H ds vs->ds.length=vs.length
 |[],_,h=>by simp only[aL] at h;rw[h];rfl
 |d::ds,_,h=>by simp only[aL] at h;obtain ⟨v,r,rfl,_,h⟩:=h;simp[aL.length h]
def aL.get{K:W.Frag}{ct:Ct}{H:Hp}:∀{ds:List D} {vs:List V} {i:Nat} {d:D},aL K ct H ds vs->ds[i]? =some d->∃v,vs[i]? =some v/\Tl K ct H d v
 |[],_,_,_,_,e=>by simp at e
 |d::ds,_,i,d',h,e=>by
  simp only[aL] at h;obtain ⟨v,r,rfl,h1,h2⟩:=h;cases i with
  |zero=>simp at e;subst e;exact ⟨v,rfl,h1⟩
  |succ i=>exact aL.get (i:=i) h2 (by simpa using e)
def aL.nil{K:W.Frag}{ct:Ct}{H:Hp}:aL K ct H [] []:=by simp[aL]
def aL.cons{K:W.Frag}{ct:Ct}{H:Hp}{d:D}{v:V}{ds:List D}{vs:List V}(h:Tl K ct H d v)(t:aL K ct H ds vs):aL K ct H (d::ds) (v::vs):=by simp only[aL];exact ⟨v,vs,rfl,h,t⟩
def aL.append{K:W.Frag}{ct:Ct}{H:Hp}:∀{ds es:List D} {vs us:List V},aL K ct H ds vs->aL K ct H es us->aL K ct H (ds++es) (vs++us)
 |[],_,_,_,h,t=>by simp only[aL] at h;subst h;simpa using t
 |d::ds,_,_,_,h,t=>by simp only[aL] at h;obtain ⟨v,r,rfl,h1,h2⟩:=h;exact aL.cons h1 (aL.append h2 t)
def aL.take{K:W.Frag}{ct:Ct}{H:Hp}:∀{ds:List D} {vs:List V} (n:Nat),aL K ct H ds vs->aL K ct H (ds.take n) (vs.take n)
 |[],_,n,h=>by simp only[aL] at h;subst h;simp[aL]
 |d::ds,_,0,_=>by simp[aL]
 |d::ds,_,n+1,h=>by simp only[aL] at h;obtain ⟨v,r,rfl,h1,h2⟩:=h;exact aL.cons h1 (aL.take n h2)
def aL.drop{K:W.Frag}{ct:Ct}{H:Hp}:∀{ds:List D} {vs:List V} (n:Nat),aL K ct H ds vs->aL K ct H (ds.drop n) (vs.drop n)
 |[],_,n,h=>by simp only[aL] at h;subst h;simp[aL]
 |d::ds,_,0,h=>h
 |d::ds,_,n+1,h=>by simp only[aL] at h;obtain ⟨v,r,rfl,h1,h2⟩:=h;exact aL.drop n h2
def aL.set{K:W.Frag}{ct:Ct}{H:Hp}{d:D}{v:V}(q:Tl K ct H d v):∀{ds:List D} {vs:List V} (n:Nat),aL K ct H ds vs->aL K ct H (ds.set n d) (vs.set n v)
 |[],_,n,h=>by simp only[aL] at h;subst h;simp[aL]
 |_::ds,_,0,h=>by simp only[aL] at h;obtain ⟨w,r,rfl,_,h2⟩:=h;exact aL.cons q h2
 |_::ds,_,n+1,h=>by simp only[aL] at h;obtain ⟨w,r,rfl,h1,h2⟩:=h;exact aL.cons h1 (aL.set q n h2)
noncomputable abbrev Fp:=Addr->Prop
mutual
def Ow(K:W.Frag)(ct:Ct)(H:Hp):M->V->Fp->Prop
 | .d x,v,_=>Tl K ct H x v
 | .l xs,v,S=>∃a vs,v= .ref a/\S a/\H a=some (.lst vs)/\aL K ct H xs vs
 | .n ms,v,S=>∃a vs,v= .ref a/\S a/\H a=some (.lst vs)/\cO K ct H ms vs λ b=>S b/\b≠a
 | .t ms,v,S=>∃a vs,v= .ref a/\H a=some (.tup vs)/\cO K ct H ms vs S
 | .k ks xs,v,S=>∃a vs,v= .ref a/\S a/\H a=some (ks.ho vs)/\ks.len=vs.length/\aL K ct H xs vs
 | .o c ns xs,v,S=>∃a C dx vs,v= .ref a/\S a/\ct.f.cb.ins c=some C/\H a=some (.ins C dx (ns.zip vs))/\ns.length=vs.length/\aL K ct H xs vs
 | .q ks ms,v,S=>∃a vs,v= .ref a/\S a/\H a=some (ks.ho vs)/\ks.len=vs.length/\cO K ct H ms vs λ b=>S b/\b≠a
def cO(K:W.Frag)(ct:Ct)(H:Hp):List M->List V->Fp->Prop
 |[],vs,_=>vs=[]
 |m::ms,vs,S=>∃v r S1 S2,vs=v::r/\(∀b,S1 b->S b)/\(∀b,S2 b->S b)/\(∀b,S1 b->¬S2 b)/\Ow K ct H m v S1/\cO K ct H ms r S2
end
section
variable{K:W.Frag}{ct i6:Ct}{H H':Hp}
mutual
/-- a aqT place -/
def Ow.wide:∀{m:M} {v:V} {S T:Fp},(∀b,S b->T b)->Ow K ct H m v S->Ow K ct H m v T
 | .d x,v,S,T,_,h=>by simpa[Ow] using h
 | .l xs,v,S,T,k,h=>by simp only[Ow] at h ⊢;obtain ⟨a,vs,h1,h2,h3⟩:=h;exact ⟨a,vs,h1,k _ h2,h3⟩
 | .n ms,v,S,T,k,h=>by simp only[Ow] at h ⊢;obtain ⟨a,vs,h1,h2,h3,h4⟩:=h;exact ⟨a,vs,h1,k _ h2,h3,cO.wide (λ b z=>⟨k b z.1,z.2⟩) h4⟩
 | .t ms,v,S,T,k,h=>by simp only[Ow] at h ⊢;obtain ⟨a,vs,h1,h2,h3⟩:=h;exact ⟨a,vs,h1,h2,cO.wide k h3⟩
 | .k ks xs,v,S,T,k,h=>by simp only[Ow] at h ⊢;obtain ⟨a,vs,h1,h2,h3⟩:=h;exact ⟨a,vs,h1,k _ h2,h3⟩
 | .o c ns xs,v,S,T,k,h=>by simp only[Ow] at h ⊢;obtain ⟨a,C,dx,vs,h1,h2,h3⟩:=h;exact ⟨a,C,dx,vs,h1,k _ h2,h3⟩
 | .q ks ms,v,S,T,k,h=>by simp only[Ow] at h ⊢;obtain ⟨a,vs,h1,h2,h3,h4,h5⟩:=h;exact ⟨a,vs,h1,k _ h2,h3,h4,cO.wide (λ b z=>⟨k b z.1,z.2⟩) h5⟩
def cO.wide:∀{ms:List M} {vs:List V} {S T:Fp},(∀b,S b->T b)->cO K ct H ms vs S->cO K ct H ms vs T
 |[],vs,S,T,_,h=>by simpa[cO] using h
 |m::ms,vs,S,T,k,h=>by simp only[cO] at h ⊢;obtain ⟨v,r,S1,S2,h1,h2,h3,h4,h5,h6⟩:=h;exact ⟨v,r,S1,S2,h1,λ b z=>k b (h2 b z),λ b z=>k b (h3 b z),h4,h5,h6⟩
end
mutual
/-- its places are untouched,Mw data are kept -/
def Ow.frame(e:aU ct.f.cb H H'):∀{m:M} {v:V} {S:Fp},(∀b o,S b->H b=some o->H' b=some o)->Ow K ct H m v S->Ow K ct H' m v S
 | .d x,v,S,_,h=>by simp only[Ow] at h ⊢;exact h.keep e
 | .l xs,v,S,k,h=>by simp only[Ow] at h ⊢;obtain ⟨a,vs,h1,h2,h3,h4⟩:=h;exact ⟨a,vs,h1,h2,k _ _ h2 h3,h4.keep e⟩
 | .n ms,v,S,k,h=>by simp only[Ow] at h ⊢;obtain ⟨a,vs,h1,h2,h3,h4⟩:=h;exact ⟨a,vs,h1,h2,k _ _ h2 h3,cO.frame e (λ b o z=>k b o z.1) h4⟩
 | .t ms,v,S,k,h=>by simp only[Ow] at h ⊢;obtain ⟨a,vs,h1,h2,h3⟩:=h;exact ⟨a,vs,h1,e _ _ h2 trivial,cO.frame e k h3⟩
 | .k ks xs,v,S,k,h=>by simp only[Ow] at h ⊢;obtain ⟨a,vs,h1,h2,h3,h4,h5⟩:=h;exact ⟨a,vs,h1,h2,k _ _ h2 h3,h4,h5.keep e⟩
 | .o c ns xs,v,S,k,h=>by simp only[Ow] at h ⊢;obtain ⟨a,C,dx,vs,h1,h2,h3,h4,h5,h6⟩:=h;exact ⟨a,C,dx,vs,h1,h2,h3,k _ _ h2 h4,h5,h6.keep e⟩
 | .q ks ms,v,S,k,h=>by simp only[Ow] at h ⊢;obtain ⟨a,vs,h1,h2,h3,h4,h5⟩:=h;exact ⟨a,vs,h1,h2,k _ _ h2 h3,h4,cO.frame e (λ b o z=>k b o z.1) h5⟩
def cO.frame(e:aU ct.f.cb H H'):∀{ms:List M} {vs:List V} {S:Fp},(∀b o,S b->H b=some o->H' b=some o)->cO K ct H ms vs S->cO K ct H' ms vs S
 |[],vs,S,_,h=>by simpa[cO] using h
 |m::ms,vs,S,k,h=>by simp only[cO] at h ⊢;obtain ⟨v,r,S1,S2,h1,h2,h3,h4,h5,h6⟩:=h;exact ⟨v,r,S1,S2,h1,h2,h3,h4,Ow.frame e (λ b o z=>k b o (h2 b z)) h5,cO.frame e (λ b o z=>k b o (h3 b z)) h6⟩
end
mutual
/-- lent for an expression -/
def Ow.lend:∀{m:M} {v:V} {S:Fp},(∀b,S b->ct.B b=H b)->Ow K ct H m v S->Tl K ct H (lend m) v
 | .d x,v,S,_,h=>by simpa only[Ow,L4.lend] using h
 | .l xs,v,S,k,h=>by simp only[Ow,L4.lend,Tl] at h ⊢;obtain ⟨a,vs,h1,h2,h3,h4⟩:=h;exact ⟨a,vs,h1,(k a h2).trans h3,h4⟩
 | .n ms,v,S,k,h=>by simp only[Ow,L4.lend,Tl] at h ⊢;obtain ⟨a,vs,h1,h2,h3,h4⟩:=h;exact ⟨a,vs,h1,(k a h2).trans h3,cO.lend (λ b z=>k b z.1) h4⟩
 | .t ms,v,S,k,h=>by simp only[Ow,L4.lend,Tl] at h ⊢;obtain ⟨a,vs,h1,h2,h3⟩:=h;exact ⟨a,vs,h1,h2,cO.lend k h3⟩
 | .k ks xs,v,S,k,h=>by simp only[Ow,L4.lend,Tl] at h ⊢;obtain ⟨a,vs,h1,h2,h3,h4,h5⟩:=h;exact ⟨a,vs,h1,(k a h2).trans h3,h4,h5⟩
 | .o c ns xs,v,S,k,h=>by simp only[Ow,L4.lend,Tl] at h ⊢;obtain ⟨a,C,dx,vs,h1,h2,h3,h4,h5,h6⟩:=h;exact ⟨a,C,dx,vs,h1,h3,(k a h2).trans h4,h5,h6⟩
 | .q ks ms,v,S,k,h=>by simp only[Ow,L4.lend,Tl] at h ⊢;obtain ⟨a,vs,h1,h2,h3,h4,h5⟩:=h;exact ⟨a,vs,h1,(k a h2).trans h3,h4,cO.lend (λ b z=>k b z.1) h5⟩
def cO.lend:∀{ms:List M} {vs:List V} {S:Fp},(∀b,S b->ct.B b=H b)->cO K ct H ms vs S->aL K ct H (nI ms) vs
 |[],vs,S,_,h=>by simpa[cO,L4.nI,aL] using h
 |m::ms,vs,S,k,h=>by simp only[cO,L4.nI,aL] at h ⊢;obtain ⟨v,r,S1,S2,h1,h2,h3,h4,h5,h6⟩:=h;exact ⟨v,r,h1,Ow.lend (λ b z=>k b (h2 b z)) h5,cO.lend (λ b z=>k b (h3 b z)) h6⟩
end
mutual
/-- Mw data in it told otherwise -/
def Ow.map{p:D->Bool}(ec:i6.f.cb=ct.f.cb)(g:∀d v,p d=true->Tl K ct H d v->Tl K i6 H d v){q:List D->Bool}(gs:∀d v,q d=true->aL K ct H d v->aL K i6 H d v){pm:M->Bool}{Mz:List M->Bool} (e1:∀x,pm (.d x)=true->p x=true) (e2:∀x,pm (.l x)=true->q x=true) (e3:∀x,pm (.n x)=true->Mz x=true) (e4:∀x,pm (.t x)=true->Mz x=true) (e5:∀k x,pm (.k k x)=true->q x=true) (e7:∀c k x,pm (.o c k x)=true->q x=true) (e8:∀k x,pm (.q k x)=true->Mz x=true) (e6:∀m ms,Mz (m::ms)=true->pm m=true/\Mz ms=true):∀{m:M} {v:V} {S:Fp},pm m=true->Ow K ct H m v S->Ow K i6 H m v S
 | .d x,v,S,z,h=>by simp only[Ow] at h ⊢;exact g _ _ (e1 _ z) h
 | .l xs,v,S,z,h=>by simp only[Ow] at h ⊢;obtain ⟨a,vs,h1,h2,h3,h4⟩:=h;exact ⟨a,vs,h1,h2,h3,gs _ _ (e2 _ z) h4⟩
 | .n ms,v,S,z,h=>by simp only[Ow] at h ⊢;obtain ⟨a,vs,h1,h2,h3,h4⟩:=h;exact ⟨a,vs,h1,h2,h3,cO.map ec g gs e1 e2 e3 e4 e5 e7 e8 e6 (e3 _ z) h4⟩
 | .t ms,v,S,z,h=>by simp only[Ow] at h ⊢;obtain ⟨a,vs,h1,h2,h3⟩:=h;exact ⟨a,vs,h1,h2,cO.map ec g gs e1 e2 e3 e4 e5 e7 e8 e6 (e4 _ z) h3⟩
 | .k ks xs,v,S,z,h=>by simp only[Ow] at h ⊢;obtain ⟨a,vs,h1,h2,h3,h4,h5⟩:=h;exact ⟨a,vs,h1,h2,h3,h4,gs _ _ (e5 _ _ z) h5⟩
 | .o c ns xs,v,S,z,h=>by simp only[Ow] at h ⊢;obtain ⟨a,C,dx,vs,h1,h2,h3,h4,h5,h6⟩:=h;exact ⟨a,C,dx,vs,h1,h2,by rw[ec];exact h3,h4,h5,gs _ _ (e7 _ _ _ z) h6⟩
 | .q ks ms,v,S,z,h=>by simp only[Ow] at h ⊢;obtain ⟨a,vs,h1,h2,h3,h4,h5⟩:=h;exact ⟨a,vs,h1,h2,h3,h4,cO.map ec g gs e1 e2 e3 e4 e5 e7 e8 e6 (e8 _ _ z) h5⟩
def cO.map{p:D->Bool}(ec:i6.f.cb=ct.f.cb)(g:∀d v,p d=true->Tl K ct H d v->Tl K i6 H d v){q:List D->Bool}(gs:∀d v,q d=true->aL K ct H d v->aL K i6 H d v){pm:M->Bool}{Mz:List M->Bool} (e1:∀x,pm (.d x)=true->p x=true) (e2:∀x,pm (.l x)=true->q x=true) (e3:∀x,pm (.n x)=true->Mz x=true) (e4:∀x,pm (.t x)=true->Mz x=true) (e5:∀k x,pm (.k k x)=true->q x=true) (e7:∀c k x,pm (.o c k x)=true->q x=true) (e8:∀k x,pm (.q k x)=true->Mz x=true) (e6:∀m ms,Mz (m::ms)=true->pm m=true/\Mz ms=true):∀{ms:List M} {vs:List V} {S:Fp},Mz ms=true->cO K ct H ms vs S->cO K i6 H ms vs S
 |[],vs,S,_,h=>by simpa[cO] using h
 |m::ms,vs,S,z,h=>by simp only[cO] at h ⊢;obtain ⟨v,r,S1,S2,h1,h2,h3,h4,h5,h6⟩:=h;exact ⟨v,r,S1,S2,h1,h2,h3,h4,Ow.map ec g gs e1 e2 e3 e4 e5 e7 e8 e6 (e6 _ _ z).1 h5,cO.map ec g gs e1 e2 e3 e4 e5 e7 e8 e6 (e6 _ _ z).2 h6⟩
end
end
section
variable{K:W.Frag}{c:Cf}{B H:Hp}{m:M}{v:V}{S:Fp}
def Ow.lift(h:Ow K c.z H m v S):Ow K (c.at' B) H m v S:=Ow.map (ct:=c.z) (i6:=c.at' B) (p:=λ _=>true) rfl (λ _ _ _=>Tl.lift) (q:=λ _=>true) (λ _ _ _=>aL.lift) (pm:=λ _=>true) (Mz:=λ _=>true) (λ _ _=>rfl) (λ _ _=>rfl) (λ _ _=>rfl) (λ _ _=>rfl) (λ _ _ _=>rfl) (λ _ _ _ _=>rfl) (λ _ _ _=>rfl) (λ _ _ _=>⟨rfl,rfl⟩) rfl h
def Ow.down{tm:Bool}(h:Ow K ⟨c,B,tm⟩ H m v S)(n:xJ m=true):Ow K c.z H m v S:=Ow.map (ct:=⟨c,B,tm⟩) (i6:=c.z) (p:=nt) rfl (λ _ _ n h=>h.down n) (q:=fV) (λ _ _ n h=>h.down n) (pm:=xJ) (Mz:=vZ) (λ _ z=>by simpa[xJ] using z) (λ _ z=>by simpa[xJ] using z) (λ _ z=>by simpa[xJ] using z) (λ _ z=>by simpa[xJ] using z) (λ _ _ z=>by simpa[xJ] using z) (λ _ _ _ z=>by simpa[xJ] using z) (λ _ _ z=>by simpa[xJ] using z)
  (λ _ _ z=>by simpa[vZ] using z) n h
def Ow.bare{ct i6:Ct}(e:i6.f.cb=ct.f.cb)(h:Ow K ct H m v S)(n:MB m=true):Ow K i6 H m v S:=Ow.map (p:=nb) e (λ _ _ n h=>h.bare e n) (q:=qx) (λ _ _ n h=>h.bare e n) (pm:=MB) (Mz:=W0) (λ _ z=>by simpa[MB] using z) (λ _ z=>by simpa[MB] using z) (λ _ z=>by simpa[MB] using z) (λ _ z=>by simpa[MB] using z) (λ _ _ z=>by simpa[MB] using z) (λ _ _ _ z=>by simpa[MB] using z) (λ _ _ z=>by simpa[MB] using z)
  (λ _ _ z=>by simpa[W0] using z) n h
end
structure Yv(ct:Ct)(H₀ H:Hp)(S:Fp):Prop where
 new:∀b,S b->H₀ b=none\/ct.f.io b
 here:∀b,S b->H b≠none
 Ex:∀b,S b->ct.f.L b=none
 lent:∀b,S b->ct.tm=true->ct.B b=H b
def pM(K:W.Frag)(ct:Ct)(H₀ H:Hp)(i:Nat)(S:Fp):Slot->Option V->Prop
 | .no,_=>∀b,¬S b
 | .val d,ov=>(∃v,ov=some v/\Tl K ct H d v)/\∀b,¬S b
 | .own m,ov=>∃v,ov=some v/\Ow K ct H m v S/\Yv ct H₀ H S/\∀b,S b->H₀ b=none
 | .par m,ov=>∃v,ov=some v/\Ow K ct H m v S/\Yv ct H₀ H S/\ct.f.args[i]? =some v
structure J(K:W.Frag)(ct:Ct)(H₀:Hp)(Γ:Sg)(σ:St)(H:Hp):Prop where
 same:∀b o,H₀ b=some o->¬ct.f.io b->H b=some o
 free:∀b,H b=none->H₀ b=none
 lL:ay ct.f.L H
 lB:ay ct.B H
 len:Γ.length=σ.length
 sl:∃S:Nat->Fp,(∀i sl ov,Γ[i]? =some sl->σ[i]? =some ov->pM K ct H₀ H i (S i) sl ov)/\(∀i j b,i≠j->S i b->¬S j b)/\∀i b,S i b->H b≠none
section
variable{K:W.Frag}{ct:Ct}{H₀ H H':Hp}{Γ:Sg}{σ:St}{i:Nat}{S:Fp}{sl:Slot}{ov:Option V}
def Yv.same(h:Yv ct H₀ H S)(e:ay H H'):Yv ct H₀ H' S:=⟨h.new,λ b z q=>h.here b z (by
  cases w:H b with
  |none=>rfl
  |some o=>rw[e b o w] at q;cases q),h.Ex,λ b z t=>by
 rw[h.lent b z t];cases w:H b with
 |none=>exact absurd w (h.here b z)
 |some o=>exact (e b o w).symm⟩
def pM.same(h:pM K ct H₀ H i S sl ov)(e:ay H H'):pM K ct H₀ H' i S sl ov:=by
 cases sl with
 |no=>exact h
 |val d=>obtain ⟨⟨v,h1,h2⟩,h3⟩:=h;exact ⟨⟨v,h1,h2.keep (ay.keep e)⟩,h3⟩
 |own m=>obtain ⟨v,h1,h2,h3,h4⟩:=h;exact ⟨v,h1,h2.frame (ay.keep e) (λ b o _ q=>e b o q),h3.same e,h4⟩
 |par m=>obtain ⟨v,h1,h2,h3,h4⟩:=h;exact ⟨v,h1,h2.frame (ay.keep e) (λ b o _ q=>e b o q),h3.same e,h4⟩
def J.mono(j:J K ct H₀ Γ σ H)(e:ay H H'):J K ct H₀ Γ σ H':=by obtain ⟨S,h1,h2,h3⟩:=j.sl;exact ⟨λ b o q n=>e b o (j.same b o q n),λ b q=>j.free b (e.free q),j.lL.trans e,j.lB.trans e,j.len,S,λ i sl ov g1 g2=>(h1 i sl ov g1 g2).same e,h2,λ i b w q=>h3 i b w (e.free q)⟩
def J.get(j:J K ct H₀ Γ σ H)(h:Γ[i]? =some sl):∃ov S,σ[i]? =some ov/\pM K ct H₀ H i S sl ov:=by
 have hi:i<σ.length:=by rw[<-j.len];exact (List.getElem?_eq_some_iff.mp h).1
 obtain ⟨S,h1,h2⟩:=j.sl;exact ⟨σ[i],S i,List.getElem?_eq_getElem hi,h1 i sl _ h (List.getElem?_eq_getElem hi)⟩
def J.val{d:D}(j:J K ct H₀ Γ σ H)(h:Γ[i]? =some (.val d)):∃v,σ[i]? =some (some v)/\Tl K ct H d v:=by obtain ⟨ov,S,h1,⟨v,h2,h3⟩,_⟩:=j.get h;exact ⟨v,by rw[h1,h2],h3⟩
def J.own{m:M}(j:J K ct H₀ Γ σ H)(h:Γ[i]? =some (.own m)):∃v S,σ[i]? =some (some v)/\Ow K ct H m v S/\Yv ct H₀ H S/\∀b,S b->H₀ b=none:=by obtain ⟨ov,S,h1,v,h2,h3⟩:=j.get h;exact ⟨v,S,by rw[h1,h2],h3⟩
def J.par{m:M}(j:J K ct H₀ Γ σ H)(h:Γ[i]? =some (.par m)):∃v S,σ[i]? =some (some v)/\Ow K ct H m v S/\Yv ct H₀ H S/\ct.f.args[i]? =some v:=by obtain ⟨ov,S,h1,v,h2,h3⟩:=j.get h;exact ⟨v,S,by rw[h1,h2],h3⟩
def J.lift{c:Cf}(j:J K c.z H₀ Γ σ H):J K (c.at' H) H₀ Γ σ H:=by
 obtain ⟨S,h1,h2⟩:=j.sl;refine ⟨j.same,j.free,j.lL,ay.refl H,j.len,S,λ i sl ov g1 g2=>?_,h2⟩;have h:=h1 i sl ov g1 g2;cases sl with
 |no=>exact h
 |val d=>obtain ⟨⟨v,h1,h2⟩,h3⟩:=h;exact ⟨⟨v,h1,h2.lift⟩,h3⟩
 |own m=>obtain ⟨v,h1,h2,h3,h4⟩:=h;exact ⟨v,h1,h2.lift,⟨h3.new,h3.here,h3.Ex,λ _ _ _=>rfl⟩,h4⟩
 |par m=>obtain ⟨v,h1,h2,h3,h4⟩:=h;exact ⟨v,h1,h2.lift,⟨h3.new,h3.here,h3.Ex,λ _ _ _=>rfl⟩,h4⟩
def J.chg(j:J K ct H₀ Γ σ H)(i:Nat):∃S:Fp,(∀sl ov,Γ[i]? =some sl->σ[i]? =some ov->pM K ct H₀ H i S sl ov)/\∀(H':Hp) (sl:Slot) (ov:Option V) (S':Fp),aU ct.f.cb H H'->(∀b o,H b=some o->¬S b->H' b=some o)->(∀b,H' b=none->H b=none)->ay ct.B H'->pM K ct H₀ H' i S' sl ov->(∀b,S' b->S b\/H b=none)->J K ct H₀ (Γ.set i sl) (σ.set i ov) H':=by
 obtain ⟨S,h1,h2,h3⟩:=j.sl;by_cases hi:i<Γ.length
 ·refine ⟨S i,λ sl ov g1 g2=>h1 i sl ov g1 g2,λ H' sl ov S' kp hs hf hB new hS'=>?_⟩;have hiσ:i<σ.length:=by rw[<-j.len];exact hi
  -- Mw places of i,if it has some
  have q:=h1 i Γ[i] σ[i] (List.getElem?_eq_getElem hi) (List.getElem?_eq_getElem hiσ);have so:(∀b,S i b->H₀ b=none\/ct.f.io b)/\∀b,S i b->ct.f.L b=none:=by
   generalize Γ[i]=sl0 at q;cases sl0 with
   |no=>exact ⟨λ b z=>absurd z (q b),λ b z=>absurd z (q b)⟩
   |val d=>exact ⟨λ b z=>absurd z (q.2 b),λ b z=>absurd z (q.2 b)⟩
   |own m=>obtain ⟨v,_,_,h3,_⟩:=q;exact ⟨h3.new,h3.Ex⟩
   |par m=>obtain ⟨v,_,_,h3,_⟩:=q;exact ⟨h3.new,h3.Ex⟩
  refine ⟨λ b o e n=>?_,λ b e=>j.free b (hf b e),λ b o e=>?_,λ b o e=>?_,by simp[j.len],λ k=>if k=i then S' else S k,λ k My ov' g1 g2=>?_,λ k l b hkl=>?_,λ k b w=>?_⟩
  ·have:=j.same b o e n;refine hs b o this λ z=>?_;rcases so.1 b z with w|w
   ·rw[w] at e;cases e
   ·exact n w
  ·exact hs b o (j.lL b o e) λ z=>by rw[so.2 b z] at e;cases e
  ·exact hB b o e
  ·by_cases e:i=k
   ·subst e;rw[List.getElem?_set_self hi] at g1;rw[List.getElem?_set_self hiσ] at g2;cases g1;cases g2;simpa using new
   ·rw[List.getElem?_set_ne e] at g1 g2;have ek:¬k=i:=λ z=>e z.symm;simp only[ek,if_false];have z:=h1 k My ov' g1 g2;have un:∀b o,S k b->H b=some o->H' b=some o:=λ b o w q=>hs b o q λ w'=>h2 k i b ek w w';have sok:Yv ct H₀ H (S k)->Yv ct H₀ H' (S k):=λ s=>⟨s.new,λ b w q=>s.here b w (hf b q),s.Ex,λ b w t=>by
     rw[s.lent b w t];cases x:H b with
     |none=>exact absurd x (s.here b w)
     |some o=>exact (un b o w x).symm⟩
    cases My with
    |no=>exact z
    |val d=>obtain ⟨⟨v,z1,z2⟩,z3⟩:=z;exact ⟨⟨v,z1,z2.keep kp⟩,z3⟩
    |own m=>obtain ⟨v,z1,z2,z3,z4⟩:=z;exact ⟨v,z1,z2.frame kp un,sok z3,z4⟩
    |par m=>obtain ⟨v,z1,z2,z3,z4⟩:=z;exact ⟨v,z1,z2.frame kp un,sok z3,z4⟩
  ·-- apart
   have far:∀l b,¬l=i->S' b->¬S l b:=λ l b hl w w'=>by
    rcases hS' b w with u|u
    ·exact h2 l i b hl w' u
    ·exact h3 l b w' u
   by_cases e1:k=i
   ·subst e1;have e2:¬l=k:=λ z=>hkl z.symm;simp only[if_true,e2,if_false];exact far l b e2
   ·by_cases e2:l=i
    ·subst e2;simp only[e1,if_false,if_true];exact λ w w'=>far k b e1 w' w
    ·simp only[e1,e2,if_false];exact h2 k l b hkl
  ·by_cases e:k=i
   ·subst e;simp only[if_true] at w;cases sl with
    |no=>exact absurd w (new b)
    |val d=>exact absurd w (new.2 b)
    |own m=>obtain ⟨v,_,_,z,_⟩:=new;exact z.here b w
    |par m=>obtain ⟨v,_,_,z,_⟩:=new;exact z.here b w
   ·simp only[e,if_false] at w;exact λ q=>h3 k b w (hf b q)
 ·refine ⟨λ _=>False,λ sl ov g1 g2=>?_,λ H' sl ov S' kp hs hf hB new hS'=>?_⟩
  ·rw[List.getElem?_eq_none (Nat.le_of_not_lt hi)] at g1;cases g1
  ·rw[List.set_eq_of_length_le (Nat.le_of_not_lt hi),List.set_eq_of_length_le (by rw[<-j.len];exact Nat.le_of_not_lt hi)];exact j.mono λ b o q=>hs b o q λ z=>z
def J.set{d:D}{v:V}(j:J K ct H₀ Γ σ H)(h:Tl K ct H d v):J K ct H₀ (Γ.set i (.val d)) (σ.set i (some v)) H:=by obtain ⟨S,_,h2⟩:=j.chg i;exact h2 H _ _ (λ _=>False) (aU.refl H) (λ _ _ q _=>q) (λ _ q=>q) j.lB ⟨⟨v,rfl,h⟩,λ _ z=>z⟩ λ _ z=>z.elim
def J.unset(j:J K ct H₀ Γ σ H):J K ct H₀ (Γ.set i .no) (σ.set i ov) H:=by obtain ⟨S,_,h2⟩:=j.chg i;exact h2 H _ _ (λ _=>False) (aU.refl H) (λ _ _ q _=>q) (λ _ q=>q) j.lB (λ _ z=>z) λ _ z=>z.elim
def J.setM{m:M}{v:V}{S':Fp}(j:J K ct H₀ Γ σ H)(e:ay H H')(tm:ct.tm=false)(h:Ow K ct H' m v S')(new:∀b,S' b->H b=none)(here:∀b,S' b->H' b≠none):J K ct H₀ (Γ.set i (.own m)) (σ.set i (some v)) H':=by
 obtain ⟨S,_,h2⟩:=j.chg i;refine h2 H' _ _ S' (ay.keep e) (λ b o q _=>e b o q) (λ b q=>e.free q) (j.lB.trans e) ⟨v,rfl,h,⟨λ b z=> .inl (j.free b (new b z)),here,λ b z=>?_,λ b z t=>by rw[tm] at t;cases t⟩,λ b z=>j.free b (new b z)⟩ λ b z=> .inr (new b z);cases w:ct.f.L b with
 |none=>rfl
 |some o=>have:=j.lL b o w;rw[new b z] at this;cases this
def J.weak{Γ1:Sg}(j:J K ct H₀ Γ1 σ H)(hl:Γ1.length=Γ.length)(h:∀i:Nat,Γ[i]? =some .no\/Γ[i]? =Γ1[i]?):J K ct H₀ Γ σ H:=by
 obtain ⟨S,h1,h2,h3⟩:=j.sl;refine ⟨j.same,j.free,j.lL,j.lB,by rw[<-hl];exact j.len,λ i b=>S i b/\Γ[i]? =Γ1[i]?/\Γ[i]?≠some .no,λ i sl ov g1 g2=>?_,λ i k b e w w'=>h2 i k b e w.1 w'.1,λ i b w=>h3 i b w.1⟩;by_cases e:sl= .no
 ·subst e;exact λ b w=>w.2.2 g1
 ·have e1:Γ[i]? =Γ1[i]? :=by
   rcases h i with z|z
   ·rw[z] at g1;cases g1;exact absurd rfl e
   ·exact z
  have q:=h1 i sl ov (e1▸g1) g2;have eS:(λ b=>S i b/\Γ[i]? =Γ1[i]?/\Γ[i]?≠some .no)=S i:=funext λ b=>propext ⟨λ w=>w.1,λ w=>⟨w,e1,by rw[g1];exact λ z=>e (Option.some.inj z)⟩⟩;show pM K ct H₀ H i (λ b=>S i b/\Γ[i]? =Γ1[i]?/\Γ[i]?≠some .no) sl ov;rw[eS];exact q
def J.akI(j:J K ct H₀ Γ σ H)(n:alv Γ)(k:aU ct.f.cb H H')(s:∀b o,H₀ b=some o->¬ct.f.io b->H' b=some o)(f:∀b,H' b=none->H₀ b=none)(l:ay ct.f.L H')(b:ay ct.B H'):J K ct H₀ Γ σ H':=by
 obtain ⟨S,h1,h2,h3⟩:=j.sl;refine ⟨s,f,l,b,j.len,λ _ _=>False,λ i sl ov g1 g2=>?_,λ _ _ _ _ z=>z.elim,λ _ _ z=>z.elim⟩;have q:=h1 i sl ov g1 g2;cases sl with
 |no=>exact λ _ z=>z
 |val d=>obtain ⟨⟨v,q1,q2⟩,_⟩:=q;exact ⟨⟨v,q1,q2.keep k⟩,λ _ z=>z⟩
 |own m=>exact absurd g1 (n i m).1
 |par m=>exact absurd g1 (n i m).2
def Tl.kg{d:D}{v:V}{ds:List D}(l:ay ct.f.L H)(b:ay ct.B H)(h:Tl K ct H d v)(e:asL d=some ds):∃a vs,v= .ref a/\vD K H a vs/\aL K ct H ds vs:=by
 cases d with
 |lst xs=>cases e;simp only[Tl] at h;obtain ⟨a,vs,h1,h2,h3⟩:=h;exact ⟨a,vs,h1,h2.sq,h3⟩
 |bor t xs=>
  cases e;simp only[Tl] at h;obtain ⟨a,vs,h1,h2,h3⟩:=h;refine ⟨a,vs,h1,.inl (.inl ?_),h3⟩;cases t with
  |true=>exact b a _ h2
  |false=>exact l a _ h2
 |_=>cases e
end
def J3(P:Program)(w:World):CXT:=λ outer H s E e s'=>∃(a C:Addr) (H':Hp) (B:Heap) (a0:Value),e= .ref a/\E (.ref C) none H'/\s'.os=s.os/\AllBare s'.gens/\Heap.FlyingW B outer a (.ref C) a0 s'.heap/\H' a=none/\s.heap.get? a=none/\∀h':Heap,B.StaysIn h'->s'.heap.UpToSlots h'->Un (frs outer) [] H H' s.heap h'/\vf P w H' h'
def jr(X:Cx)(cb:Cb)(σ:St)(H:Hp)(c:String)(e:Value)(s':Shared):Prop:=∃(pins:List (Addr×Obj)) (H1:Hp) (s1:Shared) (C:Addr),Inv X pins σ H1 s1/\ay H H1/\cb.exc c=some C/\((∃(a:Addr) (args:List Value) (h':Heap),e= .ref a/\s'={s1 with heap:=h'}/\Heap.MadeExcOf s1.heap h' a (.ref C) args)\/J3 X.prog X.w X.stack H1 s1 (λ cls od H'=>cls= .ref C/\od=none/\ay H1 H') e s')
def jr.mono{X:Cx}{cb:Cb}{σ:St}{H H2:Hp}{c:String}{e:Value}{s':Shared}(s:ay H H2)(h:jr X cb σ H2 c e s'):jr X cb σ H c e s':=by obtain ⟨pins,H1,s1,C,h1,h2,h3⟩:=h;exact ⟨pins,H1,s1,C,h1,s.trans h2,h3⟩
def Ok{α:Type}(X:Cx)(ct:Ct)(σ:St)(H:Hp)(r:Res α)(W:α->Prop):Prop:=match r with
 | .ok d=>W d
 | .err c=>∀e s',jr X ct.f.cb σ H c e s'->X.xe e s'
 | .bad=>False
def Ok.mono{α:Type}{X:Cx}{ct:Ct}{σ:St}{H H2:Hp}{r:Res α}{W W':α->Prop}(s:ay H H2)(h:Ok X ct σ H r W)(k:∀d,W d->W' d):Ok X ct σ H2 r W':=by
 cases r with
 |ok d=>exact k d h
 |err c=>exact λ e s' q=>h e s' (q.mono s)
 |bad=>exact h
def Ok.bnd{α β:Type}{X:Cx}{ct:Ct}{σ:St}{H:Hp}{r:Res α}{f:α->Res β}{W:β->Prop}{W':α->Prop}(h:Ok X ct σ H (r.bnd f) W)(k:∀d,r= .ok d->Ok X ct σ H (f d) W->W' d):Ok X ct σ H r W':=by
 cases r with
 |ok d=>exact k d rfl h
 |err c=>exact h
 |bad=>exact h
def Wd(X:Cx)(ct:Ct)(H:Hp)(Q:VK)(d:D):Prop:=∀v H',ay H H'->Tl X.K ct H' d v->Q v H'
def Wl(X:Cx)(ct:Ct)(H:Hp)(Q:VK)(ds:List D):Prop:=∀a vs H',ay H H'->H a=none->H' a=some (.lst vs)->aL X.K ct H' ds vs->Q (.ref a) H'
def Wm(X:Cx)(ct:Ct)(H:Hp)(Q:VK)(m:M):Prop:=∀v H' S,ay H H'->Ow X.K ct H' m v S->(∀b,S b->H b=none)->(∀b,S b->H' b≠none)->Q v H'
def Wt(H:Hp)(Q:Bool->Hp->Prop)(b:Bool):Prop:=∀H',ay H H'->Q b H'
def Wa(X:Cx)(ct:Ct)(H:Hp)(Q:List V->Hp->Prop)(ds:List D):Prop:=∀vs H',ay H H'->aL X.K ct H' ds vs->Q vs H'
abbrev Jx(X:Cx)(ct:Ct)(Γ:Sg)(σ:St)(H:Hp):Prop:=J X.K ct X.H₀ Γ σ H
def sC(X:Cx)(ct:Ct)(f:Sg->Res D):TE:=λ σ H Q=>∃Γ,Jx X ct Γ σ H/\Ok X ct σ H (f Γ) (Wd X ct H Q)
def lOf(X:Cx)(ct:Ct)(f:Sg->Res (List D)):TE:=λ σ H Q=>∃Γ,Jx X ct Γ σ H/\Ok X ct σ H (f Γ) (Wl X ct H Q)
def mOf(X:Cx)(ct:Ct)(f:Sg->Res M):TE:=λ σ H Q=>∃Γ,Jx X ct Γ σ H/\Ok X ct σ H (f Γ) (Wm X ct H Q)
def cOf(X:Cx)(ct:Ct)(f:Sg->Res Bool):TT:=λ σ H Q=>∃Γ,Jx X ct Γ σ H/\Ok X ct σ H (f Γ) (Wt H Q)
def VH(X:Cx)(ct:Ct)(f:Sg->Res (List D)):TA:=λ σ H Q=>∃Γ,Jx X ct Γ σ H/\Ok X ct σ H (f Γ) (Wa X ct H Q)
abbrev PD(X:Cx)(ct:Ct)(e:Expr)(f:Sg->Res D):Prop:=PE X e (sC X ct f)
abbrev PL(X:Cx)(ct:Ct)(e:Expr)(f:Sg->Res (List D)):Prop:=PE X e (lOf X ct f)
abbrev PM(X:Cx)(ct:Ct)(e:Expr)(f:Sg->Res M):Prop:=PE X e (mOf X ct f)
abbrev PDT(X:Cx)(ct:Ct)(e:Expr)(f:Sg->Res Bool):Prop:=PT X e (cOf X ct f)
abbrev PDW(X:Cx)(ct:Ct)(e:Expr)(f:Sg->Res Bool):Prop:=PW X e (cOf X ct f)
abbrev PDA(X:Cx)(ct:Ct)(es:List Expr)(f:Sg->Res (List D)):Prop:=PA X es (VH X ct f)
structure Bk(X:Cx)(c:Cf)(H':Hp):Prop where
 same:∀b o,X.H₀ b=some o->¬c.io b->H' b=some o
 free:∀b,H' b=none->X.H₀ b=none
def J.bk{X:Cx}{ct:Ct}{Γ:Sg}{σ:St}{H:Hp}(j:Jx X ct Γ σ H):Bk X ct.f H:=⟨j.same,j.free⟩
def Fn(X:Cx)(c:Cf)(H:Hp)(o:Out)(E:Ends):Prop:=match o with
 | .nx Γ=>∀σ' H',aU c.cb H H'->Jx X c.z Γ σ' H'->E.nx σ' H'
 | .bk Γ=>∀σ' H',aU c.cb H H'->Jx X c.z Γ σ' H'->E.bk σ' H'
 | .ct Γ=>∀σ' H',aU c.cb H H'->Jx X c.z Γ σ' H'->E.ct σ' H'
 | .rt d=>∀v H',Bk X c H'->Tl X.K c.z H' d v->E.rt v H'
 | .Wj m=>∀v H' S,Bk X c H'->Ow X.K c.z H' m v S->(∀b,S b->X.H₀ b=none)->(∀b,S b->H' b≠none)->E.rt v H'
 | .rtG d Γ=>∀v σ' H',Jx X c.z Γ σ' H'->Tl X.K c.z H' d v->E.rt v H'
 | .BX m Γ=>∀σ' H' (i:Nat) v,Jx X c.z Γ σ' H'->Γ[i]? =some (Slot.par m)->σ'[i]? =some (some v)->E.rt v H'
 | .err x Γ=>∀σ' H' e s',aU c.cb H H'->Jx X c.z Γ σ' H'->jr X c.cb σ' H' x e s'->X.xe e s'
 | .bad=>False
def Fn.mono{X:Cx}{c:Cf}{H H2:Hp}{o:Out}{E:Ends}(k:aU c.cb H H2)(h:Fn X c H o E):Fn X c H2 o E:=by
 cases o with
 |nx Γ=>exact λ σ' H' e=>h σ' H' (k.trans e)
 |bk Γ=>exact λ σ' H' e=>h σ' H' (k.trans e)
 |ct Γ=>exact λ σ' H' e=>h σ' H' (k.trans e)
 |rt d=>exact h
 |Wj m=>exact h
 |rtG d Γ=>exact h
 |BX m Γ=>exact h
 |err x Γ=>exact λ σ' H' e s' q=>h σ' H' e s' (k.trans q)
 |bad=>exact h
def sOf(X:Cx)(c:Cf)(F:Sg->Out):TS:=λ E σ H=>∃Γ,Jx X c.z Γ σ H/\Fn X c H (F Γ) E
abbrev PDS(X:Cx)(c:Cf)(st:Stmt)(F:Sg->Out):Prop:=PS X st (sOf X c F)
abbrev amZ(X:Cx)(c:Cf)(sts:List Stmt)(F:Sg->Out):Prop:=ME X sts (sOf X c F)
structure WE(X:Cx)(e:Expr)(t:TE):Prop where
 out:PE X e t
structure WT(X:Cx)(e:Expr)(t:TT):Prop where
 out:PT X e t
structure WW(X:Cx)(e:Expr)(t:TT):Prop where
 out:PW X e t
structure WA(X:Cx)(es:List Expr)(t:TA):Prop where
 out:PA X es t
structure WS(X:Cx)(st:Stmt)(t:TS):Prop where
 out:PS X st t
structure WSs(X:Cx)(st:List Stmt)(t:TS):Prop where
 out:ME X st t
abbrev WD(X:Cx)(ct:Ct)(e:Expr)(f:Sg->Res D):Prop:=WE X e (sC X ct f)
abbrev WL(X:Cx)(ct:Ct)(e:Expr)(f:Sg->Res (List D)):Prop:=WE X e (lOf X ct f)
abbrev WM(X:Cx)(ct:Ct)(e:Expr)(f:Sg->Res M):Prop:=WE X e (mOf X ct f)
abbrev JT(X:Cx)(ct:Ct)(e:Expr)(f:Sg->Res Bool):Prop:=WT X e (cOf X ct f)
abbrev WDW(X:Cx)(ct:Ct)(e:Expr)(f:Sg->Res Bool):Prop:=WW X e (cOf X ct f)
abbrev D0(X:Cx)(ct:Ct)(es:List Expr)(f:Sg->Res (List D)):Prop:=WA X es (VH X ct f)
abbrev yS(X:Cx)(c:Cf)(st:Stmt)(F:Sg->Out):Prop:=WS X st (sOf X c F)
abbrev ve(X:Cx)(c:Cf)(sts:List Stmt)(F:Sg->Out):Prop:=WSs X sts (sOf X c F)
def ahj{X:Cx}:WA X [] ahu:=⟨zh⟩
def UL{X:Cx}{e:Expr}{es:List Expr}{te:TE}{t:TA}(ha:WE X e te)(hr:WA X es t)(hs:starEach (e::es) X.env=(false,eval e X.env)::starEach es X.env:=by rfl):WA X (e::es) (Y8 te t):=⟨nR ha.out hr.out hs⟩
section
variable{X:Cx}{ct:Ct}{a b e:Expr}{f g:Sg->Res D}{H:Hp}{Γ:Sg}{σ:St}{pos:Pos}
def PE.imp{t u:TE}(h:PE X e t)(k:∀σ H Q,u σ H Q->t σ H Q):PE X e u:=λ pins s σ H Q I q=>h pins s σ H Q I (k σ H Q q)
def PT.imp{t u:TT}(h:PT X e t)(k:∀σ H Q,u σ H Q->t σ H Q):PT X e u:=λ pins s σ H Q I q=>h pins s σ H Q I (k σ H Q q)
def PW.imp{t u:TT}(h:PW X e t)(k:∀σ H Q,u σ H Q->t σ H Q):PW X e u:=λ wh pins s σ H Q I q=>h wh pins s σ H Q I (k σ H Q q)
def PA.imp{es:List Expr}{t u:TA}(h:PA X es t)(k:∀σ H Q,u σ H Q->t σ H Q):PA X es u:=λ pos pins s σ H Q I q=>h pos pins s σ H Q I (k σ H Q q)
def PS.imp{st:Stmt}{t u:TS}(h:PS X st t)(k:∀E σ H,u E σ H->t E σ H):PS X st u:=λ pins s σ H E I q=>h pins s σ H E I (k E σ H q)
def ME.imp{st:List Stmt}{t u:TS}(h:ME X st t)(k:∀E σ H,u E σ H->t E σ H):ME X st u:=λ pins s σ H E I q=>h pins s σ H E I (k E σ H q)
def sC.bnd{β:Type}{r:D->Res β}{W:β->Prop}{Q:VK}(j:Jx X ct Γ σ H)(h:Ok X ct σ H ((f Γ).bnd r) W) (k:∀d v H',ay H H'->Tl X.K ct H' d v->Jx X ct Γ σ H'->Ok X ct σ H (r d) W->Q v H'):sC X ct f σ H Q:=⟨Γ,j,h.bnd λ d _ q v H' s t=>k d v H' s t (j.mono s) q⟩
def VH.bnd{fa:Sg->Res (List D)}{β:Type}{r:List D->Res β}{W:β->Prop}{Q:List V->Hp->Prop}(j:Jx X ct Γ σ H)(h:Ok X ct σ H ((fa Γ).bnd r) W) (k:∀d v H',ay H H'->aL X.K ct H' d v->Jx X ct Γ σ H'->Ok X ct σ H (r d) W->Q v H'):VH X ct fa σ H Q:=⟨Γ,j,h.bnd λ d _ q v H' s t=>k d v H' s t (j.mono s) q⟩
def cOf.bnd{fa:Sg->Res Bool}{β:Type}{r:Bool->Res β}{W:β->Prop}{Q:Bool->Hp->Prop}(j:Jx X ct Γ σ H)(h:Ok X ct σ H ((fa Γ).bnd r) W) (k:∀d H',ay H H'->Jx X ct Γ σ H'->Ok X ct σ H (r d) W->Q d H'):cOf X ct fa σ H Q:=⟨Γ,j,h.bnd λ d _ q H' s=>k d H' s (j.mono s) q⟩
def Wd.mono{H2:Hp}{Q:VK}{d:D}(s:ay H H2)(h:Wd X ct H Q d):Wd X ct H2 Q d:=λ v H' e t=>h v H' (s.trans e) t
def Wt.mono{H2:Hp}{Q:Bool->Hp->Prop}{d:Bool}(s:ay H H2)(h:Wt H Q d):Wt H2 Q d:=λ H' e=>h H' (s.trans e)
def ah(i:Nat){x:Str}{pos:Pos}(hN:X.N[i]? =some x:=by rfl)(hv:Uv X.env.scope x:=by first|exact Or.inl rfl|exact Or.inr (Or.inl rfl)|exact Or.inr (Or.inr rfl))(hd:(x==("__debug__":Str))=false:=by decide)(hcd:(x==("__classdict__":Str))=false:=by decide):WD X ct (.Name x pos) (aj i):=by
 refine ⟨?_⟩;refine PE.imp (vM hN hv hd hcd) λ σ H Q ⟨Γ,j,h⟩=>?_;unfold aj at h;split at h
 ·rename_i d hd';obtain ⟨v,h1,h2⟩:=j.val hd';exact ⟨v,h1,h v H (ay.refl H) h2⟩
 ·exact h.elim
def jZ(i:Nat){x:Str}{pos:Pos}(tm:ct.tm=true:=by rfl)(hN:X.N[i]? =some x:=by rfl)(hv:Uv X.env.scope x:=by first|exact Or.inl rfl|exact Or.inr (Or.inl rfl)|exact Or.inr (Or.inr rfl))(hd:(x==("__debug__":Str))=false:=by decide)(hcd:(x==("__classdict__":Str))=false:=by decide):WD X ct (.Name x pos) (d7 i):=by
 refine ⟨?_⟩;refine PE.imp (vM hN hv hd hcd) λ σ H Q ⟨Γ,j,h⟩=>?_;unfold d7 at h;split at h
 ·rename_i d hd';obtain ⟨v,h1,h2⟩:=j.val hd';exact ⟨v,h1,h v H (ay.refl H) h2⟩
 ·rename_i m hm;obtain ⟨v,S,h1,h2,h3,_⟩:=j.own hm;exact ⟨v,h1,h v H (ay.refl H) (h2.lend λ b z=>h3.lent b z tm)⟩
 ·rename_i m hm;obtain ⟨v,S,h1,h2,h3,_⟩:=j.par hm;exact ⟨v,h1,h v H (ay.refl H) (h2.lend λ b z=>h3.lent b z tm)⟩
 ·exact h.elim
def az{i k pos}:WD X ct (.Constant (.int i) k pos) (dC (.int i)):=by exact ⟨PE.imp ah5 λ σ H Q ⟨Γ,j,h⟩=>h _ H (ay.refl H) (by simp[Tl])⟩
def FL{b k pos}:WD X ct (.Constant (.bool b) k pos) (dC (.bl b)):=by exact ⟨PE.imp alk λ σ H Q ⟨Γ,j,h⟩=>h _ H (ay.refl H) (by simp[Tl])⟩
def BH{k pos}:WD X ct (.Constant .none k pos) (dC .cY):=by exact ⟨PE.imp ah3 λ σ H Q ⟨Γ,j,h⟩=>h _ H (ay.refl H) (by simp[Tl])⟩
def aS{x k pos}:WD X ct (.Constant (.str x) k pos) (dC (.str x)):=by exact ⟨PE.imp ah0 λ σ H Q ⟨Γ,j,h⟩=>h _ H (ay.refl H) (by simp[Tl])⟩
def aeO{x:Str}{d:D}{v:V}{u:Value}{pos:Pos}(hg:Gl X x)(hm:X.mg x=some u)(r:RelV v u)(t:∀H,Tl X.K ct H d v)(hd:(x==("__debug__":Str))=false:=by decide):PD X ct (.Name x pos) (dC d):=PE.imp (U5 hg hm r hd) λ σ H Q ⟨Γ,j,h⟩=>h _ H (ay.refl H) (t H)
def FI(X:Cx)(ct:Ct)(r2:R2)(r:D->D->Res D):Prop:=∀(σ:St) (H:Hp) (x y:V) (d1 d2:D) (Q:VK),ay ct.f.L H->ay ct.B H->Tl X.K ct H d1 x->Tl X.K ct H d2 y->Ok X ct σ H (r d1 d2) (Wd X ct H Q)->r2 x y H Q
def Hv{r2:R2}{r:D->D->Res D}(ho:FI X ct r2 r):∀σ H Q,sC X ct (aI r f g) σ H Q->tOp r2 (sC X ct f) (sC X ct g) σ H Q:=by
 rintro σ H Q ⟨Γ,j,h⟩
 refine sC.bnd j h λ d1 v H1 s1 t1 j1 h1=>?_;refine sC.bnd (W:=Wd X ct H Q) j1 (Ok.mono s1 h1 λ _ z=>z) λ d2 u H2 s2 t2 j2 h2=>?_;exact ho σ H2 v u d1 d2 Q j2.lL j2.lB (t1.keep (ay.keep s2)) t2 (Ok.mono s2 h2 λ d q=>q.mono (s1.trans s2))
def Ca{op:Operator}{r2:R2}{r:D->D->Res D}(hr:qw X (binaryOp op) r2)(ho:FI X ct r2 r)(ha:PD X ct a f)(hb:PD X ct b g):PD X ct (.BinOp a op b pos) (aI r f g):=PE.imp (agf hr ha hb) (Hv ho)
def Cc{op:CmpOp}{r2:R2}{r:D->D->Res D}(hr:qw X (compareOp op) r2)(ho:FI X ct r2 r)(ha:PD X ct a f)(hb:PD X ct b g)(hm:behindInMarks op b=false):PD X ct (.Compare a [op] [b] pos) (aI r f g):=PE.imp (aeM hr ha hb hm) (Hv ho)
def MU{t:TE}(k:∀σ H Q,sC X ct f σ H Q->t σ H Q):∀σ H Q,cOf X ct (dT f) σ H Q->Y7 t σ H Q:=by
 rintro σ H Q ⟨Γ,j,h⟩
 refine k σ H _ (sC.bnd j h λ d v H' s t j' h'=>?_);cases d with
 |bl b=>simp only[Tl] at t;exact ⟨b,t,h' H' s⟩
 |_=>exact h'.elim
def uF{op:CmpOp}{r2:R2}{r:D->D->Res D}(hr:qw X (compareOp op) r2)(ho:FI X ct r2 r)(ha:PD X ct a f)(hb:PD X ct b g)(hm:behindInMarks op b=false):PDT X ct (.Compare a [op] [b] pos) (dT (aI r f g)):=PT.imp (aew hr ha hb hm) (MU (Hv ho))
def nQ(ha:WD X ct e f)(he:∀whole,isTrue e X.env whole=(do let v <-whole;standAt e.pos;holding [v] (truthy v)):=by intro _;rfl):JT X ct e (dT f):=by
 have ha:=ha.out
 exact ⟨PT.imp (ahQ ha he) (MU λ _ _ _ z=>z)⟩
variable{p q:Sg->Res Bool}{rest:List Expr}
def J7(ha:JT X ct a p):WDW X ct (.BoolOp .And [a] pos) p:=by have ha:=ha.out;exact ⟨aev ha⟩
def wN(ha:JT X ct a p):WDW X ct (.BoolOp .Or [a] pos) p:=by have ha:=ha.out;exact ⟨ahO ha⟩
def UI(ha:JT X ct a p)(hb:WDW X ct (.BoolOp .And (b::rest) pos) q):WDW X ct (.BoolOp .And (a::b::rest) pos) (Yq p q):=by
 have ha:=ha.out;have hb:=hb.out;refine ⟨?_⟩;refine PW.imp (ahP ha hb) λ σ H Q ⟨Γ,j,h⟩=>?_;refine cOf.bnd j h λ c H' s j' h'=>?_;cases c with
 |true=>exact Lx ⟨Γ,j',Ok.mono s h' λ d z=>z.mono s⟩
 |false=>exact Ly (h' H' s)
def yU(ha:JT X ct a p)(hb:WDW X ct (.BoolOp .Or (b::rest) pos) q):WDW X ct (.BoolOp .Or (a::b::rest) pos) (cOr p q):=by
 have ha:=ha.out;have hb:=hb.out;refine ⟨?_⟩;refine PW.imp (alf ha hb) λ σ H Q ⟨Γ,j,h⟩=>?_;refine cOf.bnd j h λ c H' s j' h'=>?_;cases c with
 |true=>exact Lx (h' H' s)
 |false=>exact Ly ⟨Γ,j',Ok.mono s h' λ d z=>z.mono s⟩
def BD{e:Expr}(h:WDW X ct e p):JT X ct e p:=by have h:=h.out;exact ⟨h.pt⟩
def jY(ha:JT X ct a p):JT X ct (.UnaryOp .Not a pos) (yK p):=by have ha:=ha.out;refine ⟨?_⟩;refine PT.imp (ahR ha) λ σ H Q ⟨Γ,j,h⟩=>?_;exact cOf.bnd j h λ c H' s j' h'=>h' H' s
def yX{op}(h:WD X ct a f):WD X ct (.BoolOp op [a] pos) f:=by have h:=h.out;exact ⟨ah1 h⟩
def BJ(ha:WD X ct a f)(hb:WD X ct (.BoolOp .And (b::rest) pos) g):WD X ct (.BoolOp .And (a::b::rest) pos) (Jo f g):=by
 have ha:=ha.out;have hb:=hb.out;refine ⟨?_⟩;refine PE.imp (ah7 ha hb) λ σ H Q ⟨Γ,j,h⟩=>?_;refine sC.bnd j h λ d v H' s t j' h'=>?_;cases d with
 |bl c=>
  simp only[Tl] at t;refine ⟨c,t,?_⟩;cases c with
  |true=>exact Lx ⟨Γ,j',Ok.mono s h' λ d z=>z.mono s⟩
  |false=>exact Ly (h' _ H' s (by simp[Tl]))
 |_=>exact h'.elim
def akC(ha:WD X ct a f)(hb:WD X ct (.BoolOp .Or (b::rest) pos) g):WD X ct (.BoolOp .Or (a::b::rest) pos) (dOr f g):=by
 have ha:=ha.out;have hb:=hb.out;refine ⟨?_⟩;refine PE.imp (alj ha hb) λ σ H Q ⟨Γ,j,h⟩=>?_;refine sC.bnd j h λ d v H' s t j' h'=>?_;cases d with
 |bl c=>
  simp only[Tl] at t;refine ⟨c,t,?_⟩;cases c with
  |true=>exact Lx (h' _ H' s (by simp[Tl]))
  |false=>exact Ly ⟨Γ,j',Ok.mono s h' λ d z=>z.mono s⟩
 |_=>exact h'.elim
def ahg(ha:WD X ct a f):WD X ct (.UnaryOp .Not a pos) (aje f):=by
 have ha:=ha.out;refine ⟨?_⟩;refine PE.imp (ah2 ha) λ σ H Q ⟨Γ,j,h⟩=>?_;refine sC.bnd j h λ d v H' s t j' h'=>?_;cases d with
 |bl c=>simp only[Tl] at t;exact ⟨c,t,h' _ H' s (by simp[Tl])⟩
 |_=>exact h'.elim
def ak:D0 X ct [] aB:=by exact ⟨PA.imp zh λ σ H Q ⟨Γ,j,h⟩=>h [] H (ay.refl H) aL.nil⟩
def aa{es:List Expr}{r:Sg->Res (List D)}(ha:WD X ct e f)(hr:D0 X ct es r)(hs:starEach (e::es) X.env=(false,eval e X.env)::starEach es X.env:=by rfl):D0 X ct (e::es) (ai f r):=by have ha:=ha.out;have hr:=hr.out;refine ⟨?_⟩;refine PA.imp (nR ha hr hs) λ σ H Q ⟨Γ,j,h⟩=>?_;refine sC.bnd j h λ d v H1 s1 t1 j1 h1=>?_;refine VH.bnd (W:=Wa X ct H Q) j1 (Ok.mono s1 h1 λ _ z=>z) λ ds vs H2 s2 t2 j2 h2=>?_;exact h2 _ H2 (s1.trans s2) (aL.cons (t1.keep (ay.keep s2)) t2)
def bO{H:Hp}{p:Addr}(h:H p=none)(o:HO):ay H (upd H p o):=λ b u q=>by rw[aF (gZ q h)];exact q
def cT{es:List Expr}{r:Sg->Res (List D)}{x1}(h:D0 X ct es r):WD X ct (.Tuple es x1 pos) (jm r):=by
 have h:=h.out;refine ⟨?_⟩;refine PE.imp (ZI h) λ σ H Q ⟨Γ,j,h⟩=>?_;refine VH.bnd j h λ ds vs H1 s1 t1 j1 h1=>?_;split at h1
 ·rename_i hl;refine ⟨Nat.le_of_lt (uB (by rw[<-t1.length];exact hl)),λ p hp=>?_⟩;have s2:=bO hp (.tup vs);refine h1 _ _ (s1.trans s2) ?_;simp only[Tl];exact ⟨p,vs,rfl,aG,t1.keep (ay.keep s2)⟩
 ·exact h1.elim
def vF{es:List Expr}{r:Sg->Res (List D)}(h:D0 X ct es r):WL X ct (.List es pos) (Dy r):=by
 have h:=h.out;refine ⟨?_⟩;refine PE.imp (ah4 h) λ σ H Q ⟨Γ,j,h⟩=>?_;refine VH.bnd j h λ ds vs H1 s1 t1 j1 h1=>?_;split at h1
 ·rename_i hl;refine ⟨Nat.le_of_lt (uB (by rw[<-t1.length];exact hl)),λ p hp=>?_⟩;have s2:=bO hp (.lst vs);exact h1 p vs _ (s1.trans s2) (s1.free hp) aG (t1.keep (ay.keep s2))
 ·exact h1.elim
end
section
variable{P:Program}{w:World}
def tH{H:Hp}{h:Heap}{a:Addr}{o:HO}(x:d8 P w H h a o):∃ob,h.get? a=some ob:=by
 cases o with
 |lst xs=>obtain ⟨_,_,_,_,e⟩:=x;exact ⟨_,e⟩
 |tup xs=>obtain ⟨_,_,_,ob,e,_⟩:=x;exact ⟨_,e⟩
 |dK kvs=>obtain ⟨_,_,_,_,o,_,_,e,_⟩:=x;exact ⟨_,e⟩
 |dT kvs=>obtain ⟨_,_,_,_,o,_,_,e,_⟩:=x;exact ⟨_,e⟩
 |set S n=>obtain ⟨o,_,_,_,e,_⟩:=x;exact ⟨_,e⟩
 |ins C dx fs=>obtain ⟨_,_,_,e,_⟩:=x;exact ⟨_,e⟩
 |own y=>obtain ⟨_,e⟩:=x;exact ⟨_,e⟩
 |xd fs=>obtain ⟨_,⟨_,_,_,e,_⟩,_⟩:=x;exact ⟨_,e⟩
 |rng lo hi=>obtain ⟨_,_,_,e⟩:=x;exact ⟨_,e⟩
 |DZ ob u=>obtain ⟨e,_⟩:=x;exact ⟨_,e⟩
 |qH ps=>exact ⟨_,(show h.get? a=some _ from x)⟩
 |met f y=>exact ⟨_,(show h.get? a=some _ from x)⟩
 |ext φ=>obtain ⟨_,⟨_,e⟩,_⟩:=x;exact ⟨_,e⟩
end
section
variable{X:Cx}{ct:Ct}{pins:List (Addr×Obj)}{σ:St}{H:Hp}{s:Shared}{a:Addr}{o o':HO}{vs:List V}
def Inv.Zl(I:Inv X pins σ H s)(ha:H a=some o)(h0:X.H₀ a=none)(nt:∀xs,o≠.tup xs)(no:∀y,o≠.own y)(new:d8 X.prog X.w (upd H a o') s.heap a o'):Inv X pins σ (upd H a o') s:=by
 have ne:∀b,H b=none->b≠a:=λ b hb z=>by subst z;rw[ha] at hb;cases hb
 have ne0:∀b u,X.H₀ b=some u->b≠a:=λ b u hb z=>by subst z;rw[h0] at hb;cases hb
 refine ⟨I.ok,I.os,I.bare,⟨I.base.keep,I.base.slot,λ b u q n hx=>?_,I.base.there,λ b xs q=>?_,λ b u v q=>?_,λ b ps q=>?_⟩,I.loc,I.cell,?_,λ x c h=>?_,λ p hp=>?_,λ b u e=>?_,I.len⟩
 ·have:=I.base.free b u q n hx;rw[aF (ne b this)];exact this
 ·rw[aF (ne0 b _ q)];exact I.base.tups b xs q
 ·rw[aF (ne0 b _ q)];exact I.base.yf b u v q
 ·rw[aF (ne0 b _ q)];exact I.base.y9 b ps q
 ·rw[aF (ne _ I.free)];exact I.free
 ·rw[aF (ne _ (I.nK x c h))];exact I.nK x c h
 ·obtain ⟨h1,h2,h3,h4,h5⟩:=I.pin p hp;exact ⟨h1,by rw[aF (ne _ h2)];exact h2,h3,h4,h5⟩
 ·by_cases hb:b=a
  ·subst hb;rw[aG] at e;cases e;exact new
  ·rw[aF hb] at e;refine (I.hok b u e).stay (λ c v _ q=>q) (λ c q=>?_) (λ c xs q=>?_)
   ·have:c≠a:=by rintro rfl;rw[ha] at q;exact no _ (Option.some.inj q)
    rw[aF this];exact q
   ·have:c≠a:=by rintro rfl;rw[ha] at q;exact nt _ (Option.some.inj q)
    rw[aF this];exact q
def Inv.freeze(I:Inv X pins σ H s)(ha:H a=some (.lst vs))(h0:X.H₀ a=none):∃ob,Inv X pins σ (upd H a (.DZ ob (.lst vs))) s:=by obtain ⟨z,its,n,r,e⟩:=I.hok a _ ha;refine ⟨_,Inv.Zl I ha h0 (λ _ q=>nomatch q) (λ _ q=>nomatch q) ⟨e,z,its,n,r,e⟩⟩
def Inv.Vz{ks:Ks}{us:List V}(I:Inv X pins σ H s)(ha:H a=some (ks.ho us))(h0:X.H₀ a=none):∃ob,Inv X pins σ (upd H a (.DZ ob (ks.ho us))) s:=by
 have q:=I.hok a _ ha;obtain ⟨ob,e⟩:=tH q;refine ⟨ob,Inv.Zl I ha h0 (λ _ q=>by cases ks<;>cases q) (λ _ q=>by cases ks<;>cases q) ⟨e,?_⟩⟩;refine q.stay (λ c v _ z=>z) (λ c z=>?_) (λ c xs z=>?_)
 ·have:c≠a:=λ y=>by subst y;rw[ha] at z;cases ks<;>cases z
  rw[aF this];exact z
 ·have:c≠a:=λ y=>by subst y;rw[ha] at z;cases ks<;>cases z
  rw[aF this];exact z
structure Fz(X:Cx)(ct:Ct)(pins:List (Addr×Obj))(σ:St)(s:Shared)(S:Fp)(H H':Hp):Prop where
 inv:Inv X pins σ H' s
 un:∀b o,H b=some o->¬S b->H' b=some o
 keep:aU ct.f.cb H H'
 free:∀b,H' b=none->H b=none
def Fz.step{S:Fp}{H1:Hp}(z:Fz X ct pins σ s S H H1)(ha:H1 a=some o)(hs:S a)(no:¬Yu ct.f.cb o)(I:Inv X pins σ (upd H1 a o') s):Fz X ct pins σ s S H (upd H1 a o'):=by
 refine ⟨I,λ b u q n=>?_,z.keep.trans λ b u hb st=>?_,λ b q=>?_⟩
 ·have:b≠a:=by rintro rfl;exact n hs
  rw[aF this];exact z.un b u q n
 ·have:b≠a:=by rintro rfl;rw[ha] at hb;cases hb;exact no st
  rw[aF this];exact hb
 ·by_cases e:b=a
  ·subst e;rw[aG] at q;cases q
  ·rw[aF e] at q;exact z.free b q
mutual
def Inv.LK:∀{m:M} {v:V} {S:Fp} {H:Hp},AS m=true->Inv X pins σ H s->Ow X.K ct H m v S->(∀b,S b->X.H₀ b=none)->∃H',Fz X ct pins σ s S H H'/\Tl X.K ct H' (L4.LK m) v
 | .d x,v,S,H,fo,I,h,_=>by simp only[Ow] at h;exact ⟨H,⟨I,λ _ _ q _=>q,aU.refl H,λ _ q=>q⟩,by simpa only[L4.LK] using h⟩
 | .l xs,v,S,H,fo,I,h,n=>by simp only[Ow] at h;obtain ⟨a,vs,rfl,h2,h3,h4⟩:=h;obtain ⟨ob,I2⟩:=Inv.freeze I h3 (n a h2);have z:Fz X ct pins σ s S H H:=⟨I,λ _ _ q _=>q,aU.refl H,λ _ q=>q⟩;have z2:=z.step h3 h2 (λ q=>q) I2;refine ⟨_,z2,?_⟩;simp only[L4.LK,Tl];exact ⟨a,vs,rfl,.inl ⟨ob,aG⟩,h4.keep z2.keep⟩
 | .n ms,v,S,H,fo,I,h,n=>by simp only[Ow] at h;obtain ⟨a,vs,rfl,h2,h3,h4⟩:=h;obtain ⟨H1,z1,t1⟩:=Inv.uY (by simpa[AS] using fo) I h4 λ b w=>n b w.1;have h3':=z1.un a _ h3 λ w=>w.2 rfl;obtain ⟨ob,I2⟩:=Inv.freeze z1.inv h3' (n a h2);have z2:Fz X ct pins σ s S H H1:=⟨z1.inv,λ b o q w=>z1.un b o q λ u=>w u.1,z1.keep,z1.free⟩;have z3:=z2.step h3' h2 (λ q=>q) I2;refine ⟨_,z3,?_⟩;simp only[L4.LK,Tl];exact ⟨a,vs,rfl,.inl ⟨ob,aG⟩,t1.keep (aU.lst h3')⟩
 | .t ms,v,S,H,fo,I,h,n=>by simp only[Ow] at h;obtain ⟨a,vs,rfl,h2,h3⟩:=h;obtain ⟨H1,z1,t1⟩:=Inv.uY (by simpa[AS] using fo) I h3 n;refine ⟨H1,z1,?_⟩;simp only[L4.LK,Tl];exact ⟨a,vs,rfl,z1.keep _ _ h2 trivial,t1⟩
 | .k ks xs,v,S,H,fo,I,h,n=>by simp only[Ow] at h;obtain ⟨a,vs,rfl,h2,h3,h4,h5⟩:=h;obtain ⟨ob,I2⟩:=Inv.Vz I h3 (n a h2);have z:Fz X ct pins σ s S H H:=⟨I,λ _ _ q _=>q,aU.refl H,λ _ q=>q⟩;have z2:=z.step h3 h2 Ks.tK I2;refine ⟨_,z2,?_⟩;simp only[L4.LK,Tl];exact ⟨a,vs,rfl,⟨ob,aG⟩,h4,h5.keep z2.keep⟩
 | .o c ns xs,v,S,H,fo,I,h,n=>by simp[AS] at fo
 | .q ks ms,v,S,H,fo,I,h,n=>by
  simp only[Ow] at h;obtain ⟨a,vs,rfl,h2,h3,h4,h5⟩:=h;obtain ⟨H1,z1,t1⟩:=Inv.uY (by simpa[AS] using fo) I h5 λ b w=>n b w.1;have h3':=z1.un a _ h3 λ w=>w.2 rfl;obtain ⟨ob,I2⟩:=Inv.Vz z1.inv h3' (n a h2);have z2:Fz X ct pins σ s S H H1:=⟨z1.inv,λ b o q w=>z1.un b o q λ u=>w u.1,z1.keep,z1.free⟩;have z3:=z2.step h3' h2 Ks.tK I2;refine ⟨_,z3,?_⟩;simp only[L4.LK,Tl];exact ⟨a,vs,rfl,⟨ob,aG⟩,h4,t1.keep (λ b u hb st=>by
   have:b≠a:=by rintro rfl;rw[h3'] at hb;cases hb;exact Ks.tK st
   rw[aF this];exact hb)⟩
def Inv.uY:∀{ms:List M} {vs:List V} {S:Fp} {H:Hp},ye ms=true->Inv X pins σ H s->cO X.K ct H ms vs S->(∀b,S b->X.H₀ b=none)->∃H',Fz X ct pins σ s S H H'/\aL X.K ct H' (L4.uY ms) vs
 |[],vs,S,H,fo,I,h,_=>by simp only[cO] at h;exact ⟨H,⟨I,λ _ _ q _=>q,aU.refl H,λ _ q=>q⟩,by simpa only[L4.uY,aL] using h⟩
 |m::ms,vs,S,H,fo,I,h,n=>by simp only[cO] at h;obtain ⟨v,r,S1,S2,rfl,h2,h3,h4,h5,h6⟩:=h;obtain ⟨H1,z1,t1⟩:=Inv.LK (Bool.and_eq_true_iff.mp (by simpa[ye] using fo)).1 I h5 λ b w=>n b (h2 b w);have h6':=h6.frame z1.keep λ b o w q=>z1.un b o q λ u=>h4 b u w;obtain ⟨H2,z2,t2⟩:=Inv.uY (Bool.and_eq_true_iff.mp (by simpa[ye] using fo)).2 z1.inv h6' λ b w=>n b (h3 b w);refine ⟨H2,⟨z2.inv,λ b o q w=>z2.un b o (z1.un b o q λ u=>w (h2 b u)) λ u=>w (h3 b u),z1.keep.trans z2.keep,λ b q=>z1.free b (z2.free b q)⟩,?_⟩;simp only[L4.uY,aL];exact ⟨v,r,rfl,t1.keep z2.keep,t2⟩
end
def Kr{e:Expr}{f:Sg->Res (List D)}(h:PL X ct e f):PM X ct e (mL f):=by
 refine PE.imp h λ σ H Q ⟨Γ,j,q⟩=>⟨Γ,j,q.bnd λ ds _ w a vs H' s n k t=>?_⟩;refine w (.ref a) H' (λ b=>b=a) s ?_ (λ b z=>z▸n) λ b z q=>by subst z;rw[k] at q;cases q
 simp only[Ow];exact ⟨a,vs,rfl,rfl,k,t⟩
def oB{e:Expr}{f:Sg->Res (List D)}(h:WL X ct e f):WM X ct e (mL f):=⟨Kr (h:=h.out)⟩
def Ku{e:Expr}{f:Sg->Res D}(h:PD X ct e f):PM X ct e (mD f):=by refine PE.imp h λ σ H Q ⟨Γ,j,q⟩=>⟨Γ,j,q.bnd λ d _ w v H' s t=>?_⟩;exact w v H' (λ _=>False) s (by simpa only[Ow] using t) (λ _ z=>z.elim) λ _ z=>z.elim
def sQ{e:Expr}{f:Sg->Res M}(h:PM X ct e f):PD X ct e (om f):=by
 intro pins s σ H Q I ⟨Γ,j,q⟩;have t:mOf X ct f σ H (λ v H'=>∃m S,ay H H'/\Ow X.K ct H' m v S/\(∀b,S b->H b=none)/\AS m=true/\Wd X ct H Q (LK m)):=
  ⟨Γ,j,q.bnd λ m _ w v H' S s o n k=>by
   unfold MC at w;split at w
   ·rename_i fo;exact ⟨m,S,s,o,n,fo,w⟩
   ·exact w.elim⟩
 refine fO (h pins s σ H _ I t) λ v s1 ⟨x,H1,I1,r1,m,S,e1,o,n,fo,w⟩=>?_;obtain ⟨H2,z,t2⟩:=Inv.LK fo I1 o λ b u=>j.free b (n b u);exact ⟨x,H2,z.inv,r1,w x H2 (λ b u q=>z.un b u (e1 b u q) λ y=>by rw[n b y] at q;cases q) t2⟩
def j0{e:Expr}{f:Sg->Res M}(h:WM X ct e f):WD X ct e (om f):=⟨sQ (h:=h.out)⟩
def eE{e:Expr}{f:Sg->Res (List D)}(h:WL X ct e f):WD X ct e (vc f):=by
 have h:=h.out;refine ⟨?_⟩;have e':vc f=om (mL f):=funext λ Γ=>by simp only[vc,om,mL];cases f Γ<;>rfl
 rw[e'];exact sQ (Kr h)
end
section
variable{X:Cx}{c:Cf}{st:Stmt}{rest:List Stmt}{F G:Sg->Out}{e:Expr}{f:Sg->Res D}{fl:Sg->Res M}{p:Sg->Res Bool}{pos:Pos}{H:Hp}{Γ:Sg}{σ:St}
def Fn.ok{α:Type}{B:Hp}{tm:Bool}{r:Res α}{k:α->Out}{E:Ends}{W:α->Prop}(j:Jx X c.z Γ σ H)(h:Fn X c H (oE r Γ k) E)(w:∀d,r= .ok d->Fn X c H (k d) E->W d):Ok X ⟨c,B,tm⟩ σ H r W:=by
 cases r with
 |ok d=>exact w d rfl h
 |err x=>exact λ e s' q=>h σ H e s' (aU.refl H) j q
 |bad=>exact h.elim
def aP:ve X c [] cz:=by exact ⟨ME.imp aey λ E σ H ⟨Γ,j,h⟩=>h σ H (aU.refl H) j⟩
def ao(h1:yS X c st F)(h2:ve X c rest G):ve X c (st::rest) (aX F G):=by
 have h1:=h1.out;have h2:=h2.out;refine ⟨?_⟩;refine ME.imp (Zq h1 h2) λ E σ H ⟨Γ,j,h⟩=>⟨Γ,j,?_⟩;unfold aX at h;cases q:F Γ with
 |nx Γ'=>rw[q] at h;exact λ σ' H' k j'=>⟨Γ',j',h.mono k⟩
 |bk Γ'=>rw[q] at h;exact h
 |ct Γ'=>rw[q] at h;exact h
 |rt d=>rw[q] at h;exact h
 |Wj ds=>rw[q] at h;exact h
 |rtG d Γ'=>rw[q] at h;exact h
 |BX d Γ'=>rw[q] at h;exact h
 |err x Γ'=>rw[q] at h;exact h
 |bad=>rw[q] at h;exact h
def au(h1:yS X c st F):ve X c [st] F:=by have h1:=h1.out;exact ⟨aex h1⟩
def YR(he:∀B,WD X (c.at' B) e f)(hs:swapsWith e none pos.line X.env=pure false:=by rfl):yS X c (.Expr e pos) (sr f):=by have he:=λ B=>(he B).out;refine ⟨?_⟩;intro pins s σ H E I ⟨Γ,j,h⟩;exact Be (he H) hs pins s σ H E I ⟨Γ,j.lift,Fn.ok j h λ d _ q v H' s t=>q σ H' (ay.keep s) (j.mono s)⟩
def aO(he:WD X c.z e f):yS X c (.Return (some e) pos) (eN f):=by have he:=he.out;exact ⟨PS.imp (B4 he) λ E σ H ⟨Γ,j,h⟩=>⟨Γ,j,Fn.ok j h λ d _ q v H' s t=>q v H' (j.mono s).bk t⟩⟩
def YN(he:∀B,WD X (c.at' B) e f):yS X c (.Return (some e) pos) (Kp f):=by
 have he:=λ B=>(he B).out;refine ⟨?_⟩;intro pins s σ H E I ⟨Γ,j,h⟩;refine B4 (he H) pins s σ H E I ⟨Γ,j.lift,Fn.ok j h λ d _ q v H' s t=>?_⟩;split at q
 ·rename_i n;exact q v H' (j.mono s).bk (t.down n)
 ·exact q.elim
def YO(he:∀B,WM X (c.at' B) e fl):yS X c (.Return (some e) pos) (Zk fl):=by
 have he:=λ B=>(he B).out;refine ⟨?_⟩;intro pins s σ H E I ⟨Γ,j,h⟩;refine B4 (he H) pins s σ H E I ⟨Γ,j.lift,Fn.ok j h λ m _ q v H' S s o n k=>?_⟩;split at q
 ·rename_i nn;exact q v H' S (j.mono s).bk (o.down nn) (λ b z=>j.free b (n b z)) k
 ·exact q.elim
def sF(i:Nat){x:Str}{pos':Pos}(hN:X.N[i]? =some x:=by rfl)(hv:Uv X.env.scope x:=by first|exact Or.inl rfl|exact Or.inr (Or.inl rfl)|exact Or.inr (Or.inr rfl))(hd:(x==("__debug__":Str))=false:=by decide)(hcd:(x==("__classdict__":Str))=false:=by decide):yS X c (.Return (some (.Name x pos')) pos) (qU i):=by
 refine ⟨?_⟩;refine PS.imp (B4 (vM hN hv hd hcd)) λ E σ H ⟨Γ,j,h⟩=>?_;unfold qU at h;split at h
 ·rename_i m hi;obtain ⟨v,S,h1,h2,h3,h4⟩:=j.own hi;exact ⟨_,h1,h v H S j.bk h2 h4 h3.here⟩
 ·rename_i d hi;obtain ⟨v,h1,h2⟩:=j.val hi;exact ⟨_,h1,h v H j.bk h2⟩
 ·exact h.elim
def YQ{ce:Expr}{a b:List Stmt}(hc:∀B,JT X (c.at' B) ce p)(ha:ve X c a F)(hb:ve X c b G):yS X c (.If ce a b pos) (sj p F G):=by
 have hc:=λ B=>(hc B).out;have ha:=ha.out;have hb:=hb.out;refine ⟨?_⟩;intro pins s σ H E I ⟨Γ,j,h⟩;refine age (hc H) ha hb pins s σ H E I ⟨Γ,j.lift,Fn.ok j h λ x _ q H' s=>?_⟩;cases x with
 |true=>exact Lx ⟨Γ,j.mono s,Fn.mono (ay.keep s) q⟩
 |false=>exact Ly ⟨Γ,j.mono s,Fn.mono (ay.keep s) q⟩
def bR(i:Nat){x:Str}{pos':Pos}(hN:X.N.Nodup)(he:WD X c.z e f)(hi:X.N[i]? =some x:=by rfl)(hx:Loc X.env.scope x:=by first|exact Or.inl rfl|exact Or.inr rfl)(hs:swapsWith e (some (.Name x pos')) pos.line X.env=pure false:=by rfl)(hf:X.fn x=true\/X.env.scope.names.lookup x=some .local:=by first|exact .inl rfl|exact .inr rfl):yS X c (.Assign [.Name x pos'] e pos) (i8 i f):=by have he:=he.out;exact ⟨PS.imp (G8 hN hi hx he hs hf) λ E σ H ⟨Γ,j,h⟩=>⟨Γ,j,Fn.ok j h λ d _ q v H' s t=>q _ H' (ay.keep s) ((j.mono s).set t)⟩⟩
def J8(i:Nat){x:Str}{pos':Pos}(hN:X.N.Nodup)(he:∀B,WD X (c.at' B) e f)(hi:X.N[i]? =some x:=by rfl)(hx:Loc X.env.scope x:=by first|exact Or.inl rfl|exact Or.inr rfl)(hs:swapsWith e (some (.Name x pos')) pos.line X.env=pure false:=by rfl)(hf:X.fn x=true\/X.env.scope.names.lookup x=some .local:=by first|exact .inl rfl|exact .inr rfl):yS X c (.Assign [.Name x pos'] e pos) (FY i f):=by
 have he:=λ B=>(he B).out;refine ⟨?_⟩;intro pins s σ H E I ⟨Γ,j,h⟩;refine G8 hN hi hx (he H) hs hf pins s σ H E I ⟨Γ,j.lift,Fn.ok j h λ d _ q v H' s t=>?_⟩;split at q
 ·rename_i n;exact q _ H' (ay.keep s) ((j.mono s).set (t.down n))
 ·exact q.elim
def qC(i:Nat){x:Str}{pos':Pos}(hN:X.N.Nodup)(he:∀B,WM X (c.at' B) e fl)(hi:X.N[i]? =some x:=by rfl)(hx:Loc X.env.scope x:=by first|exact Or.inl rfl|exact Or.inr rfl)(hs:swapsWith e (some (.Name x pos')) pos.line X.env=pure false:=by rfl)(hf:X.fn x=true\/X.env.scope.names.lookup x=some .local:=by first|exact .inl rfl|exact .inr rfl):yS X c (.Assign [.Name x pos'] e pos) (gX i fl):=by
 have he:=λ B=>(he B).out;refine ⟨?_⟩;intro pins s σ H E I ⟨Γ,j,h⟩;refine G8 hN hi hx (he H) hs hf pins s σ H E I ⟨Γ,j.lift,Fn.ok j h λ m _ q v H' S s o n k=>?_⟩;split at q
 ·rename_i nn;exact q _ H' (ay.keep s) (j.setM s rfl (o.down nn) n k)
 ·exact q.elim
end
section
variable{X:Cx}{ct:Ct}{tg:Expr}{H:Hp}{Γ:Sg}{σ:St}{pos:Pos}
def gOf(X:Cx)(ct:Ct)(t:Tg):TG:=λ v σ H Q=>∃Γ d Γ',Jx X ct Γ σ H/\Tl X.K ct H d v/\t d Γ=some Γ'/\∀σ',Jx X ct Γ' σ' H->Q σ' H
def al1(X:Cx)(ct:Ct)(t:Tgs):TGs:=λ vs σ H Q=>∃Γ ds Γ',Jx X ct Γ σ H/\aL X.K ct H ds vs/\t ds Γ=some Γ'/\∀σ',Jx X ct Γ' σ' H->Q σ' H
def PG.imp{t u:TG}(h:PG X tg t)(k:∀v σ H Q,u v σ H Q->t v σ H Q):PG X tg u:=λ pins s σ H v w Q I r q=>h pins s σ H v w Q I r (k v σ H Q q)
def PGs.imp{es:List Expr}{t u:TGs}(h:PGs X es t)(k:∀v σ H Q,u v σ H Q->t v σ H Q):PGs X es u:=λ pins s σ H v w Q I r q=>h pins s σ H v w Q I r (k v σ H Q q)
abbrev PGD(X:Cx)(ct:Ct)(tg:Expr)(t:Tg):Prop:=PG X tg (gOf X ct t)
abbrev atk(X:Cx)(ct:Ct)(tg:List Expr)(t:Tgs):Prop:=PGs X tg (al1 X ct t)
structure WG(X:Cx)(tg:Expr)(t:TG):Prop where
 out:PG X tg t
structure WGs(X:Cx)(tg:List Expr)(t:TGs):Prop where
 out:PGs X tg t
abbrev WGD(X:Cx)(ct:Ct)(tg:Expr)(t:Tg):Prop:=WG X tg (gOf X ct t)
abbrev af3(X:Cx)(ct:Ct)(tg:List Expr)(t:Tgs):Prop:=WGs X tg (al1 X ct t)
def aQ(i:Nat){x:Str}(hN:X.N.Nodup)(hi:X.N[i]? =some x:=by rfl)(hx:Loc X.env.scope x:=by first|exact Or.inl rfl|exact Or.inr rfl)(hf:X.fn x=true\/X.env.scope.names.lookup x=some .local:=by first|exact .inl rfl|exact .inr rfl):WGD X ct (.Name x pos) (aD i):=by
 refine ⟨?_⟩;refine PG.imp (aeI hN hi hx hf) ?_
 rintro v σ H Q ⟨Γ,d,Γ',j,t,e,q⟩
 cases e;exact q _ (j.set t)
def qB:af3 X ct [] oO:=by
 refine ⟨?_⟩;refine PGs.imp aeH ?_
 rintro vs σ H Q ⟨Γ,ds,Γ',j,t,e,q⟩
 cases ds with
 |nil=>simp only[aL] at t;cases e;exact ⟨t,q _ j⟩
 |cons d r=>cases e
def d9{e:Expr}{es:List Expr}{t:Tg}{u:Tgs}(h1:WGD X ct e t)(h2:af3 X ct es u)(hs:(assignEach (e::es) X.env).map (·.2)=assign e X.env::(assignEach es X.env).map (·.2):=by rfl):af3 X ct (e::es) (b3 t u):=by
 have h1:=h1.out;have h2:=h2.out;refine ⟨?_⟩;refine PGs.imp (ZE h1 h2 hs) ?_
 rintro vs σ H Q ⟨Γ,ds,Γ',j,tl,e,q⟩
 cases ds with
 |nil=>cases e
 |cons d r=>simp only[aL] at tl;obtain ⟨v,vr,rfl,t1,t2⟩:=tl;simp only[b3,Option.bind_eq_some_iff] at e;obtain ⟨Γ1,e1,e2⟩:=e;exact ⟨v,vr,rfl,Γ,d,Γ1,j,t1,e1,λ σ' j'=>⟨Γ1,r,Γ',j',t2,e2,q⟩⟩
def uA{es:List Expr}{k:Nat}{t:Tgs}{n:Nat}(hc:X.calm=true)(h:af3 X ct es t)(hn:(assignEach es X.env).length=n:=by rfl)(hst:(assignEach es X.env).findIdx? (·.1)=none:=by rfl):WGD X ct (.Tuple es k pos) (nH n t):=by
 have h:=h.out;refine ⟨?_⟩;refine PG.imp (ahY hc h hn hst) ?_
 rintro v σ H Q ⟨Γ,d,Γ',j,tl,e,q⟩
 cases d with
 |tup ds=>
  simp only[Tl] at tl;obtain ⟨a,vs,rfl,h1,h2⟩:=tl;simp only[nH] at e;split at e
  ·rename_i hl;exact ⟨a,vs,rfl,qN h1,by rw[<-h2.length];exact hl,Γ,ds,Γ',j,h2,e,q⟩
  ·cases e
 |_=>cases e
def GL{c:Cf}{e:Expr}{f:Sg->Res D}{t:Tg}(he:WD X c.z e f)(hg:WGD X c.z tg t)(hs:swapsWithSole [tg] e pos.line X.env=pure false:=by rfl)(hw:swappedStores [tg] e X.env=pure none:=by rfl)(h1:(assignEach [tg] X.env).map (·.2)=[assign tg X.env]:=by rfl):yS X c (.Assign [tg] e pos) (Wh f t):=by
 have he:=he.out;have hg:=hg.out;refine ⟨?_⟩;refine PS.imp (Zs he hg hs hw h1) λ E σ H ⟨Γ,j,h⟩=>⟨Γ,j,Fn.ok j h λ d _ q v H' s tl=>?_⟩;cases e:t d Γ with
 |some Γ'=>rw[e] at q;exact ⟨Γ,d,Γ',j.mono s,tl,e,λ σ' j'=>q σ' H' (ay.keep s) j'⟩
 |none=>rw[e] at q;exact q.elim
def ad2{c:Cf}(i j:Nat){x y:Str}{a b:Expr}{r:Sg->Res (List D)}{px py pt:Pos}{kt k2 pt2}(hc:X.calm=true)(hN:X.N.Nodup)(ha:D0 X c.z [a,b] r)(hi:X.N[i]? =some x:=by rfl)(hj:X.N[j]? =some y:=by rfl)(hij:i≠j:=by decide)(hx:X.env.scope.names.lookup x=some .local:=by rfl)(hy:X.env.scope.names.lookup y=some .local:=by rfl)(hw:swappedStores [.Tuple [.Name x px,.Name y py] kt pt] (.Tuple [a,b] k2 pt2) X.env=pure (some [x,y]):=by rfl)(hs:swapsWithSole [.Tuple [.Name x px,.Name y py] kt pt] (.Tuple [a,b] k2 pt2) pos.line X.env=pure false:=by rfl):yS X c (.Assign [.Tuple [.Name x px,.Name y py] kt pt] (.Tuple [a,b] k2 pt2) pos) (ahH i j r):=by
 have ha:=ha.out;refine ⟨?_⟩;refine PS.imp (ahT hc hN hi hj hij hx hy ha hw hs) λ E σ H ⟨Γ,j,h⟩=>⟨Γ,j,Fn.ok j h λ ds _ q vs H' s tl=>?_⟩;match ds,q,tl with
 |[d1,d2],q,tl=>simp only[aL] at tl;obtain ⟨v1,r1,rfl,t1,v2,r2,rfl,t2,rfl⟩:=tl;exact ⟨v1,v2,rfl,q _ H' (ay.keep s) (((j.mono s).set t1).set t2)⟩
 |[],q,_=>exact q.elim
 |[_],q,_=>exact q.elim
 |_::_::_::_,q,_=>exact q.elim
end
structure Good(X:Cx):Prop where
 po:PassesOwn (model X.prog X.w) X.A X.env X.xe
 calm:X.calm=true
 nd:X.N.Nodup
 own:X.stack=X.env::X.outer/\X.env.frame=some X.env.locals
section
variable{X:Cx}{c:Cf}{tg iter:Expr}{f:Sg->Res D}{t:Tg}{B:Sg->Out}{body:List Stmt}{pos:Pos}
def aeb{H' H1:Hp}{Γ1 Γ2:Sg}{xs:List D}{d:D}{E:Ends}{o:Out}{Pn:St->Hp->Prop}(k1:aU c.cb H' H1)(e1:t d Γ1=some Γ2)(hx:fP t B (d::xs) Γ1=o)(h:Fn X c H' o E) (hn:∀Γ3 σ3 H3,aU c.cb H' H3->Jx X c.z Γ3 σ3 H3->fP t B xs Γ3=o->Pn σ3 H3):Fn X c H1 (B Γ2) {E with nx:=Pn,ct:=Pn,bk:=E.nx}:=by
 simp only[fP,e1] at hx;cases q:B Γ2 with
 |nx Γ3=>rw[q] at hx;exact λ σ3 H3 k3 j3=>hn Γ3 σ3 H3 (k1.trans k3) j3 hx
 |ct Γ3=>rw[q] at hx;exact λ σ3 H3 k3 j3=>hn Γ3 σ3 H3 (k1.trans k3) j3 hx
 |bk Γ3=>rw[q] at hx;subst hx;exact λ σ3 H3 k3 j3=>h σ3 H3 (k1.trans k3) j3
 |rt d=>rw[q] at hx;subst hx;exact h
 |Wj d=>rw[q] at hx;subst hx;exact h
 |rtG d Γ3=>rw[q] at hx;subst hx;exact h
 |BX d Γ3=>rw[q] at hx;subst hx;exact h
 |err x Γ3=>rw[q] at hx;subst hx;exact λ σ3 H3 e s' k3 j3 r=>h σ3 H3 e s' (k1.trans k3) j3 r
 |bad=>rw[q] at hx;subst hx;exact h
def ae1{Γ1:Sg}{xs:List D}{d:D}{H':Hp}{E:Ends}{o:Out}(e:t d Γ1=none)(hx:fP t B (d::xs) Γ1=o)(h:Fn X c H' o E):False:=by simp only[fP,e] at hx;subst hx;exact h
end
section
variable{X:Cx}{c:Cf}{e:Expr}{f:Sg->Res D}{fm:Sg->Res M}{p:Sg->Res Bool}
def akD(h:∀B,WD X (c.at' B) e f):WD X c.z e (dNt f):=by
 have h:=λ B=>(h B).out;refine ⟨?_⟩;intro pins s σ H Q I ⟨Γ,j,q⟩;refine h H pins s σ H Q I ⟨Γ,j.lift,?_⟩;unfold dNt at q;cases z:f Γ with
 |ok d=>
  rw[z] at q;simp only[Res.bD,ntR] at q;split at q
  ·rename_i n;exact λ v H' s t=>q v H' s (t.down n)
  ·exact q.elim
 |err x=>rw[z] at q;exact q
 |bad=>rw[z] at q;exact q
end
def spD(K:W.Frag)(cb:Cb)(n:Nat)(F:List Slot->cV):Sp:=λ vs H Q E=>vs.length=n/\∃(c:Cf) (as:List Slot),c.cb=cb/\c.args=vs/\J K c.z H as (vs.map some) H/\match F as with
 | .ok d=>∀v H',(∀b o,H b=some o->¬c.io b->H' b=some o)->(∀b,H' b=none->H b=none)->Tl K c.z H' d v->Q v H'
 | .new m=>∀v H' S,(∀b o,H b=some o->¬c.io b->H' b=some o)->(∀b,H' b=none->H b=none)->Ow K c.z H' m v S->(∀b,S b->H b=none)->(∀b,S b->H' b≠none)->Q v H'
 | .MA d os=>∀v Γ' σ' H',J K c.z H Γ' σ' H'->bP 0 Γ'=os->Tl K c.z H' d v->Q v H'
 | .CA m os=>∀Γ' σ' H' (i:Nat) v,J K c.z H Γ' σ' H'->bP 0 Γ'=os->Γ'[i]? =some (Slot.par m)->σ'[i]? =some (some v)->Q v H'
 | .err x=>∀C H',cb.exc x=some C->(∀b o,H b=some o->¬c.io b->H' b=some o)->E (.ref C) none H'
 | .bad=>False
abbrev jR(P:Program)(w:World)(K:W.Frag)(mg:Str->Option Value)(base:Heap)(cb:Cb)(k:Nat)(f:Addr)(fd:FuncData)(ps:List Str)(F:List Slot->cV):Prop:=Uy P w K mg base (J3 P w) k f fd ps (spD K cb ps.length F)
abbrev kX(cb:Cb)(L:Hp)(vs:List V):Cf:=⟨cb,L,λ _=>False,vs⟩
def aaP{K:W.Frag}{cb:Cb}{L H:Hp}{ds:List D}{vs:List V}(l:ay L H)(t:aL K (kX cb L vs).z H ds vs):J K (kX cb L vs).z H (ds.map Slot.val) (vs.map some) H:=by
 refine ⟨λ _ _ q _=>q,λ _ q=>q,l,λ _ _ q=>(nomatch q),by simp[t.length],λ _ _=>False,λ i sl ov h1 h2=>?_,λ _ _ _ _ z=>z.elim,λ _ _ z=>z.elim⟩;rw[List.getElem?_map] at h1 h2;cases q:ds[i]? with
 |none=>rw[q] at h1;cases h1
 |some d=>obtain ⟨v,e1,e2⟩:=t.get q;rw[q] at h1;rw[e1] at h2;cases h1;cases h2;exact ⟨⟨v,rfl,e2⟩,λ _ z=>z⟩
section
variable{X:Cx}{cb:Cb}{k:Nat}{f C:Addr}{fd:FuncData}{ps:List Str}{F:List Slot->cV}{x:Str}{p pos apos:Pos}{e o:Expr}{es:List Expr}{fa:Sg->Res (List D)}
def ag7(X:Cx)(c:Cf)(σ:St)(H:Hp)(a:cV)(Q:VK):Prop:=match a with
 | .ok d=>∀v H',ay H H'->Tl X.K c.z H' d v->Q v H'
 | .new m=>∀v H' S,ay H H'->Ow X.K c.z H' m v S->(∀b,S b->H b=none)->(∀b,S b->H' b≠none)->Q v H'
 | .err x=>∀e s',jr X c.cb σ H x e s'->X.xe e s'
 |_=>False
def G4{pins:List (Addr×Obj)}{σ:St}{H L:Hp}{s:Shared}{Q:VK}{us:List Value}{vs:List V}{ds:List D}(G:jR X.prog X.w X.K X.mg X.base cb k f fd ps F)(hr:fN k X.A)(hb:Binds X.K fd ps []) (I:Inv X pins σ H s) (r:Vals vs us) (l:ay L H) (t:aL X.K (kX cb L vs).z H ds vs) (hn:vs.length=ps.length) (h:ag7 X (kX cb L vs) σ H (F (ds.map .val)) Q):wpAny (model X.prog X.w) X.A (call (.ref f) us) (EP X pins σ Q) X.xe s:=by
 have hl:us.length=ps.length:=by rw[<-r.length];exact hn
 have hb':=hb s us I.Bl (by rw[List.append_nil];exact hl);rw[List.append_nil] at hb';let E:XK:=λ cls od H'=>∃x C,F (ds.map .val)= .err x/\cb.exc x=some C/\cls= .ref C/\od=none/\ay H H'
 have J1:spD X.K cb ps.length F vs H Q E:=by
  refine ⟨hn,kX cb L vs,ds.map .val,rfl,rfl,aaP l t,?_⟩;cases q:F (ds.map .val) with
  |ok d=>rw[q] at h;exact λ v H' s _ t=>h v H' (λ b o z=>s b o z λ w=>w) t
  |new m=>rw[q] at h;exact λ v H' S s _ o n k=>h v H' S (λ b o z=>s b o z λ w=>w) o n k
  |MA d os=>rw[q] at h;exact h.elim
  |CA d os=>rw[q] at h;exact h.elim
  |err x=>exact λ C H' e s=>⟨x,C,q,e,rfl,rfl,λ b o z=>s b o z λ w=>w⟩
  |bad=>rw[q] at h;exact h
 refine wpAny_call (codeAny_mono (G.run X.A X.stack s H ⟨us,[]⟩ us vs Q E hr I.ai7 hb' r J1) λ r s' hq=>?_);cases r with
 |error e=>obtain ⟨a,C,H',B,a0,h1,⟨x,C',q1,q2,q3,q4,q5⟩,h3,h4,h5,h6,h6',h7⟩:=hq;rw[q1] at h;cases q3;exact h e s' ⟨pins,H,s,C,I,ay.refl H,q2,.inr ⟨a,C,H',B,a0,h1,⟨rfl,rfl,q5⟩,h3,h4,h5,h6,h6',h7⟩⟩
 |ok fl=>
  cases fl with
  |ret u=>exact I.after hq
  |next=>exact False.elim hq
  |brk=>exact False.elim hq
  |cont=>exact False.elim hq
structure DV(ct:Ct)(md:List D->Option (List D))(bk:D->Bool)(zX:M->Bool):Prop where
 go:∀K H ds vs ds',ay ct.f.L H->ay ct.B H->aL K ct H ds vs->md ds=some ds'->∃L,ay L H/\aL K (kX ct.f.cb L vs).z H ds' vs/\
  (∀H' d v,bk d=true->Tl K (kX ct.f.cb L vs).z H' d v->Tl K ct H' d v)/\∀H' m v S,zX m=true->Ow K (kX ct.f.cb L vs).z H' m v S->Ow K ct H' m v S
def wR{K:W.Frag}{ct i6:Ct}{H:Hp}(e:i6.f.cb=ct.f.cb)(l:∀t a o,ct.lo t a=some o->i6.lo t a=some o){d:D}{v:V}(h:Tl K ct H d v):Tl K i6 H d v:=by have:=Tl.re (ct:=ct) (i6:=i6) (p:=λ _=>true) (g:=id) ⟨e,λ t a o _ q=>l t a o q⟩ (HD d) h;rwa [BY] at this
def wQ{K:W.Frag}{ct i6:Ct}{H:Hp}(e:i6.f.cb=ct.f.cb)(l:∀t a o,ct.lo t a=some o->i6.lo t a=some o){d:List D}{v:List V}(h:aL K ct H d v):aL K i6 H d v:=by have:=aL.re (ct:=ct) (i6:=i6) (p:=λ _=>true) (g:=id) ⟨e,λ t a o _ q=>l t a o q⟩ (tw d) h;rwa [uD] at this
def Bf{K:W.Frag}{ct i6:Ct}{H:Hp}(e:i6.f.cb=ct.f.cb)(l:∀t a o,ct.lo t a=some o->i6.lo t a=some o){m:M}{v:V}{S:Fp}(h:Ow K ct H m v S):Ow K i6 H m v S:=Ow.map (p:=λ _=>true) e (λ _ _ _=>wR e l) (q:=λ _=>true) (λ _ _ _=>wQ e l) (pm:=λ _=>true) (Mz:=λ _=>true) (λ _ _=>rfl) (λ _ _=>rfl) (λ _ _=>rfl) (λ _ _=>rfl) (λ _ _ _=>rfl) (λ _ _ _ _=>rfl) (λ _ _ _=>rfl) (λ _ _ _=>⟨rfl,rfl⟩) rfl h
def bU(c:Cf):DV c.z some (λ _=>true) (λ _=>true):=⟨λ K H ds vs ds' l b t e=>by
 cases e;have q:∀t a o,c.z.lo t a=some o->(kX c.cb c.L vs).z.lo t a=some o:=λ t a o z=>by cases t<;>exact z
 have q':∀t a o,(kX c.cb c.L vs).z.lo t a=some o->c.z.lo t a=some o:=λ t a o z=>by cases t<;>exact z
 exact ⟨c.L,l,wQ (ct:=c.z) (i6:=(kX c.cb c.L vs).z) rfl q t,λ H' d v _ t=>wR (ct:=(kX c.cb c.L vs).z) (i6:=c.z) rfl q' t,λ H' m v S _ t=>Bf (ct:=(kX c.cb c.L vs).z) (i6:=c.z) rfl q' t⟩⟩
def xU(ct:Ct):DV ct (λ ds=>if fV ds=true then some ds else none) (λ _=>true) (λ _=>true):=⟨λ K H ds vs ds' l b t e=>by
 split at e
 ·rename_i n;cases e;have q:∀t a o,ct.f.z.lo t a=some o->(kX ct.f.cb ct.f.L vs).z.lo t a=some o:=λ t a o z=>by cases t<;>exact z
  have q':∀t a o,(kX ct.f.cb ct.f.L vs).z.lo t a=some o->ct.lo t a=some o:=λ t a o z=>by
   cases t with
   |true=>cases z
   |false=>exact z
  obtain ⟨cf,B,tm⟩:=ct;exact ⟨cf.L,l,wQ (ct:=cf.z) (i6:=(kX cf.cb cf.L vs).z) rfl q (aL.down t n),λ H' d v _ t=>wR (ct:=(kX cf.cb cf.L vs).z) (i6:=⟨cf,B,tm⟩) rfl q' t,λ H' m v S _ t=>Bf (ct:=(kX cf.cb cf.L vs).z) (i6:=⟨cf,B,tm⟩) rfl q' t⟩
 ·cases e⟩
def Vj(ct:Ct):DV ct (λ ds=>some (vp ds)) nb MB:=⟨λ K H ds vs ds' l b t e=>by cases e;exact ⟨H,ay.refl H,t.lent rfl rfl l b,λ H' d v n t=>Tl.bare (ct:=(kX ct.f.cb H vs).z) (i6:=ct) rfl t n,λ H' m v S n t=>Ow.bare (ct:=(kX ct.f.cb H vs).z) (i6:=ct) rfl t n⟩⟩
def UA(X:Cx)(ct:Ct)(bk:D->Bool)(zX:M->Bool)(σ:St)(H:Hp)(a:cV)(Q:VK):Prop:=match a with
 | .ok d=>bk d=true/\Wd X ct H Q d
 | .new m=>zX m=true/\Wm X ct H Q m
 | .err x=>∀e s',jr X ct.f.cb σ H x e s'->X.xe e s'
 |_=>False
def kOf(X:Cx)(ct:Ct)(md:List D->Option (List D))(bk:D->Bool)(zX:M->Bool)(n:Nat)(F:List Slot->cV)(fa:Sg->Res (List D)):TE:=λ σ H Q=>∃Γ,Jx X ct Γ σ H/\Ok X ct σ H (fa Γ) λ ds=>ds.length=n/\∃ds',md ds=some ds'/\∀H',ay H H'->UA X ct bk zX σ H' (F (ds'.map .val)) Q
variable{ct:Ct}{md:List D->Option (List D)}{bk:D->Bool}{zX:M->Bool}
def JK{σ:St}{H L:Hp}{a:cV}{Q:VK}{vs:List V}(h:UA X ct bk zX σ H a Q)(q1:∀H' d v,bk d=true->Tl X.K (kX ct.f.cb L vs).z H' d v->Tl X.K ct H' d v)(q2:∀H' m v S,zX m=true->Ow X.K (kX ct.f.cb L vs).z H' m v S->Ow X.K ct H' m v S):
  ag7 X (kX ct.f.cb L vs) σ H a Q:=by
 cases a with
 |ok d=>exact λ v H' s t=>h.2 v H' s (q1 H' d v h.1 t)
 |new m=>exact λ v H' S s o n k=>h.2 v H' S s (q2 H' m v S h.1 o) n k
 |err x=>exact h
 |MA d os=>exact h
 |CA d os=>exact h
 |bad=>exact h
def xw(Z:DV ct md bk zX)(G:jR X.prog X.w X.K X.mg X.base ct.f.cb k f fd ps F)(hr:fN k X.A)(hm:X.mg x=some (.ref f))(hk:W.keepIn X.K (.ref f)=true)(hb:Binds X.K fd ps [])(ha:PDA X ct (e::es) fa)(hg:Gl X x:=by rfl) (hdb:(x==("__debug__":Str))=false:=by decide) (he:starEach (e::es) X.env=(false,eval e X.env)::starEach es X.env:=by rfl) (hpl:(backTo pos (starEach es X.env)).any (·.1)=false:=by rfl):
  PE X (.Call (.Name x p) (e::es) [] pos) (kOf X ct md bk zX ps.length F fa):=by
 intro pins s σ H Q I ⟨Γ,j,h⟩;refine wpAny_Call_Name_kw (uH I hg hm ?_ hdb);have h':VH X ct fa σ H (λ vs H1=>∃ds ds',ay H H1/\aL X.K ct H1 ds vs/\ds.length=ps.length/\md ds=some ds'/\UA X ct bk zX σ H1 (F (ds'.map .val)) Q):=
  ⟨Γ,j,Ok.mono (ay.refl H) h λ ds ⟨q1,ds',q2,q3⟩ vs H1 s1 t1=>⟨ds,ds',s1,t1,q1,q2,q3 H1 s1⟩⟩
 refine W.callWith_K (h₀:=X.base) I.ok.mod.kin hk (fO (ha pos pins s σ H _ I h') λ us s1 ⟨vs,H1,I1,r,ds,ds',sm,t1,hl,hd,q⟩=>⟨I1.Bl,?_⟩) he hpl;have j1:=j.mono sm;obtain ⟨L,l,t2,q1,q2⟩:=Z.go X.K H1 ds vs ds' j1.lL j1.lB t1 hd;exact G4 G hr hb I1 r l t2 (by rw[<-t1.length];exact hl) (JK q q1 q2)
def Wm.mono{H H2:Hp}{Q:VK}{m:M}(s:ay H H2)(h:Wm X ct H Q m):Wm X ct H2 Q m:=λ v H' S e o n k=>h v H' S (s.trans e) o (λ b z=>s.free (n b z)) k
def Wm.data{H:Hp}{Q:VK}{d:D}(h:Wm X ct H Q (.d d)):Wd X ct H Q d:=λ v H' e t=>h v H' (λ _=>False) e (by simpa only[Ow] using t) (λ _ z=>z.elim) λ _ z=>z.elim
def Hl{n:Nat}{g:Sg->Res M}(h:PE X e (kOf X ct md bk zX n F fa))(hg:∀Γ,g Γ=(fa Γ).bnd λ ds=>if ds.length=n then (match md ds with
   |some ds'=>(match F (ds'.map .val) with
    | .ok d=>if bk d=true then .ok (.d d) else .bad
    | .new m=>if zX m=true then .ok m else .bad
    | .err x=> .err x
    |_=> .bad)
   |none=> .bad) else .bad):PM X ct e g:=by
 refine PE.imp h λ σ H Q ⟨Γ,j,q⟩=>⟨Γ,j,?_⟩;rw[hg] at q;refine q.bnd λ ds _ q=>?_;split at q
 ·rename_i hl;split at q
  ·rename_i ds' hd;refine ⟨hl,ds',hd,λ H' s=>?_⟩;cases z:F (ds'.map .val) with
   |ok d=>
    rw[z] at q;dsimp only at q;split at q
    ·rename_i hb;exact ⟨hb,(Wm.data q).mono s⟩
    ·exact q.elim
   |new m=>
    rw[z] at q;dsimp only at q;split at q
    ·rename_i hb;exact ⟨hb,Wm.mono s q⟩
    ·exact q.elim
   |err x=>rw[z] at q;exact λ e s' r=>q e s' (r.mono s)
   |MA d os=>rw[z] at q;exact q.elim
   |CA d os=>rw[z] at q;exact q.elim
   |bad=>rw[z] at q;exact q.elim
  ·exact q.elim
 ·exact q.elim
section
variable{n:Nat}
def ZA{c:Cf}(h:PE X e (kOf X c.z some (λ _=>true) (λ _=>true) n F fa)):PM X c.z e (aao n F fa):=Hl h λ Γ=>by
 unfold aao;cases fa Γ with
 |ok ds=>
  simp only[Res.bD];by_cases hl:ds.length=n
  ·simp only[hl,if_true];cases F (ds.map .val)<;>simp[rR]
  ·simp[hl]
 |err x=>rfl
 |bad=>rfl
def Kw(h:PE X e (kOf X ct (λ ds=>if fV ds=true then some ds else none) (λ _=>true) (λ _=>true) n F fa)):PM X ct e (v8 n F fa):=Hl h λ Γ=>by
 unfold v8;congr 1;funext ds;by_cases hl:ds.length=n
 ·by_cases hn:fV ds=true
  ·simp only[hl,hn,and_self,if_true];cases F (ds.map .val)<;>simp[rR]
  ·simp[hl,hn]
 ·simp[hl]
def ZC(h:PE X e (kOf X ct (λ ds=>some (vp ds)) nb MB n F fa)):PM X ct e (N1 n F fa):=Hl h λ Γ=>by
 unfold N1;congr 1;funext ds;split
 ·dsimp only;cases F ((vp ds).map .val) with
  |ok d=>by_cases h:nb d=true<;>simp[nbA,rR,h]
  |new m=>by_cases h:MB m=true<;>simp[nbA,rR,h]
  |_=>simp[nbA,rR]
 ·rfl
def aiX(a:cV):AZ a=(rR a).bnd MC:=by cases a<;>simp[AZ,rR,MC,AS,LK]
def Dz(f:Sg->Res (List D))(g:List D->cV)(P:List D->Prop) [DecidablePred P]:(λ Γ=>(f Γ).bnd λ ds=>if P ds then AZ (g ds) else .bad)=om (λ Γ=>(f Γ).bnd λ ds=>if P ds then rR (g ds) else .bad):=by
 funext Γ;unfold om;dsimp only;cases f Γ with
 |ok ds=>
  simp only[Res.bD];by_cases h:P ds
  ·simp only[h,if_true];exact aiX _
  ·simp[h]
 |err x=>rfl
 |bad=>rfl
def ZO{c:Cf}(h:PE X e (kOf X c.z some (λ _=>true) (λ _=>true) n F fa)):PD X c.z e (bz n F fa):=by have:=sQ (ZA h);rwa [show om (aao n F fa)=bz n F fa from (Dz fa (λ ds=>F (ds.map .val)) λ ds=>ds.length=n).symm] at this
def ZQ(h:PE X e (kOf X ct (λ ds=>if fV ds=true then some ds else none) (λ _=>true) (λ _=>true) n F fa)):PD X ct e (kW n F fa):=by have:=sQ (Kw h);rwa [show om (v8 n F fa)=kW n F fa from (Dz fa (λ ds=>F (ds.map .val)) λ ds=>ds.length=n/\fV ds=true).symm] at this
def ZP(h:PE X e (kOf X ct (λ ds=>some (vp ds)) nb MB n F fa)):PD X ct e (r9 n F fa):=by have:=sQ (ZC h);rwa [show om (N1 n F fa)=r9 n F fa from (Dz fa (λ ds=>nbA (F ((vp ds).map .val))) λ ds=>ds.length=n).symm] at this
end
end
section
variable{P:Program}{w:World}{K:W.Frag}{mg:Str->Option Value}{base:Heap}{cb:Cb}
def Li{N:List Str}{qual:Str}{scope:Scope}{f:Addr}{cd:Value}{A:Around}{outer:List Env}{s:Shared}{H:Hp}{E:XK}{σ':St}{H':Hp}{c:String}{e:Value}{s':Shared} (r:jr (qu (J3 P w) P w K mg base N qual scope f cd A outer s H E) cb σ' H' c e s') (he:∀C H2,cb.exc c=some C->ay H' H2->E (.ref C) none H2):
  (qu (J3 P w) P w K mg base N qual scope f cd A outer s H E).xe e s':=by
 obtain ⟨pins,H1,s1,C,I1,sm,hc,r⟩:=r;have hfr:=I1.ok.frames;have back:∀a,s1.heap.get? a=none->s.heap.get? a=none:=λ a q=>by
  cases z:s.heap.get? a with
  |none=>rfl
  |some o=>obtain ⟨o',w'⟩:=I1.base.there a o z (by simp[qu]);rw[q] at w';cases w'
 rcases r with ⟨a,args,h',rfl,rfl,hx⟩|⟨a,C',H2,B,a0,rfl,⟨q1,q2,q3⟩,q4,q5,fl,na,nw,cl⟩
 ·-- made here
  let X:=qu (J3 P w) P w K mg base N qual scope f cd A outer s H E
  have hst:s1.heap.FunFrames X.base X.stack:=I1.stack;have hin:∀env∈X.stack,∀b,env.frame=some b->b∈frs X.stack:=λ env he b hb=>List.mem_filterMap.mpr ⟨env,he,hb⟩;have hkb:(W.hideAll s1.heap (frs X.stack)).StaysIn s1.heap:=λ b o q=>W.of_hideAll _ q;refine wpAny_leaves_madeW (s:={s1 with heap:=h'}) (L:=s.heap.objs.size) hfr rfl hkb (W.funFrames_hide hst hin) hx λ h2 t fl tu tn up=>?_;have na:H1 a=none:=by
   cases z:H1 a with
   |none=>rfl
   |some o=>obtain ⟨ob,hb⟩:=tH (I1.hok a o z);rw[hx.new] at hb;cases hb
  refine ⟨a,C,H1,W.hideAll s1.heap (frs X.stack),.ref t,rfl,he C H1 hc sm,I1.os,I1.bare,fl,na,back a hx.new,λ h3 st3 up3=>?_⟩;have keep:∀b o,s1.heap.get? b=some o->b∉frs X.stack->h3.get? b=some o:=λ b o q nb=>st3 b o (W.hideAll_get _ q nb);have slot:∀b o,s1.heap.get? b=some o->b∈frs X.stack->∃sl,h3.get? b=some {o with slots:=sl}:=λ b o q hb=>by obtain ⟨_,o',ho',hd⟩:=hst.mem hb;rw[q] at ho';cases ho';exact (up.trans up3) b o (hx.keeps b o q) hd
  have un:Un (frs X.stack) [] H1 H1 s1.heap h3:=⟨λ b o q n nb _=>keep b o q nb,λ b o q n hb _=>slot b o q hb,λ b o q n _=>n,λ b o q _=>by
   by_cases hb:b∈frs X.stack
   ·obtain ⟨sl,z⟩:=slot b o q hb;exact ⟨_,z⟩
   ·exact ⟨o,keep b o q hb⟩,λ b xs q=>q,λ b o u q=>q,λ b ps q=>⟨#[],by rw[q];simp⟩⟩
  have hok:vf P w H1 h3:=λ b o q=>(I1.hok b o q).stay (λ b' u hb' e'=>by
   have tr:H1 b'≠none:=by
    rcases hb' with rfl|hb'
    ·rw[q];exact λ z=>nomatch z
    ·rw[hb'];exact λ z=>nomatch z
   exact keep b' u e' λ z=>tr (I1.A9 b' z)) (λ _ q=>q) λ _ _ q=>q
  have I3:=I1.VD (s':={s1 with heap:=h3}) (ch:=[]) rfl un hok I1.bare (λ b z=>absurd z (by simp));exact ⟨I3.base,hok⟩
 ·-- out of a call
  cases q1;refine wpAny_leaves_onW (L:=s.heap.objs.size) hfr rfl fl λ h2 fl2 up=>?_;refine ⟨a,C,H2,B,a0,rfl,he C H2 hc (sm.trans q3),q4.trans I1.os,q5,fl2,na,back a nw,λ h3 st3 up3=>?_⟩;obtain ⟨un,hok⟩:=cl h3 st3 (up.trans up3);have I3:=I1.VD (s':={s' with heap:=h3}) (ch:=[]) q4 un hok q5 (λ b z=>absurd z (by simp));exact ⟨I3.base,hok⟩
def Vq{N:List Str}{as:List Slot}{vs:List V}{H:Hp}{c:Cf}(j:J K c.z H as (vs.map some) H):J K c.z H (cN N as) (L2.start N vs) H:=by
 have hl:as.length=vs.length:=by have:=j.len;simpa using this
 obtain ⟨S,h1,h2,h3⟩:=j.sl;refine ⟨j.same,j.free,j.lL,j.lB,by simp[cN,L2.start,hl],λ i b=>S i b/\i<as.length,λ i sl ov g1 g2=>?_,λ i k b e z z'=>h2 i k b e z.1 z'.1,λ i b z=>h3 i b z.1⟩;by_cases hi:i<as.length
 ·rw[cN,List.getElem?_append_left hi] at g1;rw[L2.start,List.getElem?_append_left (by simpa[<-hl] using hi)] at g2;have eS:(λ b=>S i b/\i<as.length)=S i:=funext λ b=>propext ⟨λ z=>z.1,λ z=>⟨z,hi⟩⟩;show pM K c.z H H i (λ b=>S i b/\i<as.length) sl ov;rw[eS];exact h1 i sl ov g1 g2
 ·rw[cN,List.getElem?_append_right (Nat.le_of_not_lt hi),List.getElem?_replicate] at g1;split at g1
  ·cases g1;exact λ b z=>hi z.2
  ·cases g1
def ai0{x qual:Str}{st:Stmt}{f:Addr}{fd:FuncData}{N ps:List Str}{k:Nat}{F:List Slot->cV}{B:Nat->Sg->Out}(Yx:nM K x qual st f fd)(S:qg N ps (aA st)) (hbody:∀(c:Cf) (cdv:Value) (A:Around) (outer:List Env) (s:Shared) (H:Hp) (E:XK),c.cb=cb->fN k (A.deeper (envOfC qual (aA st) s.heap.objs.size f cdv))->Good (qu (J3 P w) P w K mg base N qual (aA st) f cdv A outer s H E)->∀n,amZ (qu (J3 P w) P w K mg base N qual (aA st) f cdv A outer s H E) c (aH st) (B n)) (hF:∀as,as.length=ps.length->F as≠.bad->∃n,qf (B n (cN N as))=F as):jR P w K mg base cb (k+1) f fd ps F:=by
 obtain ⟨oc,od,kV,doc,pm,an,cdv,i6,osl,rfl,lk,hcd⟩:=Yx.ex;refine agv lk hcd S (λ vs H Q E h=>h.1) λ A outer s H vs Q E hr J1=>?_;obtain ⟨hn,c,as,ecb,al8,j,h⟩:=J1;have hl:as.length=vs.length:=by have:=j.len;simpa using this
 have hb:F as≠.bad:=λ z=>by rw[z] at h;exact h
 obtain ⟨n,hF⟩:=hF as (by rw[hl];exact hn) hb;refine ⟨_,hbody c cdv A outer s H E ecb hr ⟨PassesOwn.leaving,rfl,S.nd,rfl,rfl⟩ n,cN N as,Vq j,?_⟩;rw[<-hF] at h;cases q:B n (cN N as) with
 |nx Γ=>rw[q] at h;exact λ σ' H' _ j=>h .cY H' j.same j.free (by simp[Tl])
 |bk Γ=>rw[q] at h;exact h.elim
 |ct Γ=>rw[q] at h;exact h.elim
 |rt d=>rw[q] at h;exact λ v H' b t=>h v H' b.same b.free t
 |Wj m=>rw[q] at h;exact λ v H' S b o n k=>h v H' S b.same b.free o n k
 |rtG d Γ=>rw[q] at h;exact λ v σ' H' j t=>h v Γ σ' H' j rfl t
 |BX d Γ=>rw[q] at h;exact λ σ' H' i v j g1 g2=>h Γ σ' H' i v j rfl g1 g2
 |err x Γ=>rw[q] at h;exact λ σ' H' e s' _ j r=>Li (ecb▸r) λ C H2 hc s=>h C H2 hc λ b o z n=>s b o (j.same b o z n)
 |bad=>rw[q] at h;exact h.elim
def ad1{x qual:Str}{st:Stmt}{f:Addr}{fd:FuncData}{N ps:List Str}{k:Nat}{F:List Slot->cV}{B:Nat->Sg->Out}(Yx:nM K x qual st f fd)(S:qg N ps (aA st))(hbody:∀(c:Cf) (cdv:Value) (A:Around) (outer:List Env) (s:Shared) (H:Hp) (E:XK),c.cb=cb->fN k (A.deeper (envOfC qual (aA st) s.heap.objs.size f cdv))->Good (qu (J3 P w) P w K mg base N qual (aA st) f cdv A outer s H E)->∀n,ve (qu (J3 P w) P w K mg base N qual (aA st) f cdv A outer s H E) c (aH st) (B n)) (hF:∀as,as.length=ps.length->F as≠.bad->∃n,qf (B n (cN N as))=F as):jR P w K mg base cb (k+1) f fd ps F:=ai0 (Yx:=Yx) (S:=S) (hbody:=(λ c cdv A outer s H E h_1 h_2 h_3 n=>(hbody c cdv A outer s H E h_1 h_2 h_3 n).out)) (hF:=hF)
end
section
variable{X:Cx}{ct:Ct}{a b e:Expr}{f g:Sg->Res D}{pos:Pos}
def kE{C':Int->Int->Prop}{C:Int->Int->Bool}{gv:Int->Int->V}{gd:Int->Int->D}(hc:∀i j,C i j=true->C' i j)(ht:∀i j K ct H,Tl K ct H (gd i j) (gv i j)):FI X ct (rI C' gv) (intD C gd):=by
 intro σ H x y d1 d2 Q lL lB t1 t2 h;cases d1 with
 |int i=>
  cases d2 with
  |int j=>
   simp only[Tl] at t1 t2;subst t1 t2;rw[aaV] at h;split at h
   ·rename_i hij;exact ⟨i,j,rfl,rfl,hc i j hij,h _ H (ay.refl H) (ht i j _ _ _)⟩
   ·exact h.elim
  |_=>exact h.elim
 |_=>cases d2<;>exact h.elim
def oX{F:Value->Value->Sem Value}{gv:Int->Int->V}(h:qw X F (rI0 gv)):qw X F (rI (λ _ _=>True) gv):=λ pins s σ H x y v u Q I rx ry ⟨i,j,h1,h2,_,q⟩=>h pins s σ H x y v u Q I rx ry ⟨i,j,h1,h2,q⟩
def aae{i j:Int}(h:xQ i j=true):IntMulOk i j:=by
 simp only[xQ,Bool.or_eq_true,Bool.and_eq_true,decide_eq_true_eq] at h;rcases h with (h|h)|h
 ·exact .of_left h
 ·exact .of_right h
 ·exact .of_bits h.1 h.2
def aeT:qw X (binaryOp .Mult) (rI (λ i j=>xQ i j=true) λ i j=> .int (i*j)):=opI λ _ _ _ _ _ _ _ hc q=>mul_int q (aae hc)
def ZU:qw X (binaryOp .FloorDiv) (rI (λ i j=>Gz i j=true) λ i j=> .int (i.fdiv j)):=opI λ _ _ _ _ _ _ _ hc q=>by simp only[Gz,Bool.and_eq_true,decide_eq_true_eq] at hc;exact floordiv_int hc.1 q (.inl (PyProof.noPylong_of_log2 hc.2))
def MN(ha:WD X ct a f)(hb:WD X ct b g):WD X ct (.BinOp a .Sub b pos) (aI Y9 f g):=by have ha:=ha.out;have hb:=hb.out;exact ⟨Ca (oX ah9) (kE (λ _ _ _=>trivial) λ _ _ _ _ _=>by simp[Tl]) ha hb⟩
def rF(ha:WD X ct a f)(hb:WD X ct b g):WD X ct (.BinOp a .Mult b pos) (aI kF f g):=by have ha:=ha.out;have hb:=hb.out;exact ⟨Ca aeT (kE (λ _ _ h=>h) λ _ _ _ _ _=>by simp[Tl]) ha hb⟩
def pT(ha:WD X ct a f)(hb:WD X ct b g):WD X ct (.BinOp a .FloorDiv b pos) (aI ig f g):=by have ha:=ha.out;have hb:=hb.out;exact ⟨Ca ZU (kE (λ _ _ h=>h) λ _ _ _ _ _=>by simp[Tl]) ha hb⟩
def jy(ha:WD X ct a f)(hb:WD X ct b g):WD X ct (.BinOp a .Mod b pos) (aI mX f g):=by have ha:=ha.out;have hb:=hb.out;exact ⟨Ca aeU (kE (λ _ _ h=>of_decide_eq_true h) λ _ _ _ _ _=>by simp[Tl]) ha hb⟩
def ahf(ha:WD X ct a f)(hb:WD X ct b g):WD X ct (.BinOp a .Pow b pos) (aI Zu f g):=by
 have ha:=ha.out;have hb:=hb.out;exact ⟨Ca aia (kE (λ _ _ h=>by
 simp only[U0,Bool.and_eq_true,decide_eq_true_eq] at h;exact ⟨h.1.1,h.1.2,h.2⟩) λ _ _ _ _ _=>by simp[Tl]) ha hb⟩
def ahe(ha:WD X ct a f)(hb:WD X ct b g):WD X ct (.BinOp a .BitXor b pos) (aI adE f g):=by have ha:=ha.out;have hb:=hb.out;exact ⟨Ca (oX ah8) (kE (λ _ _ _=>trivial) λ _ _ _ _ _=>by simp[Tl]) ha hb⟩
def akE(ha:WD X ct a f)(hb:WD X ct b g):WD X ct (.Compare a [.Lt] [b] pos) (aI ltI f g):=by have ha:=ha.out;have hb:=hb.out;exact ⟨Cc (oX U8) (kE (λ _ _ _=>trivial) λ _ _ _ _ _=>by simp[Tl]) ha hb (rP _)⟩
def yV(ha:WD X ct a f)(hb:WD X ct b g):JT X ct (.Compare a [.Lt] [b] pos) (dT (aI ltI f g)):=by have ha:=ha.out;have hb:=hb.out;exact ⟨uF (oX U8) (kE (λ _ _ _=>trivial) λ _ _ _ _ _=>by simp[Tl]) ha hb (rP _)⟩
def ahd(ha:WD X ct a f)(hb:WD X ct b g):JT X ct (.Compare a [.Gt] [b] pos) (dT (aI gtI f g)):=by have ha:=ha.out;have hb:=hb.out;exact ⟨uF (oX aln) (kE (λ _ _ _=>trivial) λ _ _ _ _ _=>by simp[Tl]) ha hb (rP _)⟩
def YS(ha:WD X ct a f):WD X ct (.UnaryOp .USub a pos) (dUn ae5 f):=by
 have ha:=ha.out;refine ⟨?_⟩;refine PE.imp (ali aho ha) λ σ H Q ⟨Γ,j,h⟩=>?_;refine sC.bnd j h λ d v H' s t j' h'=>?_;cases d with
 |int i=>simp only[Tl] at t;exact ⟨i,t,h' _ H' s (by simp[Tl])⟩
 |_=>exact h'.elim
def Mf{r2:List V->Hp->VK->Prop}{r:List D->Res D}{fa:Sg->Res (List D)}(k:∀(σ:St) (H:Hp) (vs:List V) (ds:List D) (Q:VK),ay ct.f.L H->ay ct.B H->aL X.K ct H ds vs->Ok X ct σ H (r ds) (Wd X ct H Q)->r2 vs H Q):
  ∀σ H Q,sC X ct (nv r fa) σ H Q->tCB r2 (VH X ct fa) σ H Q:=by
 rintro σ H Q ⟨Γ,j,h⟩
 exact VH.bnd j h λ ds vs H' s t j' h'=>k σ H' vs ds Q j'.lL j'.lB t (Ok.mono s h' λ d q=>q.mono s)
def GR{K:W.Frag}{H:Hp}{d:D}{vs:List V}(h:aL K ct H [d] vs):∃v,vs=[v]/\Tl K ct H d v:=by simp only[aL] at h;obtain ⟨v,r,rfl,t,rfl⟩:=h;exact ⟨v,rfl,t⟩
def akK{K:W.Frag}{H:Hp}{d d':D}{vs:List V}(h:aL K ct H [d,d'] vs):∃v v',vs=[v,v']/\Tl K ct H d v/\Tl K ct H d' v':=by simp only[aL] at h;obtain ⟨v,r,rfl,t,v',r',rfl,t',rfl⟩:=h;exact ⟨v,v',rfl,t,t'⟩
def fU{p:Pos}{fa:Sg->Res (List D)}{es:List Expr}(hm:X.mg "len"=none)(ha:D0 X ct (e::es) fa)(hg:Gl X "len":=by rfl)(he:starEach (e::es) X.env=(false,eval e X.env)::starEach es X.env:=by rfl)(hpl:(backTo pos (starEach es X.env)).any (·.1)=false:=by rfl):WD X ct (.Call (.Name "len" p) (e::es) [] pos) (nv b4 fa):=by
 have ha:=ha.out;refine ⟨?_⟩;refine PE.imp (qV abR hg hm PySem.boot_len ha (by decide) (by decide) he hpl) (Mf λ σ H vs ds Q lL lB t h=>?_);unfold b4 at h;split at h
 ·rename_i es;obtain ⟨v,rfl,tv⟩:=GR t;simp only[Tl] at tv;obtain ⟨a,us,rfl,h1,h2⟩:=tv;refine ⟨_,us.length,rfl,?_,h _ H (ay.refl H) (by rw[h2.length];simp[Tl])⟩;exact .inl ⟨us,h1.sq,rfl⟩
 ·rename_i es;obtain ⟨v,rfl,tv⟩:=GR t;simp only[Tl] at tv;obtain ⟨a,us,rfl,h1,h2⟩:=tv;refine ⟨_,us.length,rfl,?_,h _ H (ay.refl H) (by rw[h2.length];simp[Tl])⟩;exact .inr ⟨us,qN h1,rfl⟩
 ·rename_i es;obtain ⟨v,rfl,tv⟩:=GR t;simp only[Tl] at tv;obtain ⟨a,us,rfl,h1,h2⟩:=tv;refine ⟨_,us.length,rfl,?_,h _ H (ay.refl H) (by rw[h2.length];simp[Tl])⟩;exact .inr ⟨us,h1.sq,rfl⟩
 ·rename_i tm es;obtain ⟨v,rfl,tv⟩:=GR t;obtain ⟨a,us,rfl,h1,h2⟩:=tv.kg lL lB rfl;refine ⟨_,us.length,rfl,?_,h _ H (ay.refl H) (by rw[h2.length];simp[Tl])⟩;exact .inl ⟨us,h1,rfl⟩
 ·rename_i x;split at h
  ·rename_i hx;obtain ⟨v,rfl,tv⟩:=GR t;simp only[Tl] at tv;subst tv;exact ⟨_,x.length,rfl,⟨hx,rfl⟩,h _ H (ay.refl H) (by simp[Tl])⟩
  ·exact h.elim
 ·exact h.elim
end
def jq:∀(ds:List D),(∀d∈ds,(py d).canLay0=true)->PyData.canLayAll0 (zc ds)=true
 |[],_=>by simp[zc,PyData.canLayAll0]
 |d::ds,h=>by simp only[zc,PyData.canLayAll0,Bool.and_eq_true];exact ⟨h d (.head _),jq ds λ x hx=>h x (.tail _ hx)⟩
def kU{n:Nat}:∀(ds:List D),(∀d∈ds,(py d).depth<=n)->PyData.depthAll (zc ds)<=n
 |[],_=>by simp[zc,PyData.depthAll]
 |d::ds,h=>by simp only[zc,PyData.depthAll];exact Nat.max_le.mpr ⟨h d (.head _),kU ds λ x hx=>h x (.tail _ hx)⟩
def nV:∀(n:Nat) (d:D),gK n d=true->(py d).canLay0=true/\(py d).depth<=n
 |n,.cY,_=>by simp[py,PyData.canLay0,PyData.depth]
 |n,.bl b,_=>by simp[py,PyData.canLay0,PyData.depth]
 |n,.int b,_=>by simp[py,PyData.canLay0,PyData.depth]
 |n,.str b,h=>by cases n<;>simp_all[py,PyData.canLay0,PyData.depth,gK]
 |0,.tup ds,h=>by simp[gK] at h
 |0,.gt ds,h=>by simp[gK] at h
 |0,.lst ds,h=>by simp[gK] at h
 |0,.bor _ ds,h=>by simp[gK] at h
 |n+1,.bor _ ds,h=>by simp only[gK,List.all_eq_true] at h;simp only[py,PyData.canLay0,PyData.depth];exact ⟨jq ds λ d hd=>(nV n d (h d hd)).1,Nat.succ_le_succ (kU ds λ d hd=>(nV n d (h d hd)).2)⟩
 |n+1,.tup ds,h=>by simp only[gK,List.all_eq_true] at h;simp only[py,PyData.canLay0,PyData.depth];exact ⟨jq ds λ d hd=>(nV n d (h d hd)).1,Nat.succ_le_succ (kU ds λ d hd=>(nV n d (h d hd)).2)⟩
 |n+1,.gt ds,h=>by simp only[gK,List.all_eq_true] at h;simp only[py,PyData.canLay0,PyData.depth];exact ⟨jq ds λ d hd=>(nV n d (h d hd)).1,Nat.succ_le_succ (kU ds λ d hd=>(nV n d (h d hd)).2)⟩
 |n+1,.lst ds,h=>by simp only[gK,List.all_eq_true] at h;simp only[py,PyData.canLay0,PyData.depth];exact ⟨jq ds λ d hd=>(nV n d (h d hd)).1,Nat.succ_le_succ (kU ds λ d hd=>(nV n d (h d hd)).2)⟩
 |0,.obj _ _ _,h=>by simp[gK] at h
 |0,.exc _,h=>by simp[gK] at h
 |n+1,.obj _ _ _,h=>by simp[gK] at h
 |n+1,.exc _,h=>by simp[gK] at h
 |0,.uQ _ _,h=>by simp[gK] at h
 |0,.yR _ _ _,h=>by simp[gK] at h
 |n+1,.uQ _ _,h=>by simp[gK] at h
 |n+1,.yR _ _ _,h=>by simp[gK] at h
 |0,.yQ _ _ _ _,h=>by simp[gK] at h
 |n+1,.yQ _ _ _ _,h=>by simp[gK] at h
def rN{d:D}(h:gK 12 d=true):SeqAt.shaped (py d)=true:=by obtain ⟨h1,h2⟩:=nV 12 d h;unfold SeqAt.shaped;rw[h1,Bool.true_and];exact decide_eq_true (Nat.le_trans h2 (by decide))
section
variable{X:Cx}{ct:Ct}{pins:List (Addr×Obj)}{σ:St}{H:Hp}{s:Shared}
def mV{f:D->Prop}(hf:∀d v u,f d->Tl X.K ct H d v->RelV v u->∃as,Reads s.heap u (py d) as):∀(ds:List D) (vs:List V) (us:List Value),(∀d∈ds,f d)->aL X.K ct H ds vs->Vals vs us->∃as,ReadsAll s.heap us (zc ds) as
 |[],vs,us,_,h,r=>by simp only[aL] at h;subst h;cases r;exact ⟨[],.nil⟩
 |d::ds,vs,us,hd,h,r=>by
  simp only[aL] at h;obtain ⟨v,w,rfl,t1,t2⟩:=h;cases r with
  |cons r1 r2=>obtain ⟨as,h1⟩:=hf d v _ (hd d (.head _)) t1 r1;obtain ⟨bs,h2⟩:=mV hf ds w _ (λ x hx=>hd x (.tail _ hx)) t2 r2;exact ⟨as++bs,.cons h1 h2⟩
def mU(I:Inv X pins σ H s)(lL:ay ct.f.L H)(lB:ay ct.B H):∀(n:Nat) (d:D) (v:V) (u:Value),gK n d=true->Tl X.K ct H d v->RelV v u->∃as,Reads s.heap u (py d) as
 |n,.cY,v,u,_,t,r=>by simp only[Tl] at t;subst t;cases r;exact ⟨[],.none⟩
 |n,.bl b,v,u,_,t,r=>by simp only[Tl] at t;subst t;cases r;exact ⟨[],.bool b⟩
 |n,.int i,v,u,_,t,r=>by simp only[Tl] at t;subst t;obtain ⟨k,rfl⟩:=r;exact ⟨[],.int i k⟩
 |n,.str x,v,u,_,t,r=>by simp only[Tl] at t;subst t;obtain ⟨k,rfl⟩:=r;exact ⟨[],.str x k⟩
 |0,.tup ds,v,u,h,_,_=>by simp[gK] at h
 |0,.gt ds,v,u,h,_,_=>by simp[gK] at h
 |0,.lst ds,v,u,h,_,_=>by simp[gK] at h
 |0,.bor _ ds,v,u,h,_,_=>by simp[gK] at h
 |n+1,.bor tm ds,v,u,h,t,r=>by obtain ⟨a,vs,rfl,t1,t2⟩:=t.kg lL lB rfl;cases r;simp only[gK,List.all_eq_true] at h;obtain ⟨its,rv,⟨o,m,h1,h2,_,h3⟩,_⟩:=I.list t1;obtain ⟨as,q⟩:=mV (f:=λ d=>gK n d=true) (λ d v u h t r=>mU I lL lB n d v u h t r) ds vs its h t2 rv;exact ⟨a::as,reads_list_at h1 h2 h3 (by simpa using q)⟩
 |n+1,.tup ds,v,u,h,t,r=>by simp only[Tl] at t;obtain ⟨a,vs,rfl,t1,t2⟩:=t;cases r;simp only[gK,List.all_eq_true] at h;obtain ⟨its,rv,⟨o,h1,h2,m,h3⟩,_⟩:=I.tuple (qN t1);obtain ⟨as,q⟩:=mV (f:=λ d=>gK n d=true) (λ d v u h t r=>mU I lL lB n d v u h t r) ds vs its h t2 rv;exact ⟨as,reads_tuple_at h1 h2 h3 (by simpa using q)⟩
 |n+1,.gt ds,v,u,h,t,r=>by simp only[Tl] at t;obtain ⟨a,vs,rfl,t1,t2⟩:=t;cases r;simp only[gK,List.all_eq_true] at h;obtain ⟨its,rv,⟨o,h1,h2,m,h3⟩,_⟩:=I.tuple t1.sq;obtain ⟨as,q⟩:=mV (f:=λ d=>gK n d=true) (λ d v u h t r=>mU I lL lB n d v u h t r) ds vs its h t2 rv;exact ⟨as,reads_tuple_at h1 h2 h3 (by simpa using q)⟩
 |n+1,.lst ds,v,u,h,t,r=>by simp only[Tl] at t;obtain ⟨a,vs,rfl,t1,t2⟩:=t;cases r;simp only[gK,List.all_eq_true] at h;obtain ⟨its,rv,⟨o,m,h1,h2,_,h3⟩,_⟩:=I.list t1.sq;obtain ⟨as,q⟩:=mV (f:=λ d=>gK n d=true) (λ d v u h t r=>mU I lL lB n d v u h t r) ds vs its h t2 rv;exact ⟨a::as,reads_list_at h1 h2 h3 (by simpa using q)⟩
 |0,.obj _ _ _,v,u,h,_,_=>by simp[gK] at h
 |0,.exc _,v,u,h,_,_=>by simp[gK] at h
 |n+1,.obj _ _ _,v,u,h,_,_=>by simp[gK] at h
 |n+1,.exc _,v,u,h,_,_=>by simp[gK] at h
 |0,.uQ _ _,v,u,h,_,_=>by simp[gK] at h
 |0,.yR _ _ _,v,u,h,_,_=>by simp[gK] at h
 |n+1,.uQ _ _,v,u,h,_,_=>by simp[gK] at h
 |n+1,.yR _ _ _,v,u,h,_,_=>by simp[gK] at h
 |0,.yQ _ _ _ _,v,u,h,_,_=>by simp[gK] at h
 |n+1,.yQ _ _ _ _,v,u,h,_,_=>by simp[gK] at h
end
section
variable{X:Cx}{ct:Ct}{a b e:Expr}{f g:Sg->Res D}{pos:Pos}
def aeu(K:W.Frag)(ct:Ct)(neg:Bool):R2:=λ x y H Q=>ay ct.f.L H/\ay ct.B H/\∃d1 d2,Tl K ct H d1 x/\Tl K ct H d2 y/\gK 12 d1=true/\gK 12 d2=true/\Q (.bl (if neg then !LS d1 d2 else LS d1 d2)) H
def ZW(hu:X.A.units+64<cLine):qw X (compareOp .Eq) (aeu X.K ct false):=by intro pins s σ H x y v u Q I rx ry ⟨lL,lB,d1,d2,t1,t2,o1,o2,q⟩;obtain ⟨as,r1⟩:=mU I lL lB 12 d1 x v o1 t1 rx;obtain ⟨bs,r2⟩:=mU I lL lB 12 d2 y u o2 t2 ry;exact eq_dataH r1 r2 (rN o1) (rN o2) hu ⟨.bl _,H,I,rfl,q⟩
def ZV(hu:X.A.units+64<cLine):qw X (compareOp .NotEq) (aeu X.K ct true):=by intro pins s σ H x y v u Q I rx ry ⟨lL,lB,d1,d2,t1,t2,o1,o2,q⟩;obtain ⟨as,r1⟩:=mU I lL lB 12 d1 x v o1 t1 rx;obtain ⟨bs,r2⟩:=mU I lL lB 12 d2 y u o2 t2 ry;exact ne_dataH r1 r2 (rN o1) (rN o2) hu ⟨.bl _,H,I,rfl,q⟩
def ZZ:FI X ct (aeu X.K ct false) pQ:=by
 intro σ H x y d1 d2 Q lL lB t1 t2 h;unfold pQ at h;split at h
 ·rename_i ho;exact ⟨lL,lB,d1,d2,t1,t2,ho.1,ho.2,h _ H (ay.refl H) (by simp[Tl])⟩
 ·exact h.elim
def ZX:FI X ct (aeu X.K ct true) CB:=by
 intro σ H x y d1 d2 Q lL lB t1 t2 h;unfold CB at h;split at h
 ·rename_i ho;exact ⟨lL,lB,d1,d2,t1,t2,ho.1,ho.2,h _ H (ay.refl H) (by simp[Tl])⟩
 ·exact h.elim
def YW(hu:X.A.units+64<cLine)(ha:WD X ct a f)(hb:WD X ct b g):WD X ct (.Compare a [.Eq] [b] pos) (aI pQ f g):=by have ha:=ha.out;have hb:=hb.out;exact ⟨Cc (ZW hu) ZZ ha hb (rP _)⟩
def af8(hu:X.A.units+64<cLine)(ha:WD X ct a f)(hb:WD X ct b g):WD X ct (.Compare a [.NotEq] [b] pos) (aI CB f g):=by have ha:=ha.out;have hb:=hb.out;exact ⟨Cc (ZV hu) ZX ha hb (rP _)⟩
def i7(hu:X.A.units+64<cLine)(ha:WD X ct a f)(hb:WD X ct b g):JT X ct (.Compare a [.Eq] [b] pos) (dT (aI pQ f g)):=by have ha:=ha.out;have hb:=hb.out;exact ⟨uF (ZW hu) ZZ ha hb (rP _)⟩
def BE(hu:X.A.units+64<cLine)(ha:WD X ct a f)(hb:WD X ct b g):JT X ct (.Compare a [.NotEq] [b] pos) (dT (aI CB f g)):=by have ha:=ha.out;have hb:=hb.out;exact ⟨uF (ZV hu) ZX ha hb (rP _)⟩
def Bw{K:W.Frag}{H:Hp}{ds:List D}{vs:List V}{i:Int}{d:D}(t:aL K ct H ds vs)(h:qy ds i=some d):∃v,qy vs i=some v/\Tl K ct H d v:=by
 unfold qy at h ⊢;rw[<-t.length];cases q:nZ ds.length i with
 |none=>rw[q] at h;cases h
 |some k=>rw[q] at h;exact t.get h
def aif:FI X ct (rIx X.K) bV:=by
 intro σ H x y d1 d2 Q lL lB t1 t2 h;unfold bV at h;split at h
 ·rename_i ds i;split at h
  ·rename_i d hd;simp only[Tl] at t1 t2;obtain ⟨a,vs,rfl,h1,h2⟩:=t1;subst t2;obtain ⟨v,hv,tv⟩:=Bw h2 hd;exact .inl ⟨a,vs,i,v,rfl,rfl,h1.sq,hv,h v H (ay.refl H) tv⟩
  ·exact h.elim
 ·rename_i tm ds i;split at h
  ·rename_i d hd;obtain ⟨a,vs,rfl,h1,h2⟩:=t1.kg lL lB rfl;simp only[Tl] at t2;subst t2;obtain ⟨v,hv,tv⟩:=Bw h2 hd;exact .inl ⟨a,vs,i,v,rfl,rfl,h1,hv,h v H (ay.refl H) tv⟩
  ·exact h.elim
 ·rename_i ds i;split at h
  ·rename_i d hd;simp only[Tl] at t1 t2;obtain ⟨a,vs,rfl,h1,h2⟩:=t1;subst t2;obtain ⟨v,hv,tv⟩:=Bw h2 hd;exact .inr (.inl ⟨a,vs,i,v,rfl,rfl,qN h1,hv,h v H (ay.refl H) tv⟩)
  ·exact h.elim
 ·rename_i ds i;split at h
  ·rename_i d hd;simp only[Tl] at t1 t2;obtain ⟨a,vs,rfl,h1,h2⟩:=t1;subst t2;obtain ⟨v,hv,tv⟩:=Bw h2 hd;exact .inr (.inl ⟨a,vs,i,v,rfl,rfl,h1.sq,hv,h v H (ay.refl H) tv⟩)
  ·exact h.elim
 ·rename_i z i;split at h
  ·rename_i hz;split at h
   ·rename_i c hc;simp only[Tl] at t1 t2;subst t1 t2;exact .inr (.inr ⟨z,i,c,rfl,rfl,hz,hc,h _ H (ay.refl H) (by simp[Tl])⟩)
   ·exact h.elim
  ·exact h.elim
 ·exact h.elim
def bx(ha:WD X ct a f)(hb:WD X ct b g)(hs:JV b:=by exact λ _ _=>rfl):WD X ct (.Subscript a b pos) (aI bV f g):=by have ha:=ha.out;have hb:=hb.out;exact ⟨PE.imp (agg aaQ ha hb hs) (Hv aif)⟩
def jz(ha:WD X ct a f)(hb:WD X ct b g):WD X ct (.BinOp a .Add b pos) (aI jV f g):=by
 have ha:=ha.out;have hb:=hb.out;refine ⟨?_⟩;refine Ca (qw.or aic Nl) (λ σ H x y d1 d2 Q lL lB t1 t2 h=>?_) ha hb;unfold jV at h;split at h
 ·simp only[Tl] at t1 t2;subst t1 t2;exact .inl ⟨_,_,rfl,rfl,h _ H (ay.refl H) (by simp[Tl])⟩
 ·split at h
  ·rename_i hl;simp only[Tl] at t1 t2;subst t1 t2;exact .inr ⟨_,_,rfl,rfl,hl,h _ H (ay.refl H) (by simp[Tl])⟩
  ·exact h.elim
 ·exact h.elim
def ald(K:W.Frag):R2:=λ x y H Q=>∃l b xs zs,x= .ref l/\y= .ref b/\vD K H l xs/\vD K H b zs/\xs.length+zs.length<=sizeLine/\∀p,H p=none->Q (.ref p) (upd H p (.lst (xs++zs)))
def aeV:qw X (binaryOp .Add) (ald X.K):=by
 intro pins s σ H x y v u Q I rx ry h;obtain ⟨l,b,xs,zs,rfl,rfl,hH,hB,hz,q⟩:=h;cases rx;cases ry;obtain ⟨its,r,⟨⟨oc,od,odt,osl⟩,n,e,hc,_,hd⟩,_⟩:=I.list hH;obtain ⟨its2,r2,⟨⟨oc2,od2,asr,apq⟩,n2,e2,hc2,_,hd2⟩,_⟩:=I.list hB;simp only at hc hd hc2 hd2;subst hc hd hc2 hd2;have hl:=r.length;have hl2:=r2.length;have ea:its.toArray++its2.toArray=(its++its2).toArray:=by simp
 refine concat_meets ⟨_,e,rfl⟩ ⟨_,e2,rfl⟩ noFill_list_add seq_list_add PySem.F.slot_list_add PySem.F.entry_list_add
  (PySem.F.args_list_add_2 _ _) (list_addW l b its.toArray its2.toArray n n2 od od2 osl apq (by simp only[List.size_toArray];omega)) ⟨e,e2,?_⟩
 rw[ea];exact ⟨.ref _,_,I.apK (t':=s.toks) (r.append r2) (by rw[List.length_append];omega),rfl,q _ I.fresh⟩
def ahc(ha:WD X ct a f)(hb:WD X ct b g):WL X ct (.BinOp a .Add b pos) (lOp Ye f g):=by
 have ha:=ha.out;have hb:=hb.out;refine ⟨?_⟩;refine PE.imp (agf aeV ha hb) ?_
 rintro σ H Q ⟨Γ,j,h⟩
 refine sC.bnd j h λ d1 v H1 s1 t1 j1 h1=>?_;refine sC.bnd (W:=Wl X ct H Q) j1 (Ok.mono s1 h1 λ _ z=>z) λ d2 u H2 s2 t2 j2 h2=>?_;have t1:=t1.keep (ay.keep s2);unfold Ye at h2;split at h2
 ·rename_i e1 e2;split at h2
  ·rename_i hl;obtain ⟨a,vs,rfl,q1,q2⟩:=t1.kg j2.lL j2.lB e1;obtain ⟨b,us,rfl,q3,q4⟩:=t2.kg j2.lL j2.lB e2;refine ⟨a,b,vs,us,rfl,rfl,q1,q3,by rw[<-q2.length, <-q4.length];exact hl,λ p hp=>?_⟩;have s3:=bO hp (.lst (vs++us));exact h2 p _ _ ((s1.trans s2).trans s3) ((s1.trans s2).free hp) aG ((q2.append q4).keep (ay.keep s3))
  ·exact h2.elim
 ·exact h2.elim
def oOf(X:Cx)(ct:Ct)(f:Sg->Res (Option Int)):TO:=λ σ H Q=>∃Γ,Jx X ct Γ σ H/\Ok X ct σ H (f Γ) λ i=>∀H',ay H H'->Q i H'
abbrev PDO(X:Cx)(ct:Ct)(e:Option Expr)(f:Sg->Res (Option Int)):Prop:=PO X e (oOf X ct f)
structure WO(X:Cx)(e:Option Expr)(t:TO):Prop where
 out:PO X e t
abbrev WDO(X:Cx)(ct:Ct)(e:Option Expr)(f:Sg->Res (Option Int)):Prop:=WO X e (oOf X ct f)
def PO.imp{e:Option Expr}{t u:TO}(h:PO X e t)(k:∀σ H Q,u σ H Q->t σ H Q):PO X e u:=λ pins s σ H Q I q=>h pins s σ H Q I (k σ H Q q)
def BG:WDO X ct none AY:=by exact ⟨PO.imp aeB λ σ H Q ⟨Γ,j,h⟩=>h H (ay.refl H)⟩
def oH(he:WD X ct e f):WDO X ct (some e) (dP f):=by
 have he:=he.out;refine ⟨?_⟩;refine PO.imp (aeA he) λ σ H Q ⟨Γ,j,h⟩=>?_;refine sC.bnd j h λ d v H' s t j' h'=>?_;cases d with
 |int i=>simp only[Tl] at t;exact ⟨i,t,h' H' s⟩
 |_=>exact h'.elim
def abH{K:W.Frag}{H:Hp}{ds:List D}{vs:List V}(t:aL K ct H ds vs)(lo hi:Option Int):aL K ct H (Jp ds lo hi) (OM vs lo hi):=by unfold Jp OM;rw[t.length];exact (t.drop _).take _
def MK{lo hi:Option Expr}{l u:Sg->Res (Option Int)}{p2:Pos}(he:WD X ct e f)(hl:WDO X ct lo l)(hu:WDO X ct hi u):WL X ct (.Subscript e (.Slice lo hi none p2) pos) (AL f l u):=by
 have he:=he.out;have hl:=hl.out;have hu:=hu.out;refine ⟨?_⟩;refine PE.imp (KA aei he hl hu) λ σ H Q ⟨Γ,j,h⟩=>?_;refine sC.bnd j h λ d v H1 s1 t1 j1 h1=>?_;refine ⟨Γ,j1,(Ok.mono s1 h1 λ _ z=>z).bnd (W:=Wl X ct H Q) λ lo _ h2 H2 s2=>?_⟩;refine ⟨Γ,j1.mono s2,(Ok.mono s2 h2 λ _ z=>z).bnd (W:=Wl X ct H Q) λ hi _ h3 H3 s3=>?_⟩;have t3:=t1.keep (ay.keep (s2.trans s3));cases q:asL d with
 |some xs=>rw[q] at h3;have j3:=j1.mono (s2.trans s3);obtain ⟨a,vs,rfl,fz,tl⟩:=t3.kg j3.lL j3.lB q;refine ⟨a,vs,rfl,fz,λ p hp=>?_⟩;have s4:=bO hp (.lst (OM vs lo hi));exact h3 p _ _ (((s1.trans s2).trans s3).trans s4) (((s1.trans s2).trans s3).free hp) aG ((abH tl lo hi).keep (ay.keep s4))
 |none=>rw[q] at h3;exact h3.elim
end
section
variable{K:W.Frag}{ct:Ct}{H H':Hp}
def Walk(H:Hp):M->V->List Nat->V->Prop
 |_,v,[],v'=>v'=v
 | .n ms,v,k::ks,v'=>∃a vs v1 m1,v= .ref a/\H a=some (.lst vs)/\vs[k]? =some v1/\ms[k]? =some m1/\Walk H m1 v1 ks v'
 | .t ms,v,k::ks,v'=>∃a vs v1 m1,v= .ref a/\H a=some (.tup vs)/\vs[k]? =some v1/\ms[k]? =some m1/\Walk H m1 v1 ks v'
 | .q kq ms,v,k::ks,v'=>∃a vs v1 m1,v= .ref a/\H a=some (kq.ho vs)/\kq.len=vs.length/\vs[k]? =some v1/\ms[k]? =some m1/\Walk H m1 v1 ks v'
 |_,_,_::_,_=>False
def Walk.same(e:ay H H'):∀{ks:List Nat} {m:M} {v v':V},Walk H m v ks v'->Walk H' m v ks v'
 |[],m,v,v',h=>by cases m<;>simpa only[Walk] using h
 |k::ks,.n ms,v,v',h=>by simp only[Walk] at h ⊢;obtain ⟨a,vs,v1,m1,h1,h2,h3,h4,h5⟩:=h;exact ⟨a,vs,v1,m1,h1,e _ _ h2,h3,h4,Walk.same e h5⟩
 |k::ks,.t ms,v,v',h=>by simp only[Walk] at h ⊢;obtain ⟨a,vs,v1,m1,h1,h2,h3,h4,h5⟩:=h;exact ⟨a,vs,v1,m1,h1,e _ _ h2,h3,h4,Walk.same e h5⟩
 |k::ks,.q kq ms,v,v',h=>by simp only[Walk] at h ⊢;obtain ⟨a,vs,v1,m1,h1,h2,h0,h3,h4,h5⟩:=h;exact ⟨a,vs,v1,m1,h1,e _ _ h2,h0,h3,h4,Walk.same e h5⟩
 |k::ks,.d x,v,v',h=>by simp only[Walk] at h
 |k::ks,.l x,v,v',h=>by simp only[Walk] at h
 |k::ks,.k x y,v,v',h=>by simp only[Walk] at h
 |k::ks,.o x y z,v,v',h=>by simp only[Walk] at h
def Walk.snoc{k:Nat}{v1:V}:∀{ks:List Nat} {m m':M} {v v':V},Walk H m v ks v'->pJ m ks=some m'->Walk H m' v' [k] v1->Walk H m v (ks++[k]) v1
 |[],m,m',v,v',h,e,w=>by simp only[Walk] at h;simp only[pJ,Option.some.injEq] at e;subst h e;exact w
 |j::ks,.n ms,m',v,v',h,e,w=>by simp only[Walk] at h;obtain ⟨a,vs,v2,m2,h1,h2,h3,h4,h5⟩:=h;simp only[pJ,h4,Option.bind_some] at e;show Walk H (.n ms) v (j::(ks++[k])) v1;simp only[Walk];exact ⟨a,vs,v2,m2,h1,h2,h3,h4,Walk.snoc h5 e w⟩
 |j::ks,.t ms,m',v,v',h,e,w=>by simp only[Walk] at h;obtain ⟨a,vs,v2,m2,h1,h2,h3,h4,h5⟩:=h;simp only[pJ,h4,Option.bind_some] at e;show Walk H (.t ms) v (j::(ks++[k])) v1;simp only[Walk];exact ⟨a,vs,v2,m2,h1,h2,h3,h4,Walk.snoc h5 e w⟩
 |j::ks,.q kq ms,m',v,v',h,e,w=>by simp only[Walk] at h;obtain ⟨a,vs,v2,m2,h1,h2,h0,h3,h4,h5⟩:=h;simp only[pJ,h4,Option.bind_some] at e;show Walk H (.q kq ms) v (j::(ks++[k])) v1;simp only[Walk];exact ⟨a,vs,v2,m2,h1,h2,h0,h3,h4,Walk.snoc h5 e w⟩
 |j::ks,.d x,m',v,v',h,e,w=>by simp only[Walk] at h
 |j::ks,.l x,m',v,v',h,e,w=>by simp only[Walk] at h
 |j::ks,.k x y,m',v,v',h,e,w=>by simp only[Walk] at h
 |j::ks,.o x y z,m',v,v',h,e,w=>by simp only[Walk] at h
def zip_inj{α β:Type}:∀{ks:List α} {vs us:List β},ks.length=vs.length->ks.length=us.length->ks.zip vs=ks.zip us->vs=us
 |[],[],[],_,_,_=>rfl
 |k::ks,v::vs,u::us,h1,h2,e=>by simp only[List.zip_cons_cons,List.cons.injEq,Prod.mk.injEq,true_and] at e;rw[e.1,zip_inj (by simpa using h1) (by simpa using h2) e.2]
def aa5{kq:Ks}{vs us:List V}(h1:kq.len=vs.length)(h2:kq.len=us.length)(e:kq.ho vs=kq.ho us):vs=us:=by
 cases kq with
 |s ks=>simp only[Ks.ho,HO.dK.injEq] at e;exact zip_inj h1 h2 e
 |t ks=>simp only[Ks.ho,HO.dT.injEq] at e;exact zip_inj h1 h2 e
def cO.length:∀{ms:List M} {vs:List V} {S:Fp},cO K ct H ms vs S->ms.length=vs.length
 |[],vs,S,h=>by simp only[cO] at h;subst h;rfl
 |m::ms,vs,S,h=>by simp only[cO] at h;obtain ⟨v,r,S1,S2,rfl,_,_,_,_,h6⟩:=h;simp[cO.length h6]
def cO.OB:∀{ms:List M} {vs:List V} {S:Fp} {k:Nat} {m1:M},cO K ct H ms vs S->ms[k]? =some m1->∃v1 S1,vs[k]? =some v1/\Ow K ct H m1 v1 S1/\(∀b,S1 b->S b)/\∀H' jA JU,aU ct.f.cb H H'->(∀b o,S b->¬S1 b->H b=some o->H' b=some o)->Ow K ct H' jA v1 JU->(∀b,JU b->S b->S1 b)->cO K ct H' (ms.set k jA) vs (λ b=>(S b/\¬S1 b)\/JU b)
 |[],vs,S,k,m1,h,e=>by simp at e
 |m::ms,vs,S,0,m1,h,e=>by simp only[cO] at h;obtain ⟨v,r,S1,S2,rfl,h2,h3,h4,h5,h6⟩:=h;simp only[List.getElem?_cons_zero,Option.some.injEq] at e;subst e;refine ⟨v,S1,rfl,h5,h2,λ H' jA JU kp un o fr=>?_⟩;simp only[List.set_cons_zero,cO];refine ⟨v,r,JU,S2,rfl,λ b z=> .inr z,λ b z=> .inl ⟨h3 b z,λ w=>h4 b w z⟩,λ b z w=>h4 b (fr b z (h3 b w)) w,o,h6.frame kp λ b o z=>un b o (h3 b z) λ w=>h4 b w z⟩
 |m::ms,vs,S,k+1,m1,h,e=>by
  simp only[cO] at h;obtain ⟨v,r,S1,S2,rfl,h2,h3,h4,h5,h6⟩:=h;simp only[List.getElem?_cons_succ] at e;obtain ⟨v1,T1,g1,g2,g3,g4⟩:=cO.OB h6 e;refine ⟨v1,T1,by simpa using g1,g2,λ b z=>h3 b (g3 b z),λ H' jA JU kp un o fr=>?_⟩;have q:=g4 H' jA JU kp (λ b o z w=>un b o (h3 b z) w) o λ b z w=>fr b z (h3 b w);simp only[List.set_cons_succ,cO];refine ⟨v,r,S1,λ b=>(S2 b/\¬T1 b)\/JU b,rfl,λ b z=> .inl ⟨h2 b z,λ w=>h4 b z (g3 b w)⟩,λ b z=>?_,λ b z w=>?_,h5.frame kp λ b o z=>un b o (h2 b z) λ w=>h4 b z (g3 b w),q⟩
  ·rcases z with z|z
   ·exact .inl ⟨h3 b z.1,z.2⟩
   ·exact .inr z
  ·rcases w with w|w
   ·exact h4 b z w.1
   ·exact h4 b z (g3 b (fr b w (h2 b z)))
def Ow.OB:∀{ks:List Nat} {m m':M} {v v':V} {S:Fp},Ow K ct H m v S->Walk H m v ks v'->pJ m ks=some m'->∃S',Ow K ct H m' v' S'/\(∀b,S' b->S b)/\∀H' jA JU,aU ct.f.cb H H'->(∀b o,S b->¬S' b->H b=some o->H' b=some o)->Ow K ct H' jA v' JU->(∀b,JU b->S b->S' b)->Ow K ct H' (mW m ks jA) v (λ b=>(S b/\¬S' b)\/JU b)
 |[],m,m',v,v',S,o,w,e=>by
  simp only[Walk] at w;simp only[pJ,Option.some.injEq] at e;subst w e;refine ⟨S,o,λ _ z=>z,λ H' jA JU kp un o' fr=>?_⟩;have:mW m [] jA=jA:=by cases m<;>rfl
  rw[this];exact o'.wide λ b z=> .inr z
 |k::ks,.n ms,m',v,v',S,o,w,e=>by
  simp only[Walk] at w;obtain ⟨a,vs,v1,m1,rfl,w2,w3,w4,w5⟩:=w;simp only[pJ,w4,Option.bind_some] at e;simp only[Ow] at o;obtain ⟨a',us,e1,o2,o3,o4⟩:=o;cases e1;rw[w2] at o3;cases o3;obtain ⟨u1,T1,g1,g2,g3,g4⟩:=cO.OB o4 w4;rw[w3] at g1;cases g1;obtain ⟨S',q1,q2,q3⟩:=Ow.OB g2 w5 e;refine ⟨S',q1,λ b z=>(g3 b (q2 b z)).1,λ H' jA JU kp un o' fr=>?_⟩;have na:¬S' a:=λ z=>(g3 a (q2 a z)).2 rfl;have r1:=q3 H' jA JU kp (λ b o z=>un b o (g3 b z).1) o' λ b z z'=>fr b z (g3 b z').1;have r2:=g4 H' (mW m1 ks jA) _ kp (λ b o z z'=>un b o z.1 λ y=>z' (q2 b y)) r1 λ b z z'=>by
   rcases z with z|z
   ·exact z.1
   ·exact q2 b (fr b z z'.1)
  simp only[mW,w4,Ow];refine ⟨a,vs,rfl,.inl ⟨o2,na⟩,un a _ o2 na w2,r2.wide λ b z=>?_⟩;rcases z with z|z|z
  ·exact ⟨.inl ⟨z.1.1,λ y=>z.2 (q2 b y)⟩,z.1.2⟩
  ·exact ⟨.inl ⟨(g3 b z.1).1,z.2⟩,(g3 b z.1).2⟩
  ·refine ⟨.inr z,?_⟩
   rintro rfl
   exact na (fr b z o2)
 |k::ks,.t ms,m',v,v',S,o,w,e=>by
  simp only[Walk] at w;obtain ⟨a,vs,v1,m1,rfl,w2,w3,w4,w5⟩:=w;simp only[pJ,w4,Option.bind_some] at e;simp only[Ow] at o;obtain ⟨a',us,e1,o3,o4⟩:=o;cases e1;rw[w2] at o3;cases o3;obtain ⟨u1,T1,g1,g2,g3,g4⟩:=cO.OB o4 w4;rw[w3] at g1;cases g1;obtain ⟨S',q1,q2,q3⟩:=Ow.OB g2 w5 e;refine ⟨S',q1,λ b z=>g3 b (q2 b z),λ H' jA JU kp un o' fr=>?_⟩;have r1:=q3 H' jA JU kp (λ b o z=>un b o (g3 b z)) o' λ b z z'=>fr b z (g3 b z');have r2:=g4 H' (mW m1 ks jA) _ kp (λ b o z z'=>un b o z λ y=>z' (q2 b y)) r1 λ b z z'=>by
   rcases z with z|z
   ·exact z.1
   ·exact q2 b (fr b z z')
  simp only[mW,w4,Ow];refine ⟨a,vs,rfl,kp _ _ w2 trivial,r2.wide λ b z=>?_⟩;rcases z with z|z|z
  ·exact .inl ⟨z.1,λ y=>z.2 (q2 b y)⟩
  ·exact .inl ⟨g3 b z.1,z.2⟩
  ·exact .inr z
 |k::ks,.q kq ms,m',v,v',S,o,w,e=>by
  simp only[Walk] at w;obtain ⟨a,vs,v1,m1,rfl,w2,w0,w3,w4,w5⟩:=w;simp only[pJ,w4,Option.bind_some] at e;simp only[Ow] at o;obtain ⟨a',us,e1,o2,o3,o0,o4⟩:=o;cases e1;rw[w2] at o3;cases aa5 w0 o0 (Option.some.inj o3);obtain ⟨u1,T1,g1,g2,g3,g4⟩:=cO.OB o4 w4;rw[w3] at g1;cases g1;obtain ⟨S',q1,q2,q3⟩:=Ow.OB g2 w5 e;refine ⟨S',q1,λ b z=>(g3 b (q2 b z)).1,λ H' jA JU kp un o' fr=>?_⟩;have na:¬S' a:=λ z=>(g3 a (q2 a z)).2 rfl;have r1:=q3 H' jA JU kp (λ b o z=>un b o (g3 b z).1) o' λ b z z'=>fr b z (g3 b z').1;have r2:=g4 H' (mW m1 ks jA) _ kp (λ b o z z'=>un b o z.1 λ y=>z' (q2 b y)) r1 λ b z z'=>by
   rcases z with z|z
   ·exact z.1
   ·exact q2 b (fr b z z'.1)
  simp only[mW,w4,Ow];refine ⟨a,vs,rfl,.inl ⟨o2,na⟩,un a _ o2 na w2,w0,r2.wide λ b z=>?_⟩;rcases z with z|z|z
  ·exact ⟨.inl ⟨z.1.1,λ y=>z.2 (q2 b y)⟩,z.1.2⟩
  ·exact ⟨.inl ⟨(g3 b z.1).1,z.2⟩,(g3 b z.1).2⟩
  ·refine ⟨.inr z,?_⟩
   rintro rfl
   exact na (fr b z o2)
 |k::ks,.d x,m',v,v',S,o,w,e=>by simp only[Walk] at w
 |k::ks,.l x,m',v,v',S,o,w,e=>by simp only[Walk] at w
 |k::ks,.k x y,m',v,v',S,o,w,e=>by simp only[Walk] at w
 |k::ks,.o x y z,m',v,v',S,o,w,e=>by simp only[Walk] at w
def J.up{c:Cf}{H₀:Hp}{Γ:Sg}{σ:St}{i:Nat}{s:Slot}{m m' jA:M}{v0:V}{a:Addr}{ks:List Nat}{o':HO}(j:J K c.z H₀ Γ σ H)(hi:Γ[i]? =some s)(hm:Mx s=some m)(hσ:σ[i]? =some (some v0))(w:Walk H m v0 ks (.ref a))(e:pJ m ks=some m') (kp:aU c.cb H (upd H a o')) (new:∀S',Ow K c.z H m' (.ref a) S'->S' a/\Ow K c.z (upd H a o') jA (.ref a) S'):J K c.z H₀ (Γ.set i (Wo s (mW m ks jA))) σ (upd H a o'):=by
 obtain ⟨S,h1,h2⟩:=j.chg i;have sl:=h1 s _ hi hσ;have key:∀(v:V) (o:Ow K c.z H m v S) (hv:v=v0),∃S2:Fp,Ow K c.z (upd H a o') (mW m ks jA) v0 S2/\(∀b,S2 b->S b)/\S a:=λ v o hv=>by
  subst hv;obtain ⟨S',q1,q2,q3⟩:=o.OB w e;obtain ⟨n1,n2⟩:=new S' q1;refine ⟨_,q3 _ jA S' kp (λ b u z z' q=>by rw[aF (by rintro rfl;exact z' n1)];exact q) n2 λ b z _=>z,λ b z=>?_,q2 a n1⟩;rcases z with z|z
  ·exact z.1
  ·exact q2 b z
 have fin:∀(My:Slot) (S2:Fp),S a->(∀b,S2 b->S b)->pM K c.z H₀ (upd H a o') i S2 My (some v0)->J K c.z H₀ (Γ.set i My) σ (upd H a o'):=λ My S2 sa sub ok=>by
  have q:=h2 (upd H a o') My (some v0) S2 kp (λ b u z z'=>by rw[aF (by rintro rfl;exact z' sa)];exact z) (λ b z=>by
   by_cases eb:b=a
   ·subst eb;rw[aG] at z;cases z
   ·rwa [aF eb] at z) (λ b u z=>nomatch z) ok λ b z=> .inl (sub b z)
  have hil:i<σ.length:=(List.getElem?_eq_some_iff.mp hσ).1;have:σ.set i (some v0)=σ:=by have e2:=(List.getElem?_eq_some_iff.mp hσ).2;rw[<-e2,List.set_getElem_self]
  rwa [this] at q
 have sok:∀S2:Fp,(∀b,S2 b->S b)->Yv c.z H₀ H S->Yv c.z H₀ (upd H a o') S2:=λ S2 sub so=>⟨λ b z=>so.new b (sub b z),λ b z q=>so.here b (sub b z) (by
   by_cases eb:b=a
   ·subst eb;rw[aG] at q;cases q
   ·rwa [aF eb] at q),λ b z=>so.Ex b (sub b z),λ b z t=>nomatch t⟩
 cases s with
 |no=>cases hm
 |val d=>cases hm
 |own m0=>cases hm;obtain ⟨v,e1,o,so,n⟩:=sl;obtain ⟨S2,o2,sub,sa⟩:=key v o (by cases e1;rfl);exact fin (.own (mW m ks jA)) S2 sa sub ⟨v0,rfl,o2,sok S2 sub so,λ b z=>n b (sub b z)⟩
 |par m0=>cases hm;obtain ⟨v,e1,o,so,n⟩:=sl;obtain ⟨S2,o2,sub,sa⟩:=key v o (by cases e1;rfl);exact fin (.par (mW m ks jA)) S2 sa sub ⟨v0,rfl,o2,sok S2 sub so,by cases e1;exact n⟩
end
section
variable{X:Cx}{ct:Ct}{c:Cf}{r ix e:Expr}{i:Nat}{g:Sg->Res (List Nat)}{f fk:Sg->Res D}{pos:Pos}{Γ:Sg}{σ:St}{H:Hp}
def uu(Γ:Sg)(σ:St)(H:Hp)(i:Nat)(ks:List Nat)(v:V):Prop:=∃s m v0 m',Γ[i]? =some s/\Mx s=some m/\σ[i]? =some (some v0)/\Walk H m v0 ks v/\pJ m ks=some m'
def uu.same{H':Hp}{ks:List Nat}{v:V}(e:ay H H')(h:uu Γ σ H i ks v):uu Γ σ H' i ks v:=by obtain ⟨s,m,v0,m',h1,h2,h3,h4,h5⟩:=h;exact ⟨s,m,v0,m',h1,h2,h3,h4.same e,h5⟩
def pOf(X:Cx)(ct:Ct)(i:Nat)(g:Sg->Res (List Nat)):TE:=λ σ H Q=>∃Γ,Jx X ct Γ σ H/\Ok X ct σ H (g Γ) λ ks=>∀v H',ay H H'->uu Γ σ H' i ks v->Q v H'
abbrev PP(X:Cx)(ct:Ct)(e:Expr)(i:Nat)(g:Sg->Res (List Nat)):Prop:=PE X e (pOf X ct i g)
abbrev WP(X:Cx)(ct:Ct)(e:Expr)(i:Nat)(g:Sg->Res (List Nat)):Prop:=WE X e (pOf X ct i g)
def J.ofM{K:W.Frag}{H₀:Hp}{s:Slot}{m:M}(j:J K ct H₀ Γ σ H)(h:Γ[i]? =some s)(hm:Mx s=some m):∃v S,σ[i]? =some (some v)/\Ow K ct H m v S:=by
 cases s with
 |no=>cases hm
 |val d=>cases hm
 |own m'=>cases hm;obtain ⟨v,S,h1,h2,_⟩:=j.own h;exact ⟨v,S,h1,h2⟩
 |par m'=>cases hm;obtain ⟨v,S,h1,h2,_⟩:=j.par h;exact ⟨v,S,h1,h2⟩
def UZ(i:Nat){x:Str}{pos:Pos}(hN:X.N[i]? =some x:=by rfl)(hv:Uv X.env.scope x:=by first|exact Or.inl rfl|exact Or.inr (Or.inl rfl)|exact Or.inr (Or.inr rfl))(hd:(x==("__debug__":Str))=false:=by decide) (hcd:(x==("__classdict__":Str))=false:=by decide):PP X ct (.Name x pos) i (jg i):=by
 refine PE.imp (vM hN hv hd hcd) λ σ H Q ⟨Γ,j,h⟩=>?_;unfold jg at h;split at h
 ·rename_i m hm;obtain ⟨s,h1,h2⟩:=Option.bind_eq_some_iff.mp hm;obtain ⟨v,S,h3,h4⟩:=j.ofM h1 h2;refine ⟨v,h3,h v H (ay.refl H) ⟨s,m,v,m,h1,h2,h3,?_,?_⟩⟩
  ·cases m<;>rfl
  ·cases m<;>rfl
 ·exact h.elim
def nP(i:Nat){x:Str}{pos:Pos}(hN:X.N[i]? =some x:=by rfl)(hv:Uv X.env.scope x:=by first|exact Or.inl rfl|exact Or.inr (Or.inl rfl)|exact Or.inr (Or.inr rfl))(hd:(x==("__debug__":Str))=false:=by decide)(hcd:(x==("__classdict__":Str))=false:=by decide):WP X ct (.Name x pos) i (jg i):=⟨UZ (i:=i) (hN:=hN) (hv:=hv) (hd:=hd) (hcd:=hcd)⟩
def yL{k:Nat}{m1:M}:∀{ks:List Nat} {m m':M},pJ m ks=some m'->pJ m' [k]=some m1->pJ m (ks++[k])=some m1
 |[],m,m',h,w=>by simp only[pJ,Option.some.injEq] at h;subst h;exact w
 |q::ks,.n l,m',h,w=>by simp only[pJ] at h;obtain ⟨m2,y1,y2⟩:=Option.bind_eq_some_iff.mp h;show pJ (.n l) (q::(ks++[k]))=_;simp only[pJ,y1,Option.bind_some];exact yL y2 w
 |q::ks,.t l,m',h,w=>by simp only[pJ] at h;obtain ⟨m2,y1,y2⟩:=Option.bind_eq_some_iff.mp h;show pJ (.t l) (q::(ks++[k]))=_;simp only[pJ,y1,Option.bind_some];exact yL y2 w
 |q::ks,.q kq l,m',h,w=>by simp only[pJ] at h;obtain ⟨m2,y1,y2⟩:=Option.bind_eq_some_iff.mp h;show pJ (.q kq l) (q::(ks++[k]))=_;simp only[pJ,y1,Option.bind_some];exact yL y2 w
 |q::ks,.d x,m',h,w=>by simp[pJ] at h
 |q::ks,.l x,m',h,w=>by simp[pJ] at h
 |q::ks,.k x y,m',h,w=>by simp[pJ] at h
 |q::ks,.o x y z,m',h,w=>by simp[pJ] at h
def af7(hr:WP X ct r i g)(hk:WD X ct ix fk)(hs:JV ix:=by exact λ _ _=>rfl):WP X ct (.Subscript r ix pos) i (pIx i g fk):=by
 have hr:=hr.out;have hk:=hk.out;refine ⟨?_⟩;refine PE.imp (agg aaQ hr hk hs) λ σ H Q ⟨Γ,j,h⟩=>?_;refine ⟨Γ,j,h.bnd λ ks _ q v H1 s1 pa=>?_⟩;refine sC.bnd (f:=fk) (j.mono s1) (Ok.mono s1 q λ _ z=>z) λ d u H2 s2 t2 j2 h2=>?_;obtain ⟨s,m,v0,m',p1,p2,p3,p4,p5⟩:=pa.same s2;have e1:((Γ[i]?).bind Mx).bind (λ m=>(pJ m ks).bind Iv)=Iv m':=by rw[p1,Option.bind_some,p2,Option.bind_some,p5,Option.bind_some]
 rw[e1] at h2;obtain ⟨vv,S,g1,o⟩:=j2.ofM p1 p2;rw[p3] at g1;cases g1;obtain ⟨S',o',_⟩:=o.OB p4 p5;cases d with
 |int z=>
  simp only[Tl] at t2;subst t2;cases ml:Iv m' with
  |none=>rw[ml] at h2;exact h2.elim
  |some n=>
   rw[ml] at h2;dsimp only at h2;cases hx:L4.nZ n z with
   |none=>rw[hx] at h2;exact h2.elim
   |some k=>
    rw[hx] at h2;have fin:∀(ms:List M) (a:Addr) (vs:List V) (T:Fp),cO X.K ct H2 ms vs T->n=ms.length->(∀v1 m1,vs[k]? =some v1->ms[k]? =some m1->Walk H2 m' v [k] v1/\pJ m' [k]=some m1)->∃v1,L2.qy vs z=some v1/\Q v1 H2:=λ ms a vs T os en w=>by
     have hk:k<ms.length:=by
      subst en;unfold L4.nZ at hx;split at hx
      ·split at hx
       ·cases hx;omega
       ·cases hx
      ·split at hx
       ·cases hx;omega
       ·cases hx
     obtain ⟨v1,T1,g1,g2,_⟩:=os.OB (List.getElem?_eq_getElem hk);obtain ⟨w1,w2⟩:=w v1 _ g1 (List.getElem?_eq_getElem hk);refine ⟨v1,?_,h2 v1 H2 (s1.trans s2) ⟨s,m,v0,ms[k],p1,p2,p3,p4.snoc p5 w1,?_⟩⟩
     ·unfold L2.qy;have:L2.nZ vs.length z=some k:=by rw[<-os.length, <-en];exact hx
      rw[this];exact g1
     ·exact yL p5 w2
    cases m' with
    |n ms=>simp only[Ow] at o';obtain ⟨a,vs,rfl,o2,o3,o4⟩:=o';simp only[Iv,Option.some.injEq] at ml;obtain ⟨v1,a1,a2⟩:=fin ms a vs _ o4 ml.symm λ v1 m1 y1 y2=>⟨by simp only[Walk];exact ⟨a,vs,v1,m1,rfl,o3,y1,y2,rfl⟩,by simp[pJ,y2]⟩;exact .inl ⟨a,vs,z,v1,rfl,rfl,.inl (.inl o3),a1,a2⟩
    |t ms=>simp only[Ow] at o';obtain ⟨a,vs,rfl,o3,o4⟩:=o';simp only[Iv,Option.some.injEq] at ml;obtain ⟨v1,a1,a2⟩:=fin ms a vs _ o4 ml.symm λ v1 m1 y1 y2=>⟨by simp only[Walk];exact ⟨a,vs,v1,m1,rfl,o3,y1,y2,rfl⟩,by simp[pJ,y2]⟩;exact .inr (.inl ⟨a,vs,z,v1,rfl,rfl,.inl (.inl o3),a1,a2⟩)
    |d x=>cases ml
    |l x=>cases ml
    |k x y=>cases ml
    |o x y z=>cases ml
    |q x y=>cases ml
 |_=>cases Iv m'<;>exact h2.elim
end
section
variable{X:Cx}{c:Cf}{r ix e:Expr}{i:Nat}{g:Sg->Res (List Nat)}{f fk:Sg->Res D}{pos:Pos}{Γ:Sg}{σ:St}{H:Hp}
def iR:1000000<sizeLine:=by rw[sizeLine_eq];decide
def cO.snoc{K:W.Frag}{ct:Ct}{d:D}{y:V}:∀{ms:List M} {vs:List V} {S:Fp},cO K ct H ms vs S->Tl K ct H d y->cO K ct H (ms++[.d d]) (vs++[y]) S
 |[],vs,S,h,t=>by simp only[cO] at h;subst h;simp only[List.nil_append,cO,Ow];exact ⟨y,[],λ _=>False,λ _=>False,rfl,λ _ z=>z.elim,λ _ z=>z.elim,λ _ z=>z.elim,t,rfl⟩
 |m::ms,vs,S,h,t=>by simp only[cO] at h;obtain ⟨v,r,S1,S2,rfl,h2,h3,h4,h5,h6⟩:=h;simp only[List.cons_append,cO];exact ⟨v,r++[y],S1,S2,rfl,h2,h3,h4,h5,cO.snoc h6 t⟩
def cO.akX{K:W.Frag}{ct:Ct}{d:D}{y:V}:∀{ms:List M} {vs:List V} {S:Fp} (k:Nat),cO K ct H ms vs S->Tl K ct H d y->cO K ct H (ms.set k (.d d)) (vs.set k y) S
 |[],vs,S,k,h,t=>by simp only[cO] at h;subst h;simp[cO]
 |m::ms,vs,S,0,h,t=>by simp only[cO] at h;obtain ⟨v,r,S1,S2,rfl,h2,h3,h4,h5,h6⟩:=h;simp only[List.set_cons_zero,cO,Ow];exact ⟨y,r,λ _=>False,S2,rfl,λ _ z=>z.elim,h3,λ _ z=>z.elim,t,h6⟩
 |m::ms,vs,S,k+1,h,t=>by simp only[cO] at h;obtain ⟨v,r,S1,S2,rfl,h2,h3,h4,h5,h6⟩:=h;simp only[List.set_cons_succ,cO];exact ⟨v,r.set k y,S1,S2,rfl,h2,h3,h4,h5,cO.akX k h6 t⟩
def F1{ks:List Nat}{v:V}(j:Jx X c.z Γ σ H)(pa:uu Γ σ H i ks v)(hl:Of (xK i ks Γ)=true):∃a vs,v= .ref a/\H a=some (.lst vs):=by
 obtain ⟨s,m,v0,m',p1,p2,p3,p4,p5⟩:=pa;have e1:xK i ks Γ=some m':=by unfold xK;rw[p1,Option.bind_some,p2,Option.bind_some,p5]
 rw[e1] at hl;obtain ⟨vv,S,g1,o⟩:=j.ofM p1 p2;rw[p3] at g1;cases g1;obtain ⟨S',o',_⟩:=o.OB p4 p5;cases m' with
 |l xs=>simp only[Ow] at o';obtain ⟨a,vs,h1,_,h2,_⟩:=o';exact ⟨a,vs,h1,h2⟩
 |n xs=>simp only[Ow] at o';obtain ⟨a,vs,h1,_,h2,_⟩:=o';exact ⟨a,vs,h1,h2⟩
 |_=>cases hl
def GP{ks:List Nat}{a:Addr}{vs vs':List V}{F:M->Option M}{E:Ends}{H0:Hp}(j:Jx X c.z Γ σ H)(k0:aU c.cb H0 H)(pa:uu Γ σ H i ks (.ref a))(ha:H a=some (.lst vs))(q:Fn X c H0 (oUp (vg i ks F Γ)) E) (hF:∀m' jA S',F m'=some jA->Ow X.K c.z H m' (.ref a) S'->S' a/\Ow X.K c.z (upd H a (.lst vs')) jA (.ref a) S'):E.nx σ (upd H a (.lst vs')):=by
 obtain ⟨s,m,v0,m',p1,p2,p3,p4,p5⟩:=pa;have e1:vg i ks F Γ=(F m').map λ jA=>Γ.set i (Wo s (mW m ks jA)):=by unfold vg;rw[p1,Option.bind_some,p2,Option.bind_some,p5,Option.bind_some]
 rw[e1] at q;cases z:F m' with
 |none=>rw[z] at q;exact q.elim
 |some jA=>rw[z] at q;have kp:aU c.cb H (upd H a (.lst vs')):=aU.lst ha;exact q σ _ (k0.trans kp) (j.up p1 p2 p3 p4 p5 kp λ S' o=>hF m' jA S' z o)
def GO{ks:List Nat}{v:V}{F:M->Option M}{E:Ends}{H0:Hp}(j:Jx X c.z Γ σ H)(pa:uu Γ σ H i ks v)(q:Fn X c H0 (oUp (vg i ks F Γ)) E):∃m' jA S',F m'=some jA/\Ow X.K c.z H m' v S':=by
 obtain ⟨s,m,v0,m',p1,p2,p3,p4,p5⟩:=pa;have e1:vg i ks F Γ=(F m').map λ jA=>Γ.set i (Wo s (mW m ks jA)):=by unfold vg;rw[p1,Option.bind_some,p2,Option.bind_some,p5,Option.bind_some]
 rw[e1] at q;obtain ⟨vv,S,g1,o⟩:=j.ofM p1 p2;rw[p3] at g1;cases g1;obtain ⟨S',o',_⟩:=o.OB p4 p5;cases z:F m' with
 |none=>rw[z] at q;exact q.elim
 |some jA=>exact ⟨m',jA,S',z,o'⟩
def JI{K:W.Frag}{d:D}{y:V}{a:Addr}{vs:List V}{B:Hp}{m' jA:M}{S':Fp}(t:Tl K (c.at' B) H d y)(ha:H a=some (.lst vs))(e:JJ d m'=some jA)(o:Ow K c.z H m' (.ref a) S'):
  vs.length<1000000/\S' a/\Ow K c.z (upd H a (.lst (vs++[y]))) jA (.ref a) S':=by
 have kp:aU c.cb H (upd H a (.lst (vs++[y]))):=aU.lst ha;cases m' with
 |l xs=>
  simp only[JJ] at e;split at e
  ·rename_i hc;cases e;simp only[Ow] at o ⊢;obtain ⟨a',us,e1,o2,o3,o4⟩:=o;cases e1;rw[ha] at o3;cases o3;exact ⟨by rw[<-o4.length];exact hc.1,o2,a,_,rfl,o2,aG,(o4.append (aL.cons (Tl.down (B:=B) (tm:=true) t hc.2) aL.nil)).keep kp⟩
  ·cases e
 |n ms=>
  simp only[JJ] at e;split at e
  ·rename_i hc;cases e;simp only[Ow] at o ⊢;obtain ⟨a',us,e1,o2,o3,o4⟩:=o;cases e1;rw[ha] at o3;cases o3;refine ⟨by rw[<-o4.length];exact hc.1,o2,a,_,rfl,o2,aG,(o4.snoc (Tl.down (B:=B) (tm:=true) t hc.2)).frame kp λ b o z q=>?_⟩;rw[aF z.2];exact q
  ·cases e
 |_=>cases e
def BF{ap cp:Pos}(hr:∀B,WP X (c.at' B) r i g)(he:∀B,WD X (c.at' B) e f)(hbase:attributeBase r "append" X.env (eval r X.env)=eval r X.env:=by rfl)(hfew:((backTo cp (starEach [e] X.env)).all (λ x=>!x.1)&&(backToKw cp (keywordEach [] X.env)).all (λ x=>x.1.isSome)
   &&decide ([e].length+([]:List Keyword).length+(if ([]:List Keyword).isEmpty then 0 else 1)<30))=true:=by rfl) (hline:(ap.endLine==cp.line)=true:=by rfl) (hs:starEach [e] X.env=(false,eval e X.env)::starEach [] X.env:=by rfl) (hplain:(backTo cp (starEach [] X.env)).any (·.1)=false:=by rfl) (hw:swapsWith (.Call (.Attribute r "append" ap) [e] [] cp) none pos.line X.env=pure false:=by rfl):yS X c (.Expr (.Call (.Attribute r "append" ap) [e] [] cp) pos) (uC i g f):=by
 have hr:=λ B=>(hr B).out;have he:=λ B=>(he B).out;refine ⟨?_⟩;intro pins s σ H E I ⟨Γ,j,h⟩;refine Be (agh PySem.F.plainAttrs_list PySem.F.slot_list_append PySem.F.type_list_append zD (hr H) (nR (he H) zh hs) hbase hfew hline hs hplain) hw pins s σ H E I ?_;refine ⟨Γ,j.lift,Fn.ok j h λ ks _ q v H1 s1 pa=>?_⟩;split at q
 ·rename_i hl;have j1:=j.mono s1;obtain ⟨a,vs,rfl,ha⟩:=F1 j1 pa hl;refine ⟨.inl ⟨rfl,vs,vD.of ha⟩,Γ,j.lift.mono s1,Ok.mono (H:=H) s1 (Fn.ok (tm:=true) (B:=H) j q λ d _ q y H2 s2 t=>?_) λ _ z=>z⟩;have j2:=j1.mono s2;have pa2:=pa.same s2;have ha2:=s2 _ _ ha;obtain ⟨m',jA,S',e1,o1⟩:=GO j2 pa2 q;refine ⟨a,vs,y,rfl,rfl,ha2,Nat.lt_trans (JI t ha2 e1 o1).1 iR,?_⟩;exact GP j2 (ay.keep (s1.trans s2)) pa2 ha2 q λ m' jA S' e o=>(JI t ha2 e o).2
 ·exact q.elim
def apS(n:Nat)(z:Int):L4.nZ n z=L2.nZ n z:=rfl
def Ze{K:W.Frag}{d:D}{y:V}{z:Int}{a:Addr}{vs:List V}{B:Hp}{m' jA:M}{S':Fp}(t:Tl K (c.at' B) H d y)(ha:H a=some (.lst vs))(e:setM z d m'=some jA)(o:Ow K c.z H m' (.ref a) S'):
  ∃k,L2.nZ vs.length z=some k/\S' a/\Ow K c.z (upd H a (.lst (vs.set k y))) jA (.ref a) S':=by
 cases m' with
 |l xs=>
  simp only[setM] at e;split at e
  ·rename_i hc;simp only[Option.map_eq_some_iff] at e;obtain ⟨k,hk,rfl⟩:=e;simp only[Ow] at o ⊢;obtain ⟨a',us,e1,o2,o3,o4⟩:=o;cases e1;rw[ha] at o3;cases o3;refine ⟨k,by rw[<-o4.length];exact hk,o2,a,_,rfl,o2,aG,(aL.set (Tl.down (B:=B) (tm:=true) t hc) k o4).keep (aU.lst ha)⟩
  ·cases e
 |n ms=>
  simp only[setM] at e;split at e
  ·rename_i hc;simp only[Option.map_eq_some_iff] at e;obtain ⟨k,hk,rfl⟩:=e;simp only[Ow] at o ⊢;obtain ⟨a',us,e1,o2,o3,o4⟩:=o;cases e1;rw[ha] at o3;cases o3;refine ⟨k,by rw[<-o4.length];exact hk,o2,a,_,rfl,o2,aG,(cO.akX k o4 (Tl.down (B:=B) (tm:=true) t hc)).frame (aU.lst ha) λ b o z q=>?_⟩;rw[aF z.2];exact q
  ·cases e
 |_=>cases e
def qD{pt:Pos}(hr:∀B,WP X (c.at' B) r i g)(hk:∀B,WD X (c.at' B) ix fk)(he:∀B,WD X (c.at' B) e f)(hs:swapsWithSole [.Subscript r ix pt] e pos.line X.env=pure false:=by rfl)(hw:swappedStores [.Subscript r ix pt] e X.env=pure none:=by rfl)(h1:(assignEach [.Subscript r ix pt] X.env).map (·.2)=[assign (.Subscript r ix pt) X.env]:=by rfl)(ha:∀v,assign (.Subscript r ix pt) X.env v=(do
   let ov <-holding [v] (eval r X.env)
   let iv <-holding [v,ov] (eval ix X.env)
   standAt pt
   holding [v,ov,iv] (setItem ov iv v)
   release [v,ov,iv] []):=by intro _;rfl):yS X c (.Assign [.Subscript r ix pt] e pos) (lz i g fk f):=by
 have hr:=λ B=>(hr B).out
 have hk:=λ B=>(hk B).out
 have he:=λ B=>(he B).out
 refine ⟨?_⟩
 intro pins s σ H E I ⟨Γ,j,h⟩
 refine Zs (he H) (ahZ (hr H) (hk H) set_list ha) hs hw h1 pins s σ H E I ?_
 refine ⟨Γ,j.lift,Fn.ok j h λ d _ q y H1 s1 t=>?_⟩
 refine ⟨Γ,j.lift.mono s1,Ok.mono (H:=H) s1 (Fn.ok (tm:=true) (B:=H) j q λ ks _ q v H2 s2 pa=>?_) λ _ z=>z⟩
 refine ⟨Γ,(j.lift.mono s1).mono s2,Ok.mono (H:=H) (s1.trans s2) (Fn.ok (tm:=true) (B:=H) j q λ z _ q u H3 s3 t3=>?_) λ _ z=>z⟩
 cases z with
 |int z=>
  simp only[Tl] at t3
  subst t3
  have sm:=(s1.trans s2).trans s3
  have j3:=j.mono sm
  have pa3:=pa.same s3
  have ty:=t.keep (ay.keep (s2.trans s3))
  obtain ⟨m',jA,S',e1,o1⟩:=GO j3 pa3 q
  have hv:∃a vs,v= .ref a/\H3 a=some (.lst vs):=by
   cases m' with
   |l xs=>simp only[Ow] at o1;obtain ⟨a,vs,h1,_,h2,_⟩:=o1;exact ⟨a,vs,h1,h2⟩
   |n xs=>simp only[Ow] at o1;obtain ⟨a,vs,h1,_,h2,_⟩:=o1;exact ⟨a,vs,h1,h2⟩
   |_=>cases e1
  obtain ⟨a,vs,rfl,ha⟩:=hv
  obtain ⟨k,hk,_⟩:=Ze ty ha e1 o1
  refine ⟨a,vs,z,k,rfl,rfl,ha,hk,?_⟩
  exact GP j3 (ay.keep sm) pa3 ha q λ m' jA S' e o=>by
   obtain ⟨k',hk',q'⟩:=Ze ty ha e o
   rw[hk] at hk';cases hk'
   exact q'
 |_=>exact q.elim
end
def JX(K:W.Frag)(ct:Ct)(J:It)(xs:List D)(H:Hp):Prop:=∃P:Hp->Prop,P H/\(∀H1 H2,P H1->aU ct.f.cb H1 H2->ay ct.f.L H2->ay ct.B H2->P H2)/\(∀i d H1,P H1->xs[i]? =some d->J.go i H1/\∀x H2,J.yld i H1 x H2->ay H1 H2/\Tl K ct H2 d x)/\∀i H1,P H1->xs.length<=i->J.stop i H1
def ajE(x:Str):It:=⟨λ i _=>i<x.cps.size,λ i H v H'=>H'=H/\∃c,x.cps[i]? =some c/\v= .str ⟨#[c]⟩,λ i _=>x.cps.size<=i⟩
def Kd{P:Program}{w:World}{K:W.Frag}{tg:Expr}(it:Addr)(x:Str)(u:Tok){T:String}(hT:T="str_ascii_iterator"\/T="str_iterator"):Turn P w K tg (ajE x) [it] it (λ i h=>h.IsStrIter it T x u i) where
 mem:=by simp
 obj:=λ i h st b hb=>by
  have e:b=it:=by simpa using hb
  subst e
  obtain ⟨o,e,c,d⟩:=st
  exact ⟨o,e,λ v z=>by rw[d] at z;cases z⟩
 keep:=λ i h h' st k=>let ⟨o,e,r⟩:=st;⟨o,k it (by simp) o e,r⟩
 item:=by
  intro X hP hw hK hc i pins s σ H E I hf st hg
  subst hP hw hK
  obtain ⟨f0,f1,f2,f3,f4,f5⟩:=hf it (by simp)
  rcases hT with rfl|rfl
  ·refine (Walks.strAscii (prog:=X.prog) (w:=X.w) (I.ok.hd hc) it x u).item i s _ _ hg st λ v h' tk hv st' kk=>?_
   obtain ⟨c,t,hx,rfl⟩:=hv
   have I1:Inv X pins σ H {s with heap:=h',toks:=tk}:=I.turned (λ b o hb e=>kk b o (by simpa using hb) e) f0 f1 f3 f4 f5
   obtain ⟨o,e,c1,d⟩:=id st'
   exact ⟨_,rfl,LD (s:={s with heap:=h',toks:=tk}) e c1 d (by decide) ⟨.str ⟨#[c]⟩,H,I1,⟨t,rfl⟩,⟨rfl,c,hx,rfl⟩,st',λ b hb=>(hf b hb).1⟩⟩
  ·refine (Walks.strWide (prog:=X.prog) (w:=X.w) (I.ok.hd hc) it x u).item i s _ _ hg st λ v h' tk hv st' kk=>?_
   obtain ⟨c,t,hx,rfl⟩:=hv
   have I1:Inv X pins σ H {s with heap:=h',toks:=tk}:=I.turned (λ b o hb e=>kk b o (by simpa using hb) e) f0 f1 f3 f4 f5
   obtain ⟨o,e,c1,d⟩:=id st'
   exact ⟨_,rfl,LD (s:={s with heap:=h',toks:=tk}) e c1 d (by decide) ⟨.str ⟨#[c]⟩,H,I1,⟨t,rfl⟩,⟨rfl,c,hx,rfl⟩,st',λ b hb=>(hf b hb).1⟩⟩
 done:=by
  intro X hP hw hK hc i pins s σ H E I hf st hg
  subst hP hw hK
  obtain ⟨f0,f1,f2,f3,f4,f5⟩:=hf it (by simp)
  have hx:x.cps[i]? =none:=by
   have:x.cps.size<=i:=hg
   simp[this]
  rcases hT with rfl|rfl
  ·exact wpAny_pyNext_ascii_end (I.ok.hd hc) st hx λ h' eb=>⟨rfl,I.turned (t':=s.toks) (λ b o hb e=>eb b o hb e) f0 f1 f3 f4 f5⟩
  ·exact wpAny_pyNext_wide_end (I.ok.hd hc) st hx λ h' eb=>⟨rfl,I.turned (t':=s.toks) (λ b o hb e=>eb b o hb e) f0 f1 f3 f4 f5⟩
 self:=λ _ _ _ _ _ st h=>by
  rcases hT with rfl|rfl
  ·exact wpAny_pyIter_striter_ascii st h
  ·exact wpAny_pyIter_striter_wide st h
def ahX{X:Cx}{tg l:Expr}{tl:TE}(hl:PE X l tl):PI X tg l (λ σ H R=>tl σ H λ x H1=>∃z,x= .str z/\R (ajE z) H1):=by
 intro pins s σ H R I h;refine fO (hl pins s σ H _ I h) λ v s1 ⟨x,H1,I1,r1,z,e,q⟩=>?_;subst e;obtain ⟨u,rfl⟩:=r1;have fp:∀b∈[s1.heap.objs.size],DW X pins H1 b:=λ b hb=>by
  have e:b=s1.heap.objs.size:=by simpa using hb
  subst e;exact I1.OA (Nat.le_refl _) (I1.hok.fresh (Nat.le_refl _))
 cases ha:z.cps.all (· <128)
 ·exact wpAny_pyIter_wide ha ⟨s1.heap.objs.size,[s1.heap.objs.size],_,_,H1,rfl,I1.kept (t':=s1.toks) λ b o e=>Heap.get?_push_of_some _ e,Kd _ z u (.inr rfl),⟨_,Heap.get?_push_size _ rfl,rfl,rfl⟩,fp,q⟩
 ·exact wpAny_pyIter_ascii ha ⟨s1.heap.objs.size,[s1.heap.objs.size],_,_,H1,rfl,I1.kept (t':=s1.toks) λ b o e=>Heap.get?_push_of_some _ e,Kd _ z u (.inl rfl),⟨_,Heap.get?_push_size _ rfl,rfl,rfl⟩,fp,q⟩
section
variable{X:Cx}{ct:Ct}{tg iter e:Expr}{f:Sg->Res D}{pos:Pos}
def FU(x:Str):(signs x).length=x.cps.size:=by simp[signs]
def aft{K:W.Frag}{H:Hp}{x:Str}:JX K ct (ajE x) (signs x) H:=by
 refine ⟨λ _=>True,trivial,λ _ _ _ _ _ _=>trivial,λ i d H1 _ hd=>?_,λ i H1 _ hi=>by rw[FU] at hi;exact hi⟩;have hi:i<x.cps.size:=by have:=(List.getElem?_eq_some_iff.mp hd).1;rwa [FU] at this
 simp only[signs,List.getElem?_map,Array.getElem?_toList] at hd;refine ⟨hi,λ v H2 ⟨e,c,hc,y⟩=>⟨by rw[e];exact ay.refl _,?_⟩⟩;rw[hc] at hd;cases hd;simp[Tl,y]
def Lz{K:W.Frag}{H:Hp}{a:Addr}{vs:List V}{xs:List D}(fz:FzL K H a vs)(t:aL K ct H xs vs):JX K ct (Itl K a) xs H:=by refine ⟨λ H1=>aU ct.f.cb H H1,aU.refl H,λ H1 H2 k1 k2 _ _=>k1.trans k2,λ i d H1 k1 hd=>?_,λ i H1 k1 hi=>⟨vs,(k1.fzL fz).sq,by rw[<-t.length];exact hi⟩⟩;obtain ⟨v,hv,tv⟩:=t.get hd;refine ⟨⟨vs,v,(k1.fzL fz).sq,hv⟩,λ x H2 ⟨e,y⟩=>⟨by rw[e];exact ay.refl _,?_⟩⟩;subst e;have:=y vs (k1.fzL fz).sq;rw[hv] at this;cases this;exact tv.keep k1
def Vs{K:W.Frag}{H:Hp}{tm:Bool}{v:V}{xs:List D}(l:ay ct.f.L H)(b:ay ct.B H)(t:Tl K ct H (.bor tm xs) v):∃a,v= .ref a/\(∃vs,vD K H a vs)/\JX K ct (Itl K a) xs H:=by
 simp only[Tl] at t;obtain ⟨a,vs,rfl,h2,t⟩:=t;have sq:∀H1,ay ct.f.L H1->ay ct.B H1->vD K H1 a vs:=λ H1 l b=>by
  cases tm with
  |true=>exact .inl (.inl (b a _ h2))
  |false=>exact .inl (.inl (l a _ h2))
 refine ⟨a,rfl,⟨vs,sq H l b⟩,λ H1=>aU ct.f.cb H H1/\ay ct.f.L H1/\ay ct.B H1,⟨aU.refl H,l,b⟩,λ H1 H2 k1 k2 l2 b2=>⟨k1.1.trans k2,l2,b2⟩,λ i d H1 k1 hd=>?_,λ i H1 k1 hi=>⟨vs,sq H1 k1.2.1 k1.2.2,by rw[<-t.length];exact hi⟩⟩;obtain ⟨v,hv,tv⟩:=t.get hd;refine ⟨⟨vs,v,sq H1 k1.2.1 k1.2.2,hv⟩,λ x H2 ⟨e,y⟩=>⟨by rw[e];exact ay.refl _,?_⟩⟩;subst e;have:=y vs (sq _ k1.2.1 k1.2.2);rw[hv] at this;cases this;exact tv.keep k1.1
def Bo{K:W.Frag}{H:Hp}{a:Addr}{vs:List V}{xs:List D}(fz:A7 K H a vs)(t:aL K ct H xs vs):JX K ct (Itt K a) xs H:=by refine ⟨λ H1=>aU ct.f.cb H H1,aU.refl H,λ H1 H2 k1 k2 _ _=>k1.trans k2,λ i d H1 k1 hd=>?_,λ i H1 k1 hi=>⟨vs,k1.sqT fz,by rw[<-t.length];exact hi⟩⟩;obtain ⟨v,hv,tv⟩:=t.get hd;refine ⟨⟨vs,v,k1.sqT fz,hv⟩,λ x H2 ⟨e,y⟩=>⟨by rw[e];exact ay.refl _,?_⟩⟩;subst e;have:=y vs (k1.sqT fz);rw[hv] at this;cases this;exact tv.keep k1
def afu{K:W.Frag}{H:Hp}{lo:Int}{n:Nat}:JX K ct (Itr lo n) (fQ lo n) H:=by
 refine ⟨λ _=>True,trivial,λ _ _ _ _ _ _=>trivial,λ i d H1 _ hd=>?_,λ i H1 _ hi=>by rw[Gh] at hi;exact hi⟩;have hi:i<n:=by have:=(List.getElem?_eq_some_iff.mp hd).1;rwa [Gh] at this
 rw[XE hi] at hd;cases hd;exact ⟨hi,λ x H2 ⟨e,y⟩=>⟨by rw[e];exact ay.refl _,by simp[Tl,y]⟩⟩
def iOf(X:Cx)(ct:Ct)(f:Sg->Res (List D)):TI:=λ σ H R=>∃Γ,Jx X ct Γ σ H/\Ok X ct σ H (f Γ) λ xs=>∀J H',ay H H'->JX X.K ct J xs H'->R J H'
abbrev PID(X:Cx)(ct:Ct)(tg iter:Expr)(f:Sg->Res (List D)):Prop:=PI X tg iter (iOf X ct f)
structure WI(X:Cx)(tg iter:Expr)(wi:TI):Prop where
 out:PI X tg iter wi
abbrev WID(X:Cx)(ct:Ct)(tg iter:Expr)(f:Sg->Res (List D)):Prop:=WI X tg iter (iOf X ct f)
def adZ(he:WD X ct iter f):WID X ct tg iter (XR f):=by
 have he:=he.out;refine ⟨?_⟩;intro pins s σ H R I ⟨Γ,j,h⟩;cases q:f Γ with
 |bad=>simp only[XR,q,Res.Bv] at h;exact h.elim
 |err c=>simp only[XR,q,Res.Bu] at h;exact uE he pins s σ H R I ⟨Γ,j,by rw[q];exact h⟩
 |ok d=>
  simp only[XR,q,Res.bD] at h;cases d with
  |lst xs=>replace h:∀J H',ay H H'->JX X.K ct J xs H'->R J H':=h;refine uE he pins s σ H R I ⟨Γ,j,?_⟩;rw[q];intro v H' sm tl;simp only[Tl] at tl;obtain ⟨a,vs,rfl,fz,tl⟩:=tl;exact ⟨a,rfl,⟨vs,fz.sq⟩,h _ H' sm (Lz fz tl)⟩
  |bor tm xs=>replace h:∀J H',ay H H'->JX X.K ct J xs H'->R J H':=h;refine uE he pins s σ H R I ⟨Γ,j,?_⟩;rw[q];intro v H' sm tl;have j':=j.mono sm;obtain ⟨a,rfl,sq,it⟩:=Vs j'.lL j'.lB tl;exact ⟨a,rfl,sq,h _ H' sm it⟩
  |tup xs=>replace h:∀J H',ay H H'->JX X.K ct J xs H'->R J H':=h;refine Hr he pins s σ H R I ⟨Γ,j,?_⟩;rw[q];intro v H' sm tl;simp only[Tl] at tl;obtain ⟨a,vs,rfl,fz,tl⟩:=tl;exact ⟨a,rfl,⟨vs,qN fz⟩,h _ H' sm (Bo (qN fz) tl)⟩
  |gt xs=>replace h:∀J H',ay H H'->JX X.K ct J xs H'->R J H':=h;refine Hr he pins s σ H R I ⟨Γ,j,?_⟩;rw[q];intro v H' sm tl;simp only[Tl] at tl;obtain ⟨a,vs,rfl,fz,tl⟩:=tl;exact ⟨a,rfl,⟨vs,fz.sq⟩,h _ H' sm (Bo fz.sq tl)⟩
  |str x=>replace h:∀J H',ay H H'->JX X.K ct J (signs x) H'->R J H':=h;refine ahX he pins s σ H R I ⟨Γ,j,?_⟩;rw[q];intro v H' sm tl;simp only[Tl] at tl;exact ⟨x,tl,h _ H' sm aft⟩
  |_=>exact h.elim
def wM{a:Expr}{r:Sg->Res (List D)}{p pos':Pos}(hm:X.mg "range"=none)(ha:D0 X ct [a] r)(hgl:Gl X "range":=by rfl)(hs:starEach [a] X.env=[(false,eval a X.env)]:=by rfl):WID X ct tg (.Call (.Name "range" p) [a] [] pos') (kM r):=by
 have ha:=ha.out;refine ⟨?_⟩;intro pins s σ H R I ⟨Γ,j,h⟩;refine Ww hgl hm ha hs pins s σ H R I ⟨Γ,j,h.bnd λ ds _ q vs H' s tl=>?_⟩;cases ex:G5 ds with
 |bad=>rw[ex] at q;exact q.elim
 |err c=>exact (aer ds c ex).elim
 |ok xs=>rw[ex] at q;obtain ⟨i,rfl,h1,h2,rfl⟩:=aeq ex;simp only[aL,Tl] at tl;obtain ⟨v,r,rfl,rfl,rfl⟩:=tl;exact ⟨i,rfl,h1,h2,q _ H' s afu⟩
end
def DG(cells:List (Str×Addr)):List (Str×NameKind)->List (Str×Addr)->Option (List (Str×Addr))
 |[],acc=>some acc
 |(n,k)::r,acc=>if k== .free then (match cells.lookup n with
   |some c=>DG cells r ((n,c)::acc)
   |none=>none) else DG cells r acc
def DF{cells:List (Str×Addr)}:∀{names:List (Str×NameKind)} {acc cl:List (Str×Addr)},DG cells names acc=some cl->(∀y c,acc.lookup y=some c->cells.lookup y=some c)->∀y c,cl.lookup y=some c->cells.lookup y=some c
 |[],acc,cl,h,ha=>by cases h;exact ha
 |(n,k)::r,acc,cl,h,ha=>by
  unfold DG at h;split at h
  ·split at h
   ·rename_i c hc;refine DF h λ y c' hy=>?_;rw[List.lookup_cons] at hy;split at hy
    ·rename_i e;cases hy;rw[eq_of_beq e];exact hc
    ·exact ha y c' hy
   ·cases h
  ·exact DF h ha
def OV{env:Env}{scope:Scope}{cl:List (Str×Addr)}(h:DG env.cells scope.names []=some cl):closureFor scope env=pure cl:=by
 unfold closureFor;generalize scope.names=names at h ⊢;generalize ([]:List (Str×Addr))=acc at h ⊢;dsimp only;induction names generalizing acc with
 |nil=>cases h;rfl
 |cons p r ih=>
  obtain ⟨n,k⟩:=p;unfold DG at h;rw[List.forIn_cons];by_cases hk:(k==NameKind.free)=true
  ·rw[if_pos hk] at h;split at h
   ·rename_i c hc;have e:cellOf env n=pure c:=by unfold cellOf;rw[hc]
    simp only[hk,if_true,e,pure_bind];exact ih _ h
   ·cases h
  ·rw[if_neg hk] at h;simp only[hk,Bool.false_eq_true,if_false,pure_bind];exact ih _ h
def Fe(X:Cx)(scope:Scope)(cl:List (Str×Addr))(C:Addr)(s₀:Shared)(H₀:Hp)(ex:List Addr)(N':List Str):Cx where
 prog:=X.prog
 w:=X.w
 K:=X.K
 mg:=X.mg
 base:=X.base
 A:=X.A
 N:=N'
 s₀:=s₀
 H₀:=H₀
 env:=compEnvC scope cl C X.env
 outer:=X.stack
 stack:=X.stack
 ex:=ex
 fn:=λ _=>false
 calm:=X.calm
 pn:=[]
 xe:=λ _ _=>False
def O6(k:Nat)(caps:List Nat)(σ:St):St:=List.replicate k none++caps.map λ i=>(σ[i]?).join
def alU{X:Cx}{ct:Ct}{tm:Bool}{k:Nat}{caps:List Nat}{Γ:Sg}{σ:St}{H:Hp}(j:Jx X ct Γ σ H)(ht:tm=true->ct.tm=true):J X.K ct H (sD tm k caps Γ) (O6 k caps σ) H:=by
 refine ⟨λ _ _ q _=>q,λ _ q=>q,j.lL,j.lB,by simp[sD,O6],λ _ _=>False,λ i sl ov h1 h2=>?_,λ _ _ _ _ z=>z.elim,λ _ _ z=>z.elim⟩;rcases VE h1 with rfl|⟨c,sc,hc,hk,hd,rfl⟩
 ·exact λ _ z=>z
 ·have at2:∀v,σ[c]? =some (some v)->ov=some v:=λ v g1=>by unfold O6 at h2;rw[List.getElem?_append_right (by simpa using hk),List.length_replicate,List.getElem?_map,hc] at h2;simp only[Option.map_some,Option.some.injEq] at h2;rw[g1] at h2;exact h2.symm
  cases sc with
  |no=>exact λ _ z=>z
  |val d=>obtain ⟨v,g1,g2⟩:=j.val hd;exact ⟨⟨v,at2 v g1,g2⟩,λ _ z=>z⟩
  |own m=>
   cases tm with
   |false=>exact λ _ z=>z
   |true=>obtain ⟨v,S,g1,g2,g3,_⟩:=j.own hd;exact ⟨⟨v,at2 v g1,g2.lend λ b z=>g3.lent b z (ht rfl)⟩,λ _ z=>z⟩
  |par m=>
   cases tm with
   |false=>exact λ _ z=>z
   |true=>obtain ⟨v,S,g1,g2,g3,_⟩:=j.par hd;exact ⟨⟨v,at2 v g1,g2.lend λ b z=>g3.lent b z (ht rfl)⟩,λ _ z=>z⟩
def zT{cells:List (Str×Addr)}:∀{names:List (Str×NameKind)} {acc cl:List (Str×Addr)},DG cells names acc=some cl->∀y,(acc.lookup y).isSome=true->(cl.lookup y).isSome=true
 |[],acc,cl,h=>by cases h;exact λ _ z=>z
 |(n,k)::r,acc,cl,h=>by
  unfold DG at h;split at h
  ·split at h
   ·rename_i c hc;intro y hy;refine zT h y ?_;rw[List.lookup_cons];split
    ·rfl
    ·exact hy
   ·cases h
  ·exact zT h
def yw{cells:List (Str×Addr)}:∀{names:List (Str×NameKind)} {acc cl:List (Str×Addr)},DG cells names acc=some cl->∀y,(y,NameKind.free)∈names->(cl.lookup y).isSome=true
 |[],acc,cl,h=>λ y hy=>by cases hy
 |(n,k)::r,acc,cl,h=>by
  unfold DG at h;intro y hy;split at h
  ·split at h
   ·rename_i c hc;rcases List.mem_cons.mp hy with e|hy
    ·cases e;exact zT h _ (by simp[List.lookup_cons])
    ·exact yw h y hy
   ·cases h
  ·rename_i hk;rcases List.mem_cons.mp hy with e|hy
   ·cases e;exact absurd rfl hk
   ·exact yw h y hy
def xj{env:Env}:∀{names:List (Str×NameKind)} {y:Str},(∀z∈names,z.2≠.cell)->((names.map λ(n,k)=>if (k==NameKind.free&&env.scope.kind== .function&&env.kindOf n==some .cell) then (n,NameKind.cell) else (n,k)).lookup y=some .cell\/(names.map λ(n,k)=>if (k==NameKind.free&&env.scope.kind== .function&&env.kindOf n==some .cell) then (n,NameKind.cell) else (n,k)).lookup y=some .free)->(y,NameKind.free)∈names
 |[],y,_,h=>by simp at h
 |(n,k)::r,y,hc,h=>by
  have ih:= @xj env r y λ z hz=>hc z (.tail _ hz);have hk:k≠.cell:=hc (n,k) (.head _);have e1:(((n,k)::r).map λ(n,k)=>if (k==NameKind.free&&env.scope.kind== .function&&env.kindOf n==some .cell) then (n,NameKind.cell) else (n,k))=
   (if (k==NameKind.free&&env.scope.kind== .function&&env.kindOf n==some .cell)=true then (n,NameKind.cell) else (n,k))::(r.map λ(n,k)=>if (k==NameKind.free&&env.scope.kind== .function&&env.kindOf n==some .cell) then (n,NameKind.cell) else (n,k)):=rfl
  rw[e1] at h;by_cases IU:(k==NameKind.free&&env.scope.kind== .function&&env.kindOf n==some .cell)=true
  ·rw[if_pos IU] at h;have hkf:k= .free:=by have:=(Bool.and_eq_true_iff.mp (Bool.and_eq_true_iff.mp IU).1).1;exact eq_of_beq this
   simp only[List.lookup_cons] at h;split at h
   ·rename_i e;rw[eq_of_beq e,hkf];exact .head _
   ·exact .tail _ (ih h)
  ·rw[if_neg IU] at h;simp only[List.lookup_cons] at h;split at h
   ·rename_i e;rcases h with h|h
    ·exact absurd (Option.some.inj h) hk
    ·rw[eq_of_beq e,Option.some.inj h];exact .head _
   ·exact .tail _ (ih h)
def Jz{prog:Program}{w:World}{A:Around}{R:Result->Shared->Prop}{s:Shared}{elt target iter:Expr}{ifs:List Expr}{scope:Scope}{pos:Pos}{it acc:Value}{env:Env}(I:Nat->Shared->Prop)
  (turn:∀n s,I n s->wpAny (model prog w) A (pyNext it) (λ r s₁=>match r with
   |none=>R (.ok .next) s₁
   |some v=>wpAny (model prog w) A (letOwnedTupleGo target it v) (λ _ s₁'=>wpAny (model prog w) A (assign target env v) (λ _ s₂=>
     wpAny (model prog w) A (forIn ifs true λ c r=>if r=true then do let ok <-isTrue c env (eval c env);pure (ForInStep.yield ok) else pure (ForInStep.yield r)) (λ ok s₃=>
      if ok=true then wpAny (model prog w) A (eval elt env) (λ x s₄=>
       wpAny (model prog w) A (call (.builtin "list.append") [acc,x]) (λ _ s₅=>∃m,m<n/\I m s₅) (λ _ _=>False) s₄) (λ _ _=>False) s₃
      else ∃m,m<n/\I m s₃) (λ _ _=>False) s₂) (λ _ _=>False) s₁') (λ _ _=>False) s₁) (λ _ _=>False) s)
  (n:Nat) (h:I n s):
  codeAny (model prog w) A (.compLoop (.ListComp elt [⟨target,iter,ifs,0⟩] scope pos) 0 it acc env) R s:=by
 refine codeAny_loop rfl I (λ n s hI=>?_) n h
 show wpAny _ A ((compTurn (.ListComp elt [⟨target,iter,ifs,0⟩] scope pos) 0 it acc env).onRaise (λ x=>do noteFrame x env;theTreesLotGoes x)) _ _ s
 refine wpAny_noted ?_
 rw[compTurn_list]
 refine wpAny_bind (wpAny_standAt (wpAny_bind (wpAny_mono (turn n s hI) (λ r s₁ h₁=>?_) λ _ _ h'=>h'.elim)))
 cases r with
 |none=>exact wpAny_pure h₁
 |some v=>
  refine wpAny_bind (wpAny_mono h₁ (λ _ s₁' h₁'=>?_) λ _ _ h'=>h'.elim)
  refine wpAny_bind (wpAny_mono h₁' (λ _ s₂ h₂=>wpAny_bind (wpAny_mono h₂ (λ ok s₃ h₃=>?_) λ _ _ h'=>h'.elim)) λ _ _ h'=>h'.elim)
  cases ok with
  |false=>exact wpAny_pure ⟨rfl,h₃⟩
  |true=>
   exact wpAny_bind (wpAny_bind (wpAny_mono h₃ (λ x s₄ h₄=>wpAny_bind (wpAny_mono h₄ (λ _ s₅ h₅=>wpAny_pure (wpAny_pure ⟨rfl,h₅⟩)) λ _ _ h'=>h'.elim)) λ _ _ h'=>h'.elim))
def PTs(X:Cx)(ct:Ct)(ifs:List Expr)(p:Sg->Res Bool):Prop:=
 ∀(pins:List (Addr×Obj)) (s:Shared) (σ:St) (H:Hp) (Q:Bool->Hp->Prop),Inv X pins σ H s->cOf X ct p σ H Q->
  wpAny (model X.prog X.w) X.A (forIn ifs true λ c r=>if r=true then do let ok <-isTrue c X.env (eval c X.env);pure (ForInStep.yield ok) else pure (ForInStep.yield r)) (TP X pins σ Q) X.xe s
structure WTs(X:Cx)(ct:Ct)(ifs:List Expr)(p:Sg->Res Bool):Prop where
 out:PTs X ct ifs p
def nO{X:Cx}{ct:Ct}:WTs X ct [] gz:=by exact ⟨λ pins s σ H Q I ⟨Γ,j,h⟩=>wpAny_tests_nil ⟨H,I,h H (ay.refl H)⟩⟩
def UG{X:Cx}{ct:Ct}{c:Expr}{p:Sg->Res Bool}(h:JT X ct c p):WTs X ct [c] p:=by have h:=h.out;exact ⟨λ pins s σ H Q I q=>wpAny_tests_one (h pins s σ H Q I q)⟩
def abX{tm:Bool}{k:Nat}{caps:List Nat}{Γ:Sg}:alv (sD tm k caps Γ):=λ i m=>by
 refine ⟨λ h=>?_,λ h=>?_⟩<;>
 ·rcases VE h with e|⟨c,sc,_,_,_,e⟩
  ·cases e
  ·cases sc<;>cases tm<;>cases e
def cO.Za{K:W.Frag}{ct:Ct}{H:Hp}{m:M}{y:V}{T:Fp}:∀{ms:List M} {vs:List V} {S:Fp},cO K ct H ms vs S->Ow K ct H m y T->(∀b,S b->¬T b)->cO K ct H (ms++[m]) (vs++[y]) (λ b=>S b\/T b)
 |[],vs,S,h,t,_=>by simp only[cO] at h;subst h;simp only[List.nil_append,cO];exact ⟨y,[],T,λ _=>False,rfl,λ _ z=> .inr z,λ _ z=>z.elim,λ _ _ z=>z,t,rfl⟩
 |m'::ms,vs,S,h,t,n=>by
  simp only[cO] at h;obtain ⟨v,r,S1,S2,rfl,h2,h3,h4,h5,h6⟩:=h;simp only[List.cons_append,cO];refine ⟨v,r++[y],S1,λ b=>S2 b\/T b,rfl,λ b z=> .inl (h2 b z),λ b z=>z.elim (λ z=> .inl (h3 b z)) .inr,λ b z w=>?_,h5,cO.Za h6 t λ b z=>n b (h3 b z)⟩;rcases w with w|w
  ·exact h4 b z w
  ·exact n b (h2 b z) w
def cO.abB{K:W.Frag}{ct:Ct}{H:Hp}:∀{ds:List D} {vs:List V} {S:Fp},cO K ct H (ds.map M.d) vs S->aL K ct H ds vs
 |[],vs,S,h=>by simpa[cO,aL] using h
 |d::ds,vs,S,h=>by simp only[List.map_cons,cO,Ow] at h;obtain ⟨v,r,S1,S2,rfl,_,_,_,h5,h6⟩:=h;exact aL.cons h5 (cO.abB h6)
structure wJ(X:Cx)(scope:Scope)(cl:List (Str×Addr))(k:Nat)(caps:List Nat)(N':List Str):Prop where
 clos:DG X.env.cells scope.names []=some cl
 cell:∀y∈scope.names,y.2≠.cell
 kind:scope.kind= .function
 names:∀y∈scope.names,y.2= .local->scope.names.lookup y.1=some .local
 len:N'.length=k+caps.length
 cap:∀(i c:Nat) (y:Str),caps[i]? =some c->N'[k+i]? =some y->X.N[c]? =some y/\Uv X.env.scope y/\X.env.kindOf y≠some .local/\(y,NameKind.free)∈scope.names
def xm{env:Env}:∀{names:List (Str×NameKind)} {y:Str},(∀z∈names,z.1=y->z.2= .free)->(y,NameKind.free)∈names->((names.map λ(n,k)=>if (k==NameKind.free&&env.scope.kind== .function&&env.kindOf n==some .cell) then (n,NameKind.cell) else (n,k)).lookup y=some .cell\/(names.map λ(n,k)=>if (k==NameKind.free&&env.scope.kind== .function&&env.kindOf n==some .cell) then (n,NameKind.cell) else (n,k)).lookup y=some .free)
 |[],y,_,h=>by cases h
 |(n,k)::r,y,hu,h=>by
  have e1:(((n,k)::r).map λ(n,k)=>if (k==NameKind.free&&env.scope.kind== .function&&env.kindOf n==some .cell) then (n,NameKind.cell) else (n,k))=(if (k==NameKind.free&&env.scope.kind== .function&&env.kindOf n==some .cell)=true then (n,NameKind.cell) else (n,k))::(r.map λ(n,k)=>if (k==NameKind.free&&env.scope.kind== .function&&env.kindOf n==some .cell) then (n,NameKind.cell) else (n,k)):=rfl;rw[e1];by_cases hy:y=n
  ·subst hy;have hk:k= .free:=hu (y,k) (.head _) rfl;subst hk;by_cases IU:(NameKind.free==NameKind.free&&env.scope.kind== .function&&env.kindOf y==some .cell)=true
   ·rw[if_pos IU];left;simp[List.lookup_cons]
   ·rw[if_neg IU];right;simp[List.lookup_cons]
  ·have hb:(y==n)=false:=by simpa using hy
   have hm:(y,NameKind.free)∈r:=by
    rcases List.mem_cons.mp h with e|h
    ·cases e;exact absurd rfl hy
    ·exact h
   have ih:= @xm env r y (λ z hz=>hu z (.tail _ hz)) hm;by_cases IU:(k==NameKind.free&&env.scope.kind== .function&&env.kindOf n==some .cell)=true
   ·rw[if_pos IU];simp only[List.lookup_cons,hb];exact ih
   ·rw[if_neg IU];simp only[List.lookup_cons,hb];exact ih
section
variable{X:Cx}{ct:Ct}{elt iter tg:Expr}{ifs:List Expr}{scope:Scope}{cl:List (Str×Addr)}{pos:Pos}{k:Nat}{caps:List Nat}{N':List Str}{fi:Sg->Res (List D)}{t:Tg}{p:Sg->Res Bool}{fe:Sg->Res M}{tm:Bool}
def afw{pins:List (Addr×Obj)}{σ:St}{H:Hp}{s:Shared}{fp:List Addr}{h₁:Heap}{tk:Nat}(I:Inv X pins σ H s)(co:wJ X scope cl k caps N')(hfr:∀z∈scope.names,∀y,(y,NameKind.free)∈scope.names->z.1=y->z.2= .free) (hfp:∀b∈fp,DW X pins H b) (hfo:∀b∈fp,∃o,s.heap.get? b=some o) (hns:h₁.Ns (s.heap.objs.size+1) (λ x=>(([]:List (Str×Value)).reverse).lookup x)) (hk:∀b o,s.heap.get? b=some o->h₁.get? b=some o) (hD:h₁.get? s.heap.objs.size=some {cls:= .type "list",data:= .seq #[]}):
  Inv (Fe X scope cl (s.heap.objs.size+1) s H fp N') [] (O6 k caps σ) (upd H s.heap.objs.size (.lst [])) {s with heap:=h₁,toks:=tk}:=by
 have hsub:=DF co.clos (by simp);have hfree:H s.heap.objs.size=none:=I.hok.fresh (Nat.le_refl _);have amn:∀x c,cl.lookup x=some c->c<s.heap.objs.size:=λ x c e=>by obtain ⟨v,o,ho,_⟩:=I.cell x c (hsub x c e);exact Heap.lt_size ho
 refine ⟨⟨I.ok.mod,co.kind,I.ok.glob,I.ok.blt,Nat.le_succ _,λ x y c e1 e2=>I.ok.inj x y c (hsub x c e1) (hsub y c e2),λ x hx=>?_,λ x c hf=>absurd hf (by exact Bool.false_ne_true),I.ok.hd,I.ok.frames,.inl rfl,λ b hb=>?_,I.bs,Nat.le_trans I.ok.bsz I.sz,λ b o e hb=>?_,λ b hb hs=>?_,I.stack,I.A9⟩,rfl,I.bare,Un.laid hk (Nat.le_refl _) hfree,⟨_,hns,λ i y v h1 h2 h3=>?_⟩,λ x c e=>?_,?_,λ x c e=>?_,λ p hp=>absurd (show p∈([]:List (Addr×Obj))++[] from hp) (by simp),I.hok.laid hk (Nat.le_refl _) ⟨Nat.zero_le _,[],0,.nil,hD⟩,?_⟩
 ·exact Option.isSome_iff_exists.mp (yw co.clos x (xj co.cell hx))
 ·obtain ⟨o,ho⟩:=hfo b hb;refine ⟨Nat.ne_of_lt (Nat.lt_succ_of_lt (Heap.lt_size ho)),λ x c e=>(hfp b hb).2.2.2.2.1 x c (hsub x c e)⟩
 ·rcases (hfp b hb).2.2.2.1 with z|z
  ·exact I.ok.Z9 b o e z
  ·exact absurd (Heap.lt_size (I.ok.bs b o e).1) (Nat.not_lt.mpr z)
 ·rcases List.mem_cons.mp (I.MX b hs) with z|z
  ·exact (hfp b hb).2.1 z
  ·exact (hfp b hb).2.2.1 z
 ·-- what it sees
  by_cases hi:i<k
  ·unfold O6 at h2;rw[List.getElem?_append_left (by simpa using hi),List.getElem?_replicate,if_pos hi] at h2;cases h2
  ·unfold O6 at h2;rw[List.getElem?_append_right (by simpa using hi),List.length_replicate,List.getElem?_map] at h2;cases q:caps[i- k]? with
   |none=>rw[q] at h2;cases h2
   |some c=>
    rw[q] at h2;simp only[Option.map_some,Option.some.injEq] at h2;obtain ⟨g1,g2,g3,g4⟩:=co.cap (i- k) c y q (by rw[Nat.add_sub_cancel' (Nat.le_of_not_lt hi)];exact h1);obtain ⟨m,hn,hl⟩:=I.loc;have hσ:σ[c]? =some (some v):=by
     cases z:σ[c]? with
     |none=>rw[z] at h2;cases h2
     |some w=>rw[z] at h2;simp only[Option.join_some] at h2;rw[h2]
    obtain ⟨u,r,lk⟩:=hl c y v g1 hσ g2;refine ⟨u,r,.inr ⟨xm (λ z hz e=>hfr z hz y g4 e) g4,?_⟩⟩;rcases lk with ⟨z,_⟩|⟨_,c',e,hc⟩
    ·exact absurd z g3
    ·obtain ⟨c2,e2⟩:=Option.isSome_iff_exists.mp (yw co.clos y g4);have:c2=c':=by have:=hsub y c2 e2;rw[e] at this;exact (Option.some.inj this).symm
     subst this;obtain ⟨o,ho,hd⟩:=hc;exact ⟨c2,e2,o,hk _ _ ho,hd⟩
 ·obtain ⟨v,o,ho,hd⟩:=I.cell x c (hsub x c e);exact ⟨v,o,hk _ _ ho,hd⟩
 ·show upd H s.heap.objs.size (.lst []) (s.heap.objs.size+1)=none;rw[aF (Nat.succ_ne_self _)];exact I.hok.fresh (Nat.le_succ _)
 ·rw[aF (Nat.ne_of_lt (amn x c e))];exact I.nK x c (hsub x c e)
 ·simp[O6,Fe,co.len]
def GB{pins:List (Addr×Obj)}{σ:St}{H:Hp}{s:Shared}{Γ:Sg}{cp:Pos}{use:Option (Value->Sem Unit)}{Q':Value->Shared->Prop}{Wk:List M->Prop}(ht:tm=true->ct.tm=true)(hc:X.calm=true)(hi:PID X ct tg iter fi)(co:wJ X scope cl k caps N')(hfr:∀z∈scope.names,∀y,(y,NameKind.free)∈scope.names->z.1=y->z.2= .free) (hg:∀C s₀ H₀ ex,PGD (Fe X scope cl C s₀ H₀ ex N') ct tg t) (hp:∀C s₀ H₀ ex,PTs (Fe X scope cl C s₀ H₀ ex N') ct ifs p) (he:∀C s₀ H₀ ex,PM (Fe X scope cl C s₀ H₀ ex N') ct elt fe) (hf:∀Γ x Γ1 σ H H₀,t x (sD tm k caps Γ)=some Γ1->J X.K ct H₀ Γ1 σ H->J X.K ct H₀ (sD tm k caps Γ) σ H) (hs:∀x,foldedSetIterable iter X.env x=pure x) (I:Inv X pins σ H s) (j:Jx X ct Γ σ H) (h:Ok X ct σ H (mZ tm fi k caps t p fe Γ) Wk) (fin:∀(acc C:Addr) (av:List V) (ys:List M) (T:Fp) (H1:Hp) (s4:Shared) (m:Str->Option Value),Inv X pins σ H1 s4->ay H H1->H acc=none->H1 acc=some (.lst av)->cO X.K ct H1 ys av T->(∀b,T b->H b=none/\b≠acc/\H1 b≠none)->Wk ys->s4.heap.Ns C m->H1 C=none->C≠X.env.locals->X.s₀.heap.objs.size<=C->(∀x c,X.env.cells.lookup x=some c->c≠C)->(∀p∈X.pn++pins,p.1≠C)->compPost (model X.prog X.w) X.A X.xe use Q' (.ref acc) C (.ok .next) s4):
  wpAny (model X.prog X.w) X.A (comprehension (.ListComp elt [⟨tg,iter,ifs,0⟩] scope pos) scope X.env cp (newList []) false (eval iter X.env) use) Q' X.xe s:=by
 refine wpAny_comprehension_free (use:=use) rfl hs (OV co.clos) co.kind co.names ?_;have hw:iOf X ct fi σ H (λ J H2=>∃xs ys,ay H H2/\JX X.K ct J xs H2/\xs.length<1000000/\nL (Yz t p fe (sD tm k caps Γ)) xs= .ok ys/\Wk ys):=by
  refine ⟨Γ,j,h.bnd λ xs _ q J H2 s2 it=>?_⟩;split at q
  ·rename_i hl;cases z:nL (Yz t p fe (sD tm k caps Γ)) xs with
   |ok ys=>rw[z] at q;exact ⟨xs,ys,s2,it,hl,z,q⟩
   |err c=>exact (L6 (λ _ _=>ai9) xs c z).elim
   |bad=>rw[z] at q;exact q.elim
  ·exact q.elim
 refine wpAny_mono (hi pins s σ H _ I hw) (λ v s1 h1=>wpAny_mono h1 (λ itv s2 h2=>?_) λ _ _ e=>e) λ _ _ e=>e;obtain ⟨it,fp,tn,J,H2,rfl,I2,T,st,fok,xs,ys,sm,⟨Pd,pd0,pdk,apo,apn⟩,hlx,hys,W⟩:=h2;refine wpAny_newObj_type (wpAny_newFunctionEnv co.cell (by intro y hy;simp at hy) (λ h₁ aiS afD=>?_) co.kind);dsimp only at aiS afD ⊢;have hC:(s2.heap.push {cls:= .type "list",dict:=none,data:= .seq ([]:List Value).toArray}).objs.size=s2.heap.objs.size+1:=Heap.size_push ..;rw[hC] at aiS afD ⊢;have hk:∀b o,s2.heap.get? b=some o->h₁.get? b=some o:=λ b o e=>afD.extBut b o (Nat.ne_of_lt (Nat.lt_succ_of_lt (Heap.lt_size e))) (Heap.get?_push_of_some _ (Heap.get?_push_of_some _ e));have hD:h₁.get? s2.heap.objs.size=some {cls:= .type "list",data:= .seq #[]}:=afD.extBut _ _ (Nat.ne_of_lt (Nat.lt_succ_self _)) (Heap.get?_push_of_some _ (Heap.get?_push_size _ rfl));have hfo:∀b∈fp,∃o,s2.heap.get? b=some o:=λ b hb=>let ⟨o,ho,_⟩:=T.obj 0 _ st b hb;⟨o,ho⟩
 have I4:=afw (tk:=s2.toks+([]:List (Str×Value)).length) I2 co hfr fok hfo aiS hk hD;have j2:=j.mono sm;let Xb:=Fe X scope cl (s2.heap.objs.size+1) s2 H2 fp N'
 have Oz:H2 s2.heap.objs.size=none:=I2.hok.fresh (Nat.le_refl _);have aaL:ay H2 (upd H2 s2.heap.objs.size (.lst [])):=bO Oz _;have tch:∀{σ1:St} {Ha Hb:Hp},L4.J X.K ct H2 (sD tm k caps Γ) σ1 Ha->aU ct.f.cb Ha Hb->ay H2 Hb->L4.J X.K ct H2 (sD tm k caps Γ) σ1 Hb:=λ j kp sm=>j.akI abX kp (λ b o q _=>sm b o q) (λ b q=>sm.free q) (j2.lL.trans sm) (j2.lB.trans sm);have st4:tn 0 h₁:=T.keep 0 _ _ st λ b hb o e=>hk b o e;have aqm:∀b∈fp,b≠s2.heap.objs.size:=λ b hb=>let ⟨o,ho⟩:=hfo b hb;Nat.ne_of_lt (Heap.lt_size ho)
 have fpb:∀{H':Hp},(∀b∈fp,H' b=none)->∀b∈fp,DW Xb [] H' b:=λ hn b hb=>by obtain ⟨o,ho⟩:=hfo b hb;refine ⟨hn b hb,Nat.ne_of_lt (Nat.lt_succ_of_lt (Heap.lt_size ho)),I4.ok.abk b hb,.inl hb,λ x c e=>(I4.ok.exf b hb).2 x c e,λ p hp=>absurd (show p∈([]:List (Addr×Obj))++[] from hp) (by simp)⟩
 have loop:codeAny (model X.prog X.w) X.A (.compLoop (.ListComp elt [⟨tg,iter,ifs,0⟩] scope pos) 0 (.ref it) (.ref s2.heap.objs.size) (compEnvC scope cl (s2.heap.objs.size+1) X.env))
   (compPost (model X.prog X.w) X.A X.xe use Q' (.ref s2.heap.objs.size) (s2.heap.objs.size+1)) {s2 with heap:=h₁,toks:=s2.toks+([]:List (Str×Value)).length}:=by
  refine Jz (λ n s'=>∃(i:Nat) (σ1:St) (H1:Hp) (av:List V) (ad rest:List M) (T:Fp),n=xs.length- i/\i<=xs.length/\Inv Xb [] σ1 H1 s'/\L4.J X.K ct H2 (sD tm k caps Γ) σ1 H1/\tn i s'.heap/\(∀b∈fp,H1 b=none)/\ay H2 H1/\H1 s2.heap.objs.size=some (.lst av)/\cO X.K ct H1 ad av T/\(∀b,T b->H2 b=none/\b≠s2.heap.objs.size/\H1 b≠none)/\av.length<=i/\nL (Yz t p fe (sD tm k caps Γ)) (xs.drop i)= .ok rest/\ad++rest=ys) ?_ xs.length ⟨0,_,_,[],[],ys,λ _=>False,rfl,Nat.zero_le _,I4,tch (alU j2 ht) (ay.keep aaL) aaL,st4,λ b hb=>by rw[aF (aqm b hb)];exact (fok b hb).1,aaL,aG,by simp only[cO],λ _ z=>z.elim,Nat.le_refl _,hys,rfl⟩
  rintro n s3 ⟨i,σ1,H1,av,ad,rest,Tf,hn,hil,I3,j3,st3,fr3,k3,hacc,Y4,hT,hal,hrest,hall⟩
  have pd1:=pdk _ _ pd0 (ay.keep k3) j3.lL j3.lB;by_cases hlt:i<xs.length
  ·-- one more item
   have hd:xs[i]? =some xs[i]:=List.getElem?_eq_getElem hlt;obtain ⟨go,yld⟩:=apo i _ H1 pd1 hd;rw[drop_one hd] at hrest;obtain ⟨o,rest',ho,hr',hro⟩:=OT hrest;refine wpAny_mono (T.item Xb rfl rfl rfl hc i [] s3 σ1 H1 (λ _ _=>False) I3 (fpb fr3) st3 go) (λ r s4 ⟨u,hr,h4⟩=>?_) λ _ _ e=>e;subst hr;refine wpAny_mono h4 (λ _ s5 ⟨x,H5,I5,r5,y5,st5,fr5⟩=>?_) λ _ _ e=>e;obtain ⟨sm5,tx⟩:=yld x H5 y5;replace j3:=j3.mono sm5;replace hacc:=sm5 _ _ hacc;replace Y4:=Y4.frame (ay.keep sm5) (λ b o _ q=>sm5 b o q);replace hT:∀b,Tf b->H2 b=none/\b≠s2.heap.objs.size/\H5 b≠none:=λ b z=>⟨(hT b z).1,(hT b z).2.1,λ q=>(hT b z).2.2 (sm5.free q)⟩;replace k3:=k3.trans sm5;have I5':=I5.pinned (fpb fr5) (T.obj _ _ st5);unfold Yz at ho;cases e1:t xs[i] (sD tm k caps Γ) with
   |none=>rw[e1] at ho;cases ho
   |some Γ1=>
    rw[e1] at ho;dsimp only at ho;refine wpAny_mono (hg _ s2 H2 fp _ s5 σ1 H5 x u (λ σ2 H'=>H'=H5/\L4.J X.K ct H2 Γ1 σ2 H5) I5' r5 ⟨_,_,Γ1,j3,tx,e1,λ σ2 j6=>⟨rfl,j6⟩⟩) (λ _ s6 ⟨σ2,H6,I6,e6,j6⟩=>?_) λ _ _ e=>e;subst e6;have tnk:∀{σ7:St} {H7:Hp} {s7:Shared},Inv Xb ([]++B9 fp s5.heap) σ7 H7 s7->tn (i+1) s7.heap/\∀b∈fp,H7 b=none:=λ{σ7 H7 s7} I7=>by refine ⟨T.keep _ _ _ st5 λ b hb o e=>(I7.pin (b,o) (List.mem_append_right _ (List.mem_append_right _ (rQ hb e)))).1,λ b hb=>?_⟩;obtain ⟨o,e,d⟩:=T.obj _ _ st5 b hb;exact (I7.pin (b,o) (List.mem_append_right _ (List.mem_append_right _ (rQ hb e)))).2.1
    cases ep:p Γ1 with
    |bad=>rw[ep] at ho;cases ho
    |err c=>rw[ep] at ho;cases ho
    |ok c=>
     refine wpAny_mono (hp _ s2 H2 fp _ s6 σ2 H6 (λ b H'=>b=c/\ay H6 H') I6 ⟨Γ1,j6,by rw[ep];exact λ H' s=>⟨rfl,s⟩⟩) (λ b s7 ⟨H7,I7,eb,UT⟩=>?_) λ _ _ e=>e;subst eb;have j7:=j6.mono UT;cases b with
     |false=>rw[ep] at ho;dsimp only at ho;cases ho;have apY:rest=rest':=hro;rw[apY] at hall;obtain ⟨tn7,fr7⟩:=tnk I7;rw[if_neg Bool.false_ne_true];exact ⟨xs.length-(i+1),by omega,i+1,σ2,H7,av,ad,rest',Tf,rfl,hlt,I7.sH,hf Γ _ Γ1 σ2 H7 H2 e1 j7,tn7,fr7,k3.trans UT,UT _ _ hacc,Y4.frame (ay.keep UT) (λ b o _ q=>UT b o q),λ b z=>⟨(hT b z).1,(hT b z).2.1,λ q=>(hT b z).2.2 (UT.free q)⟩,Nat.le_succ_of_le hal,hr',hall⟩
     |true=>
      rw[ep] at ho;dsimp only at ho;rw[if_pos rfl];cases ee:fe Γ1 with
      |bad=>rw[ee] at ho;cases ho
      |err c=>rw[ee] at ho;cases ho
      |ok d=>
       rw[ee] at ho;dsimp only at ho;cases ho;subst hro;refine wpAny_mono (he _ s2 H2 fp _ s7 σ2 H7 (λ v H'=>∃S,ay H7 H'/\Ow X.K ct H' d v S/\(∀b,S b->H7 b=none)/\∀b,S b->H' b≠none) I7 ⟨Γ1,j7,by rw[ee];exact λ v H' S s t n k=>⟨S,s,t,n,k⟩⟩) (λ yv s8 ⟨y,H8,I8,r8,S8,s8',t8,n8,h8⟩=>?_) λ _ _ e=>e;have agq:H8 s2.heap.objs.size=some (.lst av):=s8' _ _ (UT _ _ hacc);refine wpAny_mono (zD (X:=Xb) _ s8 σ2 H8 (.ref s2.heap.objs.size) [y] (.ref s2.heap.objs.size) [yv] (λ _ H'=>H'=upd H8 s2.heap.objs.size (.lst (av++[y]))) I8 rfl (.cons r8 .nil) ⟨_,av,y,rfl,rfl,agq,Nat.lt_trans (by omega) iR,rfl⟩) (λ _ s9 ⟨_,H9,I9,_,e9⟩=>?_) λ _ _ e=>e;subst e9;obtain ⟨tn9,fr9⟩:=tnk I9;have kp:aU ct.f.cb H8 (upd H8 s2.heap.objs.size (.lst (av++[y]))):=aU.lst agq;have k8:ay H2 H8:=(k3.trans UT).trans s8';have j8:=hf Γ _ Γ1 σ2 H8 H2 e1 (j7.mono s8');have sm9:ay H2 (upd H8 s2.heap.objs.size (.lst (av++[y]))):=λ b o hb=>by have:b≠s2.heap.objs.size:=gZ hb Oz;rw[aF this];exact k8 b o hb
       have sne:∀b,S8 b->b≠s2.heap.objs.size:=λ b z=>by
        rintro rfl
        have:=n8 _ z;rw[UT _ _ hacc] at this;cases this
       have T8:∀b,Tf b->H8 b≠none:=λ b z q=>(hT b z).2.2 (UT.free (s8'.free q));have dis:∀b,Tf b->¬S8 b:=λ b z w=>(hT b z).2.2 (UT.free (n8 b w));have up8:∀b,b≠s2.heap.objs.size->upd H8 s2.heap.objs.size (.lst (av++[y])) b=H8 b:=λ b z=>aF z;refine ⟨xs.length-(i+1),by omega,i+1,σ2,_,av++[y],ad++[d],rest',λ b=>Tf b\/S8 b,rfl,hlt,I9.sH,tch j8 kp sm9,tn9,fr9,sm9,aG,?_,λ b z=>?_,?_,hr',?_⟩
       ·have o1:=Y4.frame (ay.keep (UT.trans s8')) (λ b o _ q=>(UT.trans s8') b o q);exact (o1.Za t8 dis).frame kp λ b o z q=>by rw[up8 b (z.elim (λ z=>(hT b z).2.1) (sne b))];exact q
       ·rcases z with z|z
        ·exact ⟨(hT b z).1,(hT b z).2.1,by rw[up8 b (hT b z).2.1];exact T8 b z⟩
        ·exact ⟨k3.free (UT.free (n8 b z)),sne b z,by rw[up8 b (sne b z)];exact h8 b z⟩
       ·rw[List.length_append,List.length_singleton];omega
       ·rw[<-hall];simp
  ·-- through
   have hie:xs.length<=i:=Nat.le_of_not_lt hlt;refine wpAny_mono (T.done Xb rfl rfl rfl hc i [] s3 σ1 H1 (λ _ _=>False) I3 (fpb fr3) st3 (apn i H1 pd1 hie)) (λ r s4 ⟨hr,I4'⟩=>?_) λ _ _ e=>e;subst hr;rw[List.drop_eq_nil_of_le hie] at hrest;cases hrest;rw[List.append_nil] at hall;subst hall;obtain ⟨m,hm,_⟩:=I4'.loc;have nC:H1 (s2.heap.objs.size+1)=none:=I4'.free;have un:Un (frs X.stack) fp H2 H1 s2.heap s4.heap:=by have u:=I4'.base;exact ⟨u.keep,u.slot,u.free,u.there,u.tups,u.yf,u.y9⟩
   have IE:Inv X pins σ H1 s4:=I2.VD (s':=s4) (ch:=fp) I4'.os un I4'.hok I4'.bare λ b hb=>⟨(fok b hb).2.2.2.1,(fok b hb).2.1,(fok b hb).2.2.2.2.1,(fok b hb).2.2.2.2.2⟩;have old:∀{b:Addr} {o:Obj},s2.heap.get? b=some o->b≠s2.heap.objs.size+1:=λ e=>Nat.ne_of_lt (Nat.lt_succ_of_lt (Heap.lt_size e));refine fin _ _ av _ Tf H1 s4 m IE (sm.trans k3) (sm.free Oz) hacc Y4 (λ b z=>⟨sm.free (hT b z).1,(hT b z).2.1,(hT b z).2.2⟩) W hm nC (Ne.symm (Nat.ne_of_lt (Nat.lt_succ_of_lt I2.lt))) (Nat.le_succ_of_le I2.sz) (λ x c e=>?_) λ p hp=>old (I2.pin p hp).1;obtain ⟨v,o,ho,_⟩:=I2.cell x c e;exact old ho
 exact codeAny_compStart_list loop (T.self _ 0 _ _ _ st4 loop)
def ajp{H H1:Hp}{acc:Addr}{av:List V}{ys:List M}{T:Fp}(ha:H1 acc=some (.lst av))(ta:cO X.K ct H1 ys av T)(hT:∀b,T b->H b=none/\b≠acc/\H1 b≠none):Ow X.K ct H1 (.n ys) (.ref acc) (λ b=>T b\/b=acc):=by simp only[Ow];exact ⟨acc,av,rfl,.inr rfl,ha,ta.wide λ b z=>⟨.inl z,(hT b z).2.1⟩⟩
variable{fd:Sg->Res D}
def Vk(Γ:Sg):mZ tm fi k caps t p (mD fd) Γ=(dh tm fi k caps t p fd Γ).bnd λ ds=> .ok (ds.map M.d):=by
 unfold mZ dh;cases fi Γ with
 |ok xs=>
  simp only[Res.bD];split
  ·exact Al xs
  ·rfl
 |err x=>rfl
 |bad=>rfl
def aeF(ht:tm=true->ct.tm=true)(hc:X.calm=true)(hi:PID X ct tg iter fi)(co:wJ X scope cl k caps N')(hfr:∀z∈scope.names,∀y,(y,NameKind.free)∈scope.names->z.1=y->z.2= .free) (hg:∀C s₀ H₀ ex,PGD (Fe X scope cl C s₀ H₀ ex N') ct tg t) (hp:∀C s₀ H₀ ex,PTs (Fe X scope cl C s₀ H₀ ex N') ct ifs p) (he:∀C s₀ H₀ ex,PD (Fe X scope cl C s₀ H₀ ex N') ct elt fd) (hf:∀Γ x Γ1 σ H H₀,t x (sD tm k caps Γ)=some Γ1->J X.K ct H₀ Γ1 σ H->J X.K ct H₀ (sD tm k caps Γ) σ H) (hs:∀x,foldedSetIterable iter X.env x=pure x:=by intro _;rfl):PL X ct (.ListComp elt [⟨tg,iter,ifs,0⟩] scope pos) (dh tm fi k caps t p fd):=by
 intro pins s σ H Q I ⟨Γ,j,h⟩;rw[eval_ListComp];have h':Ok X ct σ H (mZ tm fi k caps t p (mD fd) Γ) λ ms=>∃ds:List D,ms=ds.map M.d/\Wl X ct H Q ds:=by
  rw[Vk];cases z:dh tm fi k caps t p fd Γ with
  |ok ms=>rw[z] at h;exact ⟨ms,rfl,h⟩
  |err x=>rw[z] at h;exact h
  |bad=>rw[z] at h;exact h
 refine GB ht hc hi co hfr hg hp (λ C s₀ H₀ ex=>Ku (he C s₀ H₀ ex)) hf hs I j h' λ acc C av ys T H1 s4 m IE sm na ha ta hT W hm nC nl hz ncl npn=>?_;obtain ⟨ds,rfl,W⟩:=W;refine ⟨m,hm,λ h' hsb=>?_⟩;have I5:Inv X pins σ H1 {s4 with heap:=h',toks:=s4.toks}:=IE.turned (h':=h') (t':=s4.toks) (it:=C) (λ b o hb e=>(hsb.2 b hb).trans e) nC nl (.inr hz) ncl npn;exact ⟨.ref acc,H1,I5,rfl,W acc av H1 sm na ha ta.abB⟩
end
section
variable{X:Cx}{ct:Ct}{c:Cf}{elt iter tg:Expr}{ifs:List Expr}{scope:Scope}{cl:List (Str×Addr)}{pos:Pos}{k:Nat}{caps:List Nat}{N':List Str}{fi:Sg->Res (List D)}{t:Tg}{p:Sg->Res Bool}{fe:Sg->Res M}{fd:Sg->Res D}{tm:Bool}
def GA(i:Nat){x:Str}{px ps:Pos}{pins:List (Addr×Obj)}{σ:St}{H:Hp}{s:Shared}{Γ:Sg}{E:Ends}{Wk:List M->Prop}(ht:tm=true->ct.tm=true)(hN:X.N.Nodup)(hc:X.calm=true)(hi:PID X ct tg iter fi)(co:wJ X scope cl k caps N')(hfr:∀z∈scope.names,∀y,(y,NameKind.free)∈scope.names->z.1=y->z.2= .free)
  (hg:∀C s₀ H₀ ex,PGD (Fe X scope cl C s₀ H₀ ex N') ct tg t) (hp:∀C s₀ H₀ ex,PTs (Fe X scope cl C s₀ H₀ ex N') ct ifs p) (he:∀C s₀ H₀ ex,PM (Fe X scope cl C s₀ H₀ ex N') ct elt fe)
  (hf:∀Γ x Γ1 σ H H₀,t x (sD tm k caps Γ)=some Γ1->J X.K ct H₀ Γ1 σ H->J X.K ct H₀ (sD tm k caps Γ) σ H) (hs:∀x,foldedSetIterable iter X.env x=pure x)
  (hsw:swapsWith (.ListComp elt [⟨tg,iter,ifs,0⟩] scope pos) (some (.Name x px)) ps.line X.env=pure true) (hx:X.N[i]? =some x) (hl:X.env.scope.names.lookup x=some .local)
  (I:Inv X pins σ H s) (j:Jx X ct Γ σ H) (h:Ok X ct σ H (mZ tm fi k caps t p fe Γ) Wk)
  (fin:∀(acc:Addr) (ys:List M) (av:List V) (T S:Fp) (H1:Hp) (s':Shared),Inv X pins (σ.set i (some (.ref acc))) H1 s'->ay H H1->H1 acc=some (.lst av)->cO X.K ct H1 ys av T->Ow X.K ct H1 (.n ys) (.ref acc) S->H acc=none->(∀b,S b->H b=none)->(∀b,S b->H1 b≠none)->Wk ys->SP X pins E .next s'):
  wpAny (model X.prog X.w) X.A (exec (.Assign [.Name x px] (.ListComp elt [⟨tg,iter,ifs,0⟩] scope pos) ps) X.env) (SP X pins E) X.xe s:=by
 rw[exec_Assign_Name_used _ _ _ _ hsw]
 refine wpAny_bind (wpAny_standAt (wpAny_bind ?_))
 show wpAny _ X.A (do let _ <-comprehension (.ListComp elt [⟨tg,iter,ifs,0⟩] scope pos) scope X.env _ (newList []) false (eval iter X.env) (some (assign (.Name x px) X.env))) _ _ s
 refine wpAny_bind (wpAny_mono (GB (Q':=λ _ s'=>SP X pins E .next s') (Wk:=Wk) ht hc hi co hfr hg hp he hf hs I j h
  λ acc C av ys T H1 s4 m IE sm na ha ta hT W hm nC nl hz ncl npn=>?_) (λ _ s' hq=>wpAny_pure (wpAny_pure hq)) λ _ _ e=>e)
 show wpAny _ X.A (assign (.Name x px) X.env (.ref acc)) _ _ _
 refine wpAny_assign_Name (FT IE hN hx (.inl hl) (v:= .ref acc) rfl (λ s5 I5 ⟨a,hsb,hor⟩=>?_) (.inr hl))
 have aC:C≠a:=by
  rcases hor with rfl|hor
  ·exact nl
  ·exact Ne.symm (ncl x a hor)
 refine ⟨m,hm.sameBut hsb aC,λ h' hs'=>?_⟩
 have I6:Inv X pins (σ.set i (some (.ref acc))) H1 {s5 with heap:=h',toks:=s5.toks}:=I5.turned (h':=h') (t':=s5.toks) (it:=C) (λ b o hb e=>(hs'.2 b hb).trans e) nC nl (.inr hz) ncl npn
 exact fin acc ys av T _ H1 _ I6 sm ha ta (ajp ha ta hT) na (λ b z=>z.elim (λ z=>(hT b z).1) λ z=>z▸na) (λ b z=>z.elim (λ z=>(hT b z).2.2) λ z q=>by subst z;rw[ha] at q;cases q) W
def TgK(k:Nat)(t:Tg):Prop:=∀x Γ Γ1,t x Γ=some Γ1->Γ1.length=Γ.length/\∀i,k<=i->Γ1[i]? =Γ[i]?
def j5{k i:Nat}(h:i<k):TgK k (aD i):=λ x Γ Γ1 e=>by cases e;exact ⟨by simp,λ j hj=>by rw[List.getElem?_set_ne (by omega)]⟩
def yZ{K:W.Frag}(hk:TgK k t):∀Γ x Γ1 σ H H₀,t x (sD tm k caps Γ)=some Γ1->J K ct H₀ Γ1 σ H->J K ct H₀ (sD tm k caps Γ) σ H:=λ Γ x Γ1 σ H H₀ e j=>by
 obtain ⟨h1,h2⟩:=hk _ _ _ e;refine j.weak h1 λ i=>?_;by_cases hik:i<k
 ·left;unfold sD;rw[List.getElem?_append_left (by simpa using hik),List.getElem?_replicate,if_pos hik]
 ·exact .inr (h2 i (Nat.le_of_not_lt hik)).symm
def IX(hfb:(scope.names.all λ z=>scope.names.all λ y=>!(y.2== .free&&z.1==y.1)||z.2== .free)=true):∀z∈scope.names,∀y,(y,NameKind.free)∈scope.names->z.1=y->z.2= .free:=λ z hz y hy e=>by have q:=List.all_eq_true.mp (List.all_eq_true.mp hfb z hz) _ hy;simp only[e,BEq.rfl,Bool.and_self,Bool.not_true,Bool.false_or] at q;exact eq_of_beq q
def mH(ht:tm=true->ct.tm=true)(hc:X.calm=true)(hi:WID X ct tg iter fi)(co:wJ X scope cl k caps N')(hfb:(scope.names.all λ z=>scope.names.all λ y=>!(y.2== .free&&z.1==y.1)||z.2== .free)=true)(hg:∀C s₀ H₀ ex,WGD (Fe X scope cl C s₀ H₀ ex N') ct tg t)(hp:∀C s₀ H₀ ex,WTs (Fe X scope cl C s₀ H₀ ex N') ct ifs p)(he:∀C s₀ H₀ ex,WD (Fe X scope cl C s₀ H₀ ex N') ct elt fd)(hk:TgK k t)(hs:∀x,foldedSetIterable iter X.env x=pure x:=by intro _;rfl):WL X ct (.ListComp elt [⟨tg,iter,ifs,0⟩] scope pos) (dh tm fi k caps t p fd):=by have hi:=hi.out;have hg:=λ C s₀ H₀ ex=>(hg C s₀ H₀ ex).out;have hp:=λ C s₀ H₀ ex=>(hp C s₀ H₀ ex).out;have he:=λ C s₀ H₀ ex=>(he C s₀ H₀ ex).out;exact ⟨aeF ht hc hi co (IX hfb) hg hp he (yZ hk) hs⟩
def FJ(i:Nat){x:Str}{px ps:Pos}(hN:X.N.Nodup)(hc:X.calm=true)(hi:∀B,WID X (c.at' B) tg iter fi)(co:wJ X scope cl k caps N')(hfb:(scope.names.all λ z=>scope.names.all λ y=>!(y.2== .free&&z.1==y.1)||z.2== .free)=true)(hg:∀B C s₀ H₀ ex,WGD (Fe X scope cl C s₀ H₀ ex N') (c.at' B) tg t)(hp:∀B C s₀ H₀ ex,WTs (Fe X scope cl C s₀ H₀ ex N') (c.at' B) ifs p)(he:∀B C s₀ H₀ ex,WM (Fe X scope cl C s₀ H₀ ex N') (c.at' B) elt fe)(hk:TgK k t)(hs:∀x,foldedSetIterable iter X.env x=pure x:=by intro _;rfl)(hsw:swapsWith (.ListComp elt [⟨tg,iter,ifs,0⟩] scope pos) (some (.Name x px)) ps.line X.env=pure true:=by rfl)(hx:X.N[i]? =some x:=by rfl)(hl:X.env.scope.names.lookup x=some .local:=by rfl):yS X c (.Assign [.Name x px] (.ListComp elt [⟨tg,iter,ifs,0⟩] scope pos) ps) (gX i (mN (mZ tm fi k caps t p fe))):=by
 have hi:=λ B=>(hi B).out;have hg:=λ B C s₀ H₀ ex=>(hg B C s₀ H₀ ex).out;have hp:=λ B C s₀ H₀ ex=>(hp B C s₀ H₀ ex).out;have he:=λ B C s₀ H₀ ex=>(he B C s₀ H₀ ex).out;refine ⟨?_⟩;intro pins s σ H E I ⟨Γ,j,h⟩;have h':Ok X (c.at' H) σ H (mZ tm fi k caps t p fe Γ) λ ms=>xJ (.n ms)=true/\Fn X c H (.nx (Γ.set i (.own (.n ms)))) E:=by
  unfold gX mN at h;cases z:mZ tm fi k caps t p fe Γ with
  |ok ms=>
   rw[z] at h;simp only[Res.bD,Va] at h;split at h
   ·rename_i n;exact ⟨n,h⟩
   ·exact h.elim
  |err x=>rw[z] at h;exact λ e s' r=>h σ H e s' (aU.refl H) j r
  |bad=>rw[z] at h;exact h.elim
 refine GA i (λ _=>rfl) hN hc (hi H) co (IX hfb) (hg H) (hp H) (he H) (yZ hk) hs hsw hx hl I j.lift h' λ acc ys av T S H1 s' I' sm _ _ o na new here W=>?_;exact ⟨_,H1,I',W.2 _ H1 (ay.keep sm) (j.setM sm rfl (o.down W.1) new here)⟩
def V6(i:Nat){x:Str}{px ps:Pos}(hN:X.N.Nodup)(hc:X.calm=true)(hi:∀B,WID X (c.at' B) tg iter fi)(co:wJ X scope cl k caps N')(hfb:(scope.names.all λ z=>scope.names.all λ y=>!(y.2== .free&&z.1==y.1)||z.2== .free)=true)(hg:∀B C s₀ H₀ ex,WGD (Fe X scope cl C s₀ H₀ ex N') (c.at' B) tg t)(hp:∀B C s₀ H₀ ex,WTs (Fe X scope cl C s₀ H₀ ex N') (c.at' B) ifs p)(he:∀B C s₀ H₀ ex,WD (Fe X scope cl C s₀ H₀ ex N') (c.at' B) elt fd)(hk:TgK k t)(hs:∀x,foldedSetIterable iter X.env x=pure x:=by intro _;rfl)(hsw:swapsWith (.ListComp elt [⟨tg,iter,ifs,0⟩] scope pos) (some (.Name x px)) ps.line X.env=pure true:=by rfl)(hx:X.N[i]? =some x:=by rfl)(hl:X.env.scope.names.lookup x=some .local:=by rfl):yS X c (.Assign [.Name x px] (.ListComp elt [⟨tg,iter,ifs,0⟩] scope pos) ps) (gX i (mL (dh tm fi k caps t p fd))):=by
 have hi:=λ B=>(hi B).out;have hg:=λ B C s₀ H₀ ex=>(hg B C s₀ H₀ ex).out;have hp:=λ B C s₀ H₀ ex=>(hp B C s₀ H₀ ex).out;have he:=λ B C s₀ H₀ ex=>(he B C s₀ H₀ ex).out;refine ⟨?_⟩;intro pins s σ H E I ⟨Γ,j,h⟩;have h':Ok X (c.at' H) σ H (mZ tm fi k caps t p (mD fd) Γ) λ ms=>∃ds:List D,ms=ds.map M.d/\xJ (.l ds)=true/\Fn X c H (.nx (Γ.set i (.own (.l ds)))) E:=by
  rw[Vk];unfold gX mL at h;cases z:dh tm fi k caps t p fd Γ with
  |ok ms=>
   rw[z] at h;simp only[Res.bD,Va] at h;split at h
   ·rename_i n;exact ⟨ms,rfl,n,h⟩
   ·exact h.elim
  |err x=>rw[z] at h;exact λ e s' r=>h σ H e s' (aU.refl H) j r
  |bad=>rw[z] at h;exact h.elim
 refine GA i (λ _=>rfl) hN hc (hi H) co (IX hfb) (hg H) (hp H) (λ C s₀ H₀ ex=>Ku (he H C s₀ H₀ ex)) (yZ hk) hs hsw hx hl I j.lift h' λ acc ys av T S H1 s' I' sm ha ta _ na _ _ ⟨ds,e,n,W⟩=>?_;subst e;refine ⟨_,H1,I',W _ H1 (ay.keep sm) (j.setM (S':=λ b=>b=acc) sm rfl (Ow.down (B:=H) (tm:=true) ?_ n) (λ b z=>z▸na) λ b z q=>by subst z;rw[ha] at q;cases q)⟩;simp only[Ow];exact ⟨acc,av,rfl,rfl,ha,ta.abB⟩
end
noncomputable abbrev Yr:List Value:=[.type "ValueError",.type "Exception",.type "BaseException",.type "object"]
structure XC(K:W.Frag)(mg:Str->Option Value)(cb:Cb)(x:Str)(n:String)(C:Addr):Prop where
 bnd:mg x=some (.ref C)
 exc:W.excIn K C Yr "ValueError.__new__"=true
 at':cb.exc n=some C
def ai2{K:W.Frag}{h:Heap}{C:Addr}{newId:String}(X:K.In h)(q:W.excIn K C Yr newId=true):
  ∃bm N nm qn bs hdct sn sub ab col dd k0 k1 k2 k3 k5 mN,h.get? C=some (excClassObj nm qn C N bs bm hdct sn sub ab col dd k0 k1 k2 k3 k5 newId)/\h.Ns N mN/\mN "__init__"=none/\OwnTail h Yr bm:=by
 unfold W.excIn at q;split at q;case h_2=>cases q
 case h_1 dd cd sl lk=>
  split at q;case h_2=>cases q
  case h_1 C' bm k0 k1 k2 k3 n k5 em es=>simp only[Bool.and_eq_true,beq_iff_eq,Bool.not_eq_true'] at q;obtain ⟨⟨⟨⟨⟨e1,e2⟩,e3⟩,e4⟩,e5⟩,e6⟩:=q;subst e1 e2;obtain ⟨nm,bs,mr,ns,qn,hd,sn,sub,ab,col,dl⟩:=cd;simp only at em e3 e5 e6;subst em e3;obtain ⟨sl⟩:=sl;simp only at es;subst es;exact ⟨bm,ns,nm,qn,bs,hd,sn,sub,ab,col,dd,k0,k1,k2,k3,k5,_,X _ _ lk,.of_isNs (W.isNs_of_in X e5),W.nsMap_none_of_in X e5 e6,W.tail_of_in X e4⟩
section
variable{X:Cx}{cf:Cf}{e₀:Expr}{rest:List Expr}{fa:Sg->Res (List D)}{x:Str}{c:String}{C:Addr}{np cpos pos:Pos}
def jI(g:Good X)(M:XC X.K X.mg cf.cb x c C)(ha:D0 X cf.z (e₀::rest) fa)(hg:Gl X x:=by rfl)(hd:(x==("__debug__":Str))=false:=by decide)(he:starEach (e₀::rest) X.env=(false,eval e₀ X.env)::starEach rest X.env:=by rfl)(hpl:(backTo cpos (starEach rest X.env)).any (·.1)=false:=by rfl):yS X cf (.Raise (some (.Call (.Name x np) (e₀::rest) [] cpos)) none pos) (oV c fa):=by
 have ha:=ha.out;refine ⟨?_⟩;intro pins s σ H E I ⟨Γ,j,h⟩;obtain ⟨tl,N,nm,q,bs,hdct,sn,sub,ab,col,dd,k0,k1,k2,k3,k5,mN,hC,hN,hni,T⟩:=ai2 I.ok.mod.kin M.exc;refine wpAny_Raise_call_subT (C:=C) (nm:=nm) (q:=q) (N:=N) (bs:=bs) (bm:=tl) (hdct:=hdct) (sn:=sn) (sub:=sub) (ab:=ab) (col:=col) (dd:=dd) (k0:=k0) (k1:=k1) (k2:=k2) (k3:=k3) (k5:=k5)
  PySem.F.excBase_ValueError (mN:=mN) (T.hasType PySem.F.excBase_ValueError.hasBase) (I.ok.hd g.calm) (by rw[he];show (false||(backTo cpos (starEach rest X.env)).any (·.1))=false;rw[hpl];rfl) hni (uH I hg M.bnd ⟨rfl,?_⟩ hd)
 have h':VH X cf.z fa σ H (λ vs H1=>ay H H1/\vs.length<=1000/\Fn X cf H (.err c Γ) E):=⟨Γ,j,Fn.ok j h λ ds _ q vs H1 s1 t1=>by
   split at q
   ·rename_i hl;exact ⟨s1,by rw[<-t1.length];exact hl,q⟩
   ·exact q.elim⟩
 have hp:=ha cpos pins s σ H _ I h';rw[he] at hp ⊢;refine Calls.evalArgs_plain (wpAny_mono hp (λ us s1 ⟨vs,H1,I1,r,sm,hl,q⟩=>⟨rfl,?_,I1.bk _ _ hC,hN.keeps I1.bk,T.keeps I1.bk,λ h2 e hm=>?_⟩) λ _ _ y=>y)
 ·show us.length<=sizeLine;rw[<-r.length];exact Nat.le_of_lt (uB hl)
 ·exact q σ H1 _ _ (ay.keep sm) (j.mono sm) ⟨pins,H1,s1,C,I1,ay.refl H1,M.at',.inl ⟨e,us,h2,rfl,rfl,hm⟩⟩
end
section
variable{X:Cx}{ct:Ct}{pins:List (Addr×Obj)}{σ:St}{H:Hp}{s:Shared}
def Br{M:Model}{A:Around}{E:Value->Shared->Prop}{i:Nat}{n:Str}{pos:Pos}{Q:Unit->Shared->Prop}(I:Inv X pins σ H s)(hN:X.N.Nodup)(hi:X.N[i]? =some n)(hl:X.env.kindOf n=some .local)
  (h:∀s',Inv X pins (σ.set i none) H s'->Q () s'):wpAny M A (do bindName X.env n .none;unbindBehindTheSuite X.env n pos) Q E s:=by
 obtain ⟨m,hn,hlk⟩:=id I.loc
 have hcls:(X.env.scope.kind== .class||(X.env.scope.kind== .module&&X.env.locals !=X.env.globals))=false:=by rw[I.ok.kind];rfl
 refine wpAny_nameGoes_keeps hl hn hcls λ h' v hn' hs=>h _ ?_
 obtain ⟨oL,_,_,hoL,_⟩:=id hn
 have old:∀{b:Addr} {o:Obj},X.s₀.heap.get? b=some o->b≠X.env.locals:=λ e=>Nat.ne_of_lt (Nat.lt_of_lt_of_le (Heap.lt_size e) I.ok.above)
 have cne:=I.cne
 refine ⟨I.ok,I.os,I.bare,⟨λ b o e n hb hx=>(hs.2 b (old e)).trans (I.base.keep b o e n hb hx),λ b o e n hb hx=>?_,I.base.free,λ b o e hx=>?_,I.base.tups,I.base.yf,I.base.y9⟩,
  ⟨_,hn',λ k y v' e1 e2 e3=>?_⟩,λ y c e=>?_,I.free,I.nK,λ p hp=>?_,λ b ob e=>?_,by simpa using I.len⟩
 ·obtain ⟨sl,e1⟩:=I.base.slot b o e n hb hx
  exact ⟨sl,(hs.2 b (old e)).trans e1⟩
 ·obtain ⟨o',e1⟩:=I.base.there b o e hx
  exact ⟨o',(hs.2 b (old e)).trans e1⟩
 ·by_cases hk:k=i
  ·subst hk
   by_cases hlen:k<σ.length
   ·rw[List.getElem?_set_self hlen] at e2;cases e2
   ·rw[List.getElem?_eq_none (by rw[List.length_set];omega)] at e2;cases e2
  ·rw[List.getElem?_set_ne (Ne.symm hk)] at e2
   obtain ⟨u',r',q⟩:=hlk k y v' e1 e2 e3
   refine ⟨u',r',?_⟩
   rcases q with ⟨kk,e⟩|⟨kk,c,e,z⟩
   ·have:y≠n:=λ e=>hk (Cy hN e1 (e▸hi))
    exact .inl ⟨kk,by simp[this,e]⟩
   ·exact .inr ⟨kk,c,e,z.sameBut hs (cne y c e)⟩
 ·obtain ⟨w',z⟩:=I.cell y c e
  exact ⟨w',z.sameBut hs (cne y c e)⟩
 ·obtain ⟨e,n,ne,nf,d⟩:=I.pin p hp
  exact ⟨(hs.2 p.1 ne).trans e,n,ne,nf,d⟩
 ·refine (I.hok b ob e).stay (λ c w' hc q=>(hs.2 c ?_).trans q) (λ _ q=>q) λ _ _ q=>q
  rintro rfl
  rcases hc with rfl|hc
  ·rw[I.free] at e;cases e
  ·rw[I.free] at hc;cases hc
def Inv.akH{a:Addr}{φ:Heap->Prop}{s1:Shared}(I:Inv X pins σ H s)(ha:H a=none)(old:Inv X pins σ H1 s1)(nw:s1.heap.get? a=none)(new:d8 X.prog X.w (upd H a (.ext φ)) s.heap a (.ext φ)):
  Inv X pins σ (upd H a (.ext φ)) s:=by
 have there:∀b o,X.s₀.heap.get? b=some o->b∉X.ex->b≠a:=λ b o e hx z=>by subst z;obtain ⟨o',q⟩:=old.base.there b o e hx;rw[nw] at q;cases q
 have nl:X.env.locals≠a:=λ z=>by obtain ⟨m,⟨o,_,_,ho,_⟩,_⟩:=old.loc;rw[z,nw] at ho;cases ho
 have nc:∀x c,X.env.cells.lookup x=some c->c≠a:=λ x c e z=>by obtain ⟨v,o,ho,_⟩:=old.cell x c e;rw[z,nw] at ho;cases ho
 have np:∀p∈X.pn++pins,p.1≠a:=λ p hp z=>by have:=(old.pin p hp).1;rw[z,nw] at this;cases this
 have ne:∀b u,H b=some u->b≠a:=λ b u e=>gZ e ha;refine ⟨I.ok,I.os,I.bare,⟨I.base.keep,I.base.slot,λ b o e n hx=>?_,I.base.there,λ b xs e=>?_,λ b o u e=>?_,λ b ps e=>?_⟩,I.loc,I.cell,?_,λ x c e=>?_,λ p hp=>?_,λ b u e=>?_,I.len⟩
 ·rw[aF (there b o e hx)];exact I.base.free b o e n hx
 ·have q:=I.base.tups b xs e;rw[aF (ne _ _ q)];exact q
 ·have q:=I.base.yf b o u e;rw[aF (ne _ _ q)];exact q
 ·obtain ⟨more,q⟩:=I.base.y9 b ps e;exact ⟨more,by rw[aF (ne _ _ q)];exact q⟩
 ·rw[aF nl];exact I.free
 ·rw[aF (nc x c e)];exact I.nK x c e
 ·obtain ⟨h1,h2,h3⟩:=I.pin p hp;exact ⟨h1,by rw[aF (np p hp)];exact h2,h3⟩
 ·by_cases hb:b=a
  ·subst hb;rw[aG] at e;cases e;exact new
  ·rw[aF hb] at e;exact (I.hok b u e).stay (λ _ _ _ q=>q) (λ c q=>by rw[aF (ne _ _ q)];exact q) λ c xs q=>by rw[aF (ne _ _ q)];exact q
end
section
variable{X:Cx}{cf:Cf}
noncomputable abbrev cxT(X:Cx)(pn:List (Addr×Obj))(xe:Value->Shared->Prop):Cx:={X with pn:=pn,xe:=xe}
abbrev cxE(X:Cx)(ev:Value)(pn:List (Addr×Obj)):Cx:={X with A:=X.A.mark (some ev),calm:=false,pn:=pn,xe:=λ _ _=>False}
def apr(ok:X.Ok)(pn:List (Addr×Obj))(xe:Value->Shared->Prop):(cxT X pn xe).Ok:=⟨ok.mod,ok.kind,ok.glob,ok.blt,ok.above,ok.inj,ok.has,ok.cab,ok.hd,ok.frames,ok.stk,ok.exf,ok.bs,ok.bsz,ok.Z9,ok.abk,ok.AU,ok.frf⟩
def aps(ok:X.Ok)(ev:Value)(pn:List (Addr×Obj)):(cxE X ev pn).Ok:=⟨ok.mod,ok.kind,ok.glob,ok.blt,ok.above,ok.inj,ok.has,ok.cab,λ z=>absurd z (by exact Bool.false_ne_true),ok.frames,ok.stk,ok.exf,ok.bs,ok.bsz,ok.Z9,ok.abk,ok.AU,ok.frf⟩
variable{pins:List (Addr×Obj)}{σ:St}{H:Hp}{s:Shared}
def Inv.toT(I:Inv X pins σ H s)(xe:Value->Shared->Prop):Inv (cxT X (X.pn++pins) xe) [] σ H s:=⟨apr I.ok _ _,I.os,I.bare,I.base,I.loc,I.cell,I.free,I.nK,λ p hp=>I.pin p (by simpa using hp),I.hok,I.len⟩
def Inv.ofT{U4:List (Addr×Obj)}{xe:Value->Shared->Prop}(ok:X.Ok)(I:Inv (cxT X (X.pn++pins) xe) U4 σ H s):Inv X pins σ H s:=⟨ok,I.os,I.bare,I.base,I.loc,I.cell,I.free,I.nK,λ p hp=>I.pin p (List.mem_append_left _ hp),I.hok,I.len⟩
def Inv.toE(I:Inv X pins σ H s)(ev:Value):Inv (cxE X ev (X.pn++pins)) [] σ H s:=⟨aps I.ok _ _,I.os,I.bare,I.base,I.loc,I.cell,I.free,I.nK,λ p hp=>I.pin p (by simpa using hp),I.hok,I.len⟩
def Inv.ofE{ev:Value}(ok:X.Ok)(I:Inv (cxE X ev (X.pn++pins)) [] σ H s):Inv X pins σ H s:=⟨ok,I.os,I.bare,I.base,I.loc,I.cell,I.free,I.nK,λ p hp=>I.pin p (by simpa using hp),I.hok,I.len⟩
def aaw{A:Around}{E:Value->Shared->Prop}{x:Str}{u:Value}{pos:Pos}{Q:Value->Shared->Prop}(I:Inv X pins σ H s)(hg:Gl X x)(hm:X.mg x=some u)(h:Q u s) (hd:(x==("__debug__":Str))=false:=by decide):wpAny (model X.prog X.w) A (eval (.Name x pos) X.env) Q E s:=Calls.Name_function_global I.ok.kind hg (Calls.loadGlobal_global (by rw[I.ok.glob];exact I.mod.glob.keeps I.bk) hm h) hd
def N2{M:Model}{A:Around}{E:Value->Shared->Prop}{base h:Heap}{env:Env}{outer:List Env}{L e:Addr}{cls:Value}{args:List Value}{s:Shared}{Q:Unit->Shared->Prop}(hfr:A.frames=some (env::outer))(hf:env.frame=some L) (hkb:base.StaysIn h) (hl:h.FunFrames base (env::outer)) (hx:Heap.MadeExcOf h s.heap e cls args) (hQ:∀h' t,Heap.HeldW base (env::outer) e cls (.ref t) L h'->s.heap.UpToSlots h'->Q () {s with heap:=h'}):wpAny M A (noteFrame (.ref e) env) Q E s:=by
 obtain ⟨t,he,htn,ht⟩:=hx.there;have nb:base.get? e=none:=by
  cases q:base.get? e with
  |none=>rfl
  |some o=>have:=hkb e o q;rw[hx.new] at this;cases this
 unfold noteFrame;simp only[hf];refine wpAny_bind (wpAny_field he rfl (x:= .none) rfl ?_);rw[if_neg (by simp)];refine wpAny_entryW (a0:= .ref t) hfr (hl.of_keeps λ b o q _=>⟨o,hx.keeps b o q,rfl⟩) hf he (λ b o q=>hx.keeps b o (hkb b o q)) nb rfl (by simp) rfl λ h' hN=>?_;obtain ⟨k1,k2,k3,k4⟩:=hN;exact hQ h' t ⟨k1,nb,k2,k3⟩ k4
def aaA{σ':St}{H':Hp}{c:String}{e:Value}{s':Shared}{E:Value->Shared->Prop}{Q:Unit->Shared->Prop}{xe:Value->Shared->Prop}(g:Good X)(ok:X.Ok)(r:jr (cxT X (X.pn++pins) xe) cf.cb σ' H' c e s') (k:∀(a C:Addr) (B:Heap) (a0:Value) (H1 H2:Hp) (s1:Shared) (h5:Heap),e= .ref a->cf.cb.exc c=some C->ay H' H1->ay H1 H2->Inv X pins σ' H1 s1->s1.heap.get? a=none->H2 a=none->s'.os=s1.os->AllBare s'.gens->Heap.FlyingW B (X.env::X.outer) a (.ref C) a0 h5->(∀h:Heap,B.StaysIn h->h5.UpToSlots h->Un (frs X.stack) [] H1 H2 s1.heap h/\vf X.prog X.w H2 h)->Q () {s' with heap:=h5}):
  wpAny (model X.prog X.w) X.A (noteFrame e X.env) (λ _ s₂=>wpAny (model X.prog X.w) X.A (setFlight e none) Q E s₂) E s':=by
 obtain ⟨aq3,H1,s1,C,I1,sm,hc,r⟩:=r;have I1:Inv X pins σ' H1 s1:=Inv.ofT ok I1;obtain ⟨own,hf⟩:=g.own;have hfr:X.A.frames=some (X.env::X.outer):=by rw[<-own];exact ok.frames
 rcases r with ⟨a,args,h',rfl,rfl,hx⟩|⟨a,C',H2,B,a0,rfl,⟨q1,q2,q3⟩,q4,q5,fl,na,nw,cl⟩
 ·have hst:s1.heap.FunFrames X.base X.stack:=I1.stack;have hin:∀env∈X.stack,∀b,env.frame=some b->b∈frs X.stack:=λ env he b hb=>List.mem_filterMap.mpr ⟨env,he,hb⟩;have hkb:(W.hideAll s1.heap (frs X.stack)).StaysIn s1.heap:=λ b o q=>W.of_hideAll _ q;have na:H1 a=none:=by
   cases z:H1 a with
   |none=>rfl
   |some o=>obtain ⟨ob,hb⟩:=tH (I1.hok a o z);rw[hx.new] at hb;cases hb
  have hff:s1.heap.FunFrames (W.hideAll s1.heap (frs X.stack)) (X.env::X.outer):=by have z:=W.funFrames_hide hst hin;generalize W.hideAll s1.heap (frs X.stack)=B at z ⊢;rw[own] at z;exact z
  refine N2 (s:={s1 with heap:=h'}) hfr hf hkb hff hx λ h4 t held up4=>?_;refine wpAny_landsW held λ h5 fl5 up5=>?_;refine k a C _ _ H1 H1 s1 h5 rfl hc sm (ay.refl H1) I1 hx.new na rfl I1.bare fl5 λ h3 st3 up3=>?_;have keep:∀b o,s1.heap.get? b=some o->b∉frs X.stack->h3.get? b=some o:=λ b o q nb=>st3 b o (W.hideAll_get _ q nb);have slot:∀b o,s1.heap.get? b=some o->b∈frs X.stack->∃sl,h3.get? b=some {o with slots:=sl}:=λ b o q hb=>by obtain ⟨_,o',ho',hd⟩:=hst.mem hb;rw[q] at ho';cases ho';exact ((up4.trans up5).trans up3) b o (hx.keeps b o q) hd
  have un:Un (frs X.stack) [] H1 H1 s1.heap h3:=⟨λ b o q n nb _=>keep b o q nb,λ b o q n hb _=>slot b o q hb,λ b o q n _=>n,λ b o q _=>by
   by_cases hb:b∈frs X.stack
   ·obtain ⟨sl,z⟩:=slot b o q hb;exact ⟨_,z⟩
   ·exact ⟨o,keep b o q hb⟩,λ b xs q=>q,λ b o u q=>q,λ b ps q=>⟨#[],by rw[q];simp⟩⟩
  refine ⟨un,λ b o q=>(I1.hok b o q).stay (λ b' u hb' e'=>?_) (λ _ q=>q) λ _ _ q=>q⟩;have tr:H1 b'≠none:=by
   rcases hb' with rfl|hb'
   ·rw[q];exact λ z=>nomatch z
   ·rw[hb'];exact λ z=>nomatch z
  exact keep b' u e' λ z=>tr (I1.A9 b' z)
 ·cases q1;have fl:Heap.FlyingW B X.stack a (.ref C) a0 s'.heap:=fl;rw[own] at fl;refine wpAny_looks_onW hfr hf fl λ h4 held up4=>?_;refine wpAny_landsW held λ h5 fl5 up5=>?_;exact k a C B a0 H1 H2 s1 h5 rfl hc sm q3 I1 nw na q4 q5 fl5 λ h3 st3 up3=>cl h3 st3 ((up4.trans up5).trans up3)
end
section
variable{X:Cx}{cf:Cf}{body suite:List Stmt}{b₀:Stmt}{F G:Sg->Out}{t n:Str}{hit:String->Option Bool}{T:Value}{np hpos pos:Pos}
noncomputable def am2(K:W.Frag)(cb:Cb)(T:Value)(hit:String->Option Bool):Prop:=∀c C b,cb.exc c=some C->hit c=some b->W.exmOne K (.ref C) T=some b
def al6{P:Program}{w:World}{H:Hp}{h:Heap}{a C:Addr}(q:∃o,h.get? a=some o/\o.cls= .ref C):d8 P w (upd H a (.ext (rB a C))) h a (.ext (rB a C)):=by obtain ⟨o,h1,h2⟩:=q;exact ⟨⟨o,h1,h2⟩,⟨o,h1⟩,λ hA hB ⟨o',e1,e2⟩ k=>⟨o',k o' e1,e2⟩⟩
def V5(i:Nat)(g:Good X)(hT:X.mg t=some T)(hh:am2 X.K cf.cb T hit)(hb:∀pn xe,Good (cxT X pn xe)->ve (cxT X pn xe) cf body F)(hs:∀ev pn,ve (cxE X ev pn) cf (b₀::suite) G)(hg:Gl X t:=by rfl)(hd:(t==("__debug__":Str))=false:=by decide)(hi:X.N[i]? =some n:=by rfl)(hl:X.env.scope.names.lookup n=some .local:=by rfl)(hkl:X.env.kindOf n=some .local:=by rfl):yS X cf (.Try body [.ExceptHandler (some (.Name t np)) (some n) (b₀::suite) hpos] [] [] pos) (zb i hit F G):=by
 have hb:=λ pn xe h_1=>(hb pn xe h_1).out;have hs:=λ ev pn=>(hs ev pn).out;refine ⟨?_⟩;intro pins s σ H E I ⟨Γ,j,h⟩;let E1:Value->Shared->Prop:=λ e s'=>wpAny (model X.prog X.w) X.A (noteFrame e X.env) (λ _ s₂=>wpAny (model X.prog X.w) X.A (setFlight e none) (λ _ s₃=>wpAny (model X.prog X.w) X.A (handleBy e X.env [.ExceptHandler (some (.Name t np)) (some n) (b₀::suite) hpos]) (SP X pins E) X.xe s₃) X.xe s₂) X.xe s'
 have g1:Good (cxT X (X.pn++pins) E1):=⟨PassesOwn.looking,g.calm,g.nd,g.own⟩;have hF:Fn (cxT X (X.pn++pins) E1) cf H (F Γ) E:=by
  simp only[zb,tryD] at h;cases q:F Γ with
  |nx Γ'=>rw[q] at h;exact h
  |bk Γ'=>rw[q] at h;exact h
  |ct Γ'=>rw[q] at h;exact h
  |rt d=>rw[q] at h;exact λ v H' b t=>h v H' ⟨b.same,b.free⟩ t
  |Wj ds=>rw[q] at h;exact λ v H' S b=>h v H' S ⟨b.same,b.free⟩
  |rtG ds Γ9=>rw[q] at h;exact h
  |BX ds Γ9=>rw[q] at h;exact h
  |bad=>rw[q] at h;exact h
  |err c Γ1=>
   rw[q] at h;intro σ' H' e s' kp j1 r;dsimp only at h;split at h
   ·rename_i hc';refine aaA g I.ok r λ a C B a0 H1 H2 s1 h5 ea hc sm1 sm2 I1 nw na os' bare fl cl=>?_;subst ea;have inv:∀h:Heap,B.StaysIn h->h5.UpToSlots h->Inv X pins σ' H2 {s' with heap:=h}:=λ h st up=>I1.VD (s':={s' with heap:=h}) (ch:=[]) os' (cl h st up).1 (cl h st up).2 bare (λ b z=>absurd z (by simp));have I5:=inv h5 fl.1 (Heap.UpToSlots.refl h5);refine wpAny_handleBy_cons (codeAny_handlers_test (aaw I5 hg hT ?_ hd)) (by intro z;cases z);have LT:W.Looks (model X.prog X.w) h5 (typeOf (.ref a)) (.ref C):=by obtain ⟨ob,hob,hcl⟩:=fl.there;rw[<-hcl];exact (W.Looks.ld hob).andThen .now
    refine (W.exm_one I5.Bl LT (hh c C true hc hc')).here ?_;refine codeAny_handlers_suite_as ?_;refine lands_againW fl λ h6 fl6 up6=>?_;have I6:=inv h6 fl6.1 up6;have I7:Inv X pins σ' (upd H2 a (.ext (rB a C))) {s' with heap:=h6}:=Inv.akH I6 na (I1.kept (h':=s1.heap) (t':=s1.toks) λ _ _ z=>z) nw (al6 fl6.there);have k7:aU cf.cb H (upd H2 a (.ext (rB a C))):=((kp.trans (ay.keep sm1)).trans (ay.keep sm2)).trans (ay.keep (bO na _));refine sI (A:=X.A.mark (some (.ref a))) (i:=i) (v:= .ref a) I7 g.nd hi (Or.inl hl) rfl (λ s8 I8=>?_) (.inr hl);have j7:Jx X cf.z (Γ1.set i (.val (.exc c))) (σ'.set i (some (.ref a))) (upd H2 a (.ext (rB a C))):=by refine ((j1.mono (sm1.trans sm2)).mono (bO na _)).set ?_;simp only[Tl];exact ⟨a,C,rfl,hc,aG⟩
    refine wpAny_mono (hs (.ref a) (X.pn++pins) [] s8 _ _ {nx:=λ σ9 H9=>E.nx (σ9.set i none) H9,bk:=λ σ9 H9=>E.bk (σ9.set i none) H9,ct:=λ σ9 H9=>E.ct (σ9.set i none) H9,rt:=E.rt} (Inv.toE I8 (.ref a)) ⟨_,j7,?_⟩) (λ f s9 q9=>?_) λ _ _ z=>z.elim
    ·cases qG:G (Γ1.set i (.val (.exc c))) with
     |nx Γ9=>rw[qG] at h;exact λ σ9 H9 k9 j9=>h _ H9 (k7.trans k9) j9.unset
     |bk Γ9=>rw[qG] at h;exact λ σ9 H9 k9 j9=>h _ H9 (k7.trans k9) j9.unset
     |ct Γ9=>rw[qG] at h;exact λ σ9 H9 k9 j9=>h _ H9 (k7.trans k9) j9.unset
     |rt d=>rw[qG] at h;exact λ v H' b t=>h v H' ⟨b.same,b.free⟩ t
     |Wj ds=>rw[qG] at h;exact λ v H' S b=>h v H' S ⟨b.same,b.free⟩
     |rtG ds Γ9=>rw[qG] at h;exact h
     |BX ds Γ9=>rw[qG] at h;exact h
     |err c' Γ9=>rw[qG] at h;exact h.elim
     |bad=>rw[qG] at h;exact h.elim
    ·cases f with
     |next=>obtain ⟨σ9,H9,I9,q⟩:=q9;exact Br (Inv.ofE I.ok I9) g.nd hi hkl λ s' I'=>⟨_,H9,I',q⟩
     |brk=>obtain ⟨σ9,H9,I9,q⟩:=q9;exact Br (Inv.ofE I.ok I9) g.nd hi hkl λ s' I'=>⟨_,H9,I',q⟩
     |cont=>obtain ⟨σ9,H9,I9,q⟩:=q9;exact Br (Inv.ofE I.ok I9) g.nd hi hkl λ s' I'=>⟨_,H9,I',q⟩
     |ret u=>obtain ⟨v,σ9,H9,I9,rv,q⟩:=q9;exact Br (Inv.ofE I.ok I9) g.nd hi hkl λ s' I'=>⟨v,_,H9,I',rv,q⟩
   ·exact h.elim
 refine wpAny_Try_except (wpAny_mono (hb (X.pn++pins) E1 g1 [] s σ H E (Inv.toT I E1) ⟨Γ,j,hF⟩) (λ f s1 q=>?_) λ e s1 q=>q);cases f with
 |next=>obtain ⟨σ',H',I',q⟩:=q;exact wpAny_execs_nil ⟨σ',H',Inv.ofT I.ok I',q⟩
 |brk=>obtain ⟨σ',H',I',q⟩:=q;exact ⟨σ',H',Inv.ofT I.ok I',q⟩
 |cont=>obtain ⟨σ',H',I',q⟩:=q;exact ⟨σ',H',Inv.ofT I.ok I',q⟩
 |ret u=>obtain ⟨v,σ',H',I',r,q⟩:=q;exact ⟨v,σ',H',Inv.ofT I.ok I',r,q⟩
end
structure XT(K:W.Frag)(C:Addr):Prop where
 ga:W.findIn K (.ref C) "__getattribute__"=some (some (.builtin "BaseException.__getattribute__"))
 gt:W.findIn K (.ref C) "__getattr__"=some none
 ca:W.findIn K (.ref C) "__class__"=some (some (.builtin "object.__class__"))
 mo:W.mroIn K C (.type "object")=some true
 mb:W.subIn K (.ref C) (.type "BaseException")=some true
 cl:(W.clsIn K C).isSome=true
section
open PySem.W Builtin Builtin.ObjectAttr Builtin.Getset_descriptor
variable{prog:Program}{w:World}{A:Around}{E:Value->Shared->Prop}{h:Heap}{g:Array GenState}{d:Drawn}{t:Nat}{os:OsState}{a C:Addr}{K:Frag}
def UE{M:Model}(p:rB a C h):Looks M h (typeOf (.ref a)) (.ref C):=by obtain ⟨o,h1,h2⟩:=p;exact h2▸(Looks.ld h1).andThen .now
def ag8{R:Result->Shared->Prop}(X:K.In h)(T:XT K C)(p:rB a C h)(hq:R (.ok (.ret (.ref C))) ⟨h,g,d,t,os⟩):
  codeAny (model prog w) A (.call (.builtin "getset_descriptor.__get__") ⟨[.builtin "object.__class__",.ref a,.ref C],[]⟩) R ⟨h,g,d,t,os⟩:=by
 have la:=UE (M:=model prog w) p;have lb:=looks_mroIn (M:=model prog w) X T.mo;refine codeAny_call_builtin KF.slot_gs.plain KF.entry_gs
  (KF.slot_gs.check _ _ _ _ _ _ _ _ KF.type_class (KF.args_gs _ _ _) ?_)
 unfold Builtin.«getset_descriptor.__get__» descrGet;rw[dga_obj];refine wpAny_bind (wpAny_pure ?_);unfold descrGetter descrCheckInstance descrNameAndClass isInstance;simp only[KF.owner_class];repeat lk
 refine ⟨Code.quiet_builtin _ (by decide+kernel),codeAny_builtin KF.entry_class ?_⟩;unfold Builtin.«object.__class__» shownTypeOf;repeat lk
 exact hq
def YE{tk:Tok}{Q:Fin->Shared->Prop}(X:K.In h)(T:XT K C)(p:rB a C h)(hq:Q (.done (.ret (.ref C))) ⟨h,g,d,t,os⟩):
  wpAny (model prog w) A (Builtin.«object.__getattribute__» ⟨[.ref a,.str "__class__" tk],[]⟩) Q E ⟨h,g,d,t,os⟩:=by
 have hT5:(⟨h,g,d,t,os⟩:Shared).TypeIs (.builtin "object.__class__") "getset_descriptor":=F.typeOf_object_class;have f5:=F.typeOf_object_class;have f6:=F.slot_gs_get.lookup;have f7:=F.slot_gs_set.lookup;have la:=UE (M:=model prog w) p;have lb:=looks_findIn (M:=model prog w) X T.ca;obtain ⟨o,h1,h2⟩:=p;repeat (any_goals (first|assumption|(with_reducible refine wpAny_loadPart_at h1 ?_;rw[h2])|with_reducible refine Looks.at lb ?_|wp_step))
 refine ag8 X T ⟨o,h1,h2⟩ ?_;repeat (any_goals (first|assumption|wp_step))
def YF{nameV:Value}{Q:Unit->Shared->Prop}(X:K.In h)(T:XT K C)(p:rB a C h)(hq:Q () ⟨h,g,d,t,os⟩):
  wpAny (model prog w) A (checkBuiltinCall "BaseException.__getattribute__" ⟨[.ref a,nameV],[]⟩) Q E ⟨h,g,d,t,os⟩:=by
 have hk:builtinKind "BaseException.__getattribute__"=some .slot:=by decide+kernel
 have J1:splitId "BaseException.__getattribute__"=some ("BaseException","__getattribute__"):=by decide+kernel
 have hargs:=F.args_bexc_ga (.ref a) nameV;have la:=UE (M:=model prog w) p;have lb:=looks_subIn (M:=model prog w) X T.mb;simp only[checkBuiltinCall,hk,J1];refine wpAny_bind ?_;unfold isInstance;obtain ⟨o,h1,h2⟩:=p;repeat (first|(with_reducible refine wpAny_loadPart_at h1 ?_;rw[h2])|with_reducible refine Looks.at lb ?_|wp_step)
 exact hq
def adD{tk:Tok}{R:Result->Shared->Prop}(X:K.In h)(T:XT K C)(p:rB a C h)(hq:R (.ok (.ret (.ref C))) ⟨h,g,d,t,os⟩):
  codeAny (model prog w) A (.call (.builtin "BaseException.__getattribute__") ⟨[.ref a,.str "__class__" tk],[]⟩) R ⟨h,g,d,t,os⟩:=
 codeAny_call_builtin F.attr_ValueError.ga.plain F.entry_bexc_ga (YF X T p (YE X T p hq))
def akp{tk:Tok}{Q:Value->Shared->Prop}(X:K.In h)(T:XT K C)(p:rB a C h)(hq:Q (.ref C) ⟨h,g,d,t,os⟩):
  wpAny (model prog w) A (getAttrBy (.ref a) (.str "__class__" tk) false) Q E ⟨h,g,d,t,os⟩:=by
 have f3:=F.attr_ValueError.ga.bind (.ref a);have hx2:(Value.builtin "BaseException.__getattribute__"==Value.builtin "object.__getattribute__")=false:=by decide+kernel
 have hx1:(onTheHeap (Value.ref C)&&Value.builtin "BaseException.__getattribute__"==Value.builtin "object.__getattribute__")=false:=by rw[hx2];rfl
 have lb:=looks_findIn (M:=model prog w) X T.ga;have lc:=looks_findIn (M:=model prog w) X T.gt;obtain ⟨o,h1,h2⟩:=p;repeat (any_goals (first|assumption|(with_reducible refine wpAny_loadPart_at h1 ?_;rw[h2])|with_reducible refine Looks.at lb ?_|with_reducible refine Looks.at lc ?_|wp_step))
 refine adD X T ⟨o,h1,h2⟩ ?_;repeat (any_goals (first|assumption|wp_step))
def aaI(T:XT K C):KitX K (.ref a) (.ref C) (rB a C) where
 ty:=λ _ _ _ p=>UE p
 it:=λ _ _ X _=>by
  have z:=T.cl
  unfold clsIn at z
  split at z
  ·rename_i c' d' cd' My ho
   intro A' Q' E' s' k q
   unfold isType loadHead
   exact wpAny_bind (wpAny_loadPart (k _ _ (X _ _ ho))
    (wpAny_pure q))
  ·cases z
 ne:=λ h tp dd its n sl X htp=>by
  have z:=T.cl
  refine Bool.eq_false_iff.mpr λ q=>?_
  have e:C=tp:=Value.ref.inj (beq_iff_eq.mp q)
  subst e
  unfold clsIn at z
  split at z
  ·rename_i ho
   have z:=(X _ _ ho).symm.trans htp
   cases z
  ·cases z
 ca:=λ{_ _ _ _ _ s} X p k=>by
  obtain ⟨h,g,d,t,os⟩:=s
  unfold getAttr? getAttrBy?
  repeat (any_goals (first|assumption|with_reducible apply akp X T p|wp_step))
end
structure IC(K:W.Frag)(C:Addr):Prop where
 cl:zZ K C
 ha:W.findIn K (.ref C) "__class__"=some (some (.builtin "object.__class__"))
 hn:W.specialIn K (.builtin "object.__class__") "__get__"=some (some (.builtin "getset_descriptor.__get__"))
 tk:W.takesIn K (.builtin "object.__class__")=some true
 hm:W.mroIn K C (.type "object")=some true
structure XTs(K:W.Frag)(cb:Cb)(mt:List (String×List String)):Prop where
 xt:∀c C,cb.exc c=some C->(mt.lookup c).isSome=true->XT K C
 ic:∀c C ns,cb.cls c=some (C,ns)->IC K C
structure YA(K:W.Frag)(cb:Cb)(mt:List (String×List String))(cv:Value)(n:String):Prop where
 nn:W.kitOne K (.type "NoneType") cv=some (["NoneType"].contains n)
 bb:W.kitOne K (.type "bool") cv=some (["bool","int"].contains n)
 ii:W.kitOne K (.type "int") cv=some (["int"].contains n)
 ss:W.kitOne K (.type "str") cv=some (["str"].contains n)
 tt:W.kitOne K (.type "tuple") cv=some (["tuple"].contains n)
 ll:W.kitOne K (.type "list") cv=some (["list"].contains n)
 dd:W.kitOne K (.type "dict") cv=some (["dict"].contains n)
 own:∀c C ks,cb.exc c=some C->mt.lookup c=some ks->W.kitOne K (.ref C) cv=some (ks.contains n)
 ins:∀c C ns ks,cb.cls c=some (C,ns)->mt.lookup c=some ks->W.kitOne K (.ref C) cv=some (ks.contains n)
def Gd{X:Cx}{ct:Ct}{mt:List (String×List String)}{pins:List (Addr×Obj)}{σ:St}{H:Hp}{s:Shared}{d:D}{v:V}{u:Value}{ks:List String}(I:Inv X pins σ H s)(lL:ay ct.f.L H)(lB:ay ct.B H)(t:Tl X.K ct H d v)(r:RelV v u)(hk:kinds mt d=some ks) (hx:XTs X.K ct.f.cb mt):
  u≠.builtin "__main__.__loader__#opaque"/\∃(ty:Value) (P:Heap->Prop),W.KitX X.K u ty P/\P s.heap/\∀cv n,YA X.K ct.f.cb mt cv n->W.kitOne X.K ty cv=some (ks.contains n):=by
 cases d with
 |cY=>simp only[Tl] at t;subst t;cases r;cases hk;exact ⟨(λ z=>nomatch z),_,_,W.kitx_none,trivial,λ cv n k=>k.nn⟩
 |bl b=>simp only[Tl] at t;subst t;cases r;cases hk;exact ⟨(λ z=>nomatch z),_,_,W.kitx_bool,trivial,λ cv n k=>k.bb⟩
 |int i=>simp only[Tl] at t;subst t;obtain ⟨tk,rfl⟩:=r;cases hk;exact ⟨(λ z=>nomatch z),_,_,W.kitx_int,trivial,λ cv n k=>k.ii⟩
 |str x=>simp only[Tl] at t;subst t;obtain ⟨tk,rfl⟩:=r;cases hk;exact ⟨(λ z=>nomatch z),_,_,W.kitx_str,trivial,λ cv n k=>k.ss⟩
 |tup ds=>simp only[Tl] at t;obtain ⟨a,vs,rfl,t1,_⟩:=t;cases r;cases hk;obtain ⟨its,_,⟨o,h1,h2,_⟩,_⟩:=I.tuple (qN t1);exact ⟨(λ z=>nomatch z),_,_,W.kitx_tuple,⟨o,h1,h2⟩,λ cv n k=>k.tt⟩
 |gt ds=>simp only[Tl] at t;obtain ⟨a,vs,rfl,t1,_⟩:=t;cases r;cases hk;obtain ⟨its,_,⟨o,h1,h2,_⟩,_⟩:=I.tuple t1.sq;exact ⟨(λ z=>nomatch z),_,_,W.kitx_tuple,⟨o,h1,h2⟩,λ cv n k=>k.tt⟩
 |lst ds=>simp only[Tl] at t;obtain ⟨a,vs,rfl,t1,_⟩:=t;cases r;cases hk;obtain ⟨its,_,⟨o,_,h1,h2,_⟩,_⟩:=I.list t1.sq;exact ⟨(λ z=>nomatch z),_,_,W.kitx_list,⟨o,h1,h2⟩,λ cv n k=>k.ll⟩
 |bor tm ds=>obtain ⟨a,vs,rfl,t1,_⟩:=t.kg lL lB rfl;cases r;cases hk;obtain ⟨its,_,⟨o,_,h1,h2,_⟩,_⟩:=I.list t1;exact ⟨(λ z=>nomatch z),_,_,W.kitx_list,⟨o,h1,h2⟩,λ cv n k=>k.ll⟩
 |uQ ks' xs=>
  simp only[Tl] at t;obtain ⟨a,vs,rfl,⟨o,t1⟩,_⟩:=t;cases r;cases hk;cases ks' with
  |s _=>obtain ⟨_,_,_,vs',_,o',es,ep,h1,h2,_⟩:=I.hok a _ t1;exact ⟨(λ z=>nomatch z),_,_,W.kitx_dict,⟨o',h1,h2.1⟩,λ cv n k=>k.dd⟩
  |t _=>obtain ⟨_,_,_,vs',_,o',es,ep,h1,h2,_⟩:=I.hok a _ t1;exact ⟨(λ z=>nomatch z),_,_,W.kitx_dict,⟨o',h1,h2.1⟩,λ cv n k=>k.dd⟩
 |yR tm ks' xs=>
  simp only[Tl] at t;obtain ⟨a,vs,rfl,t1,_⟩:=t;cases r;cases hk;have t2:H a=some (ks'.ho vs):=by
   cases tm with
   |true=>exact lB a _ t1
   |false=>exact lL a _ t1
  cases ks' with
  |s _=>obtain ⟨_,_,vs',_,o',es,ep,h1,h2,_⟩:=I.hok a _ t2;exact ⟨(λ z=>nomatch z),_,_,W.kitx_dict,⟨o',h1,h2.1⟩,λ cv n k=>k.dd⟩
  |t _=>obtain ⟨_,_,vs',_,o',es,ep,h1,h2,_⟩:=I.hok a _ t2;exact ⟨(λ z=>nomatch z),_,_,W.kitx_dict,⟨o',h1,h2.1⟩,λ cv n k=>k.dd⟩
 |yQ tm c ns xs=>cases hk
 |obj c ns xs=>simp only[Tl] at t;obtain ⟨a,C,dx,vs,rfl,hc,ha,_⟩:=t;cases r;have hk:mt.lookup c=some ks:=hk;obtain ⟨mA,O,_⟩:=Bp I.hok ha;obtain ⟨od,J,_⟩:=O.look;have ic:=hx.ic c C ns hc;exact ⟨(λ z=>nomatch z),_,_,W.kitx_own (ic.cl.get _) ic.cl.hd ic.ha ic.hn ic.tk ic.hm,J,λ cv n k=>k.ins c C ns ks hc hk⟩
 |exc c=>simp only[Tl] at t;obtain ⟨a,C,rfl,hc,ha⟩:=t;cases r;obtain ⟨p,_⟩:=I.hok a _ ha;have hk:mt.lookup c=some ks:=hk;exact ⟨(λ z=>nomatch z),_,_,aaI (hx.xt c C hc (by rw[hk];rfl)),p,λ cv n k=>k.own c C ks hc hk⟩
section
variable{X:Cx}{ct:Ct}{mt:List (String×List String)}{a b e:Expr}{f g:Sg->Res D}{c:Str}{n:String}{cv:Value}{p p2 pos:Pos}
structure ads(X:Cx)(c:Str)(v:V)(u:Value):Prop where
 rel:RelV v u
 one:∀u',RelV v u'->u'=u
 ld:(X.mg c=some u)\/(X.mg c=none/\bootBuiltins c=some u/\c≠"__name__")
def ue{C:Addr}(h:X.mg c=some (.ref C)):ads X c (.ref C) (.ref C):=⟨rfl,λ _ z=>z,.inl h⟩
def afU{T:String}(h:X.mg c=none)(hv:bootBuiltins c=some (.type T))(hn:c≠"__name__"):ads X c (.ty T) (.type T):=⟨rfl,λ _ z=>z,.inr ⟨h,hv,hn⟩⟩
def ZM{v:V}{u:Value}{pos:Pos}(h:ads X c v u)(hg:Gl X c:=by rfl)(hd:(c==("__debug__":Str))=false:=by decide):PE X (.Name c pos) (tC v):=by
 rcases h.ld with q|⟨q1,q2,q3⟩
 ·exact U5 hg q h.rel hd
 ·exact aeN hg q1 q2 h.rel q3 hd
def YJ{v:V}{u:Value}{pos:Pos}(h:ads X c v u)(hg:Gl X c:=by rfl)(hd:(c==("__debug__":Str))=false:=by decide):WE X (.Name c pos) (tC v):=⟨ZM (h:=h) (hg:=hg) (hd:=hd)⟩
def abS{y:V}(hx:XTs X.K ct.f.cb mt)(hk:YA X.K ct.f.cb mt cv n)(hy:∀u,RelV y u->u=cv):vE X (.builtin "isinstance") (λ xs H Q=>ay ct.f.L H/\ay ct.B H/\∃d v ks,xs=[v,y]/\Tl X.K ct H d v/\kinds mt d=some ks/\Q (.bl (ks.contains n)) H):=by
 intro pins s σ H xs us Q I r ⟨lL,lB,d,v,ks,ex,t,hd,q⟩;subst ex;cases r with
 |cons r1 r2=>
  cases r2 with
  |cons r2 r3=>cases r3;obtain ⟨nb,ty,P,Z,pp,k⟩:=Gd I lL lB t r1 hd hx;rw[hy _ r2];exact W.kia_one Z I.Bl pp (k cv n hk) nb λ tk=>⟨.bl _,H,I.tok tk,rfl,q⟩
def Vt{cs:List String}{d x:D}(h:yb mt cs d= .ok x):∃ks,kinds mt d=some ks/\x= .bl (cs.any λ c=>ks.contains c):=by
 unfold yb at h;split at h
 ·rename_i ks hk;cases h;exact ⟨ks,hk,rfl⟩
 ·cases h
def Vu{cs:List String}{d:D}{c:String}:yb mt cs d≠.err c:=by unfold yb;split<;>exact λ z=>nomatch z
def GN{y:V}(hm:X.mg "isinstance"=none)(hx:XTs X.K ct.f.cb mt)(hk:YA X.K ct.f.cb mt cv n)(hc:ads X c y cv)(he:WD X ct e f)(hg:Gl X "isinstance":=by rfl)(hgc:Gl X c:=by rfl)(hdc:(c==("__debug__":Str))=false:=by decide)(hs:starEach [e,.Name c p2] X.env=(false,eval e X.env)::starEach [.Name c p2] X.env:=by rfl)(hs2:starEach [.Name c p2] X.env=(false,eval (.Name c p2) X.env)::starEach [] X.env:=by rfl)(hpl:(backTo pos (starEach [.Name c p2] X.env)).any (·.1)=false:=by rfl):WD X ct (.Call (.Name "isinstance" p) [e,.Name c p2] [] pos) (LX mt [n] f):=by
 have he:=he.out;refine ⟨?_⟩;refine PE.imp (qV (abS hx hk hc.one) hg hm PyProof.Rows.boot_isinstance (nR he (nR (ZM hc hgc hdc) zh hs2) hs) (by decide) (by decide) hs hpl) λ σ H Q ⟨Γ,j,h⟩=>?_;refine sC.bnd j h λ d v H' s t j' h'=>?_;cases q:yb mt [n] d with
 |bad=>rw[q] at h';exact h'.elim
 |err c=>exact (Vu q).elim
 |ok x=>rw[q] at h';obtain ⟨ks,hks,rfl⟩:=Vt q;exact ⟨j'.lL,j'.lB,d,v,ks,rfl,t,hks,by simpa using h' (.bl _) H' s (by simp[Tl])⟩
def C9{K:W.Frag}{ty:Value}{ks:List String}:∀{cvs:List Value} {ns:List String},Paired (λ cv n=>W.kitOne K ty cv=some (ks.contains n)) cvs ns->W.kitAny K ty cvs=some (ns.any λ c=>ks.contains c)
 |_,_,.nil=>rfl
 |_,_,.cons r t=>by
  unfold W.kitAny;rw[r,List.any_cons];cases ks.contains _ with
  |true=>rfl
  |false=>simpa using C9 t
def Yi{ys:List V}{cvs:List Value}{ns:List String}(hx:XTs X.K ct.f.cb mt)(hk:Paired (YA X.K ct.f.cb mt) cvs ns)(hy:∀us,Vals ys us->us=cvs):
  vE X (.builtin "isinstance") (λ xs H Q=>ay ct.f.L H/\ay ct.B H/\∃d v ks a,xs=[v,.ref a]/\H a=some (.tup ys)/\Tl X.K ct H d v/\kinds mt d=some ks/\Q (.bl (ns.any λ c=>ks.contains c)) H):=by
 intro pins s σ H xs us Q I r ⟨lL,lB,d,v,ks,a,ex,ha,t,hd,q⟩;subst ex;cases r with
 |cons r1 r2=>
  cases r2 with
  |cons r2 r3=>cases r3;cases r2;obtain ⟨nb,ty,P,Z,pp,k⟩:=Gd I lL lB t r1 hd hx;obtain ⟨_,its,ri,o,h1,h2,m,h3⟩:=I.hok a _ ha;have e:=hy _ ri;subst e;obtain ⟨oc,od,odt,osl⟩:=o;simp only at h2 h3;subst h2 h3;exact W.kia_tup Z I.Bl pp h1 (C9 (Paired.afe hk λ cv n z=>k cv n z)) nb λ tk=>⟨.bl _,H,I.tok tk,rfl,q⟩
def ad5{ys:List V}{cvs:List Value}{ns:List String}{cs:List Expr}{t:TA}{x1}(hm:X.mg "isinstance"=none)(hx:XTs X.K ct.f.cb mt)(hk:Paired (YA X.K ct.f.cb mt) cvs ns)(hy:∀us,Vals ys us->us=cvs)(he:WD X ct e f)(hc:WA X cs t)(ht:∀σ H Q,Q ys H->t σ H Q)(hl:ys.length<=100)(hg:Gl X "isinstance":=by rfl)(hs:starEach [e,.Tuple cs x1 p2] X.env=(false,eval e X.env)::starEach [.Tuple cs x1 p2] X.env:=by rfl)(hs2:starEach [.Tuple cs x1 p2] X.env=(false,eval (.Tuple cs x1 p2) X.env)::starEach [] X.env:=by rfl)(hpl:(backTo pos (starEach [.Tuple cs x1 p2] X.env)).any (·.1)=false:=by rfl):WD X ct (.Call (.Name "isinstance" p) [e,.Tuple cs x1 p2] [] pos) (LX mt ns f):=by
 have he:=he.out;have hc:=hc.out;refine ⟨?_⟩;refine PE.imp (qV (Yi hx hk hy) hg hm PyProof.Rows.boot_isinstance (nR he (nR (ZI hc) zh hs2) hs) (by decide) (by decide) hs hpl) λ σ H Q ⟨Γ,j,h⟩=>?_;refine sC.bnd j h λ d v H' s t' j' h'=>?_;cases q:yb mt ns d with
 |bad=>rw[q] at h';exact h'.elim
 |err c=>exact (Vu q).elim
 |ok x=>rw[q] at h';obtain ⟨ks,hks,rfl⟩:=Vt q;refine ht σ H' _ ⟨Nat.le_of_lt (uB (by omega)),λ a ha=>?_⟩;have s2:=bO ha (.tup ys);exact ⟨j'.lL.trans s2,j'.lB.trans s2,d,v,ks,a,rfl,aG,t'.keep (ay.keep s2),hks,h' (.bl _) _ (s.trans s2) (by simp[Tl])⟩
def wO(x y:Bool):(Value.bool x==Value.bool y)=decide (x=y):=by cases x<;>cases y<;>rfl
def aib:qw X (compareOp .Is) (λ x y H Q=>∃b:Bool,(y= .cY\/∃c,y= .bl c)/\b=decide (x=y)/\Q (.bl b) H):=by
 intro pins s σ H x y v u Q I rx ry ⟨b,hy,hb,q⟩;have hp:plainIs v u=true/\(v==u)=b:=by
  subst hb;rcases hy with rfl|⟨c,rfl⟩<;>cases ry<;>cases x<;>first
   |(cases rx;refine ⟨rfl,?_⟩;first|(rw[wO];simp;done)|(simp;done))
   |(obtain ⟨t,rfl⟩:=rx;refine ⟨rfl,?_⟩;simp;done)
 exact wpAny_is_plain hp.1 (by rw[hp.2];exact ⟨.bl b,H,I,rfl,q⟩)
def ZT:qw X (compareOp .IsNot) (λ x y H Q=>∃b:Bool,(y= .cY\/∃c,y= .bl c)/\b=decide (x=y)/\Q (.bl (!b)) H):=by
 intro pins s σ H x y v u Q I rx ry ⟨b,hy,hb,q⟩;have hp:plainIs v u=true/\(v==u)=b:=by
  subst hb;rcases hy with rfl|⟨c,rfl⟩<;>cases ry<;>cases x<;>first
   |(cases rx;refine ⟨rfl,?_⟩;first|(rw[wO];simp;done)|(simp;done))
   |(obtain ⟨t,rfl⟩:=rx;refine ⟨rfl,?_⟩;simp;done)
 exact wpAny_isNot_plain hp.1 (by rw[hp.2];exact ⟨.bl (!b),H,I,rfl,q⟩)
def agb{K:W.Frag}{H:Hp}{d y:D}{v u:V}{r:D}(t1:Tl K ct H d v)(t2:Tl K ct H y u)(h:XA d y= .ok r):(u= .cY\/∃c,u= .bl c)/\r= .bl (decide (v=u)):=by
 cases y with
 |cY=>
  simp only[Tl] at t2;subst t2;refine ⟨.inl rfl,?_⟩;cases d<;>simp only[XA,Res.ok.injEq] at h<;>subst h<;>simp only[Tl] at t1<;>first
   |(subst t1;simp)
   |(obtain ⟨a,z⟩:=t1;obtain ⟨b,z⟩:=z;obtain ⟨z,_⟩:=z;subst z;simp)
   |(obtain ⟨a,b,c,e,z,_⟩:=t1;subst z;simp)
 |bl b=>
  simp only[Tl] at t2;subst t2;refine ⟨.inr ⟨b,rfl⟩,?_⟩;cases d<;>simp only[XA,Res.ok.injEq] at h<;>subst h<;>simp only[Tl] at t1<;>first
   |(subst t1;simp;done)
   |(subst t1;rename_i c;cases c<;>cases b<;>rfl)
   |(obtain ⟨a,z⟩:=t1;obtain ⟨b,z⟩:=z;obtain ⟨z,_⟩:=z;subst z;simp)
   |(obtain ⟨a,b,c,e,z,_⟩:=t1;subst z;simp)
 |_=>cases h
def aih:FI X ct (λ x y H Q=>∃b:Bool,(y= .cY\/∃c,y= .bl c)/\b=decide (x=y)/\Q (.bl b) H) XA:=by
 intro σ H x y d1 d2 Q lL lB t1 t2 h;cases q:XA d1 d2 with
 |bad=>rw[q] at h;exact h.elim
 |err c=>cases d2<;>cases q
 |ok r=>rw[q] at h;obtain ⟨h1,rfl⟩:=agb t1 t2 q;exact ⟨_,h1,rfl,h _ H (ay.refl H) (by simp[Tl])⟩
def afv(d y:D):Gg d y=(XA d y).bnd λ r=>match r with
  | .bl b=> .ok (.bl (!b))
  |_=> .bad:=by
 cases y<;>first|rfl|(cases d<;>rfl)
def ZY:FI X ct (λ x y H Q=>∃b:Bool,(y= .cY\/∃c,y= .bl c)/\b=decide (x=y)/\Q (.bl (!b)) H) Gg:=by
 intro σ H x y d1 d2 Q lL lB t1 t2 h;rw[afv] at h;cases q:XA d1 d2 with
 |bad=>rw[q] at h;exact h.elim
 |err c=>cases d2<;>cases q
 |ok r=>rw[q] at h;obtain ⟨h1,rfl⟩:=agb t1 t2 q;exact ⟨_,h1,rfl,h _ H (ay.refl H) (by simp[Tl])⟩
def af9(ha:WD X ct a f)(hb:WD X ct b g):WD X ct (.Compare a [.Is] [b] pos) (aI XA f g):=by have ha:=ha.out;have hb:=hb.out;exact ⟨Cc aib aih ha hb (rP _)⟩
def YL(ha:WD X ct a f)(hb:WD X ct b g):JT X ct (.Compare a [.IsNot] [b] pos) (dT (aI Gg f g)):=by have ha:=ha.out;have hb:=hb.out;exact ⟨uF ZT ZY ha hb (rP _)⟩
def GF{K:W.Frag}{H:Hp}:∀{ds:List D} {bs:List Bool} {vs:List V},bools ds=some bs->aL K ct H ds vs->vs=bs.map V.bl
 |[],_,vs,h,t=>by cases h;simpa[aL] using t
 | .bl b::r,bs,vs,h,t=>by simp only[bools,Option.map_eq_some_iff] at h;obtain ⟨rs,h1,rfl⟩:=h;simp only[aL,Tl] at t;obtain ⟨v,vr,rfl,rfl,t2⟩:=t;rw[GF h1 t2];rfl
 | .cY::_,_,_,h,_=>by cases h
 | .int _::_,_,_,h,_=>by cases h
 | .str _::_,_,_,h,_=>by cases h
 | .tup _::_,_,_,h,_=>by cases h
 | .gt _::_,_,_,h,_=>by cases h
 | .lst _::_,_,_,h,_=>by cases h
 | .obj _ _ _::_,_,_,h,_=>by cases h
 | .exc _::_,_,_,h,_=>by cases h
 | .bor _ _::_,_,_,h,_=>by cases h
 | .uQ _ _::_,_,_,h,_=>by cases h
 | .yR _ _ _::_,_,_,h,_=>by cases h
 | .yQ _ _ _ _::_,_,_,h,_=>by cases h
def range_all(bs:List Bool):(List.range bs.length).all (λ i=>bs.getD i false)=bs.all id:=by
 rw[Bool.eq_iff_iff,List.all_eq_true,List.all_eq_true];constructor
 ·intro h b hb;obtain ⟨i,hi,rfl⟩:=List.getElem_of_mem hb;have:=h i (List.mem_range.mpr hi);simpa[List.getD_eq_getElem?_getD,hi] using this
 ·intro h i hi;have hi:=List.mem_range.mp hi;simpa[List.getD_eq_getElem?_getD,hi] using h bs[i] (List.getElem_mem hi)
def MO{pins:List (Addr×Obj)}{σ:St}{H:Hp}{s:Shared}{A:Around}{l:Addr}{bs:List Bool}{R:Value->Shared->Prop}{E:Value->Shared->Prop}(I:Inv X pins σ H s)(hA:A.handled=none)(hs:vD X.K H l (bs.map V.bl)) (k:∀I' fp wr n P St tr it s₂,it= .ref I'->Walks X.prog X.w A I' fp wr n P St->St 0 s₂.heap->TruthOf X.prog X.w A P tr->n=bs.length->tr=(λ i=>bs.getD i false)->(∀h' tk,(∀b o,b∉wr->s₂.heap.get? b=some o->h'.get? b=some o)->Inv X pins σ H {s₂ with heap:=h',toks:=tk})->R it s₂):wpAny (model X.prog X.w) A (pyIter (.ref l)) R E s:=by
 obtain ⟨its,ri,⟨o,n,h1,h2,h2',h3⟩,_⟩:=I.list hs;have hl:s.heap.IsList l its.toArray:=⟨o,h1,h2,n,h3⟩;have hlen:its.length=bs.length:=by rw[<-ri.length,List.length_map]
 refine wpAny_pyIter_list hl ?_;have hne:l≠s.heap.objs.size:=Nat.ne_of_lt (Heap.lt_size h1);refine k _ _ _ _ _ _ (λ i=>bs.getD i false) _ _ rfl (Walks.list hA s.heap.objs.size l hne its.toArray) ⟨⟨_,Heap.get?_push_size _ rfl,rfl,rfl⟩,⟨o,Heap.get?_push_of_some _ h1,h2,n,h3⟩⟩ ?_ (by simpa using hlen) rfl λ h' tk kp=>?_
 ·intro i v s' Q' E' hP hq;have hP:its.toArray[i]? =some v:=hP;rw[List.getElem?_toArray] at hP;have hi:i<bs.length:=by rw[<-hlen];exact (List.getElem?_eq_some_iff.mp hP).1
  obtain ⟨u,e1,e2⟩:=ri.get (i:=i) (x:= .bl bs[i]) (by rw[List.getElem?_map,List.getElem?_eq_getElem hi];rfl);rw[hP] at e1;cases e1;cases e2;have:bs.getD i false=bs[i]:=by simp[List.getD_eq_getElem?_getD,hi]
  have hq:Q' (bs.getD i false) s':=hq;rw[this] at hq;exact wpAny_pure hq
 ·refine I.kept (h':=h') (t':=tk) λ b ob e=>kp b ob ?_ (Heap.get?_push_of_some _ e);simp only[List.mem_singleton];exact Nat.ne_of_lt (Heap.lt_size e)
def abT(hc:X.calm=true):vE X (.builtin "all") (λ xs H Q=>∃(l:Addr) (bs:List Bool),xs=[.ref l]/\vD X.K H l (bs.map V.bl)/\Q (.bl (bs.all id)) H):=by intro pins s σ H xs us Q I r ⟨l,bs,ex,hs,q⟩;subst ex;obtain ⟨u,rfl,ru⟩:=vals1 r;cases ru;refine call_all_walk (MO I (I.ok.hd hc) hs λ I' fp wr n P St tr it s₂ e W st tt en et kp=>?_);subst en et;exact ⟨I',fp,wr,_,P,St,_,e,W,st,tt,λ h' tk k=>by rw[range_all];exact ⟨.bl _,H,kp h' tk k,rfl,q⟩⟩
def ahi{fa:Sg->Res (List D)}(hc:X.calm=true)(hm:X.mg "all"=none)(ha:D0 X ct [e] fa)(hg:Gl X "all":=by rfl)(he:starEach [e] X.env=(false,eval e X.env)::starEach [] X.env:=by rfl):WD X ct (.Call (.Name "all" p) [e] [] pos) (nv af0 fa):=by
 have ha:=ha.out;refine ⟨?_⟩;refine PE.imp (qV (abT hc) hg hm PyProof.Rows.boot_all ha (by decide) (by decide) he rfl) (Mf λ σ H vs ds Q lL lB t h=>?_);unfold af0 at h;split at h
 ·split at h
  ·rename_i es he';split at h
   ·rename_i bs hb;obtain ⟨v,rfl,tv⟩:=GR t;obtain ⟨l,us,rfl,h1,h2⟩:=tv.kg lL lB he';rw[GF hb h2] at h1;exact ⟨l,bs,rfl,h1,h _ H (ay.refl H) (by simp[Tl])⟩
   ·exact h.elim
  ·exact h.elim
 ·exact h.elim
end
def Fy:bootBuiltins "ValueError"=some (.type "ValueError"):=by decide+kernel
def ahk:∀us,Vals [] us->us=[]:=λ us h=>by cases h;rfl
def YX{C:Addr}{ys:List V}{cvs:List Value}(t:∀us,Vals ys us->us=cvs):∀us,Vals (.ref C::ys) us->us= .ref C::cvs:=λ us r=>by
 cases r with
 |cons r1 r2=>cases r1;rw[t _ r2]
section
variable{X:Cx}{ct:Ct}{c:Cf}{k n:Nat}{f:Addr}{fd:FuncData}{ps:List Str}{F:List Slot->cV}{x:Str}{p pos:Pos}{e:Expr}{es:List Expr}{fa:Sg->Res (List D)}
def cC(G:jR X.prog X.w X.K X.mg X.base c.z.f.cb k f fd ps F)(hr:fN k X.A)(hm:X.mg x=some (.ref f))(hk:W.keepIn X.K (.ref f)=true)(hb:Binds X.K fd ps [])(ha:D0 X c.z (e::es) fa)(hn:ps.length=n:=by rfl)(hg:Gl X x:=by rfl)(hdb:(x==("__debug__":Str))=false:=by decide)(he:starEach (e::es) X.env=(false,eval e X.env)::starEach es X.env:=by rfl)(hpl:(backTo pos (starEach es X.env)).any (·.1)=false:=by rfl):WD X c.z (.Call (.Name x p) (e::es) [] pos) (bz n F fa):=by have ha:=ha.out;refine ⟨?_⟩;subst hn;exact ZO (xw (bU c) G hr hm hk hb ha hg hdb he hpl)
def YV(G:jR X.prog X.w X.K X.mg X.base ct.f.cb k f fd ps F)(hr:fN k X.A)(hm:X.mg x=some (.ref f))(hk:W.keepIn X.K (.ref f)=true)(hb:Binds X.K fd ps [])(ha:D0 X ct (e::es) fa)(hn:ps.length=n:=by rfl)(hg:Gl X x:=by rfl)(hdb:(x==("__debug__":Str))=false:=by decide)(he:starEach (e::es) X.env=(false,eval e X.env)::starEach es X.env:=by rfl)(hpl:(backTo pos (starEach es X.env)).any (·.1)=false:=by rfl):WD X ct (.Call (.Name x p) (e::es) [] pos) (kW n F fa):=by have ha:=ha.out;refine ⟨?_⟩;subst hn;exact ZQ (xw (xU ct) G hr hm hk hb ha hg hdb he hpl)
def ahb(G:jR X.prog X.w X.K X.mg X.base ct.f.cb k f fd ps F)(hr:fN k X.A)(hm:X.mg x=some (.ref f))(hk:W.keepIn X.K (.ref f)=true)(hb:Binds X.K fd ps [])(ha:D0 X ct (e::es) fa)(hn:ps.length=n:=by rfl)(hg:Gl X x:=by rfl)(hdb:(x==("__debug__":Str))=false:=by decide)(he:starEach (e::es) X.env=(false,eval e X.env)::starEach es X.env:=by rfl)(hpl:(backTo pos (starEach es X.env)).any (·.1)=false:=by rfl):WM X ct (.Call (.Name x p) (e::es) [] pos) (v8 n F fa):=by have ha:=ha.out;refine ⟨?_⟩;subst hn;exact Kw (xw (xU ct) G hr hm hk hb ha hg hdb he hpl)
def YU(G:jR X.prog X.w X.K X.mg X.base ct.f.cb k f fd ps F)(hr:fN k X.A)(hm:X.mg x=some (.ref f))(hk:W.keepIn X.K (.ref f)=true)(hb:Binds X.K fd ps [])(ha:D0 X ct (e::es) fa)(hn:ps.length=n:=by rfl)(hg:Gl X x:=by rfl)(hdb:(x==("__debug__":Str))=false:=by decide)(he:starEach (e::es) X.env=(false,eval e X.env)::starEach es X.env:=by rfl)(hpl:(backTo pos (starEach es X.env)).any (·.1)=false:=by rfl):WD X ct (.Call (.Name x p) (e::es) [] pos) (r9 n F fa):=by have ha:=ha.out;refine ⟨?_⟩;subst hn;exact ZP (xw (Vj ct) G hr hm hk hb ha hg hdb he hpl)
end
def spL(K:W.Frag):Sp:=λ vs H Q _=>∃(a:Addr) (ns:List Int),vs=[.ref a]/\FzL K H a (ns.map V.int)/\ns.length<=63/\∀H',Q (.bl true) H'
def Ke{K:W.Frag}{ct:Ct}{H:Hp}:∀ns:List Int,aL K ct H (ns.map D.int) (ns.map V.int)
 |[]=>by simp[aL]
 |n::ns=>aL.cons (by simp[Tl]) (Ke ns)
def akF{l:W.OpenLaw}{q:Program}{loose:List Str}{XP:(Str->Option Value)->Heap->Prop}{YP:World->Heap->Prop}{d:DefRec}{K:Params->W.Frag}{k:Nat}{F:List Slot->cV}(hn:l.most=some 63)(hdf:d.params.defaults=[]) (h1:callerA.depth+3*k+5<recursionLimit) (h2:callerA.units+16*k+200<cLine) (hY:∀(w:World) (h:Heap),YP w h->(K w.params).In h) (hF:∀(w:World) (mg:Str->Option Value) (fa:Addr) (h:Heap),(K w.params).In h->h.Ns mainGlobals mg->mg d.name=some (.ref fa)->∃(cb:Cb) (fd:FuncData),(∀(s:Shared) (u:Value),BindsTo s fd ⟨[u],[]⟩ [("_law_script",u)])/\∀base:Heap,jR l.prog w (K w.params) mg base cb k fa fd ["_law_script"] F) (ht:∀ns:List Int,ns.length<=63->F [.val (.lst (ns.map D.int))]= .ok (.bl true)):W.WalkO q loose XP YP l.row.toRowW d [] (λ f vs=>PySem.call f vs):=by
 refine L2.ad7 (n:=63) (k:=k) (x:="_law_script") (K:=K) (CX:=λ w=>J3 l.prog w) (sp:=λ w=>spL (K w.params)) hn (by decide) hdf ⟨rfl,h1,h2⟩ hY (λ w mg fa h X G hm=>?_) (λ w H a ns hl hO hS=>⟨a,ns,rfl,?_,hl,λ _=>rfl⟩) (λ w H s e s' z=>?_)
 ·obtain ⟨cb,fd,hb,hf⟩:=hF w mg fa h X G hm;refine ⟨fd,hb,λ base _ _=>(hf base).imp λ vs H Q E ⟨a,ns,e1,fz,hl,hq⟩=>?_⟩;subst e1;refine ⟨rfl,kX cb (λ _=>none) [.ref a],[.val (.lst (ns.map D.int))],rfl,rfl,aaP (ds:=[.lst (ns.map D.int)]) (λ _ _ q=>nomatch q) (aL.cons ?_ aL.nil),?_⟩
  ·simp only[Tl];exact ⟨a,_,rfl,fz,Ke ns⟩
  ·rw[ht ns hl];intro v H' _ _ tv;simp only[Tl] at tv;subst tv;exact hq H'
 ·rcases hS with (h|⟨o,h⟩)|h
  ·rcases hO a with z|⟨o,xs,z⟩
   ·rw[z] at h;cases h
   ·rw[z] at h;cases h
  ·exact .inl ⟨o,h⟩
  ·exact .inr h
 ·obtain ⟨_,_,_,_,_,_,z,_⟩:=z;exact z.elim
def walkZ{l:W.OpenLaw}{q:Program}{loose:List Str}{XP:(Str->Option Value)->Heap->Prop}{d:DefRec}{K:Params->W.Frag}{as:List Addr}{nz tz:Nat}{k:Nat}{F:List Slot->cV}(hn:l.most=some 63)(hdf:d.params.defaults=[]) (h1:callerA.depth+3*k+5<recursionLimit) (h2:callerA.units+16*k+200<cLine) (hK:∀P,as=(K P).map (·.1)) (hF:∀(w:World) (mg:Str->Option Value) (fa:Addr) (h:Heap),(K w.params).In h->h.Ns mainGlobals mg->mg d.name=some (.ref fa)->∃(cb:Cb) (fd:FuncData),(∀(s:Shared) (u:Value),BindsTo s fd ⟨[u],[]⟩ [("_law_script",u)])/\∀base:Heap,jR l.prog w (K w.params) mg base cb k fa fd ["_law_script"] F) (ht:∀ns:List Int,ns.length<=63->F [.val (.lst (ns.map D.int))]= .ok (.bl true)):W.WalkX q loose XP (W.X.obsZ as) (W.X.valZ K nz tz) l.row.toRowW d [] (λ f vs=>PySem.call f vs):=λ w s₀ s₁ mg mb G y a o pm cd doc dV kV ho hd hcd hD hmg hg args vals as' L hpre hlay hrd hwl hlo=>akF (YP:=λ w h=>(K w.params).In h) hn hdf h1 h2 (λ _ _ Y=>Y) hF ht w s₀ s₁ mg mb G (W.InK.keeps w s₀.heap s₁.heap (W.X.z_facts hK y).2.1 (W.Laid.keeps L)) a o pm cd doc dV kV ho hd hcd hD hmg hg args vals as' hpre hlay hrd hwl hlo
section
variable{X:Cx}{ct:Ct}{c:Cf}{o e:Expr}{es:List Expr}{f m:Str}{fo g:Sg->Res D}{fa:Sg->Res (List D)}{pos apos:Pos}
def FA(K:W.Frag)(cb:Cb)(f:Str):Prop:=∀C,((∃c,cb.ins c=some C)\/∃c ns,cb.cls c=some (C,ns))->zZ K C/\uv K C f
def Bx{K:W.Frag}{H:Hp}:∀{ns:List Str} {xs:List D} {vs:List V} {d:D},aL K ct H xs vs->(ns.zip xs).lookup f=some d->∃v,(ns.zip vs).lookup f=some v/\Tl K ct H d v
 |[],xs,vs,d,t,h=>by simp at h
 |n::ns,[],vs,d,t,h=>by simp at h
 |n::ns,x::xs,vs,d,t,h=>by
  simp only[aL] at t;obtain ⟨v,r,rfl,t1,t2⟩:=t;simp only[List.zip_cons_cons,List.lookup_cons] at h ⊢;split at h
  ·cases h;exact ⟨v,rfl,t1⟩
  ·exact Bx t2 h
def ny(hf:FA X.K ct.f.cb f)(ho:WD X ct o fo)(hb:attributeBase o f X.env (eval o X.env)=eval o X.env:=by rfl):WD X ct (.Attribute o f pos) (qt f fo):=by
 have ho:=ho.out;refine ⟨?_⟩;refine PE.imp (ah6 ho hb) λ σ H Q ⟨Γ,j,h⟩=>?_;refine sC.bnd j h λ d v H' s t j' h'=>?_;cases d with
 |obj c ns xs=>
  simp only[Tl] at t;obtain ⟨a,C,dx,vs,rfl,h1,h2,h3,h4⟩:=t;simp only[Dl] at h';split at h'
  ·rename_i d hd;obtain ⟨v,q1,q2⟩:=Bx h4 hd;obtain ⟨z1,z2⟩:=hf C (.inr ⟨c,ns,h1⟩);exact ⟨a,C,dx,_,v,rfl,h2,z1,z2,q1,h' v H' s q2⟩
  ·exact h'.elim
 |yQ tm c ns xs=>
  simp only[Tl] at t;obtain ⟨a,C,dx,vs,rfl,h1,h2,h3,h4⟩:=t;have h2':H' a=some (.ins C dx (ns.zip vs)):=by
   cases tm with
   |true=>exact j'.lB a _ h2
   |false=>exact j'.lL a _ h2
  simp only[Dl] at h';split at h'
  ·rename_i d hd;obtain ⟨v,q1,q2⟩:=Bx h4 hd;obtain ⟨z1,z2⟩:=hf C (.inl ⟨c,h1⟩);exact ⟨a,C,dx,_,v,rfl,h2',z1,z2,q1,h' v H' s q2⟩
  ·exact h'.elim
 |_=>exact h'.elim
def JW(X:Cx)(cb:Cb)(m:Str)(n:Nat)(qH:List (String×(List Slot->cV))):Prop:=∀c C ns F,cb.cls c=some (C,ns)->qH.lookup c=some F->∃(k:Nat) (f:Addr) (fd:FuncData) (ps:List Str),zZ X.K C/\Meth X.K C m f/\jR X.prog X.w X.K X.mg X.base cb k f fd ps F/\fN k X.A/\Binds X.K fd ps []/\ps.length=n+1/\m∉ns
def zH{α:Type}:∀{ns:List Str} {vs:List α},m∉ns->(ns.zip vs).lookup m=none
 |[],vs,_=>by simp
 |n::ns,[],_=>by simp
 |n::ns,v::vs,h=>by
  simp only[List.zip_cons_cons,List.lookup_cons];have:(m==n)=false:=by simp only[List.mem_cons,not_or] at h;simpa using h.1
  rw[this];exact zH λ z=>h (.tail _ z)
variable{md:List D->Option (List D)}{bk:D->Bool}{zX:M->Bool}{qH:List (String×(List Slot->cV))}{n:Nat}
def aal(X:Cx)(ct:Ct)(md:List D->Option (List D))(bk:D->Bool)(zX:M->Bool)(n:Nat)(qH:List (String×(List Slot->cV)))(fo:Sg->Res D)(fa:Sg->Res (List D)):TE:=λ σ H Q=>∃Γ,Jx X ct Γ σ H/\Ok X ct σ H (fo Γ) λ d=>∃F,mY qH d=some F/\Ok X ct σ H (fa Γ) λ ds=>ds.length=n/\∃ds',md (d::ds)=some ds'/\∀H',ay H H'->UA X ct bk zX σ H' (F (ds'.map .val)) Q
def J6{pl:Sem Bool}(Z:DV ct md bk zX)(hm:JW X ct.f.cb m n qH)(ho:WD X ct o fo)(ha:D0 X ct (e::es) fa)(hst:starEach (e::es) X.env=(false,eval e X.env)::starEach es X.env:=by rfl)(hpl:(backTo pos (starEach es X.env)).any (·.1)=false:=by rfl)(ht:eval (.Call (.Attribute o m apos) (e::es) [] pos) X.env=(do
   let ov <-eval o X.env
   standAt apos.atName
   let (f,first) <-holding [ov] (getMethod ov m pl)
   callWith pos f first (backTo pos (starEach (e::es) X.env)) (backToKw pos (keywordEach [] X.env))):=by rfl):WE X (.Call (.Attribute o m apos) (e::es) [] pos) (aal X ct md bk zX n qH fo fa):=by
 have ho:=ho.out
 have ha:=ha.out
 refine ⟨?_⟩
 intro pins s σ H Q I ⟨Γ,j,h⟩
 have h1:sC X ct fo σ H (λ x H1=>∃d F,ay H H1/\Tl X.K ct H1 d x/\mY qH d=some F/\Ok X ct σ H (fa Γ) λ ds=>ds.length=n/\∃ds',md (d::ds)=some ds'/\∀H',ay H H'->UA X ct bk zX σ H' (F (ds'.map .val)) Q):=
  ⟨Γ,j,Ok.mono (ay.refl H) h λ d ⟨F,hF,q⟩ v H1 s1 t1=>⟨d,F,s1,t1,hF,q⟩⟩
 refine W.methodCall_KW (pl:=pl) (fO (ho pins s σ H _ I h1) λ u s1 ⟨x,H1,I1,rx,d,F,sm,t,hF,q⟩=>?_) ht
 cases d with
 |obj c ns xs=>
  have t0:=t
  simp only[Tl] at t
  obtain ⟨a,C,dx,vs0,rfl,g1,g2,g3,g4⟩:=t
  cases rx
  obtain ⟨kk,f,fd,ps,c1,c2,c3,c4,c5,c6,c7⟩:=hm c C ns F g1 hF
  refine Dj I1 g2 c1 c2 (zH c7) ?_
  have h2:VH X ct fa σ H1 (λ vs H2=>∃ds ds',ay H1 H2/\aL X.K ct H2 ds vs/\ds.length=n/\md (.obj c ns xs::ds)=some ds'/\UA X ct bk zX σ H2 (F (ds'.map .val)) Q):=
   ⟨Γ,j.mono sm,Ok.mono sm q λ ds ⟨q1,ds',q2,q3⟩ vs H2 s2 t2=>⟨ds,ds',s2,t2,q1,q2,q3 H2 (sm.trans s2)⟩⟩
  refine W.callWith_K (first:=[.ref a]) (h₀:=X.base) I.ok.mod.kin c2.kp (fO (ha pos pins s1 σ H1 _ I1 h2) λ us s2 ⟨vs,H2,I2,r,ds,ds',s12,tl,hl,hd,q⟩=>⟨I2.Bl,?_⟩) hst hpl
  have j2:=j.mono (sm.trans s12)
  obtain ⟨L,l,t2,q1,q2⟩:=Z.go X.K H2 (.obj c ns xs::ds) (.ref a::vs) ds' j2.lL j2.lB (aL.cons (t0.keep (ay.keep s12)) tl) hd
  exact G4 (us:= .ref a::us) (vs:= .ref a::vs) c3 c4 c5 I2 (.cons rfl r) l t2 (by simp[<-tl.length,hl,c6]) (JK q q1 q2)
 |_=>cases hF
def ly{pl:Sem Bool}(Z:DV ct md bk zX)(hm:JW X ct.f.cb m n qH)(ho:WD X ct o fo)(ht:eval (.Call (.Attribute o m apos) [] [] pos) X.env=(do
   let ov <-eval o X.env
   standAt apos.atName
   let (f,first) <-holding [ov] (getMethod ov m pl)
   callWith pos f first (backTo pos (starEach [] X.env)) (backToKw pos (keywordEach [] X.env))):=by rfl):WE X (.Call (.Attribute o m apos) [] [] pos) (aal X ct md bk zX n qH fo aB):=by
 have ho:=ho.out
 refine ⟨?_⟩
 intro pins s σ H Q I ⟨Γ,j,h⟩
 have h1:sC X ct fo σ H (λ x H1=>∃d F,ay H H1/\Tl X.K ct H1 d x/\mY qH d=some F/\0=n/\∃ds',md [d]=some ds'/\∀H',ay H H'->UA X ct bk zX σ H' (F (ds'.map .val)) Q):=
  ⟨Γ,j,Ok.mono (ay.refl H) h λ d ⟨F,hF,q⟩ v H1 s1 t1=>⟨d,F,s1,t1,hF,q⟩⟩
 refine W.methodCall_KW (pl:=pl) (fO (ho pins s σ H _ I h1) λ u s1 ⟨x,H1,I1,rx,d,F,sm,t,hF,hl,ds',hd,q⟩=>?_) ht
 cases d with
 |obj c ns xs=>
  have t0:=t
  simp only[Tl] at t
  obtain ⟨a,C,dx,vs0,rfl,g1,g2,g3,g4⟩:=t
  cases rx
  obtain ⟨kk,f,fd,ps,c1,c2,c3,c4,c5,c6,c7⟩:=hm c C ns F g1 hF
  refine Dj I1 g2 c1 c2 (zH c7) ?_
  have j2:=j.mono sm
  obtain ⟨L,l,t2,q1,q2⟩:=Z.go X.K H1 [.obj c ns xs] [.ref a] ds' j2.lL j2.lB (aL.cons t0 aL.nil) hd
  exact W.callWith_K0 (first:=[.ref a]) I1.Bl c2.kp (G4 (us:=[.ref a]) (vs:=[.ref a]) c3 c4 c5 I1 (.cons rfl .nil) l t2 (by simp[c6, <-hl]) (JK (q H1 sm) q1 q2))
 |_=>cases hF
def U1{gm:Sg->Res M}(h:PE X e (aal X ct md bk zX n qH fo fa))(hg:∀Γ,gm Γ=(fo Γ).bnd λ o=>match mY qH o with
  |some F=>(fa Γ).bnd λ ds=>if ds.length=n then (match md (o::ds) with
   |some ds'=>(match F (ds'.map .val) with
    | .ok d=>if bk d=true then .ok (.d d) else .bad
    | .new m=>if zX m=true then .ok m else .bad
    | .err x=> .err x
    |_=> .bad)
   |none=> .bad) else .bad
  |none=> .bad):PM X ct e gm:=by
 refine PE.imp h λ σ H Q ⟨Γ,j,q⟩=>⟨Γ,j,?_⟩;rw[hg] at q;refine q.bnd λ o _ q=>?_;split at q
 ·rename_i F hF;refine ⟨F,hF,q.bnd λ ds _ q=>?_⟩;split at q
  ·rename_i hl;split at q
   ·rename_i ds' hd;refine ⟨hl,ds',hd,λ H' s=>?_⟩;cases z:F (ds'.map .val) with
    |ok d=>
     rw[z] at q;dsimp only at q;split at q
     ·rename_i hb;exact ⟨hb,(Wm.data q).mono s⟩
     ·exact q.elim
    |new m=>
     rw[z] at q;dsimp only at q;split at q
     ·rename_i hb;exact ⟨hb,Wm.mono s q⟩
     ·exact q.elim
    |err x=>rw[z] at q;exact λ e s' r=>q e s' (r.mono s)
    |MA d os=>rw[z] at q;exact q.elim
    |CA d os=>rw[z] at q;exact q.elim
    |bad=>rw[z] at q;exact q.elim
   ·exact q.elim
  ·exact q.elim
 ·exact q.elim
def Lf(a:cV):rR a=(match a with
    | .ok d=>if true=true then .ok (.d d) else .bad
    | .new m=>if true=true then .ok m else .bad
    | .err x=> .err x
    |_=> .bad):=by cases a<;>simp[rR]
def qA(h:WE X e (aal X c.z some (λ _=>true) (λ _=>true) n qH fo fa)):WM X c.z e (vj n qH fo fa):=by
 have h:=h.out;exact ⟨U1 h λ Γ=>by
 unfold vj;cases fo Γ with
 |ok o=>
  simp only[Res.bD];cases mY qH o with
  |none=>rfl
  |some F=>
   simp only;cases fa Γ with
   |ok ds=>
    simp only[Res.bD];by_cases hl:ds.length=n
    ·simp only[hl,if_true];exact Lf _
    ·simp[hl]
   |err x=>rfl
   |bad=>rfl
 |err x=>rfl
 |bad=>rfl⟩
def BC(h:WE X e (aal X ct (λ ds=>if fV ds=true then some ds else none) (λ _=>true) (λ _=>true) n qH fo fa)):WM X ct e (qp n qH fo fa):=by
 have h:=h.out;exact ⟨U1 h λ Γ=>by
 unfold qp;cases fo Γ with
 |ok o=>
  simp only[Res.bD];cases mY qH o with
  |none=>rfl
  |some F=>
   simp only;cases fa Γ with
   |ok ds=>
    simp only[Res.bD];by_cases hl:ds.length=n
    ·by_cases hn:fV (o::ds)=true
     ·simp only[hl,hn,and_self,if_true,Lf]
     ·simp[hl,hn]
    ·simp[hl]
   |err x=>rfl
   |bad=>rfl
 |err x=>rfl
 |bad=>rfl⟩
def Kq{α:Type}{y:V}:∀{ns:List Str} {vs:List V},ns.length=vs.length->f∉ns->rH f y (ns.zip vs)=(ns++[f]).zip (vs++[y])
 |[],[],_,_=>rfl
 |[],_::_,h,_=>by simp at h
 |n::ns,[],h,_=>by simp at h
 |n::ns,v::vs,h,hn=>by simp only[List.mem_cons,not_or] at hn;have:¬n=f:=λ z=>hn.1 z.symm;simp only[List.zip_cons_cons,rH,this,if_false,List.cons_append];rw[Kq (α:=α) (by simpa using h) hn.2]
noncomputable def ajG(cb:Cb)(ft:List (String×List Str)):Prop:=∀c C full,cb.ins c=some C->ft.lookup c=some full->∀c' ns',cb.cls c'=some (C,ns')->ns'=full
def oG(i:Nat){x:Str}{px pa:Pos}{ft:List (String×List Str)}(hf:FA X.K c.cb f)(ht:ajG c.cb ft)(he:∀B,WD X (c.at' B) e g)(hN:X.N[i]? =some x:=by rfl)(hv:Uv X.env.scope x:=by first|exact Or.inl rfl|exact Or.inr (Or.inl rfl)|exact Or.inr (Or.inr rfl))(hd:(x==("__debug__":Str))=false:=by decide)(hcd:(x==("__classdict__":Str))=false:=by decide)(hs:swapsWith e (some (.Attribute (.Name x px) f pa)) pos.line X.env=pure false:=by rfl):yS X c (.Assign [.Attribute (.Name x px) f pa] e pos) (oU i ft f g):=by
 have he:=λ B=>(he B).out;refine ⟨?_⟩;intro pins s σ H E I ⟨Γ,j,h⟩;refine ahV (UZ (ct:=c.at' H) i hN hv hd hcd) (he H) hs pins s σ H E I ?_;refine ⟨Γ,j.lift,Fn.ok j h λ d _ q y H1 s1 t=>?_⟩;refine ⟨Γ,j.lift.mono s1,Ok.mono (H:=H) s1 (Fn.ok (tm:=true) (B:=H) j q λ ks _ q v H2 s2 pa=>?_) λ _ z=>z⟩;have sm:=s1.trans s2;have j2:=j.mono sm;have ty:=t.keep (ay.keep s2);obtain ⟨sl,m,v0,m',p1,p2,p3,p4,p5⟩:=pa;have e1:vg i ks (B3 ft f d) Γ=(B3 ft f d m').map λ jA=>Γ.set i (Wo sl (mW m ks jA)):=by unfold vg;rw[p1,Option.bind_some,p2,Option.bind_some,p5,Option.bind_some]
 rw[e1] at q;cases z:B3 ft f d m' with
 |none=>rw[z] at q;exact q.elim
 |some jA=>
  rw[z] at q;cases m' with
  |o cn ns xs=>
   simp only[B3,Option.bind_eq_some_iff] at z;obtain ⟨full,zf,z⟩:=z;split at z
   ·rename_i hc;cases z;obtain ⟨vv,S,g1,o1⟩:=j2.ofM p1 p2;rw[p3] at g1;cases g1;obtain ⟨S',o',_⟩:=o1.OB p4 p5;simp only[Ow] at o';obtain ⟨a,C,dx,vs,rfl,q2,q3,q4,q5,q6⟩:=o';obtain ⟨c1,c2⟩:=hf C (.inl ⟨cn,q3⟩);have kp:aU c.cb H2 (upd H2 a (.ins C dx (rH f y (ns.zip vs)))):=λ b o hb st=>by
     have:b≠a:=by
      rintro rfl
      rw[q4] at hb;cases hb;obtain ⟨c',ns',w1,w2⟩:=st;have w3:=ht cn C full q3 zf c' ns' w1;rw[By q5] at w2;rw[w2,w3] at hc;omega
     rw[aF this];exact hb
    refine ⟨a,C,dx,_,rfl,q4,c1,c2,by rw[List.length_zip];omega,?_⟩;refine q σ _ ((ay.keep sm).trans kp) (j2.up p1 p2 p3 p4 p5 kp λ S' o=>?_);simp only[Ow] at o ⊢;obtain ⟨a',C',dx',us,w1,w2,w3,w4,w5,w6⟩:=o;cases w1;rw[q4] at w4;simp only[Option.some.injEq,HO.ins.injEq] at w4;obtain ⟨rfl,rfl,w4⟩:=w4;have euv:us=vs:=by have:=congrArg (List.map Prod.snd) w4;rw[List.map_snd_zip (by omega),List.map_snd_zip (by omega)] at this;exact this.symm
    subst euv;refine ⟨w2,a,C,dx,us++[y],rfl,w2,w3,?_,by simp[q5],(w6.append (aL.cons (Tl.down (B:=H) (tm:=true) ty hc.1) aL.nil)).keep kp⟩;rw[aG,Kq (α:=V) q5 hc.2.2.2]
   ·cases z
  |_=>cases z
end
section
variable{X:Cx}{ct:Ct}{c:Cf}{o e:Expr}{es:List Expr}{x:Str}{fa:Sg->Res (List D)}{p pos:Pos}{md:List D->Option (List D)}{bk:D->Bool}{zX:M->Bool}{n k:Nat}{F:List Slot->cV}{cn:String}{ns:List Str}{C f:Addr}{fd:FuncData}{ps:List Str}
def Yw(X:Cx)(ct:Ct)(bk:D->Bool)(cn:String)(ns:List Str)(σ:St)(H:Hp)(a:cV)(Q:VK):Prop:=match oY cn ns a with
 | .ok d=>bk d=true/\Wd X ct H Q d
 | .err x=>∀e s',jr X ct.f.cb σ H x e s'->X.xe e s'
 | .bad=>False
def WH{m:M}:∀{Γ:Sg},bP 0 Γ=[(0,m)]->Γ[0]? =some (.par m)
 |[],h=>by cases h
 | .par m'::r,h=>by simp only[bP,List.cons.injEq,Prod.mk.injEq] at h;obtain ⟨⟨_,rfl⟩,_⟩:=h;rfl
 | .no::r,h=>by simp only[bP] at h;exact absurd h (qW r 0)
 | .val d::r,h=>by simp only[bP] at h;exact absurd h (qW r 0)
 | .own d::r,h=>by simp only[bP] at h;exact absurd h (qW r 0)
where qW {m:M}:∀(Γ:Sg) (i:Nat),bP (i+1) Γ≠[(0,m)]
 |[],i,h=>by cases h
 | .par m'::r,i,h=>by
  simp only[bP,List.cons.injEq,Prod.mk.injEq] at h
  omega
 | .no::r,i,h=>by simp only[bP] at h;exact qW r (i+1) h
 | .val _::r,i,h=>by simp only[bP] at h;exact qW r (i+1) h
 | .own _::r,i,h=>by simp only[bP] at h;exact qW r (i+1) h
def aiE{K:W.Frag}{cb:Cb}{L H:Hp}{ds:List D}{vs:List V}{a dx:Addr}(l:ay L H)(t:aL K (kX cb L vs).z H ds vs)(ha:H a=none)(hd:H dx=none)(ne:dx≠a)(hc:cb.ins cn=some C):
  J K (Cf.z ⟨cb,L,λ b=>b=a,.ref a::vs⟩) (upd (upd H dx (.own a)) a (.ins C dx [])) (.par (.o cn [] [])::ds.map .val) ((V.ref a::vs).map some) (upd (upd H dx (.own a)) a (.ins C dx [])):=by
 have sm:ay H (upd (upd H dx (.own a)) a (.ins C dx [])):=(bO hd _).trans (bO (by rw[aF (Ne.symm ne)];exact ha) _);refine ⟨λ _ _ q _=>q,λ _ q=>q,l.trans sm,λ _ _ q=>(nomatch q),by simp[t.length],λ i b=>i=0/\b=a,λ i sl ov h1 h2=>?_,λ i j b hij z z'=>hij (z.1.trans z'.1.symm),λ i b z q=>?_⟩
 ·cases i with
  |zero=>
   cases h1;cases h2;refine ⟨.ref a,rfl,?_,⟨λ b z=> .inr z.2,λ b z q=>?_,λ b z=>?_,λ b z t=>nomatch t⟩,rfl⟩
   ·simp only[Ow];exact ⟨a,C,dx,[],rfl,by simp,hc,aG,rfl,aL.nil⟩
   ·rw[z.2,aG] at q;cases q
   ·cases w:L b with
    |none=>exact w
    |some o=>have:=l b o w;rw[z.2,ha] at this;cases this
  |succ i=>
   simp only[List.getElem?_cons_succ,List.getElem?_map,List.map_cons] at h1 h2;cases q:ds[i]? with
   |none=>rw[q] at h1;cases h1
   |some d=>obtain ⟨v,e1,e2⟩:=t.get q;rw[q] at h1;rw[e1] at h2;cases h1;cases h2;refine ⟨⟨v,rfl,wR (ct:=(kX cb L vs).z) (i6:=Cf.z ⟨cb,L,λ b=>b=a,.ref a::vs⟩) rfl (λ t a o z=>by cases t<;>exact z) (e2.keep (ay.keep sm))⟩,λ b z=>absurd z.1 (by simp)⟩
 ·rw[z.2,aG] at q;cases q
def Wi{pins:List (Addr×Obj)}{σ:St}{H L:Hp}{s:Shared}{Q:VK}{us:List Value}{vs:List V}{ds:List D}(Mc:Mk X.K C f)(G:jR X.prog X.w X.K X.mg X.base ct.f.cb k f fd ps F)(hr:fN (k+1) X.A)(hb:Binds X.K fd ps [])(hci:ct.f.cb.ins cn=some C)(hcc:ct.f.cb.cls cn=some (C,ns)) (I:Inv X pins σ H s) (r:Vals vs us) (l:ay L H) (t:aL X.K (kX ct.f.cb L vs).z H ds vs) (hn:vs.length+1=ps.length) (q1:∀H' d v,bk d=true->Tl X.K (kX ct.f.cb L vs).z H' d v->Tl X.K ct H' d v) (h:Yw X ct bk cn ns σ H (F (.par (.o cn [] [])::ds.map .val)) Q):wpAny (model X.prog X.w) X.A (call (.ref C) us) (EP X pins σ Q) X.xe s:=by
 have hx0:H (s.heap.objs.size+1)=none:=I.hok.fresh (Nat.le_succ _);have hd0:H s.heap.objs.size=none:=I.hok.fresh (Nat.le_refl _);have hne:s.heap.objs.size≠s.heap.objs.size+1:=Nat.ne_of_lt (Nat.lt_succ_self _);have I2:=Inv.made (C:=C) I;have smm:ay H (upd (upd H s.heap.objs.size (.own (s.heap.objs.size+1))) (s.heap.objs.size+1) (.ins C s.heap.objs.size [])):=(bO hd0 _).trans (bO (by rw[aF (Ne.symm hne)];exact hx0) _);have r2:Vals (V.ref (s.heap.objs.size+1)::vs) (Value.ref (s.heap.objs.size+1)::us):= .cons rfl r;have hl:(Value.ref (s.heap.objs.size+1)::us).length=ps.length:=by rw[<-r2.length];exact hn
 have hb':=hb {s with heap:=(s.heap.push W.emptyDict).push (W.instObj C s.heap.objs.size)} (Value.ref (s.heap.objs.size+1)::us) I2.Bl (by rw[List.append_nil];exact hl);rw[List.append_nil] at hb';let E:XK:=λ cls od H'=>∃x C',F (.par (.o cn [] [])::ds.map .val)= .err x/\ct.f.cb.exc x=some C'/\cls= .ref C'/\od=none/\ay H H'
 have J1:spD X.K ct.f.cb ps.length F (V.ref (s.heap.objs.size+1)::vs) (upd (upd H s.heap.objs.size (.own (s.heap.objs.size+1))) (s.heap.objs.size+1) (.ins C s.heap.objs.size [])) (λ v H2=>v= .cY/\Q (.ref (s.heap.objs.size+1)) H2) E:=by
  refine ⟨hn,⟨ct.f.cb,L,λ b=>b=s.heap.objs.size+1,_⟩,_,rfl,rfl,aiE l t hx0 hd0 hne hci,?_⟩;unfold Yw at h;cases z:F (.par (.o cn [] [])::ds.map .val) with
  |ok d=>rw[z] at h;exact h.elim
  |new d=>rw[z] at h;exact h.elim
  |CA d os=>rw[z] at h;exact h.elim
  |bad=>rw[z] at h;exact h.elim
  |err x=>refine λ C' H' e sm=>⟨x,C',z,e,rfl,rfl,λ b o w=>sm b o (smm b o w) ?_⟩;intro w2;have w2:b=s.heap.objs.size+1:=w2;rw[w2,hx0] at w;cases w
  |MA d os=>
   rw[z] at h;unfold oY at h;split at h
   ·rename_i d' hm;split at hm
    ·rename_i c' ns' xs e1;split at hm
     ·rename_i hc;obtain ⟨rfl,rfl⟩:=hc;cases hm;cases e1;intro v Γ' σ' H' j' ho tv;simp only[Tl] at tv;refine ⟨tv,?_⟩;have hz:=WH ho;obtain ⟨v',S,g1,g2,g3,g4⟩:=j'.par hz;simp only[Ow] at g2;obtain ⟨a,C',dx,us',e1,w2,w3,w4,w5,w6⟩:=g2;subst e1;have:a=s.heap.objs.size+1:=by have:=g4;simp only[Cf.z,List.getElem?_cons_zero,Option.some.injEq,V.ref.injEq] at this;exact this.symm
      subst this;have hCC:C'=C:=by have w3:ct.f.cb.ins c'=some C':=w3;rw[hci] at w3;exact (Option.some.inj w3).symm
      subst hCC;refine h.2 _ H' (λ b o w=>j'.same b o (smm b o w) ?_) (q1 H' _ _ h.1 ?_)
      ·intro w2';have w2':b=s.heap.objs.size+1:=w2';rw[w2',hx0] at w;cases w
      ·simp only[Tl];refine ⟨_,C',dx,us',rfl,hcc,w4,w5,?_⟩;exact wQ (ct:=Cf.z ⟨ct.f.cb,L,λ b=>b=s.heap.objs.size+1,.ref (s.heap.objs.size+1)::vs⟩) (i6:=(kX ct.f.cb L vs).z) rfl (λ t a o z=>by cases t<;>exact z) w6
     ·cases hm
    ·cases hm
    ·cases hm
   ·rename_i x hm;split at hm
    ·split at hm<;>cases hm
    ·rename_i y e1;cases e1
    ·cases hm
   ·exact h.elim
 refine wpAny_call (aam (f:=f) I.Bl Mc.makes Mc.init (beq_iff_eq.mp Mc.fn) (codeAny_mono (G.run _ X.stack _ _ ⟨Value.ref (s.heap.objs.size+1)::us,[]⟩ (Value.ref (s.heap.objs.size+1)::us) _ _ E (hr.make C us [])
  (I2.ai7.make C us []) hb' r2 J1) λ r s' hq=>?_))
 cases r with
 |error e=>
  obtain ⟨a,C',H',B,a0,h1,⟨x,C2,w1,w2,w3,w4,w5⟩,h3,h4,h5,h6,h6',h7⟩:=hq;unfold Yw at h;rw[w1] at h;cases w3;have nw:s.heap.get? a=none:=by
   cases z:s.heap.get? a with
   |none=>rfl
   |some ob=>have:((s.heap.push W.emptyDict).push (W.instObj C s.heap.objs.size)).get? a=some ob:=Heap.get?_push_of_some _ (Heap.get?_push_of_some _ z);rw[this] at h6';cases h6'
  refine h e s' ⟨pins,H,s,C',I,ay.refl H,w2,.inr ⟨a,C',H',B,a0,h1,⟨rfl,rfl,w5⟩,h3,h4,h5,h6,nw,λ h' st up=>?_⟩⟩;obtain ⟨un,hok⟩:=h7 h' st up;have push:∀b o,s.heap.get? b=some o->((s.heap.push W.emptyDict).push (W.instObj C s.heap.objs.size)).get? b=some o:=λ b o q=>Heap.get?_push_of_some _ (Heap.get?_push_of_some _ q);have nn:∀b o,s.heap.get? b=some o->H b=none->upd (upd H s.heap.objs.size (.own (s.heap.objs.size+1))) (s.heap.objs.size+1) (.ins C s.heap.objs.size []) b=none:=λ b o q n=>by have lt:=Heap.lt_size q;rw[aF (Nat.ne_of_lt (Nat.lt_succ_of_lt lt)),aF (Nat.ne_of_lt lt)];exact n
  exact ⟨⟨λ b o q n hb hx=>un.keep b o (push b o q) (nn b o q n) hb hx,λ b o q n hb hx=>un.slot b o (push b o q) (nn b o q n) hb hx,λ b o q n hx=>un.free b o (push b o q) (nn b o q n) hx,λ b o q hx=>un.there b o (push b o q) hx,λ b xs q=>un.tups b xs (smm b _ q),λ b o u q=>un.yf b o u (smm b _ q),λ b ps q=>un.y9 b ps (smm b _ q)⟩,hok⟩
 |ok fl=>
  cases fl with
  |ret u=>obtain ⟨v,H',I3,rv,ev,q3⟩:=I2.after hq;subst ev;exact ⟨rv,⟨V.ref (s.heap.objs.size+1),H',I3,rfl,q3⟩⟩
  |next=>exact False.elim hq
  |brk=>exact False.elim hq
  |cont=>exact False.elim hq
def ae4(X:Cx)(ct:Ct)(md:List D->Option (List D))(bk:D->Bool)(cn:String)(ns:List Str)(n:Nat)(F:List Slot->cV)(fa:Sg->Res (List D)):TE:=λ σ H Q=>∃Γ,Jx X ct Γ σ H/\Ok X ct σ H (fa Γ) λ ds=>ds.length=n/\∃ds',md ds=some ds'/\∀H',ay H H'->Yw X ct bk cn ns σ H' (F (.par (.o cn [] [])::ds'.map .val)) Q
def oF(Z:DV ct md bk zX)(Mc:Mk X.K C f)(G:jR X.prog X.w X.K X.mg X.base ct.f.cb k f fd ps F)(hr:fN (k+1) X.A)(hb:Binds X.K fd ps [])(hci:ct.f.cb.ins cn=some C)(hcc:ct.f.cb.cls cn=some (C,ns))(hm:X.mg x=some (.ref C))(ha:D0 X ct (e::es) fa)(hn:ps.length=n+1)(hg:Gl X x:=by rfl)(hdb:(x==("__debug__":Str))=false:=by decide)(he:starEach (e::es) X.env=(false,eval e X.env)::starEach es X.env:=by rfl)(hpl:(backTo pos (starEach es X.env)).any (·.1)=false:=by rfl):WE X (.Call (.Name x p) (e::es) [] pos) (ae4 X ct md bk cn ns n F fa):=by
 have ha:=ha.out;refine ⟨?_⟩;intro pins s σ H Q I ⟨Γ,j,h⟩;refine wpAny_Call_Name_kw (uH I hg hm ?_ hdb);have h':VH X ct fa σ H (λ vs H1=>∃ds ds',ay H H1/\aL X.K ct H1 ds vs/\ds.length=n/\md ds=some ds'/\Yw X ct bk cn ns σ H1 (F (.par (.o cn [] [])::ds'.map .val)) Q):=
  ⟨Γ,j,Ok.mono (ay.refl H) h λ ds ⟨q1,ds',q2,q3⟩ vs H1 s1 t1=>⟨ds,ds',s1,t1,q1,q2,q3 H1 s1⟩⟩
 refine W.callWith_K (h₀:=X.base) I.ok.mod.kin Mc.kp (fO (ha pos pins s σ H _ I h') λ us s1 ⟨vs,H1,I1,r,ds,ds',sm,t1,hl,hd,q⟩=>⟨I1.Bl,?_⟩) he hpl;have j1:=j.mono sm;obtain ⟨L,l,t2,q1,_⟩:=Z.go X.K H1 ds vs ds' j1.lL j1.lB t1 hd;exact Wi Mc G hr hb hci hcc I1 r l t2 (by rw[<-t1.length,hl,hn]) q1 q
def U6{gd:Sg->Res D}(h:PE X e (ae4 X ct md bk cn ns n F fa))(hg:∀Γ,gd Γ=(fa Γ).bnd λ ds=>if ds.length=n then (match md ds with
   |some ds'=>(match oY cn ns (F (.par (.o cn [] [])::ds'.map .val)) with
    | .ok d=>if bk d=true then .ok d else .bad
    | .err x=> .err x
    | .bad=> .bad)
   |none=> .bad) else .bad):PD X ct e gd:=by
 refine PE.imp h λ σ H Q ⟨Γ,j,q⟩=>⟨Γ,j,?_⟩;rw[hg] at q;refine q.bnd λ ds _ q=>?_;split at q
 ·rename_i hl;split at q
  ·rename_i ds' hd;refine ⟨hl,ds',hd,λ H' s=>?_⟩;unfold Yw;cases z:oY cn ns (F (.par (.o cn [] [])::ds'.map .val)) with
   |ok d=>
    rw[z] at q;dsimp only at q ⊢;split at q
    ·rename_i hb;exact ⟨hb,Wd.mono s q⟩
    ·exact q.elim
   |err x=>rw[z] at q;exact λ e s' r=>q e s' (r.mono s)
   |bad=>rw[z] at q;exact q.elim
  ·exact q.elim
 ·exact q.elim
def aes(r:Res D):r=(match r with
    | .ok d=>if true=true then .ok d else .bad
    | .err x=> .err x
    | .bad=> .bad):=by cases r<;>simp
def ahK(r:Res D):nbX cn ns r=(match r with
    | .ok d=>if nb d=true then .ok d else .bad
    | .err x=> .err x
    | .bad=> .bad):=by cases r<;>simp[nbX]
def qE(h:WE X e (ae4 X c.z some (λ _=>true) cn ns n F fa)):WD X c.z e (t9 n cn ns F fa):=by
 have h:=h.out;exact ⟨U6 h λ Γ=>by
 unfold t9;cases fa Γ with
 |ok ds=>
  simp only[Res.bD];by_cases hl:ds.length=n
  ·simp only[hl,if_true];exact aes _
  ·simp[hl]
 |err x=>rfl
 |bad=>rfl⟩
def YT(h:WE X e (ae4 X ct (λ ds=>some (vp ds)) nb cn ns n F fa)):WD X ct e (zQ n cn ns F fa):=by
 have h:=h.out;exact ⟨U6 h λ Γ=>by
 unfold zQ;cases fa Γ with
 |ok ds=>
  simp only[Res.bD];by_cases hl:ds.length=n
  ·simp only[hl,if_true];exact ahK _
  ·simp[hl]
 |err x=>rfl
 |bad=>rfl⟩
end
section
variable{P:Program}{w:World}{K:W.Frag}{mg:Str->Option Value}{base:Heap}{cb:Cb}
def aiZ{x qual:Str}{st:Stmt}{f:Addr}{fd:FuncData}{N ps:List Str}{k:Nat}{F:List Slot->cV}{B:Nat->Sg->Out}(Yx:nM K x qual st f fd)(S:qg N ps (aA st)) (hbody:∀(c:Cf) (cdv:Value) (A:Around) (outer:List Env) (s:Shared) (H:Hp) (E:XK),c.cb=cb->fN k (A.deeper (envOfC qual (aA st) s.heap.objs.size f cdv))->Good (qu (J3 P w) P w K mg base N qual (aA st) f cdv A outer s H E)->∀n,amZ (qu (J3 P w) P w K mg base N qual (aA st) f cdv A outer s H E) c (aH st) (B n)) (hF:∀as,as.length=ps.length->F as≠.bad->∃n,A4 (B n (cN N as))=F as):jR P w K mg base cb (k+1) f fd ps F:=by
 obtain ⟨oc,od,kV,doc,pm,an,cdv,i6,osl,rfl,lk,hcd⟩:=Yx.ex;refine agv lk hcd S (λ vs H Q E h=>h.1) λ A outer s H vs Q E hr J1=>?_;obtain ⟨hn,c,as,ecb,al8,j,h⟩:=J1;have hl:as.length=vs.length:=by have:=j.len;simpa using this
 have hb:F as≠.bad:=λ z=>by rw[z] at h;exact h
 obtain ⟨n,hF⟩:=hF as (by rw[hl];exact hn) hb;refine ⟨_,hbody c cdv A outer s H E ecb hr ⟨PassesOwn.leaving,rfl,S.nd,rfl,rfl⟩ n,cN N as,Vq j,?_⟩;rw[<-hF] at h;cases q:B n (cN N as) with
 |nx Γ=>rw[q] at h;exact λ σ' H' _ j=>h .cY Γ σ' H' j rfl (by simp[Tl])
 |bk Γ=>rw[q] at h;exact h.elim
 |ct Γ=>rw[q] at h;exact h.elim
 |rt d=>rw[q] at h;exact λ v H' b t=>h v H' b.same b.free t
 |Wj m=>rw[q] at h;exact λ v H' S b o n k=>h v H' S b.same b.free o n k
 |rtG d Γ=>rw[q] at h;exact λ v σ' H' j t=>h v Γ σ' H' j rfl t
 |BX d Γ=>rw[q] at h;exact λ σ' H' i v j g1 g2=>h Γ σ' H' i v j rfl g1 g2
 |err x Γ=>rw[q] at h;exact λ σ' H' e s' _ j r=>Li (ecb▸r) λ C H2 hc s=>h C H2 hc λ b o z n=>s b o (j.same b o z n)
 |bad=>rw[q] at h;exact h.elim
def ad0{x qual:Str}{st:Stmt}{f:Addr}{fd:FuncData}{N ps:List Str}{k:Nat}{F:List Slot->cV}{B:Nat->Sg->Out}(Yx:nM K x qual st f fd)(S:qg N ps (aA st))(hbody:∀(c:Cf) (cdv:Value) (A:Around) (outer:List Env) (s:Shared) (H:Hp) (E:XK),c.cb=cb->fN k (A.deeper (envOfC qual (aA st) s.heap.objs.size f cdv))->Good (qu (J3 P w) P w K mg base N qual (aA st) f cdv A outer s H E)->∀n,ve (qu (J3 P w) P w K mg base N qual (aA st) f cdv A outer s H E) c (aH st) (B n)) (hF:∀as,as.length=ps.length->F as≠.bad->∃n,A4 (B n (cN N as))=F as):jR P w K mg base cb (k+1) f fd ps F:=aiZ (Yx:=Yx) (S:=S) (hbody:=(λ c cdv A outer s H E h_1 h_2 h_3 n=>(hbody c cdv A outer s H E h_1 h_2 h_3 n).out)) (hF:=hF)
end
section
variable{K:W.Frag}{ct:Ct}{H:Hp}
mutual
/-- no more places ar4 it needs -/
def Ow.BP:∀{m:M} {v:V} {S:Fp},noO m=true->Ow K ct H m v S->Ow K ct H m v (λ b=>S b/\∀o,H b=some o->¬Yu ct.f.cb o)
 | .d x,v,S,_,h=>by simpa only[Ow] using h
 | .l xs,v,S,_,h=>by simp only[Ow] at h ⊢;obtain ⟨a,vs,h1,h2,h3,h4⟩:=h;exact ⟨a,vs,h1,⟨h2,λ o q=>by rw[h3] at q;cases q;exact λ z=>z⟩,h3,h4⟩
 | .n ms,v,S,z,h=>by simp only[Ow] at h ⊢;obtain ⟨a,vs,h1,h2,h3,h4⟩:=h;refine ⟨a,vs,h1,⟨h2,λ o q=>by rw[h3] at q;cases q;exact λ z=>z⟩,h3,(cO.BP (by simpa[noO] using z) h4).wide λ b w=>⟨⟨w.1.1,w.2⟩,w.1.2⟩⟩
 | .t ms,v,S,z,h=>by simp only[Ow] at h ⊢;obtain ⟨a,vs,h1,h2,h3⟩:=h;exact ⟨a,vs,h1,h2,cO.BP (by simpa[noO] using z) h3⟩
 | .k ks xs,v,S,_,h=>by simp only[Ow] at h ⊢;obtain ⟨a,vs,h1,h2,h3,h4⟩:=h;exact ⟨a,vs,h1,⟨h2,λ o q=>by rw[h3] at q;cases q;exact Ks.tK⟩,h3,h4⟩
 | .o c ns xs,v,S,z,h=>by simp[noO] at z
 | .q ks ms,v,S,z,h=>by simp only[Ow] at h ⊢;obtain ⟨a,vs,h1,h2,h3,h4,h5⟩:=h;refine ⟨a,vs,h1,⟨h2,λ o q=>by rw[h3] at q;cases q;exact Ks.tK⟩,h3,h4,(cO.BP (by simpa[noO] using z) h5).wide λ b w=>⟨⟨w.1.1,w.2⟩,w.1.2⟩⟩
def cO.BP:∀{ms:List M} {vs:List V} {S:Fp},NL ms=true->cO K ct H ms vs S->cO K ct H ms vs (λ b=>S b/\∀o,H b=some o->¬Yu ct.f.cb o)
 |[],vs,S,_,h=>by simpa[cO] using h
 |m::ms,vs,S,z,h=>by simp only[cO] at h ⊢;obtain ⟨v,r,S1,S2,h1,h2,h3,h4,h5,h6⟩:=h;have zz:=Bool.and_eq_true_iff.mp (show (noO m&&NL ms)=true by simpa[NL] using z);exact ⟨v,r,_,_,h1,λ b w=>⟨h2 b w.1,w.2⟩,λ b w=>⟨h3 b w.1,w.2⟩,λ b w w'=>h4 b w.1 w'.1,Ow.BP zz.1 h5,cO.BP zz.2 h6⟩
end
end
section
variable{X:Cx}{c:Cf}{x:Str}{e:Expr}{es:List Expr}{i q n k:Nat}{f:Sg->Res D}{r fa:Sg->Res (List D)}{p pos:Pos}{F:List Slot->cV}{fn:Addr}{fd:FuncData}{ps:List Str}
def IoT(X:Cx)(c:Cf)(q i:Nat)(σ:St)(H:Hp)(ds:List D)(vs:List V):Prop:=ds.length=vs.length/\(∀(k:Nat) (d:D) (v:V),k≠q->ds[k]? =some d->vs[k]? =some v->Tl X.K c.z H d v)/\∃v0,σ[i]? =some (some v0)/\vs[q]? =some v0
def aiJ(X:Cx)(c:Cf)(q i:Nat)(f:Sg->Res (List D)):TA:=λ σ H Q=>∃Γ,Jx X c.z Γ σ H/\(∃v0,σ[i]? =some (some v0))/\Ok X c.z σ H (f Γ) λ ds=>∀vs H',ay H H'->IoT X c q i σ H' ds vs->Q vs H'
def V7(i:Nat){px:Pos}(hr:D0 X c.z es r)(hN:X.N[i]? =some x:=by rfl)(hv:Uv X.env.scope x:=by first|exact Or.inl rfl|exact Or.inr (Or.inl rfl)|exact Or.inr (Or.inr rfl))(hd:(x==("__debug__":Str))=false:=by decide)(hcd:(x==("__classdict__":Str))=false:=by decide)(hs:starEach (.Name x px::es) X.env=(false,eval (.Name x px) X.env)::starEach es X.env:=by rfl):WA X (.Name x px::es) (aiJ X c 0 i (ai (dC .cY) r)):=by
 have hr:=hr.out;refine ⟨?_⟩;refine PA.imp (nR (vM hN hv hd hcd) hr hs) λ σ H Q ⟨Γ,j,⟨v0,hv0⟩,h⟩=>?_;refine ⟨v0,hv0,Γ,j,?_⟩;simp only[ai,dC,Res.bD] at h;refine h.bnd λ ds _ h vs H' s t=>?_;refine h (v0::vs) H' s ⟨by simp[t.length],λ k d v hk h1 h2=>?_,v0,hv0,rfl⟩;cases k with
 |zero=>exact absurd rfl hk
 |succ k=>
  obtain ⟨v',g1,g2⟩:=t.get (by simpa using h1);have:vs[k]? =some v:=by simpa using h2
  rw[this] at g1;cases g1;exact g2
def Bg{m:M}:∀{Γ:Sg} {k i:Nat},bP k Γ=[(i,m)]->k<=i/\Γ[i- k]? =some (.par m)
 |[],k,i,h=>by cases h
 | .par m'::r,k,i,h=>by simp only[bP,List.cons.injEq,Prod.mk.injEq] at h;obtain ⟨⟨rfl,rfl⟩,_⟩:=h;exact ⟨Nat.le_refl _,by simp⟩
 | .no::r,k,i,h=>by simp only[bP] at h;obtain ⟨h1,h2⟩:=Bg h;refine ⟨by omega,?_⟩;rw[show i- k=(i-(k+1))+1 by omega];simpa using h2
 | .val _::r,k,i,h=>by simp only[bP] at h;obtain ⟨h1,h2⟩:=Bg h;refine ⟨by omega,?_⟩;rw[show i- k=(i-(k+1))+1 by omega];simpa using h2
 | .own _::r,k,i,h=>by simp only[bP] at h;obtain ⟨h1,h2⟩:=Bg h;refine ⟨by omega,?_⟩;rw[show i- k=(i-(k+1))+1 by omega];simpa using h2
variable{g:Sg->Res (D×Sg)}{Γ:Sg}{σ:St}{H:Hp}
end
section
variable{X:Cx}{ct:Ct}{a b e:Expr}{f g:Sg->Res D}{fa:Sg->Res (List D)}{p pos:Pos}
def Tl.qi{K:W.Frag}{H:Hp}{d:D}{v:V}{ds:List D}(l:ay ct.f.L H)(b:ay ct.B H)(h:Tl K ct H d v)(e:L4.qi d=some ds):∃a vs,v= .ref a/\(vD K H a vs\/A7 K H a vs)/\aL K ct H ds vs:=by
 cases d with
 |lst xs=>cases e;obtain ⟨a,vs,h1,h2,h3⟩:=h.kg l b rfl;exact ⟨a,vs,h1,.inl h2,h3⟩
 |bor t xs=>cases e;obtain ⟨a,vs,h1,h2,h3⟩:=h.kg l b rfl;exact ⟨a,vs,h1,.inl h2,h3⟩
 |tup xs=>cases e;simp only[Tl] at h;obtain ⟨a,vs,h1,h2,h3⟩:=h;exact ⟨a,vs,h1,.inr (qN h2),h3⟩
 |gt xs=>cases e;simp only[Tl] at h;obtain ⟨a,vs,h1,h2,h3⟩:=h;exact ⟨a,vs,h1,.inr h2.sq,h3⟩
 |_=>cases e
def I0{K:W.Frag}{H:Hp}{d:D}{v:V}(h:Tl K ct H d v)(e:vo d=true):vn v=true:=by cases d<;>first|(simp only[Tl] at h;subst h;rfl)|cases e
def ai5{K:W.Frag}{H:Hp}{d d':D}{v v':V}(h:Tl K ct H d v)(h':Tl K ct H d' v')(e:vo d=true)(e':vo d'=true):eqF d d'=eqV v v':=by cases d<;>cases d'<;>first|cases e;done|cases e';done|(simp only[Tl] at h h';subst h h';rfl)
def Dm{K:W.Frag}{H:Hp}:∀{ds:List D} {vs:List V},aL K ct H ds vs->ds.all vo=true->vs.all vn=true
 |[],vs,h,_=>by simp only[aL] at h;subst h;rfl
 |d::ds,vs,h,e=>by simp only[aL] at h;obtain ⟨v,r,rfl,t1,t2⟩:=h;simp only[List.all_cons,Bool.and_eq_true] at e ⊢;exact ⟨I0 t1 e.1,Dm t2 e.2⟩
def Og{K:W.Frag}{H:Hp}{x:D}{y:V}(h:Tl K ct H x y)(e:vo x=true):∀{ds:List D} {vs:List V},aL K ct H ds vs->ds.all vo=true->inF x ds=inV y vs
 |[],vs,t,_=>by simp only[aL] at t;subst t;rfl
 |d::ds,vs,t,q=>by simp only[aL] at t;obtain ⟨v,r,rfl,t1,t2⟩:=t;simp only[List.all_cons,Bool.and_eq_true] at q;have ih:=Og h e t2 q.2;simp only[inF,inV,List.any_cons] at ih ⊢;rw[ih,ai5 t1 h q.1 e]
def aii:FI X ct (rIn X.K false) inD:=by
 intro σ H x y d1 d2 Q lL lB t1 t2 h;unfold inD at h;split at h
 ·rename_i xs hs;split at h
  ·rename_i hc;obtain ⟨a,vs,rfl,q1,q2⟩:=t2.qi lL lB hs;refine ⟨a,vs,rfl,q1,I0 t1 hc.1,Dm q2 hc.2,?_⟩;have:=h (.bl (inF d1 xs)) H (ay.refl H) (by simp[Tl]);rw[Og t1 hc.1 q2 hc.2] at this;simpa using this
  ·exact h.elim
 ·exact h.elim
def WN:FI X ct (rIn X.K true) HY:=by
 intro σ H x y d1 d2 Q lL lB t1 t2 h;unfold HY at h;split at h
 ·rename_i xs hs;split at h
  ·rename_i hc;obtain ⟨a,vs,rfl,q1,q2⟩:=t2.qi lL lB hs;refine ⟨a,vs,rfl,q1,I0 t1 hc.1,Dm q2 hc.2,?_⟩;have:=h (.bl (!inF d1 xs)) H (ay.refl H) (by simp[Tl]);rw[Og t1 hc.1 q2 hc.2] at this;simpa using this
  ·exact h.elim
 ·exact h.elim
def V3(ha:WD X ct a f)(hb:WD X ct b g)(hm:behindInMarks .NotIn b=false:=by rfl):JT X ct (.Compare a [.NotIn] [b] pos) (dT (aI HY f g)):=by have ha:=ha.out;have hb:=hb.out;exact ⟨uF Hu WN ha hb hm⟩
variable{cc:Expr}{h:Sg->Res D}
def L8{r2 r2':R2}{r r':D->D->Res D}(ho:FI X ct r2 r)(ho':FI X ct r2' r'):∀σ H Q,sC X ct (nG r r' f g h) σ H Q->MW r2 r2' (sC X ct f) (sC X ct g) (sC X ct h) σ H Q:=by
 rintro σ H Q ⟨Γ,j,q⟩
 refine sC.bnd j q λ x v H1 s1 t1 j1 q1=>?_;refine sC.bnd (W:=Wd X ct H Q) j1 (Ok.mono s1 q1 λ _ z=>z) λ y u H2 s2 t2 j2 q2=>?_;have t1':=t1.keep (ay.keep s2);refine ho σ H2 v u x y _ j2.lL j2.lB t1' t2 ?_;have q3:Ok X ct σ H2 ((r x y).bnd λ z=>match z with
  | .bl true=>(h Γ).bnd λ w=>r' y w
  | .bl false=> .ok (.bl false)
  |_=> .bad) (Wd X ct H Q):=Ok.mono s2 q2 λ _ z=>z
 refine q3.bnd λ z _ q4 zv H3 s3 tz=>?_;cases z with
 |bl k=>
  simp only[Tl] at tz;refine ⟨k,tz,?_⟩;have j3:=j2.mono s3;cases k with
  |false=>exact Ly (q4 (.bl false) H3 ((s1.trans s2).trans s3) (by simp[Tl]))
  |true=>refine Lx ?_;refine sC.bnd (f:=h) (r:=λ w=>r' y w) (W:=Wd X ct H Q) j3 (Ok.mono s3 q4 λ _ z=>z) λ w wv H4 s4 t4 j4 q5=>?_;exact ho' σ H4 u wv y w Q j4.lL j4.lB (t2.keep (ay.keep (s3.trans s4))) t4 (Ok.mono s4 q5 λ d z=>z.mono (((s1.trans s2).trans s3).trans s4))
 |_=>exact q4.elim
def Kc{op op':CmpOp}{r2 r2':R2}{r r':D->D->Res D}(hr:qw X (compareOp op) r2)(hr':qw X (compareOp op') r2')(ho:FI X ct r2 r)(ho':FI X ct r2' r')(ha:WD X ct a f)(hb:WD X ct b g)(hc:WD X ct cc h)(hm:lastMarks [op,op'] [b,cc]=false:=by with_unfolding_all rfl):WD X ct (.Compare a [op,op'] [b,cc] pos) (nG r r' f g h):=by have ha:=ha.out;have hb:=hb.out;have hc:=hc.out;exact ⟨PE.imp (ZN hr hr' ha hb hc hm) (L8 ho ho')⟩
def yW{op op':CmpOp}{r2 r2':R2}{r r':D->D->Res D}(hr:qw X (compareOp op) r2)(hr':qw X (compareOp op') r2')(ho:FI X ct r2 r)(ho':FI X ct r2' r')(ha:WD X ct a f)(hb:WD X ct b g)(hc:WD X ct cc h)(hm:lastMarks [op,op'] [b,cc]=false:=by with_unfolding_all rfl):JT X ct (.Compare a [op,op'] [b,cc] pos) (dT (nG r r' f g h)):=by have ha:=ha.out;have hb:=hb.out;have hc:=hc.out;exact ⟨PT.imp (Zp hr hr' ha hb hc hm) (MU (L8 ho ho'))⟩
variable{es:List Expr}
def ad4(hcm:X.calm=true)(hm:X.mg "max"=none)(ha:D0 X ct (e::es) fa)(hg:Gl X "max":=by rfl)(he:starEach (e::es) X.env=(false,eval e X.env)::starEach es X.env:=by rfl)(hpl:(backTo pos (starEach es X.env)).any (·.1)=false:=by rfl):WD X ct (.Call (.Name "max" p) (e::es) [] pos) (nv C1 fa):=by
 have ha:=ha.out;refine ⟨?_⟩;refine PE.imp (qV (Yh hcm) hg hm (by decide+kernel) ha (by decide) (by decide) he hpl) (Mf λ σ H vs ds Q lL lB t h=>?_);unfold C1 at h;split at h
 ·rename_i i j;obtain ⟨v,v',rfl,t1,t2⟩:=akK t;simp only[Tl] at t1 t2;subst t1 t2;exact ⟨i,j,rfl,h _ H (ay.refl H) (by simp[Tl])⟩
 ·exact h.elim
def ad3(hcm:X.calm=true)(hm:X.mg "min"=none)(ha:D0 X ct (e::es) fa)(hg:Gl X "min":=by rfl)(he:starEach (e::es) X.env=(false,eval e X.env)::starEach es X.env:=by rfl)(hpl:(backTo pos (starEach es X.env)).any (·.1)=false:=by rfl):WD X ct (.Call (.Name "min" p) (e::es) [] pos) (nv CZ fa):=by
 have ha:=ha.out;refine ⟨?_⟩;refine PE.imp (qV (Yg hcm) hg hm (by decide+kernel) ha (by decide) (by decide) he hpl) (Mf λ σ H vs ds Q lL lB t h=>?_);unfold CZ at h;split at h
 ·rename_i i j;obtain ⟨v,v',rfl,t1,t2⟩:=akK t;simp only[Tl] at t1 t2;subst t1 t2;exact ⟨i,j,rfl,h _ H (ay.refl H) (by simp[Tl])⟩
 ·exact h.elim
def UH(hm:X.mg "list"=none)(ha:D0 X ct (e::es) fa)(hg:Gl X "list":=by rfl)(he:starEach (e::es) X.env=(false,eval e X.env)::starEach es X.env:=by rfl)(hpl:(backTo pos (starEach es X.env)).any (·.1)=false:=by rfl):WL X ct (.Call (.Name "list" p) (e::es) [] pos) (lCB vm fa):=by
 have ha:=ha.out;refine ⟨?_⟩;refine PE.imp (FZ JB hg hm (by decide+kernel) ha (by decide) (by decide) he hpl) λ σ H Q ⟨Γ,j,h⟩=>?_;refine VH.bnd j h λ ds vs H' s t j' h'=>?_;unfold vm at h';split at h'
 ·rename_i x;split at h'
  ·rename_i xs hs;obtain ⟨v,rfl,t1⟩:=GR t;obtain ⟨a,us,rfl,q1,q2⟩:=t1.qi j'.lL j'.lB hs;refine ⟨a,us,rfl,q1,λ l hl=>?_⟩;have s2:=bO hl (.lst us);exact h' l us _ (s.trans s2) (s.free hl) aG (q2.keep (ay.keep s2))
  ·exact h'.elim
 ·exact h'.elim
def Ka(hm:X.mg "tuple"=none)(ha:D0 X ct (e::es) fa)(hg:Gl X "tuple":=by rfl)(he:starEach (e::es) X.env=(false,eval e X.env)::starEach es X.env:=by rfl)(hpl:(backTo pos (starEach es X.env)).any (·.1)=false:=by rfl):WD X ct (.Call (.Name "tuple" p) (e::es) [] pos) (nv nA fa):=by
 have ha:=ha.out;refine ⟨?_⟩;refine PE.imp (FZ Fq hg hm (by decide+kernel) ha (by decide) (by decide) he hpl) (Mf λ σ H vs ds Q lL lB t h=>?_);unfold nA at h;split at h
 ·rename_i x;split at h
  ·rename_i xs hs;obtain ⟨v,rfl,t1⟩:=GR t;have lst:∀{ys:List D} {a:Addr} {us:List V},vD X.K H a us->aL X.K ct H ys us->Wd X ct H Q (.tup ys)->∀l,H l=none->Q (.ref l) (upd H l (.tup us)):=λ q1 q2 h l hl=>by rename_i ys a us;have s2:=bO hl (.tup us);refine h _ _ s2 ?_;simp only[Tl];exact ⟨l,us,rfl,aG,q2.keep (ay.keep s2)⟩
   cases x with
   |tup ys=>cases hs;simp only[Tl] at t1;obtain ⟨a,us,rfl,q1,q2⟩:=t1;refine ⟨a,us,rfl,.inr ⟨qN q1,h _ H (ay.refl H) ?_⟩⟩;simp only[Tl];exact ⟨a,us,rfl,q1,q2⟩
   |gt ys=>cases hs;simp only[Tl] at t1;obtain ⟨a,us,rfl,q1,q2⟩:=t1;refine ⟨a,us,rfl,.inr ⟨q1.sq,h _ H (ay.refl H) ?_⟩⟩;simp only[Tl];exact ⟨a,us,rfl,q1,q2⟩
   |lst ys=>cases hs;obtain ⟨a,us,rfl,q1,q2⟩:=t1.kg lL lB rfl;exact ⟨a,us,rfl,.inl ⟨q1,lst q1 q2 h⟩⟩
   |bor _ ys=>cases hs;obtain ⟨a,us,rfl,q1,q2⟩:=t1.kg lL lB rfl;exact ⟨a,us,rfl,.inl ⟨q1,lst q1 q2 h⟩⟩
   |_=>cases hs
  ·exact h.elim
 ·exact h.elim
end
section
variable{X:Cx}{ct:Ct}{a b e:Expr}{f g:Sg->Res D}{pos:Pos}
def Vo{K:W.Frag}{H:Hp}{d:D}{v:V}{k:Key}(h:Tl K ct H d v)(e:aaK d=some k):v=kV k:=by
 cases d with
 |int i=>cases e;simp only[Tl] at h;exact h
 |str x=>cases e;simp only[Tl] at h;exact h
 |_=>cases e
end
section
variable{X:Cx}{c:Cf}{r ix e:Expr}{i:Nat}{g:Sg->Res (List Nat)}{f fk:Sg->Res D}{pos:Pos}{Γ:Sg}{σ:St}{H:Hp}
end
section
variable{X:Cx}{ct:Ct}{pos:Pos}{e:Expr}{f:Sg->Res D}{fa:Sg->Res (List D)}{keys:List (Option Expr)}{values:List Expr}{ks:List Key}
end
section
variable{X:Cx}{c:Cf}{tg iter:Expr}{fi:Sg->Res (List D)}{t:Tg}{B:Sg->Out}{body:List Stmt}{pos:Pos}
def i9(g:Good X)(hi:WID X c.z tg iter fi)(hg:WGD X c.z tg t)(hb:ve X c body B)(hs:∀x,foldedSetIterable iter X.env x=pure x:=by intro _;rfl):yS X c (.For tg iter body [] pos) (gY fi t B):=by
 have hi:=hi.out;have hg:=hg.out;have hb:=hb.out;refine ⟨?_⟩;refine PS.imp (ahU g.po g.calm hi hg hb hs) λ E σ H ⟨Γ,j,h⟩=>⟨Γ,j,Fn.ok j h λ xs _ q J H' s it=>?_⟩;obtain ⟨P,p0,pk,pg,pst⟩:=it;have h':Fn X c H' (fP t B xs Γ) E:=q.mono (ay.keep s);refine ⟨λ i m σ1 H1=>i+m=xs.length/\P H1/\∃Γ1,Jx X c.z Γ1 σ1 H1/\aU c.cb H' H1/\fP t B (xs.drop i) Γ1=fP t B xs Γ,⟨xs.length,by simp,p0,Γ,j.mono s,aU.refl H',rfl⟩,?_⟩
 rintro i m σ1 H1 ⟨hm,p1,Γ1,j1,k1,e1⟩
 cases hd:xs[i]? with
 |none=>
  have hl:xs.length<=i:=by simpa using hd
  refine .inl ⟨pst i H1 p1 hl,?_⟩;rw[List.drop_eq_nil_of_le hl] at e1;rw[<-e1] at h';exact h' σ1 H1 k1 j1
 |some d=>
  obtain ⟨g1,g2⟩:=pg i d H1 p1 hd;have hl:i<xs.length:=(List.getElem?_eq_some_iff.mp hd).1;refine .inr ⟨g1,λ σ3 H3=>P H3/\∃Γ3,Jx X c.z Γ3 σ3 H3/\aU c.cb H' H3/\fP t B (xs.drop (i+1)) Γ3=fP t B xs Γ,λ σ3 H3 ⟨p3,z⟩=>⟨m- 1,by omega,by omega,p3,z⟩,λ x H2 y=>?_⟩;obtain ⟨sm2,td⟩:=g2 x H2 y;have k2:aU c.cb H' H2:=k1.trans (ay.keep sm2);rw[drop_one hd] at e1;cases e2:t d Γ1 with
  |none=>exact (ae1 e2 e1 h').elim
  |some Γ2=>exact ⟨Γ1,d,Γ2,j1.mono sm2,td,e2,λ σ2 j2=>⟨Γ2,j2,aeb k2 e2 e1 h' λ Γ3 σ3 H3 k3 j3 e3=>⟨pk H' H3 p0 k3 j3.lL j3.lB,Γ3,j3,k3,e3⟩⟩⟩
end
section
variable{X:Cx}{ct:Ct}{a b e:Expr}{f g:Sg->Res D}{fa:Sg->Res (List D)}{p pos:Pos}
def aiL(x y:D):(∃i j,x= .str i/\y= .str j)\/inA x y= .bad\/inA x y=inD x y:=by
 cases y with
 |str j=>cases x<;>first|exact .inl ⟨_,_,rfl,rfl⟩|exact .inr (.inl rfl)
 |_=>exact .inr (.inr rfl)
def aeW:FI X ct (λ x y H Q=>(∃i j,x= .str i/\y= .str j/\Q (.bl (!(Builtin.Str.occurrences j i 0 j.length 1).isEmpty)) H)\/rIn X.K false x y H Q) inA:=by
 intro σ H x y d1 d2 Q l b t1 t2 h;rcases aiL d1 d2 with ⟨i,j,rfl,rfl⟩|e|e
 ·simp only[Tl] at t1 t2;exact .inl ⟨i,j,t1,t2,h _ H (ay.refl H) (by simp[Tl,Vw])⟩
 ·rw[e] at h;exact h.elim
 ·rw[e] at h;exact .inr (aii σ H x y d1 d2 Q l b t1 t2 h)
def ahh(ha:WD X ct a f)(hb:WD X ct b g)(hm:behindInMarks .In b=false:=by rfl):WD X ct (.Compare a [.In] [b] pos) (aI inA f g):=by have ha:=ha.out;have hb:=hb.out;exact ⟨Cc (WJ.or WK) aeW ha hb hm⟩
def apk:V->Option Int->Option Int->Hp->VK->Prop:=λ x lo hi H Q=>∃z,x= .str z/\z.length<=sizeLine/\Q (.str (Txt.slice z lo hi)) H
def ahC:SlR X apk:=by
 intro pins s σ H x v vl vu lo hi sl Q I rx hs pl pu h;obtain ⟨z,rfl,hz,q⟩:=h;obtain ⟨t,rfl⟩:=rx;cases pl with
 |none=>
  cases pu with
  |none=>exact ⟨"str",_,F.slot_str_getitem.lookup,typeIs_str _ _ _,wpAny_getItem_str_slice (l:=none) (u:=none) (st:=none) hs rfl (post_val_or_str ⟨Nat.le_trans (Txt.slice_le z _ _) hz,λ t' k=>⟨.str _,H,I.tok _,⟨t',rfl⟩,q⟩⟩)⟩
  |int j uj=>exact ⟨"str",_,F.slot_str_getitem.lookup,typeIs_str _ _ _,wpAny_getItem_str_slice (l:=none) (u:=some (j,uj)) (st:=none) hs rfl (post_val_or_str ⟨Nat.le_trans (Txt.slice_le z _ _) hz,λ t' k=>⟨.str _,H,I.tok _,⟨t',rfl⟩,q⟩⟩)⟩
 |int i ui=>
  cases pu with
  |none=>exact ⟨"str",_,F.slot_str_getitem.lookup,typeIs_str _ _ _,wpAny_getItem_str_slice (l:=some (i,ui)) (u:=none) (st:=none) hs rfl (post_val_or_str ⟨Nat.le_trans (Txt.slice_le z _ _) hz,λ t' k=>⟨.str _,H,I.tok _,⟨t',rfl⟩,q⟩⟩)⟩
  |int j uj=>exact ⟨"str",_,F.slot_str_getitem.lookup,typeIs_str _ _ _,wpAny_getItem_str_slice (l:=some (i,ui)) (u:=some (j,uj)) (st:=none) hs rfl (post_val_or_str ⟨Nat.le_trans (Txt.slice_le z _ _) hz,λ t' k=>⟨.str _,H,I.tok _,⟨t',rfl⟩,q⟩⟩)⟩
def UK{lo hi:Option Expr}{l u:Sg->Res (Option Int)}{p2:Pos}(he:WD X ct e f)(hl:WDO X ct lo l)(hu:WDO X ct hi u):WD X ct (.Subscript e (.Slice lo hi none p2) pos) (vq f l u):=by
 have he:=he.out;have hl:=hl.out;have hu:=hu.out;refine ⟨?_⟩;refine PE.imp (KA ahC he hl hu) λ σ H Q ⟨Γ,j,h⟩=>?_;refine sC.bnd j h λ d v H1 s1 t1 j1 h1=>?_;refine ⟨Γ,j1,(Ok.mono s1 h1 λ _ z=>z).bnd (W:=Wd X ct H Q) λ lo _ h2 H2 s2=>?_⟩;refine ⟨Γ,j1.mono s2,(Ok.mono s2 h2 λ _ z=>z).bnd (W:=Wd X ct H Q) λ hi _ h3 H3 s3=>?_⟩;cases d with
 |str x=>
  simp only[Tl] at t1;by_cases hx:x.length<=sizeLine
  ·simp only[hx,if_true] at h3;exact ⟨x,t1,hx,h3 _ H3 ((s1.trans s2).trans s3) (by simp[Tl])⟩
  ·simp only[hx,if_false] at h3;exact h3.elim
 |_=>exact h3.elim
end
section
variable{X:Cx}{ct:Ct}{x:Str}{p pos:Pos}{C a:Addr}{cn:String}
def Y3{K:W.Frag}{H:Hp}{ds:List D}{vs:List V}{o:Obj}{its:Array Value}{n:Nat}(hl:K.lookup a=some o)(hc:o.cls= .type "tuple")(hd:o.data= .seq its n)(hz:its.size<=sizeLine)(r:Vals vs its.toList)(t:aL K ct H ds vs):Tl K ct H (.gt ds) (.ref a):=by simp only[Tl];exact ⟨a,vs,rfl,⟨o,its,n,hl,hc,hd,hz,r⟩,t⟩
def GlT(K:W.Frag)(u:Value)(d:D):Prop:=∃v:V,RelV v u/\∀(ct:Ct) (H:Hp),Tl K ct H d v
def qF{u:Value}{d:D}(hm:X.mg x=some u)(ht:GlT X.K u d)(hg:Gl X x:=by rfl)(hd:(x==("__debug__":Str))=false:=by decide):WD X ct (.Name x pos) (dC d):=by refine ⟨?_⟩;obtain ⟨v,r,t⟩:=ht;exact aeO (v:=v) hg hm r (λ H=>t ct H) hd
def uM{K:W.Frag}{i:Int}{t:Tok}:GlT K (.int i t) (.int i):=⟨.int i,⟨t,rfl⟩,λ _ _=>by simp[Tl]⟩
def afG{K:W.Frag}{i:Str}{t:Tok}:GlT K (.str i t) (.str i):=⟨.str i,⟨t,rfl⟩,λ _ _=>by simp[Tl]⟩
def af6(K:W.Frag)(us:List Value)(ds:List D):Prop:=∃vs:List V,Vals vs us/\∀(ct:Ct) (H:Hp),aL K ct H ds vs
def LF{K:W.Frag}:af6 K [] []:=⟨[],.nil,λ _ _=>aL.nil⟩
def uL{K:W.Frag}{u:Value}{us:List Value}{d:D}{ds:List D}(h:GlT K u d)(t:af6 K us ds):af6 K (u::us) (d::ds):=by obtain ⟨v,r,q⟩:=h;obtain ⟨vs,rs,qs⟩:=t;exact ⟨v::vs,.cons r rs,λ ct H=>aL.cons (q ct H) (qs ct H)⟩
def Vy{K:W.Frag}{us:List Value}{ds:List D}{od:Option Addr}{sl:Array (Option Value)}{n:Nat}(hl:K.lookup a=some ⟨.type "tuple",od,.seq us.toArray n,sl⟩)(hz:us.length<=1000)(h:af6 K us ds):GlT K (.ref a) (.gt ds):=by obtain ⟨vs,rs,qs⟩:=h;exact ⟨.ref a,rfl,λ ct H=>Y3 hl rfl rfl (by rw[sizeLine_eq];simp;omega) (by simpa using rs) (qs ct H)⟩
structure Mk0(K:W.Frag)(C:Addr):Prop where
 makes:W.makesIn K C=true
 init:W.findIn K (.ref C) "__init__"=some (some (.builtin "object.__init__"))
 kp:W.keepIn K (.ref C)=true
def BI(Mc:Mk0 X.K C)(hcc:ct.f.cb.cls cn=some (C,[]))(hm:X.mg x=some (.ref C))(hg:Gl X x:=by rfl)(hdb:(x==("__debug__":Str))=false:=by decide):WD X ct (.Call (.Name x p) [] [] pos) (dC (.obj cn [] [])):=by
 refine ⟨?_⟩;intro pins s σ H Q I ⟨Γ,j,h⟩;refine wpAny_Call_Name_kw (uH I hg hm ?_ hdb);refine W.callWith_K0 I.Bl Mc.kp (wpAny_call ?_);have hx0:H (s.heap.objs.size+1)=none:=I.hok.fresh (Nat.le_succ _);have hd0:H s.heap.objs.size=none:=I.hok.fresh (Nat.le_refl _);have hne:s.heap.objs.size≠s.heap.objs.size+1:=Nat.ne_of_lt (Nat.lt_succ_self _);have I2:=Inv.made (C:=C) I;have smm:ay H (upd (upd H s.heap.objs.size (.own (s.heap.objs.size+1))) (s.heap.objs.size+1) (.ins C s.heap.objs.size [])):=(bO hd0 _).trans (bO (by rw[aF (Ne.symm hne)];exact hx0) _);have z:EP X pins σ Q (.ref (s.heap.objs.size+1)) {s with heap:=(s.heap.push W.emptyDict).push (W.instObj C s.heap.objs.size)}:=by refine ⟨.ref (s.heap.objs.size+1),_,I2,rfl,h _ _ smm ?_⟩;simp only[Tl];exact ⟨_,C,s.heap.objs.size,[],rfl,hcc,aG,rfl,aL.nil⟩
 obtain ⟨hh,gs,dd,t,os⟩:=s;have Y:=W.makes_of (M:=model X.prog X.w) I.Bl Mc.makes;refine W.make_core Y (W.looks_findIn I.Bl Mc.init) (λ self=>W.Looks.of_pure (W.oi_bind self)) (.inr ⟨rfl,rfl⟩) ?_;have e1:((hh.push W.emptyDict).push (W.instObj C hh.objs.size)).get? (hh.objs.size+1)=some (W.instObj C hh.objs.size):=by have:=Heap.get?_push_size (hh.push W.emptyDict) (o:=W.instObj C hh.objs.size) rfl;rwa [Heap.size_push] at this
 have t1:W.Looks (model X.prog X.w) ((hh.push W.emptyDict).push (W.instObj C hh.objs.size)) (typeOf (.ref (hh.objs.size+1))) (.ref C):=(W.Looks.ld e1).andThen .now;have t2:W.Looks (model X.prog X.w) ((hh.push W.emptyDict).push (W.instObj C hh.objs.size)) (isInstance (.ref (hh.objs.size+1)) (.type "object")) true:=t1.andThen (Y.top.keeps λ b o e=>Heap.get?_push_of_some _ (Heap.get?_push_of_some _ e));refine codeAny_call_builtin W.oi_plain W.entry_oi (@W.check_slot (model X.prog X.w) _ _ _ "object.__init__" "object" "__init__" (.ref (hh.objs.size+1)) [] [] _ W.oi_kind W.oi_split t2 (W.oi_args (.ref (hh.objs.size+1))) ?_);exact wpAny_of_eq (W.oi_run _) (And.intro rfl z)
end
section
variable{X:Cx}{c:Cf}{e:Expr}{f:Sg->Res D}{p:Sg->Res Bool}{F G B:Sg->Out}{pos:Pos}{body:List Stmt}
def oq(he:WD X c.z e f)(hs:swapsWith e none pos.line X.env=pure false:=by rfl):yS X c (.Expr e pos) (sr f):=by have he:=he.out;refine ⟨?_⟩;intro pins s σ H E I ⟨Γ,j,h⟩;exact Be he hs pins s σ H E I ⟨Γ,j,Fn.ok j h λ d _ q v H' s t=>q σ H' (ay.keep s) (j.mono s)⟩
def bq{ce:Expr}{a b:List Stmt}(hc:JT X c.z ce p)(ha:ve X c a F)(hb:ve X c b G):yS X c (.If ce a b pos) (sj p F G):=by
 have hc:=hc.out;have ha:=ha.out;have hb:=hb.out;refine ⟨?_⟩;intro pins s σ H E I ⟨Γ,j,h⟩;refine age hc ha hb pins s σ H E I ⟨Γ,j,Fn.ok j h λ x _ q H' s=>?_⟩;cases x with
 |true=>exact Lx ⟨Γ,j.mono s,Fn.mono (ay.keep s) q⟩
 |false=>exact Ly ⟨Γ,j.mono s,Fn.mono (ay.keep s) q⟩
def ML(n:Nat){ce:Expr}(g:Good X)(hc:JT X c.z ce p)(hb:ve X c body B):yS X c (.While ce body [] pos) (lu p B n):=by
 have hc:=hc.out;have hb:=hb.out;refine ⟨?_⟩;refine PS.imp (Zr g.po hc hb) λ E σ H ⟨Γ,j,h⟩=>?_;refine ⟨λ m σ1 H1=>∃Γ1,Jx X c.z Γ1 σ1 H1/\aU c.cb H H1/\lu p B m Γ1=lu p B n Γ,⟨n,Γ,j,aU.refl H,rfl⟩,?_⟩
 rintro m σ1 H1 ⟨Γ1,j1,k1,e1⟩
 cases m with
 |zero=>rw[<-e1] at h;exact h.elim
 |succ m=>
  refine ⟨Γ1,j1,?_⟩;rw[<-e1] at h;have h2:=h.mono k1;simp only[lu] at h2;refine Fn.ok j1 h2 λ x ec q H2 s2=>?_;cases x with
  |false=>exact Ly (q σ1 H2 (ay.keep s2) (j1.mono s2))
  |true=>
   refine Lx ⟨λ σ3 H3=>∃Γ3,Jx X c.z Γ3 σ3 H3/\aU c.cb H H3/\lu p B m Γ3=lu p B n Γ,λ σ3 H3 z=>⟨m,Nat.lt_succ_self m,z⟩,Γ1,j1.mono s2,?_⟩;simp only[if_true] at q;simp only[lu,ec,Va,if_true] at e1;have k2:aU c.cb H H2:=k1.trans (ay.keep s2);cases eb:B Γ1 with
   |nx Γ3=>rw[eb] at e1;exact λ σ3 H3 k3 j3=>⟨Γ3,j3,k2.trans k3,e1⟩
   |ct Γ3=>rw[eb] at e1;exact λ σ3 H3 k3 j3=>⟨Γ3,j3,k2.trans k3,e1⟩
   |bk Γ3=>rw[eb] at q;exact λ σ3 H3 k3 j3=>q σ3 H3 ((ay.keep s2).trans k3) j3
   |rt d=>rw[eb] at q;exact q
   |Wj d=>rw[eb] at q;exact q
   |rtG d Γ3=>rw[eb] at q;exact q
   |BX d Γ3=>rw[eb] at q;exact q
   |err x Γ3=>rw[eb] at q;exact λ σ3 H3 e s' k3 j3 r=>q σ3 H3 e s' ((ay.keep s2).trans k3) j3 r
   |bad=>rw[eb] at q;exact q
end
section
variable{X:Cx}{ct:Ct}
def agj:FI X ct (rI (λ _ _=>True) λ i j=> .bl (decide (i<j))) ltI:=kE (λ _ _ _=>trivial) λ _ _ _ _ _=>by simp[Tl]
def Aa:FI X ct (rI (λ _ _=>True) λ i j=> .bl (decide (i<=j))) leI:=kE (λ _ _ _=>trivial) λ _ _ _ _ _=>by simp[Tl]
end
def MV{α:Type}{a c:String}{A C:α}{r:List (String×α)}(h:((a,A)::r).lookup c=some C):(c=a/\C=A)\/r.lookup c=some C:=by
 rw[List.lookup_cons] at h;by_cases q:(c==a)=true
 ·rw[q] at h;exact .inl ⟨by simpa using q,(Option.some.inj h).symm⟩
 ·rw[Bool.not_eq_true] at q;rw[q] at h;exact .inr h
def gA{α:Type}{c:String}{C:α}:∀{r:List (String×α)},r.lookup c=some C->(c,C)∈r
 |[],h=>by cases h
 |(a,A)::r,h=>by
  rcases MV h with ⟨rfl,rfl⟩|h
  ·exact List.mem_cons_self ..
  ·exact List.mem_cons_of_mem _ (gA h)
noncomputable abbrev rC:=List (String×(Addr×List Str))
abbrev abP(E:List (String×Addr))(T:rC):Cb:=⟨λ c=>E.lookup c,λ c=>T.lookup c,λ c=>(T.lookup c).map (·.1)⟩
def aaW{T:rC}{c:String}{C:Addr}(h:(T.lookup c).map (·.1)=some C):∃ns,T.lookup c=some (C,ns):=by
 cases q:T.lookup c with
 |none=>rw[q] at h;cases h
 |some x=>rw[q] at h;cases h;exact ⟨x.2,rfl⟩
def WZ{T:rC}(hn:(T.map (·.2.1)).Nodup){a b:String×(Addr×List Str)}(ha:a∈T)(hb:b∈T)(e:a.2.1=b.2.1):a=b:=by
 induction T with
 |nil=>cases ha
 |cons x r ih=>
  simp only[List.map_cons,List.nodup_cons,List.mem_map,not_exists,not_and] at hn;rcases List.mem_cons.mp ha with ea|ha'
  ·rcases List.mem_cons.mp hb with eb|hb'
   ·rw[ea,eb]
   ·rw[ea] at e;exact absurd e.symm (hn.1 b hb')
  ·rcases List.mem_cons.mp hb with eb|hb'
   ·rw[eb] at e;exact absurd e (hn.1 a ha')
   ·exact ih hn.2 ha' hb'
def aap{T:rC}{c:String}{full:List Str}:((T.map λ e=>(e.1,e.2.2)).lookup c=some full)->∃C,T.lookup c=some (C,full):=by
 induction T with
 |nil=>intro h;cases h
 |cons x r ih=>
  intro h;obtain ⟨a,A,ns⟩:=x;by_cases q:(c==a)=true
  ·rw[List.map_cons,List.lookup_cons] at h;simp only[q] at h;cases h;exact ⟨A,by rw[List.lookup_cons,q]⟩
  ·rw[Bool.not_eq_true] at q;rw[List.map_cons,List.lookup_cons] at h;simp only[q] at h;obtain ⟨C,e⟩:=ih h;exact ⟨C,by rw[List.lookup_cons,q];exact e⟩
def afJ{E:List (String×Addr)}{T:rC}(hn:(T.map (·.2.1)).Nodup):ajG (abP E T) (T.map λ e=>(e.1,e.2.2)):=by intro c C full hi hf c' ns' hc;obtain ⟨ns,h1⟩:=aaW hi;obtain ⟨C2,h2⟩:=aap hf;rw[h1] at h2;cases h2;have m1:=gA h1;have m2:=gA (show T.lookup c'=some (C,ns') from hc);have:=WZ hn m1 m2 rfl;cases this;rfl
def LP{K:W.Frag}{f:Str}{E:List (String×Addr)}{T:rC}(h:∀e∈T,zZ K e.2.1/\uv K e.2.1 f):FA K (abP E T) f:=by
 intro C hc;rcases hc with ⟨c,hc⟩|⟨c,ns,hc⟩
 ·obtain ⟨ns,h1⟩:=aaW hc;exact h _ (gA h1)
 ·exact h _ (gA (show T.lookup c=some (C,ns) from hc))
def gH{α:Type}{p:α->Prop}:∀e∈([]:List α),p e:=λ e h=>nomatch h
def aE{α:Type}{p:α->Prop}{a:α}{r:List α}(h:p a)(t:∀e∈r,p e):∀e∈a::r,p e:=λ e he=>by
 rcases List.mem_cons.mp he with rfl|he
 ·exact h
 ·exact t e he
def abl{E:List (String×Addr)}{P:String->Addr->Prop}(h:∀e∈E,P e.1 e.2){c:String}{C:Addr}(hc:E.lookup c=some C):P c C:=h _ (gA hc)
def aiK{T:rC}{P:String->Addr->Prop}(h:∀e∈T,P e.1 e.2.1){c:String}{C:Addr}{ns:List Str}(hc:T.lookup c=some (C,ns)):P c C:=h _ (gA hc)
def hb1{f:String->Option Bool}{c:String}{b:Bool}(e:f c=some b){P:Bool->Prop}(h:P b):∀b',f c=some b'->P b':=λ b' q=>by rw[e] at q;cases q;exact h
def mt1{cb:Cb}{c:String}{C0:Addr}{ns0:List Str}(q:cb.cls c=some (C0,ns0)){P:Addr->List Str->Prop}(h:P C0 ns0):∀C ns,cb.cls c=some (C,ns)->P C ns:=λ C ns z=>by rw[q] at z;cases z;exact h
def zE{X:Cx}{cb:Cb}{m:Str}{n:Nat}{qH:List (String×(List Slot->cV))}(h:∀e∈qH,∀C ns,cb.cls e.1=some (C,ns)->∃(k:Nat) (f:Addr) (fd:FuncData) (ps:List Str),zZ X.K C/\Meth X.K C m f/\jR X.prog X.w X.K X.mg X.base cb k f fd ps e.2/\fN k X.A/\Binds X.K fd ps []/\ps.length=n+1/\m∉ns):JW X cb m n qH:=λ c C ns F hc hF=>h _ (gA hF) C ns hc
def len0{us:List Value}(h:us.length=0):us=[]:=List.eq_nil_of_length_eq_zero h
def oZ{us:List Value}(h:us.length=1):∃u0,us=[u0]:=by
 cases us with
 |nil=>cases h
 |cons a r=>obtain rfl:=len0 (us:=r) (Nat.succ.inj h);exact ⟨a,rfl⟩
def Iw{us:List Value}(h:us.length=2):∃u0 u1,us=[u0,u1]:=by
 cases us with
 |nil=>cases h
 |cons a r=>obtain ⟨v0,rfl⟩:=oZ (us:=r) (Nat.succ.inj h);exact ⟨a,v0,rfl⟩
def Xh{us:List Value}(h:us.length=3):∃u0 u1 u2,us=[u0,u1,u2]:=by
 cases us with
 |nil=>cases h
 |cons a r=>obtain ⟨v0,v1,rfl⟩:=Iw (us:=r) (Nat.succ.inj h);exact ⟨a,v0,v1,rfl⟩
def Xg{us:List Value}(h:us.length=4):∃u0 u1 u2 u3,us=[u0,u1,u2,u3]:=by
 cases us with
 |nil=>cases h
 |cons a r=>obtain ⟨v0,v1,v2,rfl⟩:=Xh (us:=r) (Nat.succ.inj h);exact ⟨a,v0,v1,v2,rfl⟩
def apN{us:List Value}(h:us.length=5):∃u0 u1 u2 u3 u4,us=[u0,u1,u2,u3,u4]:=by
 cases us with
 |nil=>cases h
 |cons a r=>obtain ⟨v0,v1,v2,v3,rfl⟩:=Xg (us:=r) (Nat.succ.inj h);exact ⟨a,v0,v1,v2,v3,rfl⟩
end L4
end
section
namespace L4
open PySem PySem.Spec PyProof.Rows L2 PySem.W
noncomputable def Bl{α:Type}(n:Nat):KasT α->Prop
 | .ret _=>True
 | .ask i j k=>i<n/\j<n/\i≠j/\∀b,Bl n (k b)
section
variable{prog:Program}{w:World}{A:Around}{E:Value->Shared->Prop}{s:Shared}
end
section
variable{X:Cx}{ct:Ct}{e:Expr}{es:List Expr}{fa:Sg->Res (List D)}{p pos:Pos}
end
end L4
end
section
namespace L4
open PySem
noncomputable abbrev gT:=Sum Int Str
def Vm:List D->Option (List gT)
 |[]=>some []
 |d::ds=>match aaK d,Vm ds with
  |some k,some ks=>some (k::ks)
  |_,_=>none
def aiC:D->Option (List gT)
 | .tup ds=>Vm ds
 |_=>none
def dcT:D->Option (List (List gT)×List D)
 | .uQ (.t ks) xs=>some (ks,xs)
 | .yR _ (.t ks) xs=>some (ks,xs)
 |_=>none
def FW(ks:List (List gT))(k:List gT):List (List gT):=if (ks.any λ n=>decide (n=k))=true then ks else ks++[k]
def Kn(ks:List (List gT))(xs:List D)(k:List gT)(d:D):List D:=if (ks.any λ n=>decide (n=k))=true then (ks.zip xs).map (λ kv=>if kv.1=k then d else kv.2) else xs++[d]
def z8(k:List gT)(d:D):M->Option M
 | .k (.t ks) xs=>if nt d=true/\ks.length<1000000 then some (.k (.t (FW ks k)) (Kn ks xs k d)) else none
 |_=>none
def UR(i:Nat)(g:Sg->Res (List Nat))(fk f:Sg->Res D):Sg->Out:=λ Γ=>oE (f Γ) Γ λ d=>oE (g Γ) Γ λ ks=>oE (fk Γ) Γ λ z=>match aiC z with
 |some k=>oUp (vg i ks (z8 k d) Γ)
 |none=> .bad
end L4
end
section
namespace L4
open PySem PySem.Spec PyProof.Rows L2
open AutoSeq1 (wpAny_loadPart')
section
variable{prog:Program}{w:World}{A:Around}{E:Value->Shared->Prop}{s:Shared}
def xM{it l:Addr}{i:Nat}{items:Array Value}{x:Value}{Q:Value->Shared->Prop}(hit:s.heap.IsTupleIter it l i)(hl:s.heap.IsTuple l items)(hx:items[i]? =some x) (hQ:∀h',h'.IsTupleIter it l (i+1)->Heap.SameBut it s.heap h'->Q x {s with heap:=h'}):wpAny (model prog w) A (Builtin.SmallTypes.nextOf (.ref it)) Q E s:=by
 obtain ⟨o,ho,hc,hd⟩:=id hit;obtain ⟨ol,hol,_,nl,hdl⟩:=hl;unfold Builtin.SmallTypes.nextOf;refine wpAny_bind (wpAny_callSpecial?_slot (name:=Str.ofString "__next__") hit.typeIs PySem.F.slot_tuple_iterator_next
  (wpAny_call_entry PySem.F.slot_tuple_iterator_next hit.typeIs PySem.F.entry_tuple_iterator_next ?_ (PySem.F.args_tuple_iterator_next_1 _)))
 show wpAny _ _ (field (.ref it) 0>>=_) _ _ s;refine wpAny_bind (wpAny_field ho hd (x:= .ref l) rfl ?_);show wpAny _ _ (if (Value.ref l==Value.none)=true then _ else _) _ _ s;rw[if_neg (show ¬((Value.ref l==Value.none)=true) from Bool.false_ne_true)];show wpAny _ _ (field (.ref it) 1>>=_) _ _ s;refine wpAny_bind (wpAny_field ho hd (x:= .int i 0) rfl ?_);show wpAny _ _ (seqItems? (.ref l)>>=_) _ _ s;refine wpAny_bind (wpAny_seqItems hol hdl ?_);simp only[Int.toNat_natCast,hx];refine wpAny_bind (wpAny_setField ho hd (by simp) (wpAny_pure ⟨x,rfl,wpAny_pure (hQ _ ?_ (Heap.SameBut.update ..))⟩));exact ⟨_,Heap.get?_update_self _ ho (Obj.isFreed_of_fields (Obj.data_mapFields hd _)),(Obj.cls_mapFields ..).trans hc,by rw[Obj.data_mapFields hd];simp[rawInt]⟩
def zy{it l:Addr}{i:Nat}{items:Array Value}{Q:Value->Shared->Prop}(hh:A.handled=none)(hit:s.heap.IsTupleIter it l i)(hl:s.heap.IsTuple l items)(hx:items[i]? =none) (hE:∀h' e,Heap.ExtBut it s.heap h'->(∃o,h'.get? e=some o/\o.cls= .type "StopIteration")->E (.ref e) {s with heap:=h'}):wpAny (model prog w) A (Builtin.SmallTypes.nextOf (.ref it)) Q E s:=by
 obtain ⟨o,ho,hc,hd⟩:=id hit;obtain ⟨ol,hol,_,nl,hdl⟩:=hl;unfold Builtin.SmallTypes.nextOf;refine wpAny_bind (wpAny_callSpecial?_slot (name:=Str.ofString "__next__") hit.typeIs PySem.F.slot_tuple_iterator_next
  (wpAny_call_entry PySem.F.slot_tuple_iterator_next hit.typeIs PySem.F.entry_tuple_iterator_next ?_ (PySem.F.args_tuple_iterator_next_1 _)))
 show wpAny _ _ (field (.ref it) 0>>=_) _ _ s;refine wpAny_bind (wpAny_field ho hd (x:= .ref l) rfl ?_);show wpAny _ _ (if (Value.ref l==Value.none)=true then _ else _) _ _ s;rw[if_neg (show ¬((Value.ref l==Value.none)=true) from Bool.false_ne_true)];show wpAny _ _ (field (.ref it) 1>>=_) _ _ s;refine wpAny_bind (wpAny_field ho hd (x:= .int i 0) rfl ?_);show wpAny _ _ (seqItems? (.ref l)>>=_) _ _ s;refine wpAny_bind (wpAny_seqItems hol hdl ?_);simp only[Int.toNat_natCast,hx];refine wpAny_bind (wpAny_rule (wpAny_bind (wpAny_setField ho hd (by simp) ?_)));show wpAny _ _ (newExc (.type "StopIteration") []>>=_) _ _ _;refine wpAny_bind ?_;simp only[newExc,newTuple];refine wpAny_bind (wpAny_newObj_type ?_ (by size_fits));refine wpAny_bind (m:=firstArgMember _ _) (wpAny_of_eq (a:=Value.none) (by first|rfl|(simp only[firstArgMember];rfl)) ?_);refine wpAny_newObj_type ?_ (by size_fits);simp only[raiseNew];refine wpAny_bind (wpAny_handled ?_);first|rw[show A.in1.handled=none from hh]|rw[hh]
 refine wpAny_bind (wpAny_pure (wpAny_throw ?_));exact hE _ _ (((Heap.SameBut.update ..).extBut.push _).push _) ⟨_,Heap.get?_push_size _ rfl,rfl⟩
def yc{h h':Heap}{l:Addr}{items:Array Value}(t:h.IsTuple l items)(k:∀o,h.get? l=some o->h'.get? l=some o):h'.IsTuple l items:=let ⟨o,ho,r⟩:=t;⟨o,k o ho,r⟩
def abt(hh:A.handled=none)(it l:Addr)(hne:l≠it)(items:Array Value):Draws prog w A it [it,l] items.size (λ i v=>items[i]? =some v) (λ i h=>h.IsTupleIter it l i/\h.IsTuple l items) where
 live:=λ _ _ st=>let ⟨o,ho,_⟩:=st.1;⟨o,ho⟩
 frame:=λ _ _ _ st hk=>⟨st.1.at λ o e=>hk it (by simp) o e,yc st.2 λ o e=>hk l (by simp) o e⟩
 item:=λ i s Q E hi st hQ=>xM st.1 st.2 (x:=items[i]) (by simp[hi]) λ h' ap4 hs'=>hQ _ h' s.toks (by simp[hi]) ⟨ap4,yc st.2 λ o e=>(hs'.2 l hne).trans e⟩ hs'
 done:=λ s Q E st hE=>zy hh st.1 st.2 (by simp) hE
def Ld(l:Addr)(items:Array Value)(n:Nat)(dct:Option Addr)(sl:Array (Option Value)):
  Meets (Builtin.«enumerate.__new__» ⟨[.type "enumerate",.ref l],[]⟩) (λ _ R s=>s.heap.get? l=some {cls:= .type "tuple",dict:=dct,data:= .seq items n,slots:=sl}/\R (.ok (.ret (.ref (s.heap.push {cls:= .type "tuple_iterator",data:= .fields #[.ref l,.int 0 0]}).objs.size))) {s with heap:=(s.heap.push {cls:= .type "tuple_iterator",data:= .fields #[.ref l,.int 0 0]}).push {cls:= .type "enumerate",data:= .fields #[.none,.bool false,.ref s.heap.objs.size,rawInt 0,.none,.none]}}):=
 .of_wp λ prog w A R s h=>by
  obtain ⟨hp,g,d,tk,os⟩:=s;obtain ⟨hl,h⟩:=h;have hsub:=sub_enumerate;have hL:Heap.IsTuple (Shared.heap ⟨hp,g,d,tk,os⟩) l items:=⟨_,hl,rfl,n,rfl⟩;wp_walk using wpAny_loadPart' hl;refine wpAny_stack_any λ st=>wpAny_pure ?_;split
  ·rename_i c _ _ _ _ _;cases (c==Value.type "enumerate")
   ·wp_walk using wpAny_loadPart' hl,wpAny_pyIter_tuple hL;exact ⟨_,rfl,h⟩
   ·wp_walk using wpAny_loadPart' hl,wpAny_pyIter_tuple hL;exact ⟨_,rfl,h⟩
  ·wp_walk using wpAny_loadPart' hl,wpAny_pyIter_tuple hL;exact ⟨_,rfl,h⟩
def O0{l:Addr}{items:Array Value}{Q:Value->Shared->Prop}(hL:s.heap.IsTuple l items) (h:∀h',IsEnum h' (s.heap.objs.size+1) s.heap.objs.size 0 .none->h'.IsTupleIter s.heap.objs.size l 0->(∀b o,s.heap.get? b=some o->h'.get? b=some o)->Q (.ref (s.heap.objs.size+1)) {s with heap:=h'}):
  wpAny (model prog w) A (call (.type "enumerate") [.ref l]) Q E s:=by
 obtain ⟨⟨c,dct,dt,sl⟩,hl,hc,n,hd⟩:=hL;obtain rfl:c= .type "tuple":=hc;obtain rfl:dt= .seq items n:=hd;refine callType_new PySem.F.called_enumerate (by decide) (PySem.F.typeCall_enumerate_1 _) (PySem.F.newCall_enumerate_1 _) (λ obj=>PySem.F.args_object_init_2 obj _) PySem.F.entry_enumerate_new (Ld l items n dct sl) ⟨hl,?_⟩;have hz:(s.heap.push {cls:= .type "tuple_iterator",data:= .fields #[.ref l,.int 0 0]}).objs.size=s.heap.objs.size+1:=Heap.size_push ..;show _/\_;rw[hz];have he:IsEnum ((s.heap.push {cls:= .type "tuple_iterator",data:= .fields #[.ref l,.int 0 0]}).push
   {cls:= .type "enumerate",data:= .fields #[.none,.bool false,.ref s.heap.objs.size,rawInt 0,.none,.none]}) (s.heap.objs.size+1) s.heap.objs.size 0 .none:=by
  have:=Heap.get?_push_size (s.heap.push {cls:= .type "tuple_iterator",data:= .fields #[.ref l,.int 0 0]}) (o:={cls:= .type "enumerate",data:= .fields #[.none,.bool false,.ref s.heap.objs.size,rawInt 0,.none,.none]}) rfl;rw[hz] at this;exact this
 exact ⟨⟨_,he,rfl⟩,h _ he ⟨_,Heap.get?_push_of_some _ (Heap.get?_push_size _ rfl),rfl,rfl⟩ λ b o x=>Heap.get?_push_of_some _ (Heap.get?_push_of_some _ x)⟩
end
section
variable{X:Cx}{pins:List (Addr×Obj)}{σ:St}{H:Hp}{s:Shared}
def aea{t':Nat}{h':Heap}{ch:List Addr}(I:Inv X pins σ H s)(k:∀b o,b∉ch->s.heap.get? b=some o->h'.get? b=some o)(hf:∀b∈ch,DW X pins H b):Inv X pins σ H {s with heap:=h',toks:=t'}:=by
 have nit:∀b u,H b=some u->b∉ch:=λ b u e z=>by rw[(hf b z).1] at e;cases e
 have hL:X.env.locals∉ch:=λ z=>(hf _ z).2.1 rfl;refine I.step (g':=s.gens) (d':=s.drawn) (ch:=ch) (λ b hb=>?_) (λ b o _ _ hc e _=>k b o hc e) (λ b o _ _ hc e _=>⟨o.slots,k b o hc e⟩) (λ _ _ _ _ n=>n)
  (λ b o hc e=>⟨o,k b o hc e⟩) (λ _ _ e=>e) (λ _ _ _ e=>e) (λ b ps e=>⟨#[],by rw[e];simp⟩) (λ m hm=>?_) (λ b u e=>?_) I.bare
 ·obtain ⟨_,f1,_,f3,f4,f5⟩:=hf b hb;exact ⟨f3,f1,f4,f5⟩
 ·obtain ⟨o,es,ep,ho,r⟩:=hm;exact ⟨o,es,ep,k _ o hL ho,r⟩
 ·refine (I.hok b u e).stay (λ c v hc q=>k c v ?_ q) (λ _ q=>q) λ _ _ q=>q;rcases hc with z|z
  ·rw[z];exact nit b u e
  ·exact nit c _ z
end
section
variable{X:Cx}{ct:Ct}{a b e:Expr}{f g h:Sg->Res D}{pos:Pos}
def Ls{K:W.Frag}{H:Hp}:∀{ds:List D} {vs:List V} {ks:List Key},aL K ct H ds vs->Vm ds=some ks->vs=ks.map kV
 |[],vs,ks,h,e=>by cases e;simp only[aL] at h;subst h;rfl
 |d::ds,vs,ks,h,e=>by
  simp only[aL] at h;obtain ⟨v,r,rfl,t1,t2⟩:=h;simp only[Vm] at e;split at e
  ·rename_i k ks' e1 e2;cases e;rw[Vo t1 e1,Ls t2 e2];rfl
  ·cases e
def afo{K:W.Frag}{H:Hp}{d:D}{v:V}{k:List Key}(h:Tl K ct H d v)(e:aiC d=some k):∃p,v= .ref p/\H p=some (.tup (k.map kV)):=by
 cases d with
 |tup ds=>simp only[Tl] at h;obtain ⟨p,vs,rfl,h2,h3⟩:=h;rw[Ls h3 e] at h2;exact ⟨p,rfl,h2⟩
 |_=>cases e
def adW:WM X ct (.Dict [] [] pos) (λ _=> .ok (.k (.t []) [])):=by
 refine ⟨?_⟩;refine PE.imp ZK λ σ H Q ⟨Γ,j,h⟩=>?_;intro p hp;refine h (.ref p) _ (λ b=>b=p) (bO hp _) ?_ (λ b z=>z▸hp) λ b z q=>by subst z;rw[aG] at q;cases q
 simp only[Ow];exact ⟨p,[],rfl,rfl,aG,rfl,aL.nil⟩
end
def YD{ks:List (List Key)}{vs:List V}{k:List Key}(h:ks.length=vs.length):((ks.zip vs).any λ kv=>decide (kv.1=k))=ks.any λ n=>decide (n=k):=by
 induction ks generalizing vs with
 |nil=>simp
 |cons n ks ih=>
  cases vs with
  |nil=>simp at h
  |cons v vs=>simp only[List.zip_cons_cons,List.any_cons];rw[ih (by simpa using h)]
def Zo{K:W.Frag}{ct:Ct}{H:Hp}{ks:List (List Key)}{xs:List D}{vs:List V}{k:List Key}{d:D}{v:V}(h:ks.length=vs.length)(t:aL K ct H xs vs)(td:Tl K ct H d v):
  ∃us,putK (ks.zip vs) k v=(FW ks k).zip us/\(FW ks k).length=us.length/\aL K ct H (Kn ks xs k d) us:=by
 unfold putK FW Kn;rw[YD h];by_cases q:(ks.any λ n=>decide (n=k))=true
 ·simp only[q,if_true];clear q;induction ks generalizing xs vs with
  |nil=>
   cases vs with
   |nil=>exact ⟨[],by simp,rfl,by simp[aL]⟩
   |cons v vs=>simp at h
  |cons n ks ih=>
   cases vs with
   |nil=>simp at h
   |cons w vs=>
    cases xs with
    |nil=>simp only[aL] at t;cases t
    |cons x xs=>
     simp only[aL] at t;obtain ⟨w',r,e,t1,t2⟩:=t;cases e;obtain ⟨us,u1,u2,u3⟩:=ih (by simpa using h) t2;simp only[List.zip_cons_cons,List.map_cons];by_cases q:n=k
     ·subst q;exact ⟨v::us,by simp[u1],by simp[u2],by simpa using aL.cons td u3⟩
     ·exact ⟨w::us,by simp[q,u1],by simp[u2],by simpa[q] using aL.cons t1 u3⟩
 ·simp only[q,if_false,Bool.false_eq_true];exact ⟨vs++[v],by rw[List.zip_append h];simp,by simp[h],t.append (aL.cons td aL.nil)⟩
section
variable{X:Cx}{c:Cf}{r ix e:Expr}{i:Nat}{g:Sg->Res (List Nat)}{f fk:Sg->Res D}{pos:Pos}{Γ:Sg}{σ:St}{H:Hp}
def UX{K:W.Frag}{d:D}{y:V}{k:List Key}{v:V}{B:Hp}{m' jA:M}{S':Fp}(t:Tl K (c.at' B) H d y)(e:z8 k d m'=some jA)(o:Ow K c.z H m' v S'):
  ∃a kvs,v= .ref a/\H a=some (.dT kvs)/\kvs.length<1000000/\S' a/\Ow K c.z (upd H a (.dT (putK kvs k y))) jA (.ref a) S':=by
 cases m' with
 |k ks xs=>
  cases ks with
  |s _=>cases e
  |t ks=>
  simp only[z8] at e;split at e
  ·rename_i hc;cases e;simp only[Ow] at o ⊢;obtain ⟨a,vs,rfl,o2,o3,o4,o5⟩:=o;have o3:H a=some (.dT (ks.zip vs)):=o3;obtain ⟨us,u1,u2,u3⟩:=Zo (k:=k) o4 o5 (Tl.down (B:=B) (tm:=true) t hc.1);refine ⟨a,_,rfl,o3,by rw[List.length_zip];omega,o2,a,us,rfl,o2,?_,u2,u3.keep (aU.dT o3)⟩;rw[aG,u1];rfl
  ·cases e
 |_=>cases e
def J9{pt:Pos}(hu:X.A.units+1<cLine)(hr:∀B,WP X (c.at' B) r i g)(hk:∀B,WD X (c.at' B) ix fk)(he:∀B,WD X (c.at' B) e f)(hs:swapsWith e (some (.Subscript r ix pt)) pos.line X.env=pure false:=by rfl):yS X c (.Assign [.Subscript r ix pt] e pos) (UR i g fk f):=by
 have hr:=λ B=>(hr B).out;have hk:=λ B=>(hk B).out;have he:=λ B=>(he B).out;refine ⟨?_⟩;intro pins s σ H E I ⟨Γ,j,h⟩;refine aez hu (hr H) (hk H) (he H) hs pins s σ H E I ?_;refine ⟨Γ,j.lift,Fn.ok j h λ d _ q y H1 s1 t=>?_⟩;refine ⟨Γ,j.lift.mono s1,Ok.mono (H:=H) s1 (Fn.ok (tm:=true) (B:=H) j q λ ks _ q v H2 s2 pa=>?_) λ _ z=>z⟩;refine ⟨Γ,(j.lift.mono s1).mono s2,Ok.mono (H:=H) (s1.trans s2) (Fn.ok (tm:=true) (B:=H) j q λ z _ q u H3 s3 t3=>?_) λ _ z=>z⟩;split at q
 ·rename_i k hk';have sm:=(s1.trans s2).trans s3;have j3:=j.mono sm;obtain ⟨sl,m,v0,m',p1,p2,p3,p4,p5⟩:=pa.same s3;have ty:=t.keep (ay.keep (s2.trans s3));have e1:vg i ks (z8 k d) Γ=(z8 k d m').map λ jA=>Γ.set i (Wo sl (mW m ks jA)):=by unfold vg;rw[p1,Option.bind_some,p2,Option.bind_some,p5,Option.bind_some]
  rw[e1] at q;cases z:z8 k d m' with
  |none=>rw[z] at q;exact q.elim
  |some jA=>rw[z] at q;obtain ⟨vv,S,g1,o1⟩:=j3.ofM p1 p2;rw[p3] at g1;cases g1;obtain ⟨S',o',_⟩:=o1.OB p4 p5;obtain ⟨a,kvs,rfl,ha,hl,_⟩:=UX ty z o';obtain ⟨p,rfl,hp⟩:=afo t3 hk';refine ⟨a,_,rfl,.inr ⟨kvs,k,p,ha,rfl,hp,Nat.lt_trans hl iR,rfl⟩,?_⟩;have kp:aU c.cb H3 (upd H3 a (.dT (putK kvs k y))):=aU.dT ha;refine q σ _ ((ay.keep sm).trans kp) (j3.up p1 p2 p3 p4 p5 kp λ S' o=>?_);obtain ⟨a',kvs',e2,ha',_,w1,w2⟩:=UX ty z o;cases e2;rw[ha] at ha';cases ha';exact ⟨w1,w2⟩
 ·exact q.elim
end
end L4
end
section
namespace L4
open PySem PySem.W PyProof.Rows
structure Ord(lt:Nat->Nat->Bool)(n:Nat):Prop where
 tot:∀i j,i<n->j<n->i≠j->lt i j=!lt j i
 tr:∀i j k,i<n->j<n->k<n->lt i j=true->lt j k=true->lt i k=true
structure Pm(n:Nat)(p:Array Nat):Prop where
 size:p.size=n
 low:∀k,k<n->p.getD k 0<n
 inj:∀i j,i<n->j<n->p.getD i 0=p.getD j 0->i=j
section
variable{lt:Nat->Nat->Bool}{n:Nat}
end
end L4
end
section
namespace L4
open PySem PySem.Calls PyProof.Rows PySem.W PyProof.V PySem.Spec
noncomputable def Ent(h:Heap)(d:Addr)(es:Array DictEntry)(ep:Nat):Prop:=∃o,h.get? d=some o/\o.data= .dict es ep
abbrev itO(x y:Value)(d:Addr)(i n ep:Nat)(p q:Value):Obj:={cls:= .type "dict_itemiterator",dict:=none,data:= .fields #[x,y,.ref d,.int i 0,.int n 0,.int ep 0,p,q],slots:= #[]}
noncomputable abbrev prO(a b:Value):Obj:={cls:= .type "tuple",data:= .seq #[a,b]}
section
variable{prog:Program}{w:World}{A:Around}{E:Value->Shared->Prop}{s:Shared}
structure Told(h:Heap)(es:Array DictEntry)(lo:Addr)(as:List Addr):Prop where
 above:∀a∈as,lo<a/\a<h.objs.size
 nd:as.Pairwise (· < ·)
 pair:∀(j:Nat) (a:Addr),as[j]? =some a->∃e:DictEntry,es[j]? =some e/\h.get? a=some (prO e.key e.val)
noncomputable abbrev vwO(d:Addr):Obj:={cls:= .type "dict_items",data:= .fields #[.ref d]}
def Oe{v d:Addr}{es:Array DictEntry}{ep:Nat}{Q:Value->Shared->Prop}(hv:s.heap.get? v=some (vwO d))(hd:Ent s.heap d es ep) (hQ:Q (.ref s.heap.objs.size) {s with heap:=s.heap.push (itO .none (.bool false) d 0 es.size ep .none .none)}):wpAny (model prog w) A (pyIter (.ref v)) Q E s:=by
 obtain ⟨od,ho,hdd⟩:=hd;have ty:s.TypeIs (.ref v) "dict_items":=⟨_,hv,rfl⟩;refine wpAny_pyIter_slot ty PySem.F.slot_dict_items_iter (wpAny_call_entry PySem.F.slot_dict_items_iter ty PySem.F.entry_dict_items_iter ?_ (PySem.F.args_dict_items_iter_1 _));unfold Builtin.«dict_items.__iter__»;refine wpAny_bind (wpAny_pure (wpAny_bind ?_));unfold Builtin.Dict_items.dictOf;refine wpAny_bind (wpAny_field hv rfl (x:= .ref d) rfl (wpAny_pure (wpAny_bind ?_)));unfold Builtin.Dict_items.newIterator;refine wpAny_bind (wpAny_dictEntries ho hdd (wpAny_bind (wpAny_dictEpoch ho hdd ?_)));have own:Builtin.Dict_items.ownsTuple "dict_itemiterator"=true:=by decide
 simp only[own,if_true];refine wpAny_newObj_type (wpAny_pure ⟨_,rfl,"dict_itemiterator",_,⟨_,Heap.get?_push_size _ rfl,rfl⟩,PySem.F.slot_dict_itemiterator_next.lookup,?_⟩) (by simp only[sizeOk,Builtin.Dict_items.ownedTupleFields,List.size_toArray,List.length_append,List.length_cons,List.length_nil,sizeLine_eq];omega);simpa[rawInt,itO,Builtin.Dict_items.ownedTupleFields] using hQ
end
end L4
end
section
namespace LM
open PySem PySem.W PyProof.Rows
end LM
end
section
namespace LM
open PySem PySem.W PyProof.Rows L4
structure Mg(R:Nat->Nat->Prop)(o X Y T:List Nat):Prop where
 perm:(o++(X++Y)).Perm T
 uo:o.Pairwise R
 lo:∀x∈o,∀y∈X++Y,R x y
 ux:X.Pairwise R
 uy:Y.Pairwise R
namespace Mg
variable{R:Nat->Nat->Prop}{o X X1 X2 Y T:List Nat}{x y:Nat}
end Mg
section
variable{prog:Program}{w:World}{A:Around}{E:Value->Shared->Prop}{s:Shared}{κ:SortKind}{it:Array Keyed}{lt:Nat->Nat->Bool}{n:Nat}
noncomputable def kar(it:Array Keyed)(l:List Nat):Array Keyed:=(l.map (kas_item it)).toArray
structure Cut(lt:Nat->Nat->Bool)(it:Array Keyed)(n:Nat)(arr:Array Keyed)(base N k B:Nat):Prop where
 g:∀i,i<N->∃x,arr[base+i]? =some (kas_item it x)/\x<n/\x≠k/\lt x k=decide (i<B)
 le:B<=N
 kn:k<n
noncomputable abbrev Rl(lt:Nat->Nat->Bool)(a b:Nat):Prop:=lt a b=true
structure Two(lt:Nat->Nat->Bool)(n:Nat)(la lb:List Nat):Prop where
 hn:∀x∈la++lb,x<n
 nd:(la++lb).Nodup
 ua:la.Pairwise (Rl lt)
 ub:lb.Pairwise (Rl lt)
def Good(lt:Nat->Nat->Bool)(it:Array Keyed)(la lb:List Nat)(r:Array Keyed):Prop:=∃l,r=kar it l/\l.Perm (la++lb)/\l.Pairwise (Rl lt)
section
variable{la lb:List Nat}
structure LI(lt:Nat->Nat->Bool)(la lb o:List Nat)(ia ib:Nat):Prop where
 m:Mg (Rl lt) o (la.drop ia) (lb.drop ib) (la++lb)
 ha:ia+1<la.length
 hb:ib<lb.length
end
end
section
variable{prog:Program}{w:World}{A:Around}{E:Value->Shared->Prop}{s:Shared}{κ:SortKind}{it:Array Keyed}{lt:Nat->Nat->Bool}{n:Nat}
noncomputable abbrev Rg(lt:Nat->Nat->Bool)(a b:Nat):Prop:=lt b a=true
noncomputable abbrev tr(l:List Nat)(k:Nat):List Nat:=(l.take k).reverse
section
variable{la lb:List Nat}
structure HI(lt:Nat->Nat->Bool)(la lb o:List Nat)(na nb:Nat):Prop where
 m:Mg (Rg lt) o (tr la na) (tr lb nb) (la++lb)
 a1:1<=na
 a2:na<=la.length
 b1:2<=nb
 b2:nb<=lb.length
end
end
section
variable{prog:Program}{w:World}{A:Around}{E:Value->Shared->Prop}{s:Shared}{κ:SortKind}{it:Array Keyed}{lt:Nat->Nat->Bool}{n:Nat}
structure Nd(n:Nat)(l:List Nat):Prop where
 hn:∀x∈l,x<n
 nd:l.Nodup
def PR(lt:Nat->Nat->Bool):List (Nat×Nat×Nat)->Nat->List (List Nat)->Prop
 |[],_,[]=>True
 |(a,k,_)::t,b,r::rs=>a=b/\k=r.length/\0<r.length/\r.Pairwise (Rl lt)/\PR lt t (b+r.length) rs
 |_,_,_=>False
structure RI(lt:Nat->Nat->Bool)(it:Array Keyed)(κ:SortKind)(n:Nat)(rs:List (List Nat))(rest:List Nat)(pe:Array (Nat×Nat×Nat)):Prop where
 pr:PR lt pe.toList 0 rs
 pm:(rs.flatten++rest).Perm (List.range n)
end
end LM
end
section
namespace L4
open PySem PySem.Spec PyProof.Rows L2 PySem.W LM
section
variable{prog:Program}{w:World}{A:Around}{E:Value->Shared->Prop}{s:Shared}
end
end L4
end
section
namespace L4
open PySem PySem.Spec PyProof.Rows L2 PySem.W
section
variable{prog:Program}{w:World}{A:Around}{E:Value->Shared->Prop}{s:Shared}{Q:Bool->Shared->Prop}
end
section
variable{X:Cx}{ct:Ct}{e:Expr}{es:List Expr}{f:Sg->Res D}{fa:Sg->Res (List D)}{p pos:Pos}
end
def af5(v a:Addr):Heap->Prop:=λ h=>h.get? v=some (vwO a)
def aaT{P:Program}{w:World}{H:Hp}{h:Heap}{v a:Addr}(e:h.get? v=some (vwO a)):d8 P w H h v (.ext (af5 v a)):=⟨e,⟨_,e⟩,λ h1 h2 e1 k=>k _ e1⟩
def ahv(td:TE):TE:=λ σ H Q=>td σ H λ x H1=>∃a,x= .ref a/\IsD H1 a/\∀v,H1 v=none->Q (.ref v) (upd H1 v (.ext (af5 v a)))
section
variable{X:Cx}{ct:Ct}{o:Expr}{td:TE}{f:Sg->Res D}{ap cp p pos:Pos}
def ZJ(ho:PE X o td)(h1:attributeBase o "items" X.env (eval o X.env)=eval o X.env:=by rfl)(h3:(ap.endLine==cp.line)=true:=by rfl):PE X (.Call (.Attribute o "items" ap) [] [] cp) (ahv td):=by intro pins s σ H Q I h;refine wpAny_Call_method h1 rfl h3 PySem.F.plainAttrs_dict PySem.F.slot_dict_items PySem.F.type_dict_items (fO (ho pins s σ H _ I h) λ u s1 ⟨x,H1,I1,rx,a,ex,d,q1⟩=>?_);subst ex;obtain rfl:u=Value.ref a:=rx;obtain ⟨t1,t2,hy⟩:=aaU I1 d;refine ⟨t1,t2,?_⟩;show wpAny _ _ (callWith cp (.builtin "dict.items") [.ref a] [] []) _ _ s1;refine Calls.callWith_builtin rfl (PyProof.Rows.evalArgs_none ?_);refine wpAny_call_entry PySem.F.slot_dict_items t1 PySem.F.entry_dict_items ?_ (PySem.F.args_dict_items_1 _);unfold Builtin.«dict.items»;refine wpAny_bind ?_;unfold Builtin.Dict.noArgs;refine wpAny_bind (wpAny_notOrdered_dict t1 ?_);show wpAny _ _ (pure a) _ _ s1;refine wpAny_pure ?_;show wpAny _ _ (Builtin.Dict.showsAll a>>=_) _ _ s1;unfold Builtin.Dict.showsAll;rw[if_neg (by rw[hy];exact Bool.false_ne_true)];refine wpAny_bind (wpAny_pure (wpAny_bind (wpAny_newObj_type (wpAny_pure ⟨_,rfl,?_⟩))));have e:(s1.heap.push (vwO a)).get? s1.heap.objs.size=some (vwO a):=Heap.get?_push_size _ rfl;exact ⟨.ref s1.heap.objs.size,_,I1.laid (t':=s1.toks) (λ _ _ z=>Heap.get?_push_of_some _ z) (Nat.le_refl _) (aaT e),rfl,q1 _ (I1.hok.fresh (Nat.le_refl _))⟩
end
section
variable{X:Cx}{c:Cf}{e:Expr}{fm:Sg->Res M}{pos:Pos}
end
end L4
end
section
namespace L4
open PySem PySem.Spec PyProof.Rows L2
section
variable{X:Cx}{pins:List (Addr×Obj)}{σ:St}{H:Hp}{s:Shared}
def UN{t':Nat}{h':Heap}{ch:List Addr}{T:Addr}{o:HO}(I:Inv X pins σ H s)(k:∀b o,b∉ch->s.heap.get? b=some o->h'.get? b=some o)(hf:∀b∈ch,DW X pins H b)(hT:s.heap.objs.size<=T) (new:d8 X.prog X.w (upd H T o) h' T o):Inv X pins σ (upd H T o) {s with heap:=h',toks:=t'}:=by
 have nit:∀b u,H b=some u->b∉ch:=λ b u e z=>by rw[(hf b z).1] at e;cases e
 have hL:X.env.locals∉ch:=λ z=>(hf _ z).2.1 rfl;have hTn:H T=none:=I.hok.fresh hT;have ne:∀b u,s.heap.get? b=some u->b≠T:=λ b u e=>Nat.ne_of_lt (Nat.lt_of_lt_of_le (Heap.lt_size e) hT);have neH:∀b u,H b=some u->b≠T:=λ b u e z=>by rw[z,hTn] at e;cases e
 refine I.step (g':=s.gens) (d':=s.drawn) (ch:=ch) (λ b hb=>?_) (λ b o _ _ hc e _=>k b o hc e) (λ b o _ _ hc e _=>⟨o.slots,k b o hc e⟩) (λ b o _ e n=>by rw[aF (ne b o e)];exact n)
  (λ b o hc e=>⟨o,k b o hc e⟩) (λ b xs e=>by rw[aF (neH b _ e)];exact e) (λ b o u e=>by rw[aF (neH b _ e)];exact e) (λ b ps e=>⟨#[],by rw[aF (neH b _ e),e];simp⟩) (λ m hm=>?_) (λ b u e=>?_) I.bare
 ·obtain ⟨_,f1,_,f3,f4,f5⟩:=hf b hb;exact ⟨f3,f1,f4,f5⟩
 ·obtain ⟨o,es,ep,ho,r⟩:=hm;exact ⟨o,es,ep,k _ o hL ho,r⟩
 ·by_cases hb:b=T
  ·subst hb;rw[aG] at e;cases e;exact new
  ·rw[aF hb] at e;refine (I.hok b u e).stay (λ c v hc q=>k c v ?_ q) (λ c q=>by rw[aF (neH c _ q)];exact q) λ c u q=>by rw[aF (neH c _ q)];exact q
   rcases hc with z|z
   ·rw[z];exact nit b u e
   ·exact nit c _ z
end
def Ite(K:W.Frag)(a:Addr)(N:Nat):It:=⟨λ i H=>∃xs x,A7 K H a xs/\xs.length=N/\xs[i]? =some x,λ i H x H'=>∃p v,H p=none/\(∀xs,A7 K H a xs->xs[i]? =some v)/\x= .ref p/\H'=upd H p (.tup [.int i,v]),λ i H=>∃xs,A7 K H a xs/\xs.length=N/\N<=i⟩
def ahp{a b:String}(h:a≠b):Value.type a≠Value.type b:=λ z=>h (Value.type.inj z)
def Dp{h:Heap}{e it a:Addr}{i:Int}{j:Nat}{old:Value}{items:Array Value}(h1:IsEnum h e it i old)(h2:h.IsTupleIter it a j)(h3:h.IsTuple a items):e≠it/\e≠a/\a≠it:=by
 obtain ⟨o2,g2,c2,d2⟩:=h2;obtain ⟨o3,g3,c3,_⟩:=h3;refine ⟨λ z=>?_,λ z=>?_,λ z=>?_⟩
 ·subst z;rw[h1] at g2;cases g2;exact ahp (by decide) c2
 ·subst z;rw[h1] at g3;cases g3;exact ahp (by decide) c3
 ·subst z;rw[g2] at g3;cases g3;rw[c2] at c3;exact ahp (by decide) c3
def MT{P:Program}{w:World}{K:W.Frag}{elts:List Expr}{c:Nat}{pos:Pos}(a e it:Addr)(N:Nat):Turn P w K (.Tuple elts c pos) (Ite K a N) [e,it] e (λ i h=>(∃old,IsEnum h e it (i:Nat) old)/\h.IsTupleIter it a i/\i<=N) where
 mem:=by simp
 obj:=λ i h st b hb=>by
  obtain ⟨⟨old,h1⟩,⟨o,e2,c2,d2⟩,_⟩:=st
  simp only[List.mem_cons,List.mem_singleton,List.not_mem_nil,or_false] at hb
  rcases hb with rfl|rfl
  ·exact ⟨_,h1,λ v z=>by cases z⟩
  ·exact ⟨o,e2,λ v z=>by rw[d2] at z;cases z⟩
 keep:=λ i h h' st k=>by
  obtain ⟨⟨old,h1⟩,h2,h3⟩:=st
  exact ⟨⟨old,k e (by simp) _ h1⟩,h2.at λ o z=>k it (by simp) o z,h3⟩
 item:=by
  intro X hP hw hK hc i pins s σ H E I hf st hg
  subst hP hw hK
  obtain ⟨⟨old,h1⟩,h2,h3⟩:=st
  obtain ⟨xs,x,hq,hN,hx⟩:=hg
  obtain ⟨its,rv,p,hz⟩:=I.tuple hq
  obtain ⟨u,hu,ru⟩:=rv.get hx
  have hl:=rv.length
  have p':s.heap.IsTuple a its.toArray:=p
  obtain ⟨n1,n2,n3⟩:=Dp h1 h2 p'
  have hi:i<its.toArray.size:=by
   have:=(List.getElem?_eq_some_iff.mp hu).1
   simpa using this
  refine wpAny_pyNext_enum_itemD (abt (A:=X.A.in1) (prog:=X.prog) (w:=X.w) (I.ok.hd hc) it a n3 its.toArray) h1 ⟨h2,p'⟩ hi n1 (by simp[n1,n2]) λ y h' tk hy ho st' hT hsz kk=>?_
  have ey:y=u:=by
   rw[List.getElem?_toArray,hu] at hy;exact (Option.some.inj hy).symm
  subst ey
  refine ⟨_,rfl,wpAny_letOwnedTupleGo_enum ho λ h2' he2 sb=>?_⟩
  have hTe:s.heap.objs.size≠e:=Nat.ne_of_gt (Heap.lt_size h1)
  have hT2:h2'.get? s.heap.objs.size=some {cls:= .type "tuple",data:= .seq #[.int i tk,y]}:=(sb.2 _ hTe).trans hT
  have hfp:=λ b (hb:b∈[e,it])=>hf b hb
  have I2:Inv X pins σ (upd H s.heap.objs.size (.tup [.int i,x])) {s with heap:=h2',toks:=tk+1}:=by
   refine UN (ch:=[e,it]) I (λ b o hb q=>?_) hfp (Nat.le_refl _) ⟨by simp[sizeLine_eq],[.int i tk,y],.cons ⟨tk,rfl⟩ (.cons ru .nil),_,hT2,rfl,0,rfl⟩
   simp only[List.mem_cons,List.not_mem_nil,or_false,not_or] at hb
   exact (sb.2 b hb.1).trans (kk b o hb.1 hb.2 q)
  refine ⟨.ref s.heap.objs.size,_,I2,rfl,⟨_,x,I.hok.fresh (Nat.le_refl _),λ ys hys=>by rw[I.FP hys hq];exact hx,rfl,rfl⟩,⟨⟨_,he2⟩,?_,?_⟩,λ b hb=>?_⟩
  ·exact st'.1.at λ o z=>(sb.2 it (Ne.symm n1)).trans z
  ·have:=(List.getElem?_eq_some_iff.mp hx).1;omega
  ·have hb0:=hfp b hb
   rw[aF]
   ·exact hb0.1
   ·intro z
    simp only[List.mem_cons,List.not_mem_nil,or_false] at hb
    rcases hb with rfl|rfl
    ·exact hTe z.symm
    ·obtain ⟨o2,g2,_⟩:=h2
     exact absurd z (Nat.ne_of_lt (Heap.lt_size g2))
 done:=by
  intro X hP hw hK hc i pins s σ H E I hf st hg
  subst hP hw hK
  obtain ⟨⟨old,h1⟩,h2,h3⟩:=st
  obtain ⟨xs,hq,hN,hi⟩:=hg
  obtain ⟨its,rv,p,hz⟩:=I.tuple hq
  have hl:=rv.length
  have p':s.heap.IsTuple a its.toArray:=p
  obtain ⟨n1,n2,n3⟩:=Dp h1 h2 p'
  have ei:i=its.toArray.size:=by simp;omega
  subst ei
  refine wpAny_pyNext_enum_endD (abt (A:=X.A.in1) (prog:=X.prog) (w:=X.w) (I.ok.hd hc) it a n3 its.toArray) h1 ⟨h2,p'⟩ λ h' eb=>⟨rfl,?_⟩
  exact aea (ch:=[it]) (t':=s.toks) I (λ b o hb q=>eb b o (by simpa using hb) q) λ b hb=>hf b (by simp only[List.mem_singleton] at hb;subst hb;simp)
 self:=λ _ _ _ _ _ st h=>by
  obtain ⟨⟨old,h1⟩,_⟩:=st
  exact wpAny_pyIter_enum h1 h
end L4
end
section
namespace L4
open PySem
noncomputable def pF:Nat->List D->List D
 |_,[]=>[]
 |k,x::t=> .tup [.int k,x]::pF (k+1) t
def VC:List D->Res (List D)
 |[.tup xs]=> .ok (pF 0 xs)
 |_=> .bad
def LB(r:Sg->Res (List D)):Sg->Res (List D):=λ Γ=>(r Γ).bnd VC
def kg:D->Res (List D)
 | .lst xs=> .ok xs
 | .bor _ xs=> .ok xs
 | .tup xs=> .ok xs
 | .gt xs=> .ok xs
 |_=> .bad
def bW(f:Sg->Res D):Sg->Res (List D):=λ Γ=>(f Γ).bnd kg
@[simp] theorem aj9{f:Sg->Res D}{Γ:Sg}:bW f Γ=(f Γ).bnd kg:=(rfl)
@[simp] theorem akY(xs:List D):kg (.tup xs)= .ok xs:=(rfl)
noncomputable def d3:D->Option (List Int)
 | .tup [.int a,.int b,.int c]=>some [a,b,c]
 |_=>none
end L4
end
section
namespace L4
open PySem PySem.Spec PyProof.Rows L2 PySem.W
section
variable{X:Cx}{ct:Ct}{e:Expr}{es:List Expr}{f:Sg->Res D}{fa:Sg->Res (List D)}{p pos:Pos}
end
end L4
end
section
namespace L4
open PySem PySem.Spec PyProof.Rows L2
section
variable{X:Cx}{c:Cf}{st:Stmt}{sts:List Stmt}
end
def hU1{a b:Nat}(h:a+64<b):a+1<b:=by omega
def CQ(X:Cx)(scope:Scope)(c:Nat)(y:Str):Prop:=X.N[c]? =some y/\Uv X.env.scope y/\X.env.kindOf y≠some .local/\(y,NameKind.free)∈scope.names
def abQ{X:Cx}{scope:Scope}{c:Nat}{y:Str}(h1:X.N[c]? =some y)(h2:Uv X.env.scope y:=by first|exact Or.inl rfl|exact Or.inr (Or.inl rfl)|exact Or.inr (Or.inr rfl))(h3:X.env.kindOf y≠some .local:=by exact λ h=>nomatch h)(h4:(y,NameKind.free)∈scope.names:=by decide+kernel):CQ X scope c y:=⟨h1,h2,h3,h4⟩
def afV{X:Cx}{scope:Scope}{k:Nat}{caps:List Nat}{N':List Str}(h:∀p∈caps.zip (N'.drop k),CQ X scope p.1 p.2)(i c:Nat)(y:Str)(h1:caps[i]? =some c)(h2:N'[k+i]? =some y):X.N[c]? =some y/\Uv X.env.scope y/\X.env.kindOf y≠some .local/\(y,NameKind.free)∈scope.names:=h (c,y) (List.mem_of_getElem? (i:=i) (List.getElem?_zip_eq_some.mpr ⟨h1,by rw[List.getElem?_drop];exact h2⟩))
section
variable{X:Cx}{ct:Ct}{a b:Expr}{f g:Sg->Res D}{pos:Pos}
end
section
variable{X:Cx}{c:Cf}{r ix e:Expr}{i:Nat}{g:Sg->Res (List Nat)}{f:Sg->Res (List D)}{pos:Pos}{Γ:Sg}{σ:St}{H:Hp}
end
section
variable{X:Cx}{ct:Ct}{tg:Expr}{elts:List Expr}{cx:Nat}{tp:Pos}
def apV(K:W.Frag)(ta:TA):TI:=λ σ H R=>ta σ H λ vs H1=>∃a xs,vs=[.ref a]/\A7 K H1 a xs/\R (Ite K a xs.length) H1
def aeG{a:Expr}{ta:TA}{p pos:Pos}(hg:Gl X "enumerate")(hm:X.mg "enumerate"=none)(ha:PA X [a] ta)(hs:starEach [a] X.env=[(false,eval a X.env)]:=by rfl):PI X (.Tuple elts cx tp) (.Call (.Name "enumerate" p) [a] [] pos) (apV X.K ta):=by
 intro pins s σ H R I h;refine Call_ (C6 I hg hm boot_enumerate (PyProof.Rows.callWith_type1 (fO (ha pos pins s σ H _ I h) λ us s1 ⟨vs,H1,I1,r1,q1⟩=>?_) hs rfl));obtain ⟨l,xs,e,hq,q⟩:=q1;subst e;cases r1 with
 |cons r rr=>
  cases rr;cases r;obtain ⟨its,rv,p,hz⟩:=I1.tuple hq;refine O0 (show s1.heap.IsTuple l its.toArray from p) λ h' he hit k=>?_;refine wpAny_pyIter_enum he ?_;refine ⟨s1.heap.objs.size+1,[s1.heap.objs.size+1,s1.heap.objs.size],_,_,H1,rfl,I1.kept (t':=s1.toks) k,MT l _ _ xs.length,⟨⟨_,he⟩,hit,Nat.zero_le _⟩,λ b hb=>?_,q⟩;simp only[List.mem_cons,List.not_mem_nil,or_false] at hb;rcases hb with rfl|rfl
  ·exact I1.OA (Nat.le_succ _) (I1.hok.fresh (Nat.le_succ _))
  ·exact I1.OA (Nat.le_refl _) (I1.hok.fresh (Nat.le_refl _))
def Gu:∀(k:Nat) (xs:List D),(pF k xs).length=xs.length
 |_,[]=>rfl
 |k,x::xs=>by simp[pF,Gu (k+1) xs]
def Gv:∀(k:Nat) (xs:List D) (i:Nat),(pF k xs)[i]? =(xs[i]?).map λ x=> .tup [.int ((k+i:Nat):Int),x]
 |_,[],i=>by simp[pF]
 |k,x::xs,0=>by simp[pF]
 |k,x::xs,i+1=>by simp only[pF,List.getElem?_cons_succ];rw[Gv (k+1) xs i,show k+1+i=k+(i+1) by omega]
def aaS{K:W.Frag}{H:Hp}{a:Addr}{vs:List V}{xs:List D}(fz:A7 K H a vs)(t:aL K ct H xs vs):JX K ct (Ite K a vs.length) (pF 0 xs) H:=by
 refine ⟨λ H1=>aU ct.f.cb H H1,aU.refl H,λ H1 H2 k1 k2 _ _=>k1.trans k2,λ i d H1 k1 hd=>?_,λ i H1 k1 hi=>⟨vs,k1.sqT fz,rfl,by rw[Gu] at hi;rw[<-t.length];exact hi⟩⟩;rw[Gv,Nat.zero_add] at hd;cases hx:xs[i]? with
 |none=>rw[hx] at hd;cases hd
 |some x=>rw[hx] at hd;simp only[Option.map_some,Option.some.injEq] at hd;subst hd;obtain ⟨v,hv,tv⟩:=t.get hx;refine ⟨⟨vs,v,k1.sqT fz,rfl,hv⟩,λ y H2 ⟨p,v',hp,hv',ey,eH⟩=>?_⟩;have e2:=hv' vs (k1.sqT fz);rw[hv] at e2;cases e2;subst ey eH;have sm:=bO (H:=H1) hp (.tup [.int i,v]);refine ⟨sm,?_⟩;simp only[Tl];exact ⟨p,_,rfl,aG,aL.cons (by simp[Tl]) (aL.cons ((tv.keep k1).keep (ay.keep sm)) aL.nil)⟩
def J5{a:Expr}{r:Sg->Res (List D)}{p pos':Pos}(hm:X.mg "enumerate"=none)(ha:D0 X ct [a] r)(hgl:Gl X "enumerate":=by rfl)(hs:starEach [a] X.env=[(false,eval a X.env)]:=by rfl):WID X ct (.Tuple elts cx tp) (.Call (.Name "enumerate" p) [a] [] pos') (LB r):=by
 have ha:=ha.out;refine ⟨?_⟩;intro pins s σ H R I ⟨Γ,j,h⟩;refine aeG hgl hm ha hs pins s σ H R I ⟨Γ,j,h.bnd λ ds _ q vs H' s tl=>?_⟩;unfold VC at q;split at q
 ·rename_i xs _;replace q:∀J H',ay H H'->JX X.K ct J (pF 0 xs) H'->R J H':=q;obtain ⟨v,rfl,t1⟩:=GR tl;simp only[Tl] at t1;obtain ⟨b,us,rfl,hb,t2⟩:=t1;exact ⟨b,us,rfl,qN hb,q _ H' s (aaS (qN hb) t2)⟩
 ·exact q.elim
end
section
variable{X:Cx}{ct:Ct}{tg:Expr}
def afA:fastTable "dict_itemiterator.__iter__"=none:=by kernel_rfl
def aiO:"dict_itemiterator.__iter__".cutAt '#'=["dict_itemiterator.__iter__"]:=by kernel_rfl
def aiN:fastTable "dict_keyiterator.__iter__"=some Builtin.«dict_keyiterator.__iter__»:=by kernel_rfl
def u9:entryFor table "dict_itemiterator.__iter__"=some Builtin.«dict_keyiterator.__iter__»:=entryFor_alias afA aiO (by decide+kernel) aiN
def E3{prog:Program}{w:World}{A:Around}{E:Value->Shared->Prop}{s:Shared}{it:Addr}{o:Obj}{Q:Value->Shared->Prop}(h:s.heap.get? it=some o)(hc:o.cls= .type "dict_itemiterator")(q:Q (.ref it) s):wpAny (model prog w) A (pyIter (.ref it)) Q E s:=by have ty:s.TypeIs (.ref it) "dict_itemiterator":=⟨o,h,hc⟩;refine wpAny_pyIter_slot ty PySem.F.slot_dict_itemiterator_iter (wpAny_call_entry PySem.F.slot_dict_itemiterator_iter ty u9 ?_ (PySem.F.args_dict_itemiterator_iter_1 _));unfold Builtin.«dict_keyiterator.__iter__»;exact wpAny_pure ⟨_,rfl,"dict_itemiterator",_,ty,PySem.F.slot_dict_itemiterator_next.lookup,q⟩
end
noncomputable def afp(K:W.Frag)(cv:Value)(n:String)(l:List (Value×List String)):Bool:=l.all λ p=>W.kitOne K p.1 cv==some (p.2.contains n)
noncomputable def kN:List (Value×List String):=[(.type "NoneType",["NoneType"]),(.type "bool",["bool","int"]),(.type "int",["int"]),(.type "str",["str"]),(.type "tuple",["tuple"]),(.type "list",["list"]),(.type "dict",["dict"])]
def isAll(K:W.Frag)(mt:List (String×List String))(E:List (String×Addr))(T:rC)(IS:List (Value×String)):Bool:=IS.all λ x=>afp K x.1 x.2 kN&&afp K x.1 x.2 (E.map λ e=>(.ref e.2,(mt.lookup e.1).getD []))&&afp K x.1 x.2 (T.map λ e=>(.ref e.2.1,(mt.lookup e.1).getD []))
def nY{K:W.Frag}{cv:Value}{n:String}{l:List (Value×List String)}(h:afp K cv n l=true){p:Value×List String}(hp:p∈l):W.kitOne K p.1 cv=some (p.2.contains n):=eq_of_beq (List.all_eq_true.mp h p hp)
def Xz{K:W.Frag}{mt:List (String×List String)}{E:List (String×Addr)}{T:rC}{IS:List (Value×String)}{cv:Value}{n:String}(h:isAll K mt E T IS=true)(hm:(cv,n)∈IS):YA K (abP E T) mt cv n:=by
 have h1:=List.all_eq_true.mp h _ hm;simp only[Bool.and_eq_true] at h1;obtain ⟨⟨h1,h2⟩,h3⟩:=h1;refine ⟨nY h1 (.head _),nY h1 (.tail _ (.head _)),nY h1 (.tail _ (.tail _ (.head _))),nY h1 (.tail _ (.tail _ (.tail _ (.head _)))),nY h1 (.tail _ (.tail _ (.tail _ (.tail _ (.head _))))),nY h1 (.tail _ (.tail _ (.tail _ (.tail _ (.tail _ (.head _)))))),nY h1 (.tail _ (.tail _ (.tail _ (.tail _ (.tail _ (.tail _ (.head _))))))),λ c C ks hc hk=>?_,λ c C ns ks hc hk=>?_⟩
 ·have:=nY h2 (List.mem_map.mpr ⟨_,gA hc,rfl⟩);simp only[hk,Option.getD_some] at this;exact this
 ·have:=nY h3 (List.mem_map.mpr ⟨_,gA hc,rfl⟩);simp only[hk,Option.getD_some] at this;exact this
section
variable{P:Program}{w:World}{K:W.Frag}{mg:Str->Option Value}{cb:Cb}{base:Heap}
def sE{x qual:Str}{st:Stmt}{f:Addr}{fd:FuncData}{N ps:List Str}{k:Nat}{F:List Slot->cV}(B:Nat->Sg->Out)(Yx:nM K x qual st f fd)(hF:∀as,as.length=ps.length->F as≠.bad->∃n,qf (B n (cN N as))=F as)(hbody:∀(c:Cf) (cdv:Value) (A:Around) (outer:List Env) (s:Shared) (H:Hp) (E:XK),c.cb=cb->fN k (A.deeper (envOfC qual (aA st) s.heap.objs.size f cdv))->Good (qu (J3 P w) P w K mg base N qual (aA st) f cdv A outer s H E)->∀n,ve (qu (J3 P w) P w K mg base N qual (aA st) f cdv A outer s H E) c (aH st) (B n)) (S:qg N ps (aA st):=by exact ⟨rfl,rfl,rfl,by decide+kernel,rfl,by decide+kernel,by decide+kernel⟩):jR P w K mg base cb (k+1) f fd ps F:=ad1 Yx S hbody hF
def wfG{x qual:Str}{st:Stmt}{f:Addr}{fd:FuncData}{N ps:List Str}{k:Nat}{F:List Slot->cV}(B:Nat->Sg->Out)(Yx:nM K x qual st f fd)(hF:∀as,as.length=ps.length->F as≠.bad->∃n,A4 (B n (cN N as))=F as)(hbody:∀(c:Cf) (cdv:Value) (A:Around) (outer:List Env) (s:Shared) (H:Hp) (E:XK),c.cb=cb->fN k (A.deeper (envOfC qual (aA st) s.heap.objs.size f cdv))->Good (qu (J3 P w) P w K mg base N qual (aA st) f cdv A outer s H E)->∀n,ve (qu (J3 P w) P w K mg base N qual (aA st) f cdv A outer s H E) c (aH st) (B n)) (S:qg N ps (aA st):=by exact ⟨rfl,rfl,rfl,by decide+kernel,rfl,by decide+kernel,by decide+kernel⟩):jR P w K mg base cb (k+1) f fd ps F:=ad0 Yx S hbody hF
end
section
variable{X:Cx}{ct:Ct}{tg iter e:Expr}{f:Sg->Res D}{pos:Pos}
def fH(he:WD X ct iter f):WID X ct tg iter (bW f):=by
 have he:=he.out;refine ⟨?_⟩;intro pins s σ H R I ⟨Γ,j,h⟩;cases q:f Γ with
 |bad=>simp only[bW,q,Res.Bv] at h;exact h.elim
 |err c=>simp only[bW,q,Res.Bu] at h;exact uE he pins s σ H R I ⟨Γ,j,by rw[q];exact h⟩
 |ok d=>
  simp only[bW,q,Res.bD] at h;cases d with
  |lst xs=>replace h:∀J H',ay H H'->JX X.K ct J xs H'->R J H':=h;refine uE he pins s σ H R I ⟨Γ,j,?_⟩;rw[q];intro v H' sm tl;simp only[Tl] at tl;obtain ⟨a,vs,rfl,fz,tl⟩:=tl;exact ⟨a,rfl,⟨vs,fz.sq⟩,h _ H' sm (Lz fz tl)⟩
  |bor tm xs=>replace h:∀J H',ay H H'->JX X.K ct J xs H'->R J H':=h;refine uE he pins s σ H R I ⟨Γ,j,?_⟩;rw[q];intro v H' sm tl;have j':=j.mono sm;obtain ⟨a,rfl,sq,it⟩:=Vs j'.lL j'.lB tl;exact ⟨a,rfl,sq,h _ H' sm it⟩
  |tup xs=>replace h:∀J H',ay H H'->JX X.K ct J xs H'->R J H':=h;refine Hr he pins s σ H R I ⟨Γ,j,?_⟩;rw[q];intro v H' sm tl;simp only[Tl] at tl;obtain ⟨a,vs,rfl,fz,tl⟩:=tl;exact ⟨a,rfl,⟨vs,qN fz⟩,h _ H' sm (Bo (qN fz) tl)⟩
  |gt xs=>replace h:∀J H',ay H H'->JX X.K ct J xs H'->R J H':=h;refine Hr he pins s σ H R I ⟨Γ,j,?_⟩;rw[q];intro v H' sm tl;simp only[Tl] at tl;obtain ⟨a,vs,rfl,fz,tl⟩:=tl;exact ⟨a,rfl,⟨vs,fz.sq⟩,h _ H' sm (Bo fz.sq tl)⟩
  |_=>exact h.elim
end
section
variable{X:Cx}{ct:Ct}{a b:Expr}{f g:Sg->Res D}
end
end L4
end
section
namespace L4
open PySem
def Yy(ks:List gT)(k:gT):Option Nat:=ks.findIdx? λ n=>decide (n=k)
def ym(ks:List gT)(ms:List M)(k:gT):M:=match Yy ks k with
 |some _=> .q (.s ks) ms
 |none=> .q (.s (ks++[k])) (ms++[.l []])
def Dq(ks:List gT)(k:gT):Nat:=(Yy ks k).getD ks.length
def xg(i:Nat)(fk f:Sg->Res D):Sg->Out:=λ Γ=>match Γ[i]? with
 |some (.own (.q (.s ks) ms))=>oE (fk Γ) Γ λ z=>match aaK z with
  |some k=>if ks.length<1000000/\ks.length=ms.length/\Of (xK i [Dq ks k] (Γ.set i (.own (ym ks ms k))))=true then oE (f (Γ.set i (.own (ym ks ms k)))) (Γ.set i (.own (ym ks ms k))) λ d=>oUp (vg i [Dq ks k] (JJ d) (Γ.set i (.own (ym ks ms k)))) else .bad
  |none=> .bad
 |_=> .bad
def aan:Sg->Res M:=λ _=> .ok (.q (.s []) [])
def kD:gT->D
 | .inl i=> .int i
 | .inr x=> .str x
def Di:D->Res (List D)
 | .uQ (.s ks) xs=>if ks.length=xs.length then .ok ((ks.zip xs).map λ p=> .tup [kD p.1,p.2]) else .bad
 |_=> .bad
def Om(f:Sg->Res D):Sg->Res (List D):=λ Γ=>(f Γ).bnd Di
@[simp] theorem aiR{f:Sg->Res D}{Γ:Sg}:Om f Γ=(f Γ).bnd Di:=(rfl)
def abh(a b:Str):D->Res D
 | .str x=>if x.length<=sizeLine/\(Str.empty++a++x).length<=sizeLine/\(Str.empty++a++x++b).length<=sizeLine then .ok (.str (Str.empty++a++x++b)) else .bad
 |_=> .bad
def abE(a b:Str)(f:Sg->Res D):Sg->Res D:=λ Γ=>(f Γ).bnd (abh a b)
@[simp] theorem akg{a b:Str}{f:Sg->Res D}{Γ:Sg}:abE a b f Γ=(f Γ).bnd (abh a b):=(rfl)
def UQ(i:Nat):Sg->Out:=λ Γ=>match Γ[i]? with
 |some (.par m)=> .BX m Γ
 |_=> .bad
def J4(i q:Nat)(s:Slot)(Γ:Sg):cV->Res Sg
 | .CA _ [(q',m')]=>if q'=q then .ok (Γ.set i (Wo s m')) else .bad
 |_=> .bad
def BB(n i q:Nat)(F:List Slot->cV)(f:Sg->Res (List D)):Sg->Res Sg:=λ Γ=>match Γ[i]? with
 |some s=>(match Mx s with
  |some m=>(f Γ).bnd λ ds=>if ds.length=n/\q<n/\noO m=true then J4 i q s Γ (F ((ds.map Slot.val).set q (.par m))) else .bad
  |none=> .bad)
 |none=> .bad
def G3(g:Sg->Res Sg):Sg->Out:=λ Γ=>oE (g Γ) Γ λ Γ'=> .nx Γ'
@[simp] theorem ahG{g:Sg->Res Sg}{Γ:Sg}:G3 g Γ=oE (g Γ) Γ λ Γ'=> .nx Γ':=(rfl)
end L4
end
section
namespace L4
open PySem PySem.Spec PyProof.Rows L2
section
variable{X:Cx}{pins:List (Addr×Obj)}{σ:St}{H:Hp}{s:Shared}{a:Addr}{kvs:List (Key×V)}{A:Around}{E:Value->Shared->Prop}{k:Key}{u r:Value}{z:V}
def abC{Q:Value->Shared->Prop}(I:Inv X pins σ H s)(e:H a=some (.dK kvs))(ry:RelV (kV k) u)(rz:RelV z r)(l:kvs.length<sizeLine) (h1:∀v w' s',oJ kvs k=some v->Inv X pins σ H s'->RelV v w'->Q w' s') (h2:∀s',oJ kvs k=none->Inv X pins σ (upd H a (.dK (putK kvs k z))) s'->Q r s'):
  wpAny (model X.prog X.w) A (call (.builtin "dict.setdefault") [.ref a,u,r]) Q E s:=by
 obtain ⟨zz,hd,vs,rel,dd⟩:=agz I.hok e;refine call_meetsIn PySem.F.slot_dict_setdefault dd.typeIs PySem.F.entry_dict_setdefault (PySem.F.args_dict_setdefault_3 _ _ _) (kt_meets_setdefault (fG X.prog X.w) a (aaO ry) hd r) ⟨vs,dd,by rw[<-rel.length];exact zz,λ v hv=>?_,λ hn h' dd' hs=>?_⟩
 ·cases q:oJ kvs k with
  |none=>have hn:valueAt vs k=none:=ur.none_of (by rw[<-q];exact rel.val k);rw[hn] at hv;cases hv
  |some v0=>obtain ⟨w',hw,rw'⟩:=ur.some_of (v:=v0) (o:=valueAt vs k) (by rw[<-q];exact rel.val k);rw[hw] at hv;cases hv;exact h1 v0 _ _ q (I.tok _) rw'
 ·have q:oJ kvs k=none:=by
   cases q:oJ kvs k with
   |none=>rfl
   |some v0=>obtain ⟨w',hw,rw'⟩:=ur.some_of (v:=v0) (o:=valueAt vs k) (by rw[<-q];exact rel.val k);rw[hn] at hw;cases hw
  have he:∃q,h'.get? a=some q:=let ⟨q,_,_,hq,_⟩:=dd';⟨q,hq⟩
  have hl:(putK kvs k z).length<=sizeLine:=by have:=tQ kvs k z;omega
  exact h2 _ q (Jl I (by rw[e];exact True.intro) hs he (abv hl hd (rel.put k rz) dd'))
end
def akS(td ty tx:TE):TE:=λ σ H Q=>td σ H λ x H1=>∃a,x= .ref a/\IsD H1 a/\ty σ H1 λ y H2=>tx σ H2 λ z H3=>∃kvs k,H3 a=some (.dK kvs)/\y=kV k/\kvs.length<sizeLine/\(∀v,oJ kvs k=some v->Q v H3)/\(oJ kvs k=none->Q z (upd H3 a (.dK (putK kvs k z))))
section
variable{X:Cx}{o e f:Expr}{apos cpos:Pos}{td ty tx:TE}
def Nj(ho:PE X o td)(he:PE X e ty)(hf:PE X f tx)(m:M2 X o "setdefault" apos e f cpos):PE X (.Call (.Attribute o "setdefault" apos) [e,f] [] cpos) (akS td ty tx):=by intro pins s σ H Q I h;refine wpAny_Call_method m.base m.few m.line PySem.F.plainAttrs_dict PySem.F.slot_dict_setdefault PySem.F.type_dict_setdefault (fO (ho pins s σ H _ I h) λ u s1 ⟨x,H1,I1,rx,a,ex,d,q1⟩=>?_);subst ex;obtain rfl:u=Value.ref a:=rx;obtain ⟨t1,t2,_⟩:=aaU I1 d;refine ⟨t1,t2,?_⟩;rw[m.trees];refine Calls.callWith_builtin rfl (Calls.evalArgs_plain (Calls.spliced_cons (fO (he pins s1 σ H1 _ I1 q1) λ iv s2 ⟨y,H2,I2,ry,q2⟩=>Calls.spliced_cons (fO (hf pins s2 σ H2 _ I2 q2) λ fv s3 ⟨z,H3,I3,rz,kvs,k,ea,ey,l,q3,q4⟩=>Calls.spliced_nil ?_))));subst ey;exact abC I3 ea ry rz l (λ v w' s4 hv I4 rw'=>⟨v,H3,I4,rw',q3 v hv⟩) λ s4 hn I4=>⟨z,_,I4,rz,q4 hn⟩
end
def UM{k:Key}:∀{ks:List Key} {vs:List V},ks.length=vs.length->(∀v,oJ (ks.zip vs) k=some v->∃j,Yy ks k=some j/\vs[j]? =some v)/\(oJ (ks.zip vs) k=none->Yy ks k=none)
 |[],vs,_=>⟨λ v h=>by simp[oJ] at h,λ _=>rfl⟩
 |n::ks,[],h=>by simp at h
 |n::ks,w::vs,h=>by
  obtain ⟨g1,g2⟩:=UM (k:=k) (ks:=ks) (vs:=vs) (by simpa using h);by_cases q:n=k
  ·subst q;refine ⟨λ v hv=>⟨0,by simp[Yy,List.findIdx?_cons],?_⟩,λ hv=>?_⟩
   ·simp[oJ,List.find?_cons] at hv;simp[hv]
   ·simp[oJ,List.find?_cons] at hv
  ·refine ⟨λ v hv=>?_,λ hv=>?_⟩
   ·obtain ⟨j,e1,e2⟩:=g1 v (by simpa[oJ,List.find?_cons,q] using hv);refine ⟨j+1,?_,by simpa using e2⟩;unfold Yy at e1 ⊢;simp[List.findIdx?_cons,q,e1]
   ·have:=g2 (by simpa[oJ,List.find?_cons,q] using hv);unfold Yy at this ⊢;rw[List.findIdx?_cons];simp only[q,decide_false];rw[this];rfl
section
variable{X:Cx}{c:Cf}{i:Nat}{x:Str}{ke le e:Expr}{fk f:Sg->Res D}{pos xp ap cp ap2 cp2:Pos}
def MM(i:Nat)(hk:WD X c.z ke fk)(hl:WM X c.z le (mL (Dy aB)))(he:WD X c.z e f)(hN:X.N[i]? =some x:=by rfl)(hv:Uv X.env.scope x:=by first|exact Or.inl rfl|exact Or.inr (Or.inl rfl)|exact Or.inr (Or.inr rfl))(hd:(x==("__debug__":Str))=false:=by decide)(hcd:(x==("__classdict__":Str))=false:=by decide)(m:M2 X (.Name x xp) "setdefault" ap ke le cp:=by exact ⟨rfl,rfl,rfl,rfl⟩)(hbase:attributeBase (.Call (.Attribute (.Name x xp) "setdefault" ap) [ke,le] [] cp) "append" X.env (eval (.Call (.Attribute (.Name x xp) "setdefault" ap) [ke,le] [] cp) X.env)=eval (.Call (.Attribute (.Name x xp) "setdefault" ap) [ke,le] [] cp) X.env:=by rfl)(hfew:((backTo cp2 (starEach [e] X.env)).all (λ x=>!x.1)&&(backToKw cp2 (keywordEach [] X.env)).all (λ x=>x.1.isSome)
   &&decide ([e].length+([]:List Keyword).length+(if ([]:List Keyword).isEmpty then 0 else 1)<30))=true:=by rfl) (hline:(ap2.endLine==cp2.line)=true:=by rfl) (hs:starEach [e] X.env=(false,eval e X.env)::starEach [] X.env:=by rfl) (hplain:(backTo cp2 (starEach [] X.env)).any (·.1)=false:=by rfl) (hw:swapsWith (.Call (.Attribute (.Call (.Attribute (.Name x xp) "setdefault" ap) [ke,le] [] cp) "append" ap2) [e] [] cp2) none pos.line X.env=pure false:=by rfl):yS X c (.Expr (.Call (.Attribute (.Call (.Attribute (.Name x xp) "setdefault" ap) [ke,le] [] cp) "append" ap2) [e] [] cp2) pos) (xg i fk f):=by
 have hk:=hk.out;have hl:=hl.out;have he:=he.out;refine ⟨?_⟩;intro pins s σ H E I ⟨Γ,j,h⟩;refine Be (agh PySem.F.plainAttrs_list PySem.F.slot_list_append PySem.F.type_list_append zD (Nj (vM hN hv hd hcd) hk hl m) (nR he zh hs) hbase hfew hline hs hplain) hw pins s σ H E I ?_;unfold xg at h;split at h
 ·rename_i ks ms hi;obtain ⟨v0,S,hσ,o,_,_⟩:=j.own hi;simp only[Ow] at o;obtain ⟨a,vs,rfl,oa,ha,hl0,_⟩:=o;refine ⟨.ref a,hσ,a,rfl,.inl ⟨_,.inl ha⟩,⟨Γ,j,Fn.ok j h λ z _ q y H1 s1 t=>?_⟩⟩;split at q
  ·rename_i k hk';split at q
   ·rename_i hc;obtain ⟨hc1,hc2,hc3⟩:=hc;have j1:=j.mono s1;refine ⟨Γ,j1,?_⟩;intro v H2 S2 s2 o2 n2 h2;simp only[Ow] at o2;obtain ⟨p,us,rfl,sp,hp,tu⟩:=o2;simp only[aL] at tu;subst tu;have j2:=j1.mono s2;have s12:=s1.trans s2;have ha2:=s12 _ _ ha;have yk:=Vo t hk';have hz:ks.length=vs.length:=hl0;obtain ⟨x1,x2⟩:=UM (k:=k) hz;have fin:∀v Hx,aU c.cb H Hx->Jx X c.z (Γ.set i (.own (ym ks ms k))) σ Hx->uu (Γ.set i (.own (ym ks ms k))) σ Hx i [Dq ks k] v->(tyV X.K "list" v Hx/\Y8 (sC X c.z f) ahu σ Hx λ vs H2=>UW v vs H2 λ _ H'=>E.nx σ H'):=λ v Hx kx jx pa=>by obtain ⟨b,us,rfl,hb⟩:=F1 jx pa hc3;refine ⟨.inl ⟨rfl,us,vD.of hb⟩,⟨_,jx,Fn.ok jx (q.mono kx) λ d _ q y H3 s3 t3=>?_⟩⟩;have j3:=jx.mono s3;have pa3:=pa.same s3;have hb3:=s3 _ _ hb;obtain ⟨m',jA,S',e1,o1⟩:=GO j3 pa3 q;refine ⟨b,us,y,rfl,rfl,hb3,Nat.lt_trans (JI (B:=H) (Tl.lift t3) hb3 e1 o1).1 iR,?_⟩;exact GP j3 (ay.keep s3) pa3 hb3 q λ m' jA S' e o=>(JI (B:=H) (Tl.lift t3) hb3 e o).2
    refine ⟨ks.zip vs,k,ha2,yk,Nat.lt_of_le_of_lt (by rw[List.length_zip];exact Nat.min_le_left _ _) (Nat.lt_trans hc1 iR),λ v hv=>?_,λ hn=>?_⟩
    ·obtain ⟨n,e1,e2⟩:=x1 v hv;have em:ym ks ms k= .q (.s ks) ms:=by unfold ym;rw[e1]
     have ei:Dq ks k=n:=by unfold Dq;rw[e1];rfl
     have eg:Γ.set i (.own (.q (.s ks) ms))=Γ:=by obtain ⟨h1,h2⟩:=List.getElem?_eq_some_iff.mp hi;rw[<-h2,List.set_getElem_self]
     have hn:n<ms.length:=by have:=(List.getElem?_eq_some_iff.mp e2).1;omega
     refine fin v H2 (ay.keep s12) (by rw[em,eg];exact j2) ?_;rw[em,ei,eg];refine ⟨_,_,_,ms[n],hi,rfl,hσ,?_,?_⟩
     ·simp only[Walk];exact ⟨a,vs,v,ms[n],rfl,ha2,hl0,e2,List.getElem?_eq_getElem hn,rfl⟩
     ·simp[pJ,List.getElem?_eq_getElem hn]
    ·have e1:=x2 hn;have em:ym ks ms k= .q (.s (ks++[k])) (ms++[.l []]):=by unfold ym;rw[e1]
     have ei:Dq ks k=ks.length:=by unfold Dq;rw[e1];rfl
     have ep:putK (ks.zip vs) k (.ref p)=(ks++[k]).zip (vs++[.ref p]):=by unfold putK;rw[BN,hn,List.zip_append hz];rfl
     have hpa:p≠a:=by rintro rfl;rw[hp] at ha2;cases ha2
     have np:=n2 p sp;obtain ⟨S0,g1,g2⟩:=j1.chg i;obtain ⟨v1,z1,z2,z3,z4⟩:=g1 _ _ hi hσ;cases z1;simp only[Ow] at z2;obtain ⟨a',vs',y1,y2,y3,y4,y5⟩:=z2;cases y1;have ev:vs'=vs:=aa5 y4 hl0 (by have:=s1 _ _ ha;rw[this] at y3;exact (Option.some.inj y3).symm);subst ev;have kp:aU c.cb H2 (upd H2 a (.dK (putK (ks.zip vs') k (.ref p)))):=aU.dK ha2;have kp1:=(ay.keep (cb:=c.cb) s2).trans kp;have hp4:upd H2 a (.dK (putK (ks.zip vs') k (.ref p))) p=some (.lst []):=by rw[aF hpa];exact hp
     have os2:=(y5.frame (ay.keep s2) λ b o _ q=>s2 b o q).frame (H':=upd H2 a (.dK (putK (ks.zip vs') k (.ref p)))) kp λ b o z q=>by rw[aF z.2];exact q
     have ol:Ow X.K c.z (upd H2 a (.dK (putK (ks.zip vs') k (.ref p)))) (.l []) (.ref p) (λ b=>b=p):=by simp only[Ow];exact ⟨p,[],rfl,rfl,hp4,aL.nil⟩
     have np0:¬S0 p:=λ z=>z3.here p z np;have os4:=os2.Za ol λ b z e=>by subst e;exact np0 z.1
     have f1:∀b,(S0 b\/b=p)->X.H₀ b=none:=λ b z=>by
      rcases z with z|z
      ·exact z4 b z
      ·subst z;exact j1.free _ np
     have f2:∀b,(S0 b\/b=p)->upd H2 a (.dK (putK (ks.zip vs') k (.ref p))) b≠none:=λ b z q=>by
      by_cases eb:b=a
      ·subst eb;rw[aG] at q;cases q
      ·rw[aF eb] at q;rcases z with z|z
       ·exact z3.here b z (s2.free q)
       ·subst z;rw[hp] at q;cases q
     have f3:∀b,(S0 b\/b=p)->c.z.f.L b=none:=λ b z=>by
      rcases z with z|z
      ·exact z3.Ex b z
      ·subst z;cases w:c.z.f.L b with
       |none=>rfl
       |some o=>have:=j1.lL b o w;rw[np] at this;cases this
     have f4:Ow X.K c.z (upd H2 a (.dK (putK (ks.zip vs') k (.ref p)))) (.q (.s (ks++[k])) (ms++[.l []])) (.ref a) (λ b=>S0 b\/b=p):=by
      simp only[Ow];refine ⟨a,vs'++[.ref p],rfl,.inl y2,?_,?_,os4.wide λ b z=>?_⟩
      ·rw[aG,ep];rfl
      ·simp[Ks.len,hz]
      ·rcases z with z|z
       ·exact ⟨.inl z.1,z.2⟩
       ·subst z;exact ⟨.inr rfl,hpa⟩
     have f5:∀b,upd H2 a (.dK (putK (ks.zip vs') k (.ref p))) b=none->H1 b=none:=λ b z=>by
      by_cases eb:b=a
      ·subst eb;rw[aG] at z;cases z
      ·rw[aF eb] at z;exact s2.free z
     have f6:∀b,(S0 b\/b=p)->S0 b\/H1 b=none:=λ b z=>by
      rcases z with z|z
      ·exact .inl z
      ·subst z;exact .inr np
     have f7:∀b o,H1 b=some o->¬S0 b->upd H2 a (.dK (putK (ks.zip vs') k (.ref p))) b=some o:=λ b o z z'=>by rw[aF (by rintro rfl;exact z' y2)];exact s2 b o z
     have j4:=g2 (upd H2 a (.dK (putK (ks.zip vs') k (.ref p)))) (.own (.q (.s (ks++[k])) (ms++[.l []]))) (some (.ref a)) (λ b=>S0 b\/b=p) kp1 f7 f5 (λ b u z=>nomatch z) ⟨.ref a,rfl,f4,⟨λ b z=> .inl (f1 b z),f2,f3,λ b z t=>nomatch t⟩,f1⟩ f6;have eσ:σ.set i (some (.ref a))=σ:=by have hil:=List.getElem?_eq_some_iff.mp hσ;rw[<-hil.2,List.set_getElem_self]
     rw[eσ] at j4;refine fin (.ref p) _ ((ay.keep s1).trans kp1) (by rw[em];exact j4) ?_;rw[em,ei];have hiΓ:i<Γ.length:=(List.getElem?_eq_some_iff.mp hi).1;refine ⟨_,_,_,.l [],List.getElem?_set_self hiΓ,rfl,hσ,?_,?_⟩
     ·simp only[Walk];refine ⟨a,vs'++[.ref p],.ref p,.l [],rfl,?_,by simp[Ks.len,hz],by rw[hz];simp,by rw[hc2];simp,rfl⟩;rw[aG,ep];rfl
     ·simp[pJ,hc2]
   ·exact q.elim
  ·exact q.elim
 ·exact h.elim
end
def alX{k:Key}{u:Value}(h:Ag k u=true):L2.RelV (kV k) u:=by
 rcases dj h with ⟨i,t,rfl,rfl⟩|⟨x,t,rfl,rfl⟩
 ·exact ⟨t,rfl⟩
 ·exact ⟨t,rfl⟩
def Iti(d:Addr)(ob:Obj)(kvs:List (Key×V)):It:=⟨λ i H=>(∃u,H d=some (.DZ ob u))/\i<kvs.length,λ i H x H'=>∃p k v,H p=none/\kvs[i]? =some (k,v)/\x= .ref p/\H'=upd H p (.tup [kV k,v]),λ i H=>(∃u,H d=some (.DZ ob u))/\kvs.length<=i⟩
def KV.get{kvs:List (Key×V)}{vs:List (Key×Value)}(r:KV kvs vs){i:Nat}{k:Key}{v:V}(h:kvs[i]? =some (k,v)):∃w,vs[i]? =some (k,w)/\L2.RelV v w:=by
 induction r generalizing i with
 |nil=>simp at h
 |cons e r ih=>
  cases i with
  |zero=>simp only[List.getElem?_cons_zero,Option.some.injEq] at h ⊢;subst h;exact ⟨_,Prod.ext e.1.symm rfl,e.2⟩
  |succ i=>simp only[List.getElem?_cons_succ] at h ⊢;exact ih h
def MS{P:Program}{w:World}{K:W.Frag}{elts:List Expr}{c:Nat}{pos:Pos}(it d:Addr)(ob:Obj)(ep:Nat){kvs:List (Key×V)}{vs:List (Key×Value)}(rel:KV kvs vs)
  (at':∀h:Heap,h.get? d=some ob->Heap.DictAt (fG P w) h d vs ep) (ne:d≠it):
  Turn P w K (.Tuple elts c pos) (Iti d ob kvs) [it] it (λ i h=>(∃ok ov,IsItemIter h it d i vs.length ep ok ov)/\i<=kvs.length) where
 mem:=by simp
 obj:=λ i h st b hb=>by
  have e:b=it:=by simpa using hb
  subst e
  obtain ⟨⟨ok,ov,h1⟩,_⟩:=st
  exact ⟨_,h1,λ v z=>by cases z⟩
 keep:=λ i h h' st k=>by
  obtain ⟨⟨ok,ov,h1⟩,h2⟩:=st
  exact ⟨⟨ok,ov,k it (by simp) _ h1⟩,h2⟩
 item:=by
  intro X hP hw hK hc i pins s σ H E I hf st hg
  subst hP hw hK
  obtain ⟨⟨ok,ov,h1⟩,h2⟩:=st
  obtain ⟨⟨u,hu⟩,hi⟩:=hg
  have da:=at' s.heap (I.hok d _ hu).1
  obtain ⟨k,v,hkv⟩:∃k v,kvs[i]? =some (k,v):=⟨kvs[i].1,kvs[i].2,List.getElem?_eq_getElem hi⟩
  obtain ⟨w',hw',rw'⟩:=KV.get rel hkv
  have hfp:=hf it (by simp)
  refine wpAny_pyNext_items_item h1 da hw' λ key h' hk ho hT hsz kk=>⟨_,rfl,wpAny_letOwnedTupleGo_items ho λ h2' he2 sb=>?_⟩
  have hTi:s.heap.objs.size≠it:=Nat.ne_of_gt (Heap.lt_size h1)
  have hT2:h2'.get? s.heap.objs.size=some {cls:= .type "tuple",data:= .seq #[key,w']}:=(sb.2 _ hTi).trans hT
  have I2:Inv X pins σ (upd H s.heap.objs.size (.tup [kV k,v])) {s with heap:=h2'}:=by
   refine UN (t':=s.toks) (ch:=[it]) I (λ b o hb q=>?_) (λ b hb=>hf b hb) (Nat.le_refl _) ⟨by simp[sizeLine_eq],[key,w'],.cons (alX hk) (.cons rw' .nil),_,hT2,rfl,0,rfl⟩
   have hb':b≠it:=by simpa using hb
   exact (sb.2 b hb').trans (kk b o hb' q)
  refine ⟨.ref s.heap.objs.size,_,I2,rfl,⟨_,k,v,I.hok.fresh (Nat.le_refl _),hkv,rfl,rfl⟩,⟨⟨_,_,he2⟩,hi⟩,λ b hb=>?_⟩
  have e:b=it:=by simpa using hb
  subst e
  rw[aF (Ne.symm hTi)]
  exact hfp.1
 done:=by
  intro X hP hw hK hc i pins s σ H E I hf st hg
  subst hP hw hK
  obtain ⟨⟨ok,ov,h1⟩,h2⟩:=st
  obtain ⟨⟨u,hu⟩,hi⟩:=hg
  have da:=at' s.heap (I.hok d _ hu).1
  obtain ⟨f0,f1,f2,f3,f4,f5⟩:=hf it (by simp)
  refine wpAny_pyNext_items_end (I.ok.hd hc) h1 da (by rw[List.getElem?_eq_none];rw[<-rel.length];exact hi) λ h' eb=>⟨rfl,I.turned (t':=s.toks) (λ b o hb e=>eb b o hb e) f0 f1 f3 f4 f5⟩
 self:=λ _ _ _ _ _ st h=>by
  obtain ⟨⟨ok,ov,h1⟩,_⟩:=st
  exact E3 h1 rfl h
def akn{K:W.Frag}{ct:Ct}{H:Hp}:∀{ks:List Key} {xs:List D} {vs:List V} {i:Nat} {d:D},aL K ct H xs vs->ks.length=vs.length->((ks.zip xs).map λ p=>D.tup [kD p.1,p.2])[i]? =some d->∃k v x,(ks.zip vs)[i]? =some (k,v)/\d= .tup [kD k,x]/\Tl K ct H x v
 |[],xs,vs,i,d,t,hl,h=>by simp at h
 |k::ks,[],vs,i,d,t,hl,h=>by simp at h
 |k::ks,x::xs,vs,i,d,t,hl,h=>by
  simp only[aL] at t;obtain ⟨v,r,rfl,t1,t2⟩:=t;cases i with
  |zero=>simp only[List.zip_cons_cons,List.map_cons,List.getElem?_cons_zero,Option.some.injEq] at h;exact ⟨k,v,x,rfl,h.symm,t1⟩
  |succ i=>simp only[List.zip_cons_cons,List.map_cons,List.getElem?_cons_succ] at h;obtain ⟨k',v',x',e1,e2,e3⟩:=akn t2 (by simpa using hl) h;exact ⟨k',v',x',by simpa using e1,e2,e3⟩
def alT{K:W.Frag}{ct:Ct}{H:Hp}(k:Key):Tl K ct H (kD k) (kV k):=by cases k<;>simp[kD,kV,Tl]
section
variable{X:Cx}{ct:Ct}{elts:List Expr}{c:Nat}{tp:Pos}
def V2{o:Expr}{f:Sg->Res D}{ap cp:Pos}(ho:WD X ct o f)(h1:attributeBase o "items" X.env (eval o X.env)=eval o X.env:=by rfl)(h3:(ap.endLine==cp.line)=true:=by rfl):WID X ct (.Tuple elts c tp) (.Call (.Attribute o "items" ap) [] [] cp) (Om f):=by
 have ho:=ho.out;refine ⟨?_⟩;intro pins s σ H R I ⟨Γ,j,h⟩;refine fO (ZJ ho h1 h3 pins s σ H (λ x H2=>∃v d ob kvs,x= .ref v/\H2 v=some (.ext (af5 v d))/\H2 d=some (.DZ ob (.dK kvs))/\R (Iti d ob kvs) H2) I ⟨Γ,j,h.bnd λ x _ q v H' sm tl=>?_⟩) λ v s1 ⟨x,H2,I2,rx,vv,d,ob,kvs,ex,hv,hd,q⟩=>?_
 ·unfold Di at q;split at q
  ·rename_i ks xs _;split at q
   ·rename_i hlen;replace q:∀J H',ay H H'->JX X.K ct J ((ks.zip xs).map λ p=>D.tup [kD p.1,p.2]) H'->R J H':=q;simp only[Tl] at tl;obtain ⟨a,vs,rfl,⟨ob,hfz⟩,hl,tl⟩:=tl;have hl':ks.length=vs.length:=hl;refine ⟨a,rfl,.inl ⟨_,.inr ⟨_,hfz⟩⟩,λ v hvn=>?_⟩;have sm2:=bO hvn (.ext (af5 v a));have hd2:=sm2 _ _ hfz;have tl2:=tl.keep (ay.keep sm2);refine ⟨v,a,ob,_,rfl,aG,hd2,q _ _ (sm.trans sm2) ⟨λ H1=>(∃u,H1 a=some (.DZ ob u))/\aL X.K ct H1 xs vs,⟨⟨_,hd2⟩,tl2⟩,λ H1 H3 ⟨⟨u,hu⟩,t1⟩ k _ _=>⟨⟨u,k a _ hu trivial⟩,t1.keep k⟩,λ i d H1 ⟨hu,t1⟩ z=>?_,λ i H1 ⟨hu,t1⟩ z=>⟨hu,?_⟩⟩⟩
    ·obtain ⟨k,w,y,e1,rfl,e3⟩:=akn t1 hl' z;refine ⟨⟨hu,(List.getElem?_eq_some_iff.mp e1).1⟩,λ x H3 ⟨p,k',v',hp,hkv,ex,eH⟩=>?_⟩;rw[e1] at hkv;cases hkv;subst ex eH;have sm3:=bO hp (.tup [kV k,w]);refine ⟨sm3,?_⟩;simp only[Tl];exact ⟨p,_,rfl,aG,aL.cons (alT k) (aL.cons (e3.keep (ay.keep sm3)) aL.nil)⟩
    ·have:=tl.length;simp only[List.length_map,List.length_zip] at z ⊢;omega
   ·exact q.elim
  ·exact q.elim
 ·subst ex;cases rx;obtain ⟨g1,g2⟩:=I2.hok d _ hd;obtain ⟨z0,_,vs,rel,o',es,ep,e1,e2,e3,e4,e5,e6⟩:=(show d8 X.prog X.w H2 s1.heap d (.dK kvs) from g2);rw[g1] at e1;cases e1;have hvw:s1.heap.get? vv=some (vwO d):=(I2.hok vv _ hv).1;have hsz:es.size=vs.length:=by have:=e5.length;simpa using this
  refine Oe hvw ⟨ob,g1,e3⟩ ?_;have ap8:d≠s1.heap.objs.size:=Nat.ne_of_lt (Heap.lt_size g1);refine ⟨s1.heap.objs.size,[s1.heap.objs.size],_,_,H2,rfl,I2.kept (t':=s1.toks) λ b o e=>Heap.get?_push_of_some _ e,MS _ d ob ep rel (λ h hg=>⟨ob,es,hg,e2,e3,e4,e5,e6⟩) ap8,⟨⟨.none,.none,?_⟩,Nat.zero_le _⟩,λ b hb=>?_,q⟩
  ·rw[<-hsz];exact Heap.get?_push_size _ rfl
  ·have e:b=s1.heap.objs.size:=by simpa using hb
   subst e;exact I2.OA (Nat.le_refl _) (I2.hok.fresh (Nat.le_refl _))
end
def akQ(a b:Str)(te:TE):TE:=λ σ H Q=>te σ H λ v H1=>∃x,v= .str x/\(x.length<=sizeLine/\(Str.empty++a++x).length<=sizeLine/\(Str.empty++a++x++b).length<=sizeLine)/\Q (.str (Str.empty++a++x++b)) H1
section
variable{X:Cx}{ct:Ct}{e:Expr}{a b:Str}{te:TE}{p1 p2 p3 pos:Pos}{k1 k3:Nat}{f:Sg->Res D}
def aeL(he:PE X e te)(ha:(Str.empty++a).length<=1000000):PE X (.JoinedStr [.Constant (.str a) k1 p1,.FormattedValue e (-1) none p2,.Constant (.str b) k3 p3] pos) (akQ a b te):=by intro pins s σ H Q I h;refine wpAny_JoinedStr (Joins_cons (Calls.Constant_str ⟨a,_,rfl,Nat.le_of_lt (Nat.lt_of_le_of_lt ha iR),Joins_cons (PySem.wpAny_FormattedValue_plain ?_)⟩));refine fO (he pins _ σ H _ (I.tok _) h) λ u s1 ⟨v,H1,I1,rv,x,ev,⟨l1,l2,l3⟩,q⟩=>?_;subst ev;obtain ⟨t1,rfl⟩:=(show ∃t,u=Value.str x t from rv);refine PyProof.Rows.formatField_str (λ t' tk=>⟨x,t',rfl,l2,Joins_cons (Calls.Constant_str ⟨b,_,rfl,l3,Joins_nil ⟨l3,?_⟩⟩)⟩) l1;exact ⟨.str _,H1,((I1.tok _).tok _).tok _,⟨_,rfl⟩,q⟩
def ad6(he:WD X ct e f)(ha:(Str.empty++a).length<=1000000:=by decide+kernel):WD X ct (.JoinedStr [.Constant (.str a) k1 p1,.FormattedValue e (-1) none p2,.Constant (.str b) k3 p3] pos) (abE a b f):=by
 have he:=he.out;refine ⟨?_⟩;refine PE.imp (aeL he ha) λ σ H Q ⟨Γ,j,h⟩=>?_;refine sC.bnd j h λ d v H1 s1 t1 j1 q1=>?_;unfold abh at q1;split at q1
 ·rename_i x;split at q1
  ·rename_i hc;simp only[Tl] at t1;subst t1;exact ⟨x,rfl,hc,q1 _ H1 s1 (by simp[Tl])⟩
  ·exact q1.elim
 ·exact q1.elim
end
section
variable{X:Cx}{c:Cf}{x:Str}{e:Expr}{es:List Expr}{i q n k:Nat}{f:Sg->Res D}{r fa:Sg->Res (List D)}{p pos:Pos}{F:List Slot->cV}{fn:Addr}{fd:FuncData}{ps:List Str}
def U7{m:M}:∀(k:Nat) {Γ:Sg} {i:Nat},Γ[i]? =some (.par m)->(k+i,m)∈bP k Γ
 |k,[],i,h=>by simp at h
 |k,s::r,0,h=>by simp only[List.getElem?_cons_zero,Option.some.injEq] at h;subst h;simp[bP]
 |k,s::r,i+1,h=>by
  simp only[List.getElem?_cons_succ] at h;have:=U7 (k+1) h;rw[show k+1+i=k+(i+1) by omega] at this;cases s<;>simp only[bP]
  ·exact this
  ·exact this
  ·exact this
  ·exact List.mem_cons_of_mem _ this
def akr(X:Cx)(c:Cf)(i:Nat)(g:Sg->Res Sg):TE:=λ σ H Q=>∃Γ,Jx X c.z Γ σ H/\Ok X c.z σ H (g Γ) λ r=>∀v H',aU c.cb H H'->Jx X c.z r σ H'->σ[i]? =some (some v)->Q v H'
def aep{pins:List (Addr×Obj)}{σ:St}{H:Hp}{s:Shared}{Q:VK}{us:List Value}{vs:List V}{ds:List D}{Γ:Sg}{sl:Slot}{m:M}(G:jR X.prog X.w X.K X.mg X.base c.cb k fn fd ps F)(hr:fN k X.A)(hb:Binds X.K fd ps []) (I:Inv X pins σ H s) (rv:Vals vs us) (j:Jx X c.z Γ σ H) (io:IoT X c q i σ H ds vs) (hn:ds.length=ps.length) (hq:q<ps.length) (hi:Γ[i]? =some sl) (hm:Mx sl=some m) (ho:noO m=true) (h:Ok X c.z σ H (J4 i q sl Γ (F ((ds.map Slot.val).set q (.par m)))) λ r=>∀v H',aU c.cb H H'->Jx X c.z r σ H'->σ[i]? =some (some v)->Q v H'):wpAny (model X.prog X.w) X.A (call (.ref fn) us) (EP X pins σ Q) X.xe s:=by
 obtain ⟨i1,i2,v0,i3,i4⟩:=io;have hvl:vs.length=ps.length:=by rw[<-i1];exact hn
 have hl:us.length=ps.length:=by rw[<-rv.length];exact hvl
 have hb':=hb s us I.Bl (by rw[List.append_nil];exact hl);rw[List.append_nil] at hb';obtain ⟨S,sg,chg⟩:=j.chg i;have hsl:=sg sl _ hi i3;have own:∃_:Unit,Ow X.K c.z H m v0 S/\Yv c.z X.H₀ H S:=by
  cases sl with
  |no=>cases hm
  |val d=>cases hm
  |own m0=>cases hm;obtain ⟨v,e1,o,so,_⟩:=hsl;cases e1;exact ⟨(),o,so⟩
  |par m0=>cases hm;obtain ⟨v,e1,o,so,_⟩:=hsl;cases e1;exact ⟨(),o,so⟩
 obtain ⟨_,ow,so⟩:=own;have owt:=ow.BP ho;let S2:Fp:=λ b=>S b/\∀o,H b=some o->¬Yu c.cb o
 let c2:Cf:=⟨c.cb,c.L,S2,vs⟩
 have cg:∀t a o,c.z.lo t a=some o->c2.z.lo t a=some o:=λ t a o z=>by cases t<;>exact z
 have cg':∀t a o,c2.z.lo t a=some o->c.z.lo t a=some o:=λ t a o z=>by cases t<;>exact z
 have jc:J X.K c2.z H ((ds.map Slot.val).set q (.par m)) (vs.map some) H:=by
  refine ⟨λ _ _ z _=>z,λ _ z=>z,j.lL,λ _ _ z=>(nomatch z),by simp[i1],λ a b=>a=q/\S2 b,λ a My ov g1 g2=>?_,λ a a' b ha z z'=>ha (z.1.trans z'.1.symm),λ a b z=>so.here b z.2.1⟩;by_cases e:q=a
  ·subst e;rw[List.getElem?_set_self (by simpa[hn] using hq)] at g1;rw[List.getElem?_map,i4] at g2;cases g1;cases g2;refine ⟨v0,rfl,(Bf (ct:=c.z) (i6:=c2.z) rfl cg owt).wide λ b z=>⟨rfl,z⟩,⟨λ b z=> .inr z.2,λ b z=>so.here b z.2.1,λ b z=>so.Ex b z.2.1,λ b z t=>(nomatch t)⟩,i4⟩
  ·rw[List.getElem?_set_ne e,List.getElem?_map] at g1;rw[List.getElem?_map] at g2;cases z1:ds[a]? with
   |none=>rw[z1] at g1;cases g1
   |some d=>
    cases z2:vs[a]? with
    |none=>rw[z2] at g2;cases g2
    |some v=>rw[z1] at g1;rw[z2] at g2;cases g1;cases g2;exact ⟨⟨v,rfl,wR (ct:=c.z) (i6:=c2.z) rfl cg (i2 a d v (λ z=>e z.symm) z1 z2)⟩,λ b z=>e z.1.symm⟩
 let E:XK:=λ _ _ _=>False
 have J1:spD X.K c.cb ps.length F vs H Q E:=by
  refine ⟨hvl,c2,_,rfl,rfl,jc,?_⟩;cases z:F ((ds.map Slot.val).set q (.par m)) with
  |ok d=>rw[z] at h;exact h.elim
  |new d=>rw[z] at h;exact h.elim
  |MA d os=>rw[z] at h;exact h.elim
  |err d=>rw[z] at h;exact h.elim
  |bad=>rw[z] at h;exact h.elim
  |CA d os=>
   rw[z] at h;rcases os with _|⟨⟨q',m'⟩,_|⟨b2,r2⟩⟩
   ·exact h.elim
   ·simp only[J4] at h;split at h
    ·rename_i eq;subst eq;intro Γ' σ' H' i2 v j' ho' gi gv;obtain ⟨_,hz⟩:=Bg ho';obtain ⟨v',S',g1,g2,g3,g4⟩:=j'.par (i:=q') (by simpa using hz);have ei:i2=q':=by have:=U7 0 gi;rw[ho'] at this;simpa using (Prod.mk.inj (List.mem_singleton.mp this)).1
     rw[ei,g1] at gv;cases gv;have ev:v=v0:=by have:vs[q']? =some v:=g4;rw[i4] at this;exact (Option.some.inj this).symm
     subst ev;have kp:aU c.cb H H':=λ b o hb st=>j'.same b o hb λ w=>w.2 o hb st;have un:∀b o,H b=some o->¬S b->H' b=some o:=λ b o hb w=>j'.same b o hb λ w'=>w w'.1;have sub:∀b,S' b->S b\/H b=none:=λ b w=>(g3.new b w).elim .inr λ w'=> .inl w'.1;have ow':Ow X.K c.z H' m' v S':=Bf (ct:=c2.z) (i6:=c.z) rfl cg' g2;have fin:∀My,pM X.K c.z X.H₀ H' i S' My (some v)->Jx X c.z (Γ.set i My) σ H':=λ My ok=>by
      have q:=chg H' My (some v) S' kp un j'.free (λ b u z=>nomatch z) ok sub;have:σ.set i (some v)=σ:=by have e2:=(List.getElem?_eq_some_iff.mp i3).2;rw[<-e2,List.set_getElem_self]
      rwa [this] at q
     have sok:Yv c.z X.H₀ H' S':=⟨λ b w=>(sub b w).elim (so.new b) λ w'=> .inl (j.free b w'),g3.here,λ b w=>g3.Ex b w,λ b w t=>nomatch t⟩;refine h v H' kp ?_ i3;cases sl with
     |no=>cases hm
     |val d=>cases hm
     |own m0=>obtain ⟨_,_,_,_,n0⟩:=hsl;exact fin (.own m') ⟨v,rfl,ow',sok,λ b w=>(sub b w).elim (n0 b) (j.free b)⟩
     |par m0=>obtain ⟨vv,e1,_,_,n0⟩:=hsl;cases e1;exact fin (.par m') ⟨v,rfl,ow',sok,n0⟩
    ·exact h.elim
   ·exact h.elim
 refine wpAny_call (codeAny_mono (G.run X.A X.stack s H ⟨us,[]⟩ us vs Q E hr I.ai7 hb' rv J1) λ r s' hq=>?_);cases r with
 |error e=>obtain ⟨a,C,H',B,a0,h1,h2,_⟩:=hq;exact h2.elim
 |ok fl=>
  cases fl with
  |ret u=>exact I.after hq
  |next=>exact False.elim hq
  |brk=>exact False.elim hq
  |cont=>exact False.elim hq
def YK{g:Str}{pg:Pos}(G:jR X.prog X.w X.K X.mg X.base c.cb k fn fd ps F)(hr:fN k X.A)(hm:X.mg g=some (.ref fn))(hk:W.keepIn X.K (.ref fn)=true)(hb:Binds X.K fd ps [])(ha:WA X (e::es) (aiJ X c q i fa))(hn:ps.length=n:=by rfl)(hg:Gl X g:=by rfl)(hdb:(g==("__debug__":Str))=false:=by decide)(he:starEach (e::es) X.env=(false,eval e X.env)::starEach es X.env:=by rfl)(hpl:(backTo pos (starEach es X.env)).any (·.1)=false:=by rfl):WE X (.Call (.Name g pg) (e::es) [] pos) (akr X c i (BB n i q F fa)):=by
 have ha:=ha.out;refine ⟨?_⟩;subst hn;intro pins s σ H Q I ⟨Γ,j,h⟩;refine wpAny_Call_Name_kw (uH I hg hm ?_ hdb);unfold BB at h;split at h
 ·rename_i sl hi;split at h
  ·rename_i m hsm;obtain ⟨v0,_,hv0,_⟩:=j.ofM hi hsm;have h':aiJ X c q i fa σ H (λ vs H1=>∃ds,ay H H1/\IoT X c q i σ H1 ds vs/\ds.length=ps.length/\q<ps.length/\noO m=true/\Ok X c.z σ H (J4 i q sl Γ (F ((ds.map Slot.val).set q (.par m)))) λ r=>∀v H',aU c.cb H H'->Jx X c.z r σ H'->σ[i]? =some (some v)->Q v H'):=by
    refine ⟨Γ,j,⟨v0,hv0⟩,h.bnd λ ds _ h vs H1 s1 io=>?_⟩;split at h
    ·rename_i hc;exact ⟨ds,s1,io,hc.1,hc.2.1,hc.2.2,h⟩
    ·exact h.elim
   refine W.callWith_K (h₀:=X.base) I.ok.mod.kin hk (fO (ha pos pins s σ H _ I h') λ us s1 ⟨vs,H1,I1,r,ds,sm,io,hl,hq,ho,q2⟩=>⟨I1.Bl,?_⟩) he hpl;exact aep G hr hb I1 r (j.mono sm) io hl hq hi hsm ho (Ok.mono sm q2 λ r w v H' kp=>w v H' ((ay.keep sm).trans kp))
  ·exact h.elim
 ·exact h.elim
variable{g:Sg->Res Sg}{Γ:Sg}{σ:St}{H:Hp}
def V4{pos':Pos}(hN:X.N.Nodup)(he:WE X e (akr X c i g))(hi:X.N[i]? =some x:=by rfl)(hx:Loc X.env.scope x:=by first|exact Or.inl rfl|exact Or.inr rfl)(hs:swapsWith e (some (.Name x pos')) pos.line X.env=pure false:=by rfl)(hf:X.fn x=true\/X.env.scope.names.lookup x=some .local:=by first|exact .inl rfl|exact .inr rfl):yS X c (.Assign [.Name x pos'] e pos) (G3 g):=by
 have he:=he.out;exact ⟨PS.imp (G8 hN hi hx he hs hf) λ E σ H ⟨Γ,j,h⟩=>⟨Γ,j,Fn.ok j h λ r _ q v H' kp j' t=>by
  have e2:=(List.getElem?_eq_some_iff.mp t);have:σ.set i (some v)=σ:=by rw[<-e2.2,List.set_getElem_self]
  show E.nx (σ.set i (some v)) H';rw[this];exact q _ H' kp j'⟩⟩
def YM(i:Nat){px:Pos}(hN:X.N[i]? =some x:=by rfl)(hv:Uv X.env.scope x:=by first|exact Or.inl rfl|exact Or.inr (Or.inl rfl)|exact Or.inr (Or.inr rfl))(hd:(x==("__debug__":Str))=false:=by decide)(hcd:(x==("__classdict__":Str))=false:=by decide):yS X c (.Return (some (.Name x px)) pos) (UQ i):=by
 exact ⟨PS.imp (B4 (vM hN hv hd hcd)) λ E σ H ⟨Γ,j,h⟩=>by
  unfold UQ at h;split at h
  ·rename_i m hm;obtain ⟨v,S,h1,_⟩:=j.par hm;exact ⟨v,h1,h σ H i v j hm h1⟩
  ·exact h.elim⟩
end
section
variable{X:Cx}{ct:Ct}{pos:Pos}
def adX:WM X ct (.Dict [] [] pos) aan:=by
 refine ⟨?_⟩;refine PE.imp ZL λ σ H Q ⟨Γ,j,h⟩=>?_;intro p hp;refine h (.ref p) _ (λ b=>b=p) (bO hp _) ?_ (λ b z=>z▸hp) λ b z q=>by subst z;rw[aG] at q;cases q
 simp only[Ow];exact ⟨p,[],rfl,rfl,aG,rfl,by simp only[cO]⟩
end
end L4
end
section
namespace K38
open PySem L4
noncomputable def mt:List (String×List String):=[("NoCell",["NoCell","BeamError","ValueError"]),("NoTable",["NoTable","BeamError","ValueError"]),("NoPlace",["NoPlace","BeamError","ValueError"]),("Empty",["Empty","Cell"]),("Mirror",["Mirror","Cell"]),("Half",["Half","Cell"]),("Filter",["Filter","Cell"]),("Wall",["Wall","Cell"]),("Fibre",["Fibre","Cell"]),("Table",["Table"])]
noncomputable def uZ:List (String×List Str):=[("Empty",[]),("Mirror",["slant"]),("Half",["slant","share"]),("Filter",["share"]),("Wall",[]),("Fibre",["name"]),("Table",["grid","ends"])]
noncomputable abbrev K3:List Str:=["_law_script","_law_k"]
noncomputable abbrev sW:List Str:=["_law_script","_law_k"]
def cI(n:Nat):Sg->Out:=(aX (sj (dT (aI ltI (aj 1) (nv b4 (ai (aj 0) aB)))) (eN (aI bV (aj 0) (aj 1))) cz)
  (eN (dC (.int 0))))
def bh(as:List Slot):cV:=qf (cI 0 (cN K3 as))
noncomputable abbrev W6:List Str:=["_law_cell_here","_law_by","_law_prime","_law_many"]
noncomputable abbrev zp:List Str:=["_law_cell_here","_law_by","_law_prime","_law_many"]
def dN(n:Nat):Sg->Out:=(eN (aI mX (aI ig (aI mX (aI kF (aI jV (aI mX (aj 0) (dC (.int 1000000007))) (dC (.int 1))) (aj 1)) (aj 2)) (dC (.int 5))) (aj 3)))
def eu(as:List Slot):cV:=qf (dN 0 (cN W6 as))
noncomputable abbrev K1:List Str:=["_law_one_here","_law_other"]
noncomputable abbrev pW:List Str:=["_law_one_here","_law_other"]
def lX(n:Nat):Sg->Res Bool:=(dT (aI gtI (aj 1) (dC (.int 0))))
def qh(n:Nat):Sg->Out:=(ahH 0 1 (ai (aj 1) (ai (aI mX (aj 0) (aj 1)) aB)))
def fS(n:Nat):Sg->Out:=(aX (lu (lX n) (qh n) n)
  (eN (aj 0)))
def cM:List Slot->cV
 |[.val (.int a),.val (.int b)]=>if 0<=a/\0<=b then .ok (.int (Int.gcd a b)) else .bad
 |_=> .bad
def abc(l s:Nat)(h:s≠0):Nat.gcd l s=Nat.gcd s (l%s):=by rw[Nat.gcd_comm l s,Nat.gcd_rec s l,Nat.gcd_comm]
def LO(l s:Nat):Int.fmod (l:Int) (s:Int)=((l%s:Nat):Int):=by rw[Int.fmod_eq_emod_of_nonneg _ (by omega)];rfl
def abx(m:Nat):∀(s l k:Nat),s<k->lu (lX m) (qh m) k [.val (.int l),.val (.int s)]= .nx [.val (.int (Nat.gcd l s:Nat)),.val (.int 0)]:=by
 intro s;induction s using Nat.strongRecOn with
 |_ s ih=>
  intro l k hk;obtain ⟨k,rfl⟩:∃j,k=j+1:=⟨k- 1,by omega⟩;by_cases h:s=0
  ·subst h;simp[lu,lX,gtI]
  ·have e:=ih (l%s) (Nat.mod_lt l (by omega)) s k (by have:=Nat.mod_lt l (show 0<s by omega);omega);have hs:(0:Int)<(s:Int):=by omega
   have hs':(s:Int)≠0:=by omega
   rw[abc l s h, <-e];simp[lu,lX,qh,gtI,h,hs,qY _ _ hs',LO]
def LC(as:List Slot)(hl:as.length=pW.length)(hb:cM as≠.bad):∃n,qf (fS n (cN K1 as))=cM as:=by
 match as,hb with
 |[.val (.int a),.val (.int b)],hb=>
  by_cases hc:0<=a/\0<=b
  ·obtain ⟨h1,h2⟩:=id hc;obtain ⟨l,rfl⟩:=Int.eq_ofNat_of_zero_le h1;obtain ⟨s,rfl⟩:=Int.eq_ofNat_of_zero_le h2;refine ⟨s+1,?_⟩;have e:=abx (s+1) s l (s+1) (by omega);have hg:Int.gcd (l:Int) (s:Int)=Nat.gcd l s:=by simp[Int.gcd]
   simp only[cM,hc,and_self,if_true,hg];simp[fS,cN,e]
  ·exact absurd (by simp[cM,hc]) hb
noncomputable abbrev W3:List Str:=["_law_cell_here","_law_bottom","_law_top","_law_by"]
noncomputable abbrev zk:List Str:=["_law_cell_here"]
def iV(n:Nat):Sg->Out:=(aX (i8 1 (aI jV (dC (.int 2)) (bz 4 eu (ai (aj 0) (ai (dC (.int 40692)) (ai (dC (.int 99929)) (ai (dC (.int 96)) aB)))))))
  (aX (sj (dT (aI pQ (bz 4 eu (ai (aj 0) (ai (dC (.int 25253)) (ai (dC (.int 99877)) (ai (dC (.int 8)) aB))))) (dC (.int 0)))) (i8 1 (aI jV (dC (.int 2)) (aI mX (aj 0) (dC (.int 999999))))) cz)
  (aX (i8 2 (aI jV (dC (.int 1)) (bz 4 eu (ai (aj 0) (ai (dC (.int 16807)) (ai (dC (.int 99971)) (ai (aI Y9 (aj 1) (dC (.int 1))) aB)))))))
  (aX (i8 3 (bz 2 cM (ai (aj 2) (ai (aj 1) aB))))
  (eN (jm (ai (aI ig (aj 2) (aj 3)) (ai (aI ig (aj 1) (aj 3)) aB))))))))
def jS(as:List Slot):cV:=qf (iV 0 (cN W3 as))
noncomputable abbrev ae8:List Str:=["_law_cell_here","_law_way"]
noncomputable abbrev Ht:List Str:=["_law_cell_here"]
def gS(n:Nat):Sg->Out:=(aX (i8 1 (bz 4 eu (ai (aj 0) (ai (dC (.int 48271)) (ai (dC (.int 99991)) (ai (dC (.int 16)) aB))))))
  (aX (sj (dT (aI ltI (aj 1) (dC (.int 5)))) (eN (jm (ai (dC (.str "empty")) aB))) cz)
  (aX (sj (dT (aI ltI (aj 1) (dC (.int 9)))) (eN (jm (ai (dC (.str "mirror")) (ai (aI jV (dC (.int 1)) (aI kF (dC (.int 2)) (aI mX (aj 1) (dC (.int 2))))) aB)))) cz)
  (aX (sj (dT (aI pQ (aj 1) (dC (.int 9)))) (eN (jm (ai (dC (.str "wall")) aB))) cz)
  (aX (sj (dT (aI ltI (aj 1) (dC (.int 12)))) (eN (jm (ai (dC (.str "half")) (ai (aI jV (dC (.int 1)) (aI kF (dC (.int 2)) (aI mX (aj 1) (dC (.int 2))))) (ai (bz 1 jS (ai (aj 0) aB)) aB))))) cz)
  (aX (sj (dT (aI ltI (aj 1) (dC (.int 14)))) (eN (jm (ai (dC (.str "filter")) (ai (bz 1 jS (ai (aj 0) aB)) aB)))) cz)
  (eN (jm (ai (dC (.str "fibre")) (ai (dC (.str "")) aB))))))))))
def eZ(as:List Slot):cV:=qf (gS 0 (cN ae8 as))
noncomputable abbrev W5:List Str:=["_law_flat","_law_halves","_law_filters","_law_kept","_law_one_here","_law_many"]
noncomputable abbrev zo:List Str:=["_law_flat","_law_halves","_law_filters"]
def pS(n:Nat):Sg->Out:=(aX (FY 5 (nv b4 (ai (vc (dh false (bW (d7 3)) 1 [4] (aD 0) (dT (aI pQ (aI bV (aj 0) (dC (.int 0))) (aI bV (aj 1) (dC (.int 0))))) (aj 0))) aB)))
  (aX (sj (Yq (dT (aI pQ (aI bV (aj 4) (dC (.int 0))) (dC (.str "half")))) (dT (aI pQ (aj 5) (aj 1)))) (i8 4 (jm (ai (dC (.str "mirror")) (ai (aI bV (aj 4) (dC (.int 1))) aB)))) cz)
  (aX (sj (Yq (dT (aI pQ (aI bV (aj 4) (dC (.int 0))) (dC (.str "filter")))) (dT (aI pQ (aj 5) (aj 2)))) (i8 4 (jm (ai (dC (.str "empty")) aB))) cz)
  (uC 3 (jg 3) (aj 4)))))
def jQ(n:Nat):Sg->Out:=(aX (gX 3 (mL (Dy aB)))
  (aX (gY (bW (aj 0)) (aD 4) (pS n))
  (qU 3)))
def jT(as:List Slot):cV:=qf (jQ 0 (cN W5 as))
noncomputable abbrev CP:List Str:=["_law_flat","_law_ends","_law_letters","_law_at","_law_j","_law_name"]
noncomputable abbrev vN:List Str:=["_law_flat"]
def jW(n:Nat):Sg->Out:=(aX (lz 0 (jg 0) (aI bV (d7 1) (aj 4)) (jm (ai (dC (.str "empty")) aB)))
  (sj (dT (aI ltI (aI adE (aj 4) (dC (.int 1))) (nv b4 (ai (d7 1) aB)))) (aX (i8 5 (aI jV (aI bV (aj 2) (aI mX (aI ig (aj 4) (dC (.int 2))) (dC (.int 26)))) (aI bV (aj 2) (aI ig (aj 4) (dC (.int 52))))))
  (lz 0 (jg 0) (aI bV (d7 1) (aj 4)) (jm (ai (dC (.str "fibre")) (ai (aI jV (aI jV (vq (dC (.str "strand")) AY (dP (aj 3))) (aj 5)) (vq (dC (.str "strand")) (dP (aj 3)) AY)) aB))))) cz))
def iC(n:Nat):Sg->Out:=(aX (gX 1 (mL (dh true (kM (ai (nv b4 (ai (d7 0) aB)) aB)) 1 [0] (aD 0) (dT (aI pQ (aI bV (aI bV (aj 1) (aj 0)) (dC (.int 0))) (dC (.str "fibre")))) (aj 0))))
  (aX (i8 2 (dC (.str "abcdefghijklmnopqrstuvwxyz")))
  (aX (FY 3 (aI mX (nv b4 (ai (d7 0) aB)) (dC (.int 7))))
  (aX (gY (kM (ai (dNt (nv b4 (ai (d7 1) aB))) aB)) (aD 4) (jW n))
  (UQ 0)))))
def iO(as:List Slot):cV:=A4 (iC 0 (cN CP as))
noncomputable abbrev KY:List Str:=["_law_cells","_law_wide","_law_halves","_law_filters","_law_high","_law_flat"]
noncomputable abbrev Ce:List Str:=["_law_cells","_law_wide","_law_halves","_law_filters"]
def nj(n:Nat):Sg->Out:=(aX (i8 4 (nv C1 (ai (dC (.int 1)) (ai (nv CZ (ai (dC (.int 8)) (ai (aI ig (nv b4 (ai (aj 0) aB)) (aj 1)) aB))) aB))))
  (aX (gX 5 (v8 3 jT (ai (vc (dh false (kM (ai (aI kF (aj 1) (aj 4)) aB)) 1 [0] (aD 0) gz (kW 1 eZ (ai (kW 2 bh (ai (aj 1) (ai (aj 0) aB))) aB)))) (ai (aj 2) (ai (aj 3) aB)))))
  (aX (G3 (BB 1 5 0 iO (ai (dC .cY) aB)))
  (Zk (mL (dh true (kM (ai (aj 4) aB)) 1 [5,1] (aD 0) gz (vc (AL (aj 1) (dP (aI kF (aj 2) (aj 0))) (dP (aI kF (aj 2) (aI jV (aj 0) (dC (.int 1)))))))))))))
def nk(as:List Slot):cV:=qf (nj 0 (cN KY as))
noncomputable abbrev EN:List Str:=["grid","cells"]
noncomputable abbrev qk:List Str:=["grid"]
def jt(n:Nat):Sg->Out:=(aX (sj (yK (dT (nG leI leI (dC (.int 1)) (nv b4 (ai (aj 1) aB)) (dC (.int 16))))) (oV "NoTable" (ai (dC (.str "a row has 1 to 16 cells")) aB)) cz)
  (sj (dT (aI CB (nv b4 (ai (aj 1) aB)) (nv b4 (ai (aI bV (aj 0) (dC (.int 0))) aB)))) (oV "NoTable" (ai (dC (.str "the rows are of unlike length")) aB)) cz))
def dF(n:Nat):Sg->Out:=(aX (sj (yK (dT (nG leI leI (dC (.int 1)) (nv b4 (ai (aj 0) aB)) (dC (.int 16))))) (oV "NoTable" (ai (dC (.str "a table has 1 to 16 rows")) aB)) cz)
  (gY (bW (aj 0)) (aD 1) (jt n)))
def dH(as:List Slot):cV:=qf (dF 0 (cN EN as))
noncomputable abbrev CS:List Str:=["grid","places","y","cells","x","cell"]
noncomputable abbrev oW:List Str:=["grid"]
def dM(n:Nat):Sg->Out:=(sj (dT (LX mt ["Fibre"] (aj 5))) (xg 1 (qt "name" (aj 5)) (jm (ai (aj 4) (ai (aj 2) aB)))) cz)
def iQ(n:Nat):Sg->Out:=(gY (LB (ai (aj 3) aB)) (nH 2 (b3 (aD 4) (b3 (aD 5) oO))) (dM n))
def cJ(n:Nat):Sg->Out:=(aX (gX 1 aan)
  (aX (gY (LB (ai (aj 0) aB)) (nH 2 (b3 (aD 2) (b3 (aD 3) oO))) (iQ n))
  (qU 1)))
def dY(as:List Slot):cV:=qf (cJ 0 (cN CS as))
noncomputable abbrev Ii:List Str:=["grid","ends","name","places"]
noncomputable abbrev rJ:List Str:=["grid"]
def bZ(n:Nat):Sg->Out:=(aX (sj (dT (aI CB (nv b4 (ai (aj 3) aB)) (dC (.int 2)))) (oV "NoTable" (ai (abE "of the fibre " " there are not just two cells" (aj 2)) aB)) cz)
  (aX (UR 1 (jg 1) (aI bV (aj 3) (dC (.int 0))) (aI bV (aj 3) (dC (.int 1))))
  (UR 1 (jg 1) (aI bV (aj 3) (dC (.int 1))) (aI bV (aj 3) (dC (.int 0))))))
def dg(n:Nat):Sg->Out:=(aX (gX 1 (λ _=> .ok (.k (.t []) [])))
  (aX (gY (Om (bz 1 dY (ai (aj 0) aB))) (nH 2 (b3 (aD 2) (b3 (aD 3) oO))) (bZ n))
  (qU 1)))
def b9(as:List Slot):cV:=qf (dg 0 (cN Ii as))
noncomputable abbrev qX:List Str:=["self","rows"]
noncomputable abbrev lC:List Str:=["self","rows"]
def bF(n:Nat):Sg->Out:=(aX (oU 0 uZ "grid" (nv nA (ai (vc (dh false (bW (aj 1)) 1 [] (aD 0) gz (nv nA (ai (aj 0) aB)))) aB)))
  (aX (sr (r9 1 dH (ai (qt "grid" (d7 0)) aB)))
  (oU 0 uZ "ends" (r9 1 b9 (ai (qt "grid" (d7 0)) aB)))))
def aW(as:List Slot):cV:=A4 (bF 0 (cN qX as))
noncomputable abbrev EM:List Str:=["slant"]
noncomputable abbrev qj:List Str:=["slant"]
def dD(n:Nat):Sg->Out:=(sj (dT (aI HY (aj 0) (jm (ai (dC (.int 1)) (ai (dC (.int 3)) aB))))) (oV "NoCell" (ai (dC (.str "a slant is 1 or 3")) aB)) cz)
def fD(as:List Slot):cV:=qf (dD 0 (cN EM as))
noncomputable abbrev xO:List Str:=["self","slant"]
noncomputable abbrev kB:List Str:=["self","slant"]
def b6(n:Nat):Sg->Out:=(aX (sr (bz 1 fD (ai (aj 1) aB)))
  (oU 0 uZ "slant" (aj 1)))
def cS(as:List Slot):cV:=A4 (b6 0 (cN xO as))
noncomputable abbrev ae7:List Str:=["one","other"]
noncomputable abbrev Hs:List Str:=["one","other"]
def mE(n:Nat):Sg->Out:=(eN (aI ltI (aI kF (aI bV (aj 0) (dC (.int 0))) (aI bV (aj 1) (dC (.int 1)))) (aI kF (aI bV (aj 1) (dC (.int 0))) (aI bV (aj 0) (dC (.int 1))))))
def mF(as:List Slot):cV:=qf (mE 0 (cN ae7 as))
noncomputable abbrev EO:List Str:=["share"]
noncomputable abbrev ql:List Str:=["share"]
def cF(n:Nat):Sg->Out:=(sj (cOr (yK (dT (bz 2 mF (ai (dC (.gt [.int 0,.int 1])) (ai (aj 0) aB))))) (yK (dT (bz 2 mF (ai (aj 0) (ai (dC (.gt [.int 1,.int 1])) aB)))))) (oV "NoCell" (ai (dC (.str "a share is above 0 and below 1")) aB)) cz)
def dI(as:List Slot):cV:=qf (cF 0 (cN EO as))
noncomputable abbrev AJ:List Str:=["self","slant","share"]
noncomputable abbrev nD:List Str:=["self","slant","share"]
def cu(n:Nat):Sg->Out:=(aX (sr (bz 1 fD (ai (aj 1) aB)))
  (aX (sr (bz 1 dI (ai (aj 2) aB)))
  (aX (oU 0 uZ "slant" (aj 1))
  (oU 0 uZ "share" (aj 2)))))
def cU(as:List Slot):cV:=A4 (cu 0 (cN AJ as))
noncomputable abbrev xP:List Str:=["self","share"]
noncomputable abbrev kC:List Str:=["self","share"]
def bN(n:Nat):Sg->Out:=(aX (sr (bz 1 dI (ai (aj 1) aB)))
  (oU 0 uZ "share" (aj 1)))
def ck(as:List Slot):cV:=A4 (bN 0 (cN xP as))
noncomputable abbrev Ij:List Str:=["name"]
noncomputable abbrev rK:List Str:=["name"]
def eX(n:Nat):Sg->Out:=(sj (cOr (yK (dT (nG leI leI (dC (.int 1)) (nv b4 (ai (aj 0) aB)) (dC (.int 8))))) (yK (dT (nv af0 (ai (vc (dh false (XR (aj 0)) 1 [] (aD 0) gz (aI inA (aj 0) (dC (.str "abcdefghijklmnopqrstuvwxyz"))))) aB))))) (oV "NoCell" (ai (dC (.str "a name has one to eight letters from a to z")) aB)) cz)
def gw(as:List Slot):cV:=qf (eX 0 (cN Ij as))
noncomputable abbrev zB:List Str:=["self","name"]
noncomputable abbrev lD:List Str:=["self","name"]
def bG(n:Nat):Sg->Out:=(aX (sr (bz 1 gw (ai (aj 1) aB)))
  (oU 0 uZ "name" (aj 1)))
def bH(as:List Slot):cV:=A4 (bG 0 (cN zB as))
noncomputable abbrev aab:List Str:=["_law_row"]
noncomputable abbrev Cg:List Str:=["_law_row"]
def dU(n:Nat):Sg->Out:=(aX (sj (dT (aI pQ (aI bV (aj 0) (dC (.int 0))) (dC (.str "empty")))) (eN (dC (.obj "Empty" [] []))) cz)
  (aX (sj (dT (aI pQ (aI bV (aj 0) (dC (.int 0))) (dC (.str "mirror")))) (eN (t9 1 "Mirror" ["slant"] cS (ai (aI bV (aj 0) (dC (.int 1))) aB))) cz)
  (aX (sj (dT (aI pQ (aI bV (aj 0) (dC (.int 0))) (dC (.str "half")))) (eN (t9 2 "Half" ["slant","share"] cU (ai (aI bV (aj 0) (dC (.int 1))) (ai (aI bV (aj 0) (dC (.int 2))) aB)))) cz)
  (aX (sj (dT (aI pQ (aI bV (aj 0) (dC (.int 0))) (dC (.str "filter")))) (eN (t9 1 "Filter" ["share"] ck (ai (aI bV (aj 0) (dC (.int 1))) aB))) cz)
  (aX (sj (dT (aI pQ (aI bV (aj 0) (dC (.int 0))) (dC (.str "wall")))) (eN (dC (.obj "Wall" [] []))) cz)
  (eN (t9 1 "Fibre" ["name"] bH (ai (aI bV (aj 0) (dC (.int 1))) aB))))))))
def b8(as:List Slot):cV:=qf (dU 0 (cN aab as))
noncomputable abbrev F2:List Str:=["_law_rows_here"]
noncomputable abbrev zj:List Str:=["_law_rows_here"]
def jO(n:Nat):Sg->Out:=(eN (t9 1 "Table" ["grid","ends"] aW (ai (vc (dh false (bW (aj 0)) 1 [] (aD 0) gz (vc (dh false (bW (aj 0)) 1 [] (aD 0) gz (bz 1 b8 (ai (aj 0) aB)))))) aB)))
def lU(as:List Slot):cV:=qf (jO 0 (cN F2 as))
noncomputable abbrev W4:List Str:=["_law_rows_here","_law_names","_law_row","_law_one_here"]
noncomputable abbrev zm:List Str:=["_law_rows_here"]
def jH(n:Nat):Sg->Out:=(sj (dT (aI pQ (aI bV (aj 3) (dC (.int 0))) (dC (.str "fibre")))) (lz 1 (jg 1) (dC (.int 1)) (aI bV (aj 3) (dC (.int 1)))) cz)
def pR(n:Nat):Sg->Out:=(gY (bW (aj 2)) (aD 3) (jH n))
def jP(n:Nat):Sg->Out:=(aX (gX 1 (mL (Dy (ai (dC (.str "lost")) (ai (dC (.str "lost")) aB)))))
  (aX (gY (bW (aj 0)) (aD 2) (pR n))
  (qU 1)))
def lV(as:List Slot):cV:=qf (jP 0 (cN W4 as))
noncomputable abbrev CT:List Str:=["self"]
noncomputable abbrev ku:List Str:=["self"]
def cK(n:Nat):Sg->Out:=(eN (nv b4 (ai (qt "grid" (aj 0)) aB)))
def dZ(as:List Slot):cV:=qf (cK 0 (cN CT as))
def wU:List (String×(List Slot->cV)):=[("Table",dZ)]
noncomputable abbrev ER:List Str:=["self"]
noncomputable abbrev lY:List Str:=["self"]
def dG(n:Nat):Sg->Out:=(eN (nv b4 (ai (aI bV (qt "grid" (aj 0)) (dC (.int 0))) aB)))
def fE(as:List Slot):cV:=qf (dG 0 (cN ER as))
def A8:List (String×(List Slot->cV)):=[("Table",fE)]
noncomputable abbrev xN:List Str:=["self","x","y"]
noncomputable abbrev gJ:List Str:=["self","x","y"]
def bM(n:Nat):Sg->Out:=(eN (Jo (nG leI ltI (dC (.int 0)) (aj 1) (om (vj 0 A8 (aj 0) aB))) (nG leI ltI (dC (.int 0)) (aj 2) (om (vj 0 wU (aj 0) aB)))))
def cj(as:List Slot):cV:=qf (bM 0 (cN xN as))
def pU:List (String×(List Slot->cV)):=[("Table",cj)]
noncomputable abbrev uU:List Str:=["self","x","y"]
noncomputable abbrev fF:List Str:=["self","x","y"]
def bg(n:Nat):Sg->Out:=(sj (yK (dT (om (vj 2 pU (aj 0) (ai (aj 1) (ai (aj 2) aB)))))) (oV "NoPlace" (ai (dC (.str "the table has no such place")) aB)) cz)
def bK(as:List Slot):cV:=qf (bg 0 (cN uU as))
def ja:List (String×(List Slot->cV)):=[("Table",bK)]
noncomputable abbrev Ab:List Str:=["table","x","y","cell","rows"]
noncomputable abbrev sR:List Str:=["table","x","y","cell"]
def dw(n:Nat):Sg->Out:=(aX (sr (om (vj 2 ja (aj 0) (ai (aj 1) (ai (aj 2) aB)))))
  (aX (gX 4 (mN (mZ false (bW (qt "grid" (aj 0))) 1 [] (aD 0) gz (mL (lCB vm (ai (aj 0) aB))))))
  (aX (lz 4 (pIx 4 (jg 4) (aj 2)) (aj 1) (aj 3))
  (Kp (zQ 1 "Table" ["grid","ends"] aW (ai (d7 4) aB))))))
def bA(as:List Slot):cV:=qf (dw 0 (cN Ab as))
noncomputable abbrev K2:List Str:=["_law_table_here","_law_x","_law_y","_law_cell_here","_law_found","_law_refusal","e"]
noncomputable abbrev sV:List Str:=["_law_table_here","_law_x","_law_y","_law_cell_here"]
def dB(n:Nat):Sg->Out:=(aX (i8 4 (dC .cY))
  (aX (i8 5 (dC .cY))
  (aX (zb 6 (Ah mt "BeamError") (i8 4 (bz 4 bA (ai (aj 0) (ai (aj 1) (ai (aj 2) (ai (aj 3) aB)))))) (i8 5 (aj 6)))
  (eN (jm (ai (aj 4) (ai (aj 5) aB)))))))
def cy(as:List Slot):cV:=qf (dB 0 (cN K2 as))
noncomputable abbrev KZ:List Str:=["_law_refusal","_law_outside_here"]
noncomputable abbrev sS:List Str:=["_law_refusal","_law_outside_here"]
def dz(n:Nat):Sg->Out:=(aX (sj (cOr (dT (aI CB (LX mt ["NoPlace"] (aj 0)) (aj 1))) (dT (aI pQ (LX mt ["NoTable"] (aj 0)) (aj 1)))) (eN (dC (.bl false))) cz)
  (eN (Jo (LX mt ["ValueError"] (aj 0)) (aje (LX mt ["Crossed","NoCell"] (aj 0))))))
def cL(as:List Slot):cV:=qf (dz 0 (cN KZ as))
noncomputable abbrev zA:List Str:=["_law_rows_here","_law_x","_law_y","_law_one_here","_law_was"]
noncomputable abbrev lA:List Str:=["_law_rows_here","_law_x","_law_y","_law_one_here"]
def bX(n:Nat):Sg->Out:=(aX (i8 4 (aI bV (aI bV (aj 0) (aj 2)) (aj 1)))
  (eN (dOr (Jo (aI CB (aI bV (aj 4) (dC (.int 0))) (dC (.str "fibre"))) (aI CB (aI bV (aj 3) (dC (.int 0))) (dC (.str "fibre")))) (aI pQ (aj 4) (aj 3)))))
def bY(as:List Slot):cV:=qf (bX 0 (cN zA as))
noncomputable abbrev K7:List Str:=["self"]
noncomputable abbrev pY:List Str:=["self"]
def iE(n:Nat):Sg->Out:=(eN (jm (ai (dC (.str "empty")) aB)))
def nu(as:List Slot):cV:=qf (iE 0 (cN K7 as))
noncomputable abbrev Im:List Str:=["self"]
noncomputable abbrev nT:List Str:=["self"]
def gg(n:Nat):Sg->Out:=(eN (jm (ai (dC (.str "mirror")) (ai (qt "slant" (aj 0)) aB))))
def kZ(as:List Slot):cV:=qf (gg 0 (cN Im as))
noncomputable abbrev NR:List Str:=["self"]
noncomputable abbrev rM:List Str:=["self"]
def jD(n:Nat):Sg->Out:=(eN (jm (ai (dC (.str "half")) (ai (qt "slant" (aj 0)) (ai (qt "share" (aj 0)) aB)))))
def pO(as:List Slot):cV:=qf (jD 0 (cN NR as))
noncomputable abbrev Io:List Str:=["self"]
noncomputable abbrev nU:List Str:=["self"]
def gh(n:Nat):Sg->Out:=(eN (jm (ai (dC (.str "filter")) (ai (qt "share" (aj 0)) aB))))
def k6(as:List Slot):cV:=qf (gh 0 (cN Io as))
noncomputable abbrev NQ:List Str:=["self"]
noncomputable abbrev rL:List Str:=["self"]
def jC(n:Nat):Sg->Out:=(eN (jm (ai (dC (.str "wall")) aB)))
def pN(as:List Slot):cV:=qf (jC 0 (cN NQ as))
noncomputable abbrev K6:List Str:=["self"]
noncomputable abbrev pX:List Str:=["self"]
def iD(n:Nat):Sg->Out:=(eN (jm (ai (dC (.str "fibre")) (ai (qt "name" (aj 0)) aB))))
def nq(as:List Slot):cV:=qf (iD 0 (cN K6 as))
def UP:List (String×(List Slot->cV)):=[("Empty",nu),("Mirror",kZ),("Half",pO),("Filter",k6),("Wall",pN),("Fibre",nq)]
noncomputable abbrev Ik:List Str:=["self","told","cells"]
noncomputable abbrev nS:List Str:=["self"]
def jX(n:Nat):Sg->Out:=(uC 1 (jg 1) (vc (dh false (bW (aj 2)) 1 [] (aD 0) gz (om (qp 0 UP (aj 0) aB)))))
def eY(n:Nat):Sg->Out:=(aX (gX 1 (mL (Dy aB)))
  (aX (gY (bW (qt "grid" (aj 0))) (aD 2) (jX n))
  (qU 1)))
def cG(as:List Slot):cV:=qf (eY 0 (cN Ik as))
def nB:List (String×(List Slot->cV)):=[("Table",cG)]
noncomputable abbrev F3:List Str:=["_law_table_here","_law_rows_here","_law_x","_law_y","_law_one_here","_law_found","_law_refusal","_law_due"]
noncomputable abbrev zl:List Str:=["_law_table_here","_law_rows_here","_law_x","_law_y","_law_one_here"]
def gG(n:Nat):Sg->Out:=(aX (Wh (bz 4 cy (ai (aj 0) (ai (aj 2) (ai (aj 3) (ai (bz 1 b8 (ai (aj 4) aB)) aB))))) (nH 2 (b3 (aD 5) (b3 (aD 6) oO))))
  (aX (sj (yK (dT (bz 4 bY (ai (aj 1) (ai (aj 2) (ai (aj 3) (ai (aj 4) aB))))))) (eN (Jo (aI XA (aj 5) (dC .cY)) (bz 2 cL (ai (aj 6) (ai (dC (.bl false)) aB))))) cz)
  (aX (gX 7 (mN (mZ false (bW (aj 1)) 1 [] (aD 0) gz (mL (lCB vm (ai (aj 0) aB))))))
  (aX (lz 7 (pIx 7 (jg 7) (aj 3)) (aj 2) (aj 4))
  (aX (sj (cOr (dT (aI Gg (aj 6) (dC .cY))) (cOr (dT (aI CB (om (qp 0 nB (aj 5) aB)) (d7 7))) (dT (aI CB (om (qp 0 nB (aj 0) aB)) (aj 1))))) (eN (dC (.bl false))) cz)
  (eN (aI pQ (om (vj 0 nB (bz 4 bA (ai (aj 5) (ai (aj 2) (ai (aj 3) (ai (bz 1 b8 (ai (aI bV (aI bV (aj 1) (aj 3)) (aj 2)) aB)) aB))))) aB)) (aj 1))))))))
def iY(as:List Slot):cV:=qf (gG 0 (cN F3 as))
noncomputable abbrev K0:List Str:=["_law_table_here","_law_rows_here","_law_cell_here","_law_far","_law_some","_law_x","_law_y","_law_found","_law_refusal"]
noncomputable abbrev sU:List Str:=["_law_table_here","_law_rows_here","_law_cell_here"]
def fR(n:Nat):Sg->Out:=(aX (i8 3 (aI mX (aI ig (aj 2) (dC (.int 8))) (aI Zu (dC (.int 10)) (dC (.int 30)))))
  (aX (i8 4 (vc (Dy (ai (jm (ai (aI Y9 (dUn ae5 (dC (.int 1))) (aj 3)) (ai (dC (.int 0)) aB))) (ai (jm (ai (dC (.int 0)) (ai (aI Y9 (dUn ae5 (dC (.int 1))) (aj 3)) aB))) (ai (jm (ai (aI jV (nv b4 (ai (aI bV (aj 1) (dC (.int 0))) aB)) (aj 3)) (ai (dC (.int 0)) aB))) (ai (jm (ai (dC (.int 0)) (ai (aI jV (nv b4 (ai (aj 1) aB)) (aj 3)) aB))) aB)))))))
  (aX (Wh (aI bV (aj 4) (aI mX (aj 2) (dC (.int 4)))) (nH 2 (b3 (aD 5) (b3 (aD 6) oO))))
  (aX (Wh (bz 4 cy (ai (aj 0) (ai (aj 5) (ai (aj 6) (ai (aI bV (vc (Dy (ai (dC (.obj "Empty" [] [])) (ai (t9 1 "Fibre" ["name"] bH (ai (dC (.str "lost")) aB)) aB)))) (aI mX (aI ig (aj 2) (dC (.int 4))) (dC (.int 2)))) aB))))) (nH 2 (b3 (aD 7) (b3 (aD 8) oO))))
  (eN (Jo (aI XA (aj 7) (dC .cY)) (bz 2 cL (ai (aj 8) (ai (dC (.bl true)) aB)))))))))
def iP(as:List Slot):cV:=qf (fR 0 (cN K0 as))
noncomputable abbrev alI:List Str:=["_law_script","_law_first","_law_second","_law_rows_here","_law_table_here","_law_cell_here","_law_x","_law_y","_law_one_here"]
noncomputable abbrev ZS:List Str:=["_law_script"]
def uw(n:Nat):Sg->Out:=(aX (i8 6 (bz 4 eu (ai (aj 5) (ai (dC (.int 27211)) (ai (dC (.int 99839)) (ai (nv b4 (ai (aI bV (aj 3) (dC (.int 0))) aB)) aB))))))
  (aX (i8 7 (bz 4 eu (ai (aj 5) (ai (dC (.int 28411)) (ai (dC (.int 99833)) (ai (nv b4 (ai (aj 3) aB)) aB))))))
  (aX (i8 8 (bz 1 eZ (ai (aI jV (aI jV (aI kF (aj 5) (dC (.int 7))) (aI mX (aj 2) (dC (.int 1000)))) (dC (.int 5))) aB)))
  (aX (sj (dT (aI pQ (aI bV (aj 8) (dC (.int 0))) (dC (.str "fibre")))) (i8 8 (jm (ai (dC (.str "fibre")) (ai (aI bV (bz 1 lV (ai (aj 3) aB)) (aI mX (aj 2) (dC (.int 2)))) aB)))) cz)
  (aX (sj (cOr (yK (dT (bz 5 iY (ai (aj 4) (ai (aj 3) (ai (aj 6) (ai (aj 7) (ai (aj 8) aB)))))))) (yK (dT (bz 5 iY (ai (aj 4) (ai (aj 3) (ai (aj 6) (ai (aj 7) (ai (aI bV (aI bV (aj 3) (aj 7)) (aj 6)) aB))))))))) (eN (dC (.bl false))) cz)
  (sj (yK (dT (bz 3 iP (ai (aj 4) (ai (aj 3) (ai (aj 5) aB)))))) (eN (dC (.bl false))) cz))))))
def DP(n:Nat):Sg->Out:=(aX (i8 1 (bz 2 bh (ai (aj 0) (ai (dC (.int 0)) aB))))
  (aX (i8 2 (bz 2 bh (ai (aj 0) (ai (dC (.int 1)) aB))))
  (aX (i8 3 (bz 4 nk (ai (vc (AL (aj 0) (dP (dC (.int 2))) AY)) (ai (aI jV (dC (.int 1)) (aI mX (aj 1) (dC (.int 8)))) (ai (dC (.int 3)) (ai (dC (.int 4)) aB))))))
  (aX (i8 4 (bz 1 lU (ai (aj 3) aB)))
  (aX (gY (bW (vc (lOp Ye (vc (AL (aj 0) (dP (dC (.int 2))) (dP (dC (.int 14))))) (vc (Dy (ai (aj 2) aB)))))) (aD 5) (uw n))
  (eN (aI pQ (om (vj 0 nB (aj 4) aB)) (aj 3))))))))
def DX(as:List Slot):cV:=qf (DP 0 (cN alI as))
def fm(x y:Int)(h:0<y):0<=x.fmod y/\x.fmod y<y:=⟨Int.fmod_nonneg_of_pos x h,Int.fmod_lt_of_pos x h⟩
structure Sh(t b:Int):Prop where
 t0:0<t
 tb:t<b
def Zb{s:Int}(h:s=1\/s=3):fD [.val (.int s)]= .ok .cY:=by rcases h with rfl|rfl<;>rfl
def ahn(t b:Int):mF [.val (.gt [.int 0,.int 1]),.val (.tup [.int t,.int b])]= .ok (.bl (decide (0<t))):=by simp[mF,mE,cN,bV,qy,nZ]
def ahm(t b:Int):mF [.val (.tup [.int t,.int b]),.val (.gt [.int 1,.int 1])]= .ok (.bl (decide (t<b))):=by simp[mF,mE,cN,bV,qy,nZ]
def Km{t b:Int}(h:Sh t b):dI [.val (.tup [.int t,.int b])]= .ok .cY:=by simp[dI,cF,cN,ahn,ahm,h.t0,h.tb]
noncomputable def isLet(c:Nat):Bool:=decide (97<=c)&&decide (c<=122)
structure Nm(x:Str):Prop where
 lo:1<=x.length
 hi:x.length<=8
 ls:x.cps.toList.all isLet=true
def afz:∀c:Nat,isLet c=true->Vw ⟨#[c]⟩ "abcdefghijklmnopqrstuvwxyz"=true:=by
 intro c h;simp only[isLet,Bool.and_eq_true,decide_eq_true_eq] at h;obtain ⟨h1,h2⟩:=h;have:∀k:_root_.Fin 26,Vw ⟨#[97+k.val]⟩ "abcdefghijklmnopqrstuvwxyz"=true:=by decide+kernel
 have q:=this ⟨c- 97,by omega⟩;simp only[show 97+(c- 97)=c by omega] at q;exact q
def GG:∀(n:Nat),bools (List.replicate n (.bl true))=some (List.replicate n true)
 |0=>rfl
 |n+1=>by simp[List.replicate_succ,bools,GG n]
def sL:1000000<sizeLine:=by unfold sizeLine;decide
def ae6{x:Str}(h:Nm x):gw [.val (.str x)]= .ok .cY:=by
 have hl:x.length<=sizeLine:=Nat.le_trans h.hi (Nat.le_of_lt (Nat.lt_trans (by decide) sL));have comp:∀(cs:List Nat),cs.all isLet=true->jN (wK (aD 0) gz (aI inA (aj 0) (dC (.str "abcdefghijklmnopqrstuvwxyz"))) [Slot.no]) (cs.map λ c=>D.str ⟨#[c]⟩)= .ok (List.replicate cs.length (.bl true)):=by
  intro cs;induction cs with
  |nil=>intro _;rfl
  |cons c cs ih=>intro hc;simp only[List.all_cons,Bool.and_eq_true] at hc;simp[jN,wK,ih hc.2,inA,afz c hc.1,List.replicate_succ]
 have hlen:x.cps.toList.length<1000000:=by
  have:x.cps.toList.length=x.length:=by simp[Str.length]
  have:=h.hi;omega
 have h1:(1:Int)<=(x.length:Int):=by have:=h.lo;omega
 have h2:(x.length:Int)<=8:=by have:=h.hi;omega
 have hlen2:x.cps.size<1000000:=by simpa using hlen
 simp[gw,eX,cN,b4,hl,h1,h2,ahF,signs,sD,hlen2,comp _ h.ls,af0,GG]
def alB:¬(Str.ofString "share"=Str.ofString "slant"):=by decide
def Xc{s:Int}(h:s=1\/s=3):cS [.par (.o "Mirror" [] []),.val (.int s)]= .MA .cY [(0,.o "Mirror" ["slant"] [.int s])]:=by rcases h with rfl|rfl<;>rfl
def afc{s t b:Int}(h:s=1\/s=3)(hs:Sh t b):cU [.par (.o "Half" [] []),.val (.int s),.val (.tup [.int t,.int b])]= .MA .cY [(0,.o "Half" ["slant","share"] [.int s,.tup [.int t,.int b]])]:=by simp[cU,cu,cN,Zb h,Km hs,jg,vg,B3,uZ,List.lookup,bP,alB]
def Xd{t b:Int}(hs:Sh t b):ck [.par (.o "Filter" [] []),.val (.tup [.int t,.int b])]= .MA .cY [(0,.o "Filter" ["share"] [.tup [.int t,.int b]])]:=by simp[ck,bN,cN,Km hs,jg,vg,B3,uZ,List.lookup,bP]
def La{x:Str}(h:Nm x):bH [.par (.o "Fibre" [] []),.val (.str x)]= .MA .cY [(0,.o "Fibre" ["name"] [.str x])]:=by simp[bH,bG,cN,ae6 h,jg,vg,B3,uZ,List.lookup,bP]
inductive Sp where
 |e|w|m (s:Int)|h (s t b:Int)|f (t b:Int)|b (n:Str)
def tD:Sp->D
 | .e=> .tup [.str "empty"]
 | .w=> .tup [.str "wall"]
 | .m s=> .tup [.str "mirror",.int s]
 | .h s t b=> .tup [.str "half",.int s,.tup [.int t,.int b]]
 | .f t b=> .tup [.str "filter",.tup [.int t,.int b]]
 | .b n=> .tup [.str "fibre",.str n]
def oD:Sp->D
 | .e=> .obj "Empty" [] []
 | .w=> .obj "Wall" [] []
 | .m s=> .obj "Mirror" ["slant"] [.int s]
 | .h s t b=> .obj "Half" ["slant","share"] [.int s,.tup [.int t,.int b]]
 | .f t b=> .obj "Filter" ["share"] [.tup [.int t,.int b]]
 | .b n=> .obj "Fibre" ["name"] [.str n]
def Sp.ok0:Sp->Prop
 | .m s=>s=1\/s=3
 | .h s t u=>(s=1\/s=3)/\Sh t u
 | .f t u=>Sh t u
 |_=>True
def Sp.ok:Sp->Prop
 | .b n=>Nm n
 | .m s=>s=1\/s=3
 | .h s t u=>(s=1\/s=3)/\Sh t u
 | .f t u=>Sh t u
 |_=>True
def KU(c:Sp):nt (tD c)=true:=by cases c<;>simp[tD,nt,fV]
def agk(c:Sp):nt (oD c)=true:=by cases c<;>simp[oD,nt,fV]
def alG(c:Sp):nb (oD c)=true:=by cases c<;>simp[oD,nb,qx]
noncomputable def wd:Nat->Str
 |0=>"empty"
 |1=>"mirror"
 |2=>"half"
 |3=>"filter"
 |4=>"wall"
 |_=>"fibre"
def UJ:∀i:_root_.Fin 6,∀j:_root_.Fin 6,(PyData.strOk (wd i.val)=true/\PyData.strOk (wd j.val)=true)/\(wd i.val==wd j.val)=decide (i=j):=by decide+kernel
def agw(i j:_root_.Fin 6):pQ (.str (wd i.val)) (.str (wd j.val))= .ok (.bl (decide (i=j))):=by obtain ⟨h,e⟩:=UJ i j;simp only[pQ,gK,LS,py,PyData.eqv];rw[if_pos h,e]
def kd:Sp->_root_.Fin 6
 | .e=>0
 | .m _=>1
 | .h _ _ _=>2
 | .f _ _=>3
 | .w=>4
 | .b _=>5
def ix0(c:Sp):bV (tD c) (.int 0)= .ok (.str (wd (kd c).val)):=by cases c<;>rfl
def eq0(x:Str)(c:Sp)(j:_root_.Fin 6)(e:wd j.val=x):pQ (.str (wd (kd c).val)) (.str x)= .ok (.bl (decide (kd c=j))):=by rw[<-e];exact agw _ _
def OZ{c:Sp}(h:c.ok):b8 [.val (tD c)]= .ok (oD c):=by
 have i0:=ix0 c;have e0:=eq0 "empty" c 0 rfl;have e1:=eq0 "mirror" c 1 rfl;have e2:=eq0 "half" c 2 rfl;have e3:=eq0 "filter" c 3 rfl;have e4:=eq0 "wall" c 4 rfl;have n0:=KU c;generalize wd (kd c).val=W at*;cases c with
 |e=>simp[b8,dU,cN,i0,e0,kd,oD]
 |w=>simp[b8,dU,cN,i0,e0,e1,e2,e3,e4,kd,oD]
 |m s=>
  have i1:bV (tD (.m s)) (.int 1)= .ok (.int s):=by simp[tD,bV,qy,nZ]
  simp[b8,dU,cN,i0,i1,e0,e1,kd,oD,Xc (s:=s) h,oY]
 |h s t b=>
  have i1:bV (tD (.h s t b)) (.int 1)= .ok (.int s):=by simp[tD,bV,qy,nZ]
  have i2:bV (tD (.h s t b)) (.int 2)= .ok (.tup [.int t,.int b]):=by simp[tD,bV,qy,nZ]
  simp[b8,dU,cN,i0,i1,i2,e0,e1,e2,kd,oD,afc (s:=s) h.1 h.2,oY]
 |f t b=>
  have i1:bV (tD (.f t b)) (.int 1)= .ok (.tup [.int t,.int b]):=by simp[tD,bV,qy,nZ]
  simp[b8,dU,cN,i0,i1,e0,e1,e2,e3,kd,oD,Xd (t:=t) (b:=b) h,oY]
 |b n=>
  have i1:bV (tD (.b n)) (.int 1)= .ok (.str n):=by simp[tD,bV,qy,nZ]
  simp[b8,dU,cN,i0,i1,e0,e1,e2,e3,e4,kd,oD,La (x:=n) h,oY]
abbrev PL:=List (Str×List (Int×Int))
noncomputable def pD(p:Int×Int):D:= .tup [.int p.1,.int p.2]
def iW:PL->Str->Int×Int->PL
 |[],n,p=>[(n,[p])]
 |e::r,n,p=>if e.1=n then (e.1,e.2++[p])::r else e::iW r n p
def qK(pl:PL):List gT:=pl.map λ e=>Sum.inr e.1
def qL(pl:PL):List M:=pl.map λ e=>M.l (e.2.map pD)
def qM(pl:PL):M:= .q (.s (qK pl)) (qL pl)
def N3(pl:PL):(qK pl).length=pl.length:=by simp[qK]
def aiw(pl:PL):(qL pl).length=pl.length:=by simp[qL]
def aaR(n:Str)(p:Int×Int):∀pl:PL,(∃(j:Nat) (e:Str×List (Int×Int)),e∈pl/\Yy (qK pl) (.inr n)=some j/\(qL pl)[j]? =some (.l (e.2.map pD))/\qK (iW pl n p)=qK pl/\qL (iW pl n p)=(qL pl).set j (.l (e.2.map pD++[pD p])))\/(Yy (qK pl) (.inr n)=none/\qK (iW pl n p)=qK pl++[.inr n]/\qL (iW pl n p)=qL pl++[.l [pD p]])
 |[]=> .inr ⟨rfl,rfl,rfl⟩
 |e::pl=>by
  by_cases q:e.1=n
  ·refine .inl ⟨0,e,.head _,?_,rfl,?_,?_⟩
   ·simp[Yy,qK,List.findIdx?_cons,q]
   ·simp[iW,q,qK]
   ·simp[iW,q,qL]
  ·have q':¬((Sum.inr e.1:gT)= .inr n):=λ z=>q (Sum.inr.inj z);have hx:Yy (qK (e::pl)) (.inr n)=(Yy (qK pl) (.inr n)).map (· +1):=by show List.findIdx? _ (Sum.inr e.1::qK pl)=_;rw[List.findIdx?_cons];simp only[q',decide_false];rfl
   have ha:iW (e::pl) n p=e::iW pl n p:=by simp[iW,q]
   rw[hx,ha];rcases aaR n p pl with ⟨j,e',h0,h1,h2,h3,h4⟩|⟨h1,h2,h3⟩
   ·refine .inl ⟨j+1,e',.tail _ h0,by rw[h1];rfl,by simpa[qL] using h2,?_,?_⟩
    ·show Sum.inr e.1::qK (iW pl n p)=Sum.inr e.1::qK pl;rw[h3]
    ·show M.l (e.2.map pD)::qL (iW pl n p)=(M.l (e.2.map pD)::qL pl).set (j+1) _;rw[h4,List.set_cons_succ]
   ·refine .inr ⟨by rw[h1];rfl,?_,?_⟩
    ·show Sum.inr e.1::qK (iW pl n p)=Sum.inr e.1::qK pl++[.inr n];rw[h2];rfl
    ·show M.l (e.2.map pD)::qL (iW pl n p)=M.l (e.2.map pD)::qL pl++[.l [pD p]];rw[h3];rfl
structure Sm(pl:PL)(k:Nat):Prop where
 l:pl.length<=k
 e:∀e∈pl,e.2.length<=k
def Sm.add{pl:PL}{k:Nat}(h:Sm pl k)(n:Str)(p:Int×Int):Sm (iW pl n p) (k+1):=by
 refine ⟨?_,?_⟩
 ·have:=h.l;clear h;induction pl generalizing k with
  |nil=>simp[iW]
  |cons e pl ih=>
   simp only[List.length_cons] at this;unfold iW;split
   ·simp only[List.length_cons];omega
   ·have:=ih (k:=k- 1) (by omega);simp only[List.length_cons];omega
 ·have:=h.e;clear h;induction pl with
  |nil=>intro e he;simp[iW] at he;subst he;simp
  |cons e pl ih=>
   unfold iW;split
   ·intro e' he;rcases List.mem_cons.mp he with rfl|he
    ·have:=this e (.head _);simp;omega
    ·have:=this e' (.tail _ he);omega
   ·intro e' he;rcases List.mem_cons.mp he with rfl|he
    ·have:=this e' (.head _);omega
    ·exact ih (λ x hx=>this x (.tail _ hx)) e' he
def Zg{pl:PL}{k:Nat}(h:Sm pl k)(hk:k<1000)(s0 s3:Slot)(n:Str)(x y:Int):
  xg 1 (qt "name" (aj 5)) (jm (ai (aj 4) (ai (aj 2) aB))) [s0,.own (qM pl),.val (.int y),s3,.val (.int x),.val (oD (.b n))]= .nx [s0,.own (qM (iW pl n (x,y))),.val (.int y),s3,.val (.int x),.val (oD (.b n))]:=by
 have l1:(qK pl).length<1000000:=by rw[N3];have:=h.l;omega
 have l2:(qK pl).length=(qL pl).length:=by rw[N3,aiw]
 have fn:Dl "name" (oD (.b n))= .ok (.str n):=rfl;have kn:aaK (.str n)=some (.inr n):=rfl;have np:nt (pD (x,y))=true:=by simp[pD]
 have ed:D.tup [.int x,.int y]=pD (x,y):=rfl;unfold xg qM;rcases aaR n (x,y) pl with ⟨j,e',h0,h1,h2,h3,h4⟩|⟨h1,h2,h3⟩
 ·have le:=h.e e' h0;rw[h3,h4];generalize qK pl=K at*;generalize qL pl=L at*;have dm:ym K L (.inr n)= .q (.s K) L:=by unfold ym;rw[h1]
  have di:Dq K (.inr n)=j:=by unfold Dq;rw[h1];rfl
  have lm:(e'.2.map pD).length<1000000:=by simp;omega
  simp[fn,kn,l1,l2,dm,di,xK,pJ,h2,Of,vg,mW,JJ,np,ed,Mx,Wo];have:e'.2.length<1000000:=by omega
  simp[this];omega
 ·rw[h2,h3];generalize qK pl=K at*;generalize qL pl=L at*;have dm:ym K L (.inr n)= .q (.s (K++[.inr n])) (L++[.l []]):=by unfold ym;rw[h1]
  have di:Dq K (.inr n)=L.length:=by unfold Dq;rw[h1, <-l2];rfl
  have g0:(L++[M.l []])[L.length]? =some (.l []):=by simp
  have st:(L++[M.l []]).set L.length (.l [pD (x,y)])=L++[.l [pD (x,y)]]:=by simp[List.set_append]
  simp[fn,kn,l1,l2,dm,di,xK,pJ,Of,vg,mW,JJ,np,ed,Mx,Wo];omega
def alW(n:Str):yb mt ["Fibre"] (oD (.b n))= .ok (.bl true):=by simp[yb,kinds,mt,oD,List.lookup]
def nmO:Sp->Option Str
 | .b n=>some n
 |_=>none
def alV{c:Sp}(h:nmO c=none):yb mt ["Fibre"] (oD c)= .ok (.bl false):=by
 cases c with
 |b n=>cases h
 |_=>simp[yb,kinds,mt,oD,List.lookup]
def J2(y:Int):Nat->List Sp->List (Str×(Int×Int))
 |_,[]=>[]
 |k,c::r=>match nmO c with
  |some n=>(n,((k:Int),y))::J2 y (k+1) r
  |none=>J2 y (k+1) r
def E7:Nat->List (List Sp)->List (Str×(Int×Int))
 |_,[]=>[]
 |k,r::l=>J2 k 0 r++E7 (k+1) l
def iX:PL->List (Str×(Int×Int))->PL
 |pl,[]=>pl
 |pl,e::ev=>iX (iW pl e.1 e.2) ev
def Mv:∀(a b:List (Str×(Int×Int))) (pl:PL),iX pl (a++b)=iX (iX pl a) b
 |[],b,pl=>rfl
 |e::a,b,pl=>by simp only[List.cons_append,iX];exact Mv a b _
def Sm.iX:∀{ev:List (Str×(Int×Int))} {pl:PL} {k:Nat},Sm pl k->Sm (iX pl ev) (k+ev.length)
 |[],pl,k,h=>h
 |e::ev,pl,k,h=>by have:=Sm.iX (ev:=ev) (h.add e.1 e.2);rw[List.length_cons,show k+(ev.length+1)=k+1+ev.length by omega];exact this
def Jb(y:Int):∀(r:List Sp) (k:Nat),(J2 y k r).length<=r.length
 |[],k=>Nat.le_refl _
 |c::r,k=>by have:=Jb y r (k+1);unfold J2;cases nmO c<;>simp only[List.length_cons]<;>omega
def zO(y:Int)(s0 s3:Slot):∀(r:List Sp) (k:Nat) (pl:PL) (m:Nat) (s4 s5:Slot),Sm pl m->m+r.length<1000->∃t4 t5,fP (nH 2 (b3 (aD 4) (b3 (aD 5) oO))) (dM 0) (pF k (r.map oD)) [s0,.own (qM pl),.val (.int y),s3,s4,s5]= .nx [s0,.own (qM (iX pl (J2 y k r))),.val (.int y),s3,t4,t5]
 |[],_,pl,m,s4,s5,_,_=>⟨s4,s5,rfl⟩
 |c::r,k,pl,m,s4,s5,h,hm=>by
  rw[List.length_cons] at hm;cases q:nmO c with
  |none=>
   obtain ⟨t4,t5,e⟩:=zO y s0 s3 r (k+1) pl m (.val (.int k)) (.val (oD c)) h (by omega);refine ⟨t4,t5,?_⟩;have ev:J2 y k (c::r)=J2 y (k+1) r:=by simp only[J2,q]
   rw[ev, <-e];have st:dM 0 [s0,.own (qM pl),.val (.int y),s3,.val (.int k),.val (oD c)]= .nx [s0,.own (qM pl),.val (.int y),s3,.val (.int k),.val (oD c)]:=by simp only[dM];simp[alV q]
   simp only[List.map_cons,pF,fP];simp[st]
  |some n=>
   have ec:c= .b n:=by cases c<;>simp[nmO] at q;rw[q]
   subst ec;obtain ⟨t4,t5,e⟩:=zO y s0 s3 r (k+1) (iW pl n (k,y)) (m+1) (.val (.int k)) (.val (oD (.b n))) (h.add _ _) (by omega);refine ⟨t4,t5,?_⟩;have ev:J2 y k (.b n::r)=(n,((k:Int),y))::J2 y (k+1) r:=by simp only[J2,nmO]
   rw[ev,iX, <-e];have st:dM 0 [s0,.own (qM pl),.val (.int y),s3,.val (.int k),.val (oD (.b n))]= .nx [s0,.own (qM (iW pl n (k,y))),.val (.int y),s3,.val (.int k),.val (oD (.b n))]:=by have sa:=Zg h (by omega) s0 s3 n k y;have ii:=alW n;simp only[dM];generalize oD (.b n)=d at*;simp[ii,sa]
   simp only[List.map_cons,pF,fP];simp[st]
def gr(rows:List (List Sp)):List D:=rows.map λ r=>D.tup (r.map oD)
def Gr(s0:Slot):∀(l:List (List Sp)) (k:Nat) (pl:PL) (m:Nat) (s2 s3 s4 s5:Slot),Sm pl m->m+16*l.length<1000->(∀r∈l,r.length<=16)->∃t2 t3 t4 t5,fP (nH 2 (b3 (aD 2) (b3 (aD 3) oO))) (iQ 0) (pF k (gr l)) [s0,.own (qM pl),s2,s3,s4,s5]= .nx [s0,.own (qM (iX pl (E7 k l))),t2,t3,t4,t5]
 |[],_,pl,m,s2,s3,s4,s5,_,_,_=>⟨s2,s3,s4,s5,rfl⟩
 |r::l,k,pl,m,s2,s3,s4,s5,h,hm,hr=>by
  rw[List.length_cons] at hm;have lr:=hr r (.head _);have le:=Jb k r 0;obtain ⟨u4,u5,e1⟩:=zO k s0 (.val (.tup (r.map oD))) r 0 pl m s4 s5 h (by omega);have h2:Sm (iX pl (J2 k 0 r)) (m+16):=by have q:=h.iX (ev:=J2 k 0 r);exact ⟨Nat.le_trans q.l (by omega),λ e he=>Nat.le_trans (q.e e he) (by omega)⟩
  obtain ⟨t2,t3,t4,t5,e⟩:=Gr s0 l (k+1) (iX pl (J2 k 0 r)) (m+16) (.val (.int k)) (.val (.tup (r.map oD))) u4 u5 h2 (by omega) λ x hx=>hr x (.tail _ hx);refine ⟨t2,t3,t4,t5,?_⟩;rw[E7,Mv, <-e];have st:iQ 0 [s0,.own (qM pl),.val (.int k),.val (.tup (r.map oD)),s4,s5]= .nx [s0,.own (qM (iX pl (J2 k 0 r))),.val (.int k),.val (.tup (r.map oD)),u4,u5]:=by simp only[iQ,gY,LB];simp[VC,e1]
  simp only[gr,List.map_cons,pF,fP];simp[st]
def Z7:∀l:List (Int×Int),fV (l.map pD)=true
 |[]=>rfl
 |p::l=>by simp[fV,pD,Z7 l]
def Vf:∀pl:PL,vZ (qL pl)=true
 |[]=>rfl
 |e::pl=>by show (xJ (.l (e.2.map pD))&&vZ (qL pl))=true;rw[Vf pl];simp[xJ,Z7]
def ZD{rows:List (List Sp)}(hl:rows.length<=16)(hr:∀r∈rows,r.length<=16):dY [.val (.tup (gr rows))]= .new (qM (iX [] (E7 0 rows))):=by obtain ⟨t2,t3,t4,t5,e⟩:=Gr (.val (.tup (gr rows))) rows 0 [] 0 .no .no .no .no ⟨Nat.le_refl _,λ _ z=>nomatch z⟩ (by omega) hr;have n0:=Vf (iX [] (E7 0 rows));have q0:qM []= .q (.s []) []:=rfl;rw[q0] at e;simp only[dY,cJ,cN];simp[gY,LB,VC,aan,e,xJ,vZ,qU,qM,n0]
def itD(pl:PL):List D:=pl.map λ e=>D.tup [.str e.1,.lst (e.2.map pD)]
def agu:∀pl:PL,uY (qL pl)=pl.map λ e=>D.lst (e.2.map pD)
 |[]=>rfl
 |e::pl=>by show LK (.l (e.2.map pD))::uY (qL pl)=_;rw[agu pl];rfl
def abg:∀pl:PL,ye (qL pl)=true
 |[]=>rfl
 |e::pl=>by show (AS (.l (e.2.map pD))&&ye (qL pl))=true;rw[abg pl];rfl
def YC:∀pl:PL,((qK pl).zip (pl.map λ e=>D.lst (e.2.map pD))).map (λ p=>D.tup [kD p.1,p.2])=itD pl
 |[]=>rfl
 |e::pl=>by show D.tup [.str e.1,.lst (e.2.map pD)]::((qK pl).zip (pl.map λ e=>D.lst (e.2.map pD))).map (λ p=>D.tup [kD p.1,p.2])=_;rw[YC pl];rfl
def afs(pl:PL):Di (.uQ (.s (qK pl)) (uY (qL pl)))= .ok (itD pl):=by simp only[Di];rw[agu,if_pos (by rw[N3,List.length_map]),YC]
def Vc(p:Int×Int):nt (pD p)=true/\nb (pD p)=true:=by simp[pD,nb,qx]
def abY(p:Int×Int):∀l:List D,fV l=true->qx l=true->fV (l++[pD p])=true/\qx (l++[pD p])=true
 |[],_,_=>by simp[fV,qx,Vc]
 |d::l,h1,h2=>by simp only[fV,qx,Bool.and_eq_true,List.cons_append] at h1 h2 ⊢;have:=abY p l h1.2 h2.2;exact ⟨⟨h1.1,this.1⟩,h2.1,this.2⟩
def YB(p:Int×Int)(k:List gT):∀(ks:List (List gT)) (xs:List D),fV xs=true->qx xs=true->fV ((ks.zip xs).map λ kv=>if kv.1=k then pD p else kv.2)=true/\qx ((ks.zip xs).map λ kv=>if kv.1=k then pD p else kv.2)=true
 |[],xs,_,_=>by simp[fV,qx]
 |n::ks,[],_,_=>by simp[fV,qx]
 |n::ks,d::xs,h1,h2=>by
  simp only[fV,qx,Bool.and_eq_true] at h1 h2;have:=YB p k ks xs h1.2 h2.2;simp only[List.zip_cons_cons,List.map_cons,fV,qx,Bool.and_eq_true];refine ⟨⟨?_,this.1⟩,?_,this.2⟩
  ·split
   ·exact (Vc p).1
   ·exact h1.1
  ·split
   ·exact (Vc p).2
   ·exact h2.1
def UY{ks:List (List gT)}{xs:List D}(hl:ks.length<100000)(k:List gT)(p:Int×Int)(hx:fV xs=true/\qx xs=true):∃ks' xs',z8 k (pD p) (.k (.t ks) xs)=some (.k (.t ks') xs')/\ks'.length<=ks.length+1/\fV xs'=true/\qx xs'=true:=by
 refine ⟨FW ks k,Kn ks xs k (pD p),?_,?_,?_⟩
 ·simp only[z8];rw[if_pos ⟨(Vc p).1,by omega⟩]
 ·unfold FW;split<;>simp
 ·unfold Kn;split
  ·exact YB p k ks xs hx.1 hx.2
  ·exact abY p xs hx.1 hx.2
def Vn(p:Int×Int):aiC (pD p)=some [.inl p.1,.inl p.2]:=rfl
def BO(pl:PL):Bool:=pl.all λ e=>decide (e.2.length=2)
def afK{n:Str}(h:n.length<=8):∃d,abh "of the fibre " " there are not just two cells" (.str n)= .ok d/\nt d=true:=by
 refine ⟨.str (Str.empty++"of the fibre "++n++" there are not just two cells"),?_,by simp⟩;have e:∀a b:Str,(a++b).length=a.length+b.length:=λ a b=>by show (a.cps++b.cps).size=_;rw[Array.size_append];rfl
 have l0:(Str.empty).length=0:=rfl;have l1:("of the fibre ":Str).length=13:=by decide
 have l2:(" there are not just two cells":Str).length=29:=by decide
 have s:=sL;simp only[abh];rw[if_pos];refine ⟨by omega,?_,?_⟩
 ·rw[e,e];omega
 ·rw[e,e,e];omega
def Gw(s0:Slot):∀(pl:PL) (ks:List (List gT)) (xs:List D) (s2 s3:Slot),ks.length+2*pl.length<90000->(fV xs=true/\qx xs=true)->(∀e∈pl,e.1.length<=8)->if BO pl=true then ∃ks' xs' t2 t3,fP (nH 2 (b3 (aD 2) (b3 (aD 3) oO))) (bZ 0) (itD pl) [s0,.own (.k (.t ks) xs),s2,s3]= .nx [s0,.own (.k (.t ks') xs'),t2,t3]/\fV xs'=true/\qx xs'=true
  else ∃Γ,fP (nH 2 (b3 (aD 2) (b3 (aD 3) oO))) (bZ 0) (itD pl) [s0,.own (.k (.t ks) xs),s2,s3]= .err "NoTable" Γ
 |[],ks,xs,s2,s3,_,hx,_=>by rw[if_pos (show BO []=true from rfl)];exact ⟨ks,xs,s2,s3,rfl,hx⟩
 |(n,l)::pl,ks,xs,s2,s3,hl,hx,hn=>by
  rw[List.length_cons] at hl;have tl:BO ((n,l)::pl)=(decide (l.length=2)&&BO pl):=by simp[BO]
  have ln:b4 [.lst (l.map pD)]= .ok (.int l.length):=by simp[b4,qi]
  by_cases h2:l.length=2
  ·match l,h2 with
   |[p,q],_=>
    obtain ⟨k1,x1,e1,g1,f1⟩:=UY (ks:=ks) (xs:=xs) (by omega) [.inl p.1,.inl p.2] q hx;obtain ⟨k2,x2,e2,g2,f2⟩:=UY (ks:=k1) (xs:=x1) (by omega) [.inl q.1,.inl q.2] p f1;have st:bZ 0 [s0,.own (.k (.t ks) xs),.val (.str n),.val (.lst ([p,q].map pD))]= .nx [s0,.own (.k (.t k2) x2),.val (.str n),.val (.lst ([p,q].map pD))]:=by
     have i0:bV (.lst ([p,q].map pD)) (.int 0)= .ok (pD p):=by simp[bV,qy,nZ]
     have i1:bV (.lst ([p,q].map pD)) (.int 1)= .ok (pD q):=by simp[bV,qy,nZ]
     have kp:=Vn p;have kq:=Vn q;simp only[bZ];generalize D.lst ([p,q].map pD)=d at*;generalize pD p=dp at*;generalize pD q=dq at*;have ln2:b4 [d]= .ok (.int 2):=ln;simp[ln2,UR,jg,Mx,i0,i1,kp,kq,vg,pJ,mW,e1,e2,Wo]
    have ih:=Gw s0 pl k2 x2 (.val (.str n)) (.val (.lst ([p,q].map pD))) (by omega) f2 λ e he=>hn e (.tail _ he);have go:fP (nH 2 (b3 (aD 2) (b3 (aD 3) oO))) (bZ 0) (itD ((n,[p,q])::pl)) [s0,.own (.k (.t ks) xs),s2,s3]=fP (nH 2 (b3 (aD 2) (b3 (aD 3) oO))) (bZ 0) (itD pl) [s0,.own (.k (.t k2) x2),.val (.str n),.val (.lst ([p,q].map pD))]:=by rw[show itD ((n,[p,q])::pl)=D.tup [.str n,.lst ([p,q].map pD)]::itD pl from rfl];simp only[fP];generalize D.lst ([p,q].map pD)=d at*;simp[st]
    rw[tl,go];simpa using ih
  ·have nl:((l.length:Int)=2)=False:=by simp;omega
   have st:∃Γ,bZ 0 [s0,.own (.k (.t ks) xs),.val (.str n),.val (.lst (l.map pD))]= .err "NoTable" Γ:=by obtain ⟨d,ed,nd⟩:=afK (hn (n,l) (.head _));refine ⟨[s0,.own (.k (.t ks) xs),.val (.str n),.val (.lst (l.map pD))],?_⟩;simp only[bZ];generalize D.lst (l.map pD)=dl at*;simp[ln,Vg,nl,ed,nd,oV]
   obtain ⟨Γ,st⟩:=st;rw[tl];simp only[h2,decide_false,Bool.false_and,Bool.false_eq_true,if_false];refine ⟨Γ,?_⟩;rw[show itD ((n,l)::pl)=D.tup [.str n,.lst (l.map pD)]::itD pl from rfl];simp only[fP];generalize D.lst (l.map pD)=dl at*;simp[st]
noncomputable def cn(n:Str)(l:List Str):Nat:=(l.filter λ m=>decide (m=n)).length
def zS(n:Str)(a b:List Str):cn n (a++b)=cn n a+cn n b:=by simp[cn]
def abN(n m:Str):cn n [m]=if n=m then 1 else 0:=by
 by_cases h:n=m
 ·subst h;simp[cn]
 ·have h':¬m=n:=λ z=>h z.symm;simp[cn,h,h']
def lenOf:PL->Str->Nat
 |[],_=>0
 |e::r,n=>if e.1=n then e.2.length else lenOf r n
def Gb(n m:Str)(p:Int×Int):∀pl:PL,lenOf (iW pl n p) m=lenOf pl m+if m=n then 1 else 0
 |[]=>by
  by_cases h:m=n
  ·subst h;simp[iW,lenOf]
  ·have h':¬n=m:=λ z=>h z.symm;simp[iW,lenOf,h,h']
 |e::pl=>by
  have ih:=Gb n m p pl;unfold iW;by_cases h:e.1=n
  ·rw[if_pos h];by_cases g:e.1=m
   ·have:m=n:=by rw[<-g,h]
    simp[lenOf,g,this]
   ·have:¬m=n:=λ z=>g (by rw[h,z]);simp[lenOf,g,this]
  ·rw[if_neg h];by_cases g:e.1=m
   ·have:¬m=n:=λ z=>h (by rw[g,z]);simp[lenOf,g,this]
   ·simp only[lenOf,g,if_false];exact ih
def C5(m:Str):∀(ev:List (Str×(Int×Int))) (pl:PL),lenOf (iX pl ev) m=lenOf pl m+cn m (ev.map (·.1))
 |[],pl=>by simp[iX,cn]
 |e::ev,pl=>by rw[iX,C5 m ev,Gb,List.map_cons,show e.1::ev.map (·.1)=[e.1]++ev.map (·.1) from rfl,zS,abN];omega
structure Wf(pl:PL):Prop where
 nd:(pl.map (·.1)).Nodup
 ne:∀e∈pl,e.2≠[]
def Dc(n:Str)(p:Int×Int):∀pl:PL,∀k,k∈(iW pl n p).map (·.1)↔ k∈pl.map (·.1)\/k=n
 |[],k=>by simp[iW]
 |e::pl,k=>by
  have ih:=Dc n p pl k;unfold iW;split
  ·rename_i h;simp only[List.map_cons,List.mem_cons];constructor
   ·exact λ z=> .inl z
   ·rintro (z|rfl)
    ·exact z
    ·exact .inl h.symm
  ·simp only[List.map_cons,List.mem_cons];rw[ih];constructor
   ·rintro (z|z|z)
    ·exact .inl (.inl z)
    ·exact .inl (.inr z)
    ·exact .inr z
   ·rintro ((z|z)|z)
    ·exact .inl z
    ·exact .inr (.inl z)
    ·exact .inr (.inr z)
def Wf.add(n:Str)(p:Int×Int):∀{pl:PL},Wf pl->Wf (iW pl n p)
 |[],_=>⟨by simp[iW],λ e he=>by simp[iW] at he;subst he;simp⟩
 |e::pl,h=>by
  have nd:=h.nd;rw[List.map_cons,List.nodup_cons] at nd;have h2:Wf pl:=⟨nd.2,λ x hx=>h.ne x (.tail _ hx)⟩;have ih:=Wf.add n p h2;unfold iW;split
  ·refine ⟨?_,λ x hx=>?_⟩
   ·simp only[List.map_cons];exact List.nodup_cons.mpr nd
   ·rcases List.mem_cons.mp hx with rfl|hx
    ·simp
    ·exact h.ne x (.tail _ hx)
  ·rename_i g;refine ⟨?_,λ x hx=>?_⟩
   ·rw[List.map_cons,List.nodup_cons];refine ⟨λ z=>?_,ih.nd⟩;rcases (Dc n p pl e.1).mp z with w|w
    ·exact nd.1 w
    ·exact g w
   ·rcases List.mem_cons.mp hx with rfl|hx
    ·exact h.ne x (.head _)
    ·exact ih.ne x hx
def Wf.iX:∀{ev:List (Str×(Int×Int))} {pl:PL},Wf pl->Wf (iX pl ev)
 |[],pl,h=>h
 |e::ev,pl,h=>Wf.iX (ev:=ev) (h.add e.1 e.2)
def Ga:∀{pl:PL} {e:Str×List (Int×Int)},(pl.map (·.1)).Nodup->e∈pl->lenOf pl e.1=e.2.length
 |[],e,_,h=>nomatch h
 |x::pl,e,nd,h=>by
  rw[List.map_cons,List.nodup_cons] at nd;rcases List.mem_cons.mp h with rfl|h
  ·simp[lenOf]
  ·have:¬x.1=e.1:=λ z=>nd.1 (z▸List.mem_map.mpr ⟨e,h,rfl⟩);simp only[lenOf,this,if_false];exact Ga nd.2 h
def F9:∀{pl:PL},BO pl=true->∀m,lenOf pl m=0\/lenOf pl m=2
 |[],_,m=> .inl rfl
 |e::pl,h,m=>by
  have h':decide (e.2.length=2)=true/\BO pl=true:=by simpa[BO] using h
  unfold lenOf;split
  ·exact .inr (by simpa using h'.1)
  ·exact F9 h'.2 m
def ad9{pl:PL}(h:Wf pl):BO pl=true ↔ ∀m,lenOf pl m=0\/lenOf pl m=2:=by
 refine ⟨F9,λ q=>?_⟩;unfold BO;rw[List.all_eq_true];intro e he;have l:=Ga h.nd he;have ne:=h.ne e he;have:e.2.length≠0:=λ z=>ne (List.eq_nil_of_length_eq_zero z);rcases q e.1 with z|z
 ·omega
 ·simp;omega
def v7(cs:List Sp):List Str:=cs.filterMap nmO
def uG(a b:List Sp):v7 (a++b)=v7 a++v7 b:=by simp[v7]
def abm(y:Int):∀(r:List Sp) (k:Nat),(J2 y k r).map (·.1)=v7 r
 |[],k=>rfl
 |c::r,k=>by
  have ih:=abm y r (k+1);unfold J2 v7;rw[List.filterMap_cons];cases nmO c with
  |none=>exact ih
  |some n=>simp only[List.map_cons];rw[ih];rfl
def OD:∀(l:List (List Sp)) (k:Nat),(E7 k l).map (·.1)=v7 l.flatten
 |[],k=>rfl
 |r::l,k=>by rw[E7,List.map_append,abm,OD l,List.flatten_cons,uG]
def MD(rows:List (List Sp)):Prop:=∀m,cn m (v7 rows.flatten)=0\/cn m (v7 rows.flatten)=2
def aeQ(rows:List (List Sp)):BO (iX [] (E7 0 rows))=true ↔ MD rows:=by
 rw[ad9 (Wf.iX (pl:=[]) ⟨by simp,λ _ z=>nomatch z⟩)];have:∀m,lenOf (iX [] (E7 0 rows)) m=cn m (v7 rows.flatten):=λ m=>by rw[C5,OD];simp[lenOf]
 simp only[this,MD]
def Ge:∀(ev:List (Str×(Int×Int))) (pl:PL) (k:Str),k∈(iX pl ev).map (·.1)->k∈pl.map (·.1)\/k∈ev.map (·.1)
 |[],pl,k,h=> .inl h
 |e::ev,pl,k,h=>by
  rcases Ge ev _ k h with z|z
  ·rcases (Dc e.1 e.2 pl k).mp z with w|w
   ·exact .inl w
   ·exact .inr (w▸.head _)
  ·exact .inr (.tail _ z)
structure Rw(rows:List (List Sp))(w h:Nat):Prop where
 len:rows.length=h
 row:∀r∈rows,r.length=w
 cell:∀r∈rows,∀c∈r,c.ok
 w1:1<=w/\w<=16
 h1:1<=h/\h<=16
def afd{cs:List Sp}{n:Str}(h:n∈v7 cs):Sp.b n∈cs:=by obtain ⟨c,hc,e⟩:=List.mem_filterMap.mp h;cases c<;>simp[nmO] at e;subst e;exact hc
def ai8{rows:List (List Sp)}{w h:Nat}(R:Rw rows w h):
  (MD rows->∃ks xs,b9 [.val (.tup (gr rows))]= .new (.k (.t ks) xs)/\fV xs=true/\qx xs=true)/\(¬MD rows->b9 [.val (.tup (gr rows))]= .err "NoTable"):=by
 have e:=ZD (rows:=rows) (by rw[R.len];exact R.h1.2) (λ r hr=>by rw[R.row r hr];exact R.w1.2);have sm:Sm (iX [] (E7 0 rows)) (E7 0 rows).length:=by have q:=Sm.iX (ev:=E7 0 rows) (pl:=[]) (k:=0) ⟨Nat.le_refl _,λ _ z=>nomatch z⟩;simpa using q
 have bd:∀(l:List (List Sp)) (k:Nat),(∀r∈l,r.length=w)->(E7 k l).length<=16*l.length:=by
  intro l;induction l with
  |nil=>intro k _;simp[E7]
  |cons r l ih=>intro k q;have a:=Jb (k:Int) r 0;have b:=ih (k+1) λ x hx=>q x (.tail _ hx);have c:=q r (.head _);have:=R.w1.2;rw[E7,List.length_append,List.length_cons];omega
 have bd0:=bd rows 0 R.row;have hh:=R.len;have h16:=R.h1.2;have nm:∀e∈iX [] (E7 0 rows),e.1.length<=8:=λ e he=>by
  rcases Ge (E7 0 rows) [] e.1 (List.mem_map.mpr ⟨e,he,rfl⟩) with z|z
  ·simp at z
  ·rw[OD] at z;have m:=afd z;obtain ⟨r,hr,hc⟩:=List.mem_flatten.mp m;exact (R.cell r hr _ hc).hi
 have lo:=Gw (.val (.tup (gr rows))) (iX [] (E7 0 rows)) [] [] .no .no (by have:=sm.l;simp;omega) ⟨rfl,rfl⟩ nm;have it:=afs (iX [] (E7 0 rows));have fo:=abg (iX [] (E7 0 rows));have pi:=aeQ rows;generalize iX [] (E7 0 rows)=pl at*;have fr:MC (qM pl)= .ok (.uQ (.s (qK pl)) (uY (qL pl))):=by unfold qM;simp[MC,AS,LK,fo]
 refine ⟨λ p=>?_,λ p=>?_⟩
 ·rw[if_pos (pi.mpr p)] at lo;obtain ⟨ks,xs,t2,t3,el,n1,n2⟩:=lo;refine ⟨ks,xs,?_,n1,n2⟩;simp only[b9,dg,cN];simp[gY,e,fr,it,el,xJ,fV,n1,qU]
 ·rw[if_neg λ z=>p (pi.mp z)] at lo;obtain ⟨Γ,el⟩:=lo;simp only[b9,dg,cN];simp[gY,e,fr,it,el,xJ,fV,qU]
mutual
def ama:∀(d:D),nb d=true->dn d=d
 | .tup xs,h=>by simp only[dn];rw[tY xs (by simpa[nb] using h)]
 | .gt xs,h=>by simp only[dn];rw[tY xs (by simpa[nb] using h)]
 | .lst xs,h=>by simp only[dn];rw[tY xs (by simpa[nb] using h)]
 | .obj c ns xs,h=>by simp only[dn];rw[tY xs (by simpa[nb] using h)]
 | .uQ ks xs,h=>by simp only[dn];rw[tY xs (by simpa[nb] using h)]
 | .bor _ _,h=>by simp[nb] at h
 | .yR _ _ _,h=>by simp[nb] at h
 | .yQ _ _ _ _,h=>by simp[nb] at h
 | .cY,_=>by simp[dn]
 | .bl _,_=>by simp[dn]
 | .int _,_=>by simp[dn]
 | .str _,_=>by simp[dn]
 | .exc _,_=>by simp[dn]
def tY:∀(xs:List D),qx xs=true->vp xs=xs
 |[],_=>by simp[vp]
 |x::xs,h=>by simp only[qx,Bool.and_eq_true] at h;simp only[vp];rw[ama x h.1,tY xs h.2]
end
def rs(rows:List (List Sp)):List (List D):=rows.map λ r=>r.map oD
def al2(rows:List (List Sp)):gr rows=(rs rows).map D.tup:=by simp[gr,rs]
def NJ:∀r:List Sp,fV (r.map oD)=true
 |[]=>rfl
 |c::r=>by simp[fV,agk c,NJ r]
def NO:∀r:List Sp,qx (r.map oD)=true
 |[]=>rfl
 |c::r=>by simp[qx,alG c,NO r]
def NK:∀rows:List (List Sp),fV (gr rows)=true
 |[]=>rfl
 |r::rows=>by show (nt (.tup (r.map oD))&&fV (gr rows))=true;rw[NK rows];simp[NJ]
def NP:∀rows:List (List Sp),qx (gr rows)=true
 |[]=>rfl
 |r::rows=>by show (nb (.tup (r.map oD))&&qx (gr rows))=true;rw[NP rows];simp[nb,NO]
def ajl{f:List Sp->D}(hf:∀r,nA [f r]= .ok (.tup (r.map oD))){rows:List (List Sp)}{src:D}(hs:kg src= .ok (rows.map f))(hl:rows.length<1000000)(s0:Slot):dh false (bW (aj 1)) 1 [] (aD 0) gz (nv nA (ai (aj 0) aB)) [s0,.val src]= .ok (gr rows):=by
 have e:bW (aj 1) [s0,.val src]= .ok (rows.map f):=by simp[hs]
 rw[jJ,e,Res.bD,if_pos (by simpa using hl)];have b:sD false 1 [] [s0,.val src]=[.no]:=rfl;rw[b];have:∀rows:List (List Sp),jN (wK (aD 0) gz (nv nA (ai (aj 0) aB)) [.no]) (rows.map f)= .ok (gr rows):=by
  intro rows;induction rows with
  |nil=>rfl
  |cons r rows ih=>
   simp only[List.map_cons,jN,ih];have:wK (aD 0) gz (nv nA (ai (aj 0) aB)) [.no] (f r)= .ok (some (.tup (r.map oD))):=by simp[wK,hf r]
   rw[this];rfl
 exact this rows
def M7{rows:List (List D)}{w:Nat}(hr0:∀r∈rows,r.length=w)(hw:1<=w/\w<=16)(hne:rows≠[]){r:List D}(hr:r.length=w):jt 0 [.val (.tup (rows.map D.tup)),.val (.tup r)]= .nx [.val (.tup (rows.map D.tup)),.val (.tup r)]:=by
 have e:∃r0,bV (.tup (rows.map D.tup)) (.int 0)= .ok (.tup r0)/\r0.length=w:=by
  match rows,hne,hr0 with
  |r0::rows,_,hr0=>exact ⟨r0,by simp[bV,qy,nZ],hr0 r0 (.head _)⟩
 obtain ⟨r0,e,l0⟩:=e;have lr:b4 [.tup r]= .ok (.int (w:Int)):=by rw[<-hr];rfl
 have l0':b4 [.tup r0]= .ok (.int (w:Int)):=by rw[<-l0];rfl
 have a1:(1:Int)<=w:=by omega
 have a2:(w:Int)<=16:=by omega
 simp only[jt];simp[e,lr,l0',nG,a1,a2,Vg]
def BV{rows:List (List D)}{w:Nat}(hr0:∀r∈rows,r.length=w)(hw:1<=w/\w<=16)(hne:rows≠[]):∀(l:List (List D)) (s:Slot),(∀r∈l,r.length=w)->∃t,fP (aD 1) (jt 0) (l.map D.tup) [.val (.tup (rows.map D.tup)),s]= .nx [.val (.tup (rows.map D.tup)),t]
 |[],s,_=>⟨s,rfl⟩
 |r::l,s,q=>by obtain ⟨t,e⟩:=BV hr0 hw hne l (.val (.tup r)) λ x hx=>q x (.tail _ hx);refine ⟨t,?_⟩;rw[<-e];simp only[List.map_cons,fP];simp[M7 hr0 hw hne (q r (.head _))]
def aej{rows:List (List Sp)}{w h:Nat}(R:Rw rows w h):dH [.val (.tup (gr rows))]= .ok .cY:=by
 have hr:∀r∈rs rows,r.length=w:=λ r hr=>by obtain ⟨r0,h0,rfl⟩:=List.mem_map.mp hr;rw[List.length_map];exact R.row r0 h0
 have hne:rs rows≠[]:=λ z=>by
  have:(rs rows).length=h:=by simp[rs,R.len]
  rw[z] at this;have:=R.h1;simp at*;omega
 obtain ⟨t,e⟩:=BV hr R.w1 hne (rs rows) .no hr;have lr:b4 [.tup ((rs rows).map D.tup)]= .ok (.int (h:Int)):=by rw[<-R.len];simp[b4,qi,rs]
 have h1:=R.h1;have a1:(1:Int)<=h:=by omega
 have a2:(h:Int)<=16:=by omega
 rw[al2];simp only[dH,dF,cN];simp[lr,nG,a1,a2,gY,e]
def tb(rows:List (List Sp))(ks:List (List gT))(xs:List D):D:= .obj "Table" ["grid","ends"] [.tup (gr rows),.uQ (.t ks) xs]
def aaX{f:List Sp->D}(hf:∀r,nA [f r]= .ok (.tup (r.map oD))){rows:List (List Sp)}{src:D}(hs:kg src= .ok (rows.map f)){w h:Nat}(R:Rw rows w h):
  (MD rows->∃ks xs,aW [.par (.o "Table" [] []),.val src]= .MA .cY [(0,.o "Table" ["grid","ends"] [.tup (gr rows),.uQ (.t ks) xs])]/\fV xs=true/\qx xs=true)/\
  (¬MD rows->aW [.par (.o "Table" [] []),.val src]= .err "NoTable"):=by
 have c:=ajl hf hs (by rw[R.len];have:=R.h1;omega) (.par (.o "Table" [] []));have e1:=aej R;have e2:=ai8 R;have n1:=NK rows;have n2:=NP rows;have d1:vp [.tup (gr rows)]=[.tup (gr rows)]:=tY _ (by simp[qx,nb,n2]);generalize gr rows=g at*;have tu:nA [.lst g]= .ok (.tup g):=rfl;have fg:Dl "grid" (.yQ true "Table" ["grid"] [.tup g])= .ok (.tup g):=by simp[Dl]
 have s1:oU 0 uZ "grid" (nv nA (ai (vc (dh false (bW (aj 1)) 1 [] (aD 0) gz (nv nA (ai (aj 0) aB)))) aB)) [.par (.o "Table" [] []),.val src]= .nx [.par (.o "Table" ["grid"] [.tup g]),.val src]:=by unfold oU;rw[Jm,lN,uR,c];simp[tu,jg,vg,B3,uZ,n1,List.lookup]
 have s2:sr (r9 1 dH (ai (qt "grid" (d7 0)) aB)) [.par (.o "Table" ["grid"] [.tup g]),.val src]= .nx [.par (.o "Table" ["grid"] [.tup g]),.val src]:=by simp[lend,fg,d1,e1,nbA,nb]
 have go:aW [.par (.o "Table" [] []),.val src]=A4 (oU 0 uZ "ends" (r9 1 b9 (ai (qt "grid" (d7 0)) aB)) [.par (.o "Table" ["grid"] [.tup g]),.val src]):=by rw[aW,bF,show cN qX [.par (.o "Table" [] []),.val src]=[.par (.o "Table" [] []),.val src] from rfl,bT,s1,cP,bT,s2,cP]
 refine ⟨λ p=>?_,λ p=>?_⟩
 ·obtain ⟨ks,xs,ee,x1,x2⟩:=e2.1 p;refine ⟨ks,xs,?_,x1,x2⟩;have s3:oU 0 uZ "ends" (r9 1 b9 (ai (qt "grid" (d7 0)) aB)) [.par (.o "Table" ["grid"] [.tup g]),.val src]= .nx [.par (.o "Table" ["grid","ends"] [.tup g,.uQ (.t ks) xs]),.val src]:=by unfold oU;simp[lend,fg,d1,ee,nbA,MB,x2,MC,AS,LK,jg,vg,B3,uZ,nt,x1,List.lookup];rw[if_neg (by decide+kernel)];rfl
  rw[go,s3];rfl
 ·have ee:=e2.2 p;rw[go];unfold oU;simp[lend,fg,d1,ee,nbA]
def yi(g e:D):Dl "grid" (.obj "Table" ["grid","ends"] [g,e])= .ok g:=by simp[Dl]
def qq{n:Nat}{z:Int}(h0:0<=z)(h1:z<n):nZ n z=some z.toNat:=by unfold nZ;rw[if_pos h0,if_pos h1]
def Z8(rows:List (List Sp)){ks:List (List gT)}{xs:List D}(h1:fV xs=true):nt (tb rows ks xs)=true:=by simp[tb,nt,fV,NK,h1]
def alF(rows:List (List Sp)){ks:List (List gT)}{xs:List D}(h1:qx xs=true):nb (tb rows ks xs)=true:=by simp[tb,nb,qx,NP,h1]
section
variable{rows:List (List Sp)}{w h:Nat}{ks:List (List gT)}{xs:List D}
def adY(R:Rw rows w h):fE [.val (tb rows ks xs)]= .ok (.int w):=by
 have e:∃r0,bV (.tup (gr rows)) (.int 0)= .ok (.tup r0)/\r0.length=w:=by
  match rows,R with
  |[],R=>have:=R.len;have:=R.h1;simp at*;omega
  |r0::rows,R=>exact ⟨r0.map oD,by simp[gr,bV,qy,nZ],by rw[List.length_map];exact R.row r0 (.head _)⟩
 obtain ⟨r0,e,l0⟩:=e;have l0':b4 [.tup r0]= .ok (.int (w:Int)):=by rw[<-l0];rfl
 simp only[fE,dG,cN];simp[tb,yi,e,l0']
def aa7(R:Rw rows w h):dZ [.val (tb rows ks xs)]= .ok (.int h):=by
 have lr:b4 [.tup (gr rows)]= .ok (.int (h:Int)):=by rw[<-R.len];simp[b4,qi,gr]
 simp only[dZ,cK,cN];simp[tb,yi,lr]
def aph(R:Rw rows w h):sO 0 A8 (tb rows ks xs) (.ok [])= .ok (.d (.int w)):=by have:=adY (ks:=ks) (xs:=xs) R;simp only[sO,mY,A8,tb];simp only[tb] at this;simp[List.lookup,this]
def apj(R:Rw rows w h):sO 0 wU (tb rows ks xs) (.ok [])= .ok (.d (.int h)):=by have:=aa7 (ks:=ks) (xs:=xs) R;simp only[sO,mY,wU,tb];simp only[tb] at this;simp[List.lookup,this]
def XH(w h x y:Int):Bool:=decide (0<=x)&&decide (x<w)&&(decide (0<=y)&&decide (y<h))
def Vv{w h x y:Int}:XH w h x y=true ↔(0<=x/\x<w)/\0<=y/\y<h:=by simp[XH]
def aeE(R:Rw rows w h)(x y:Int):cj [.val (tb rows ks xs),.val (.int x),.val (.int y)]= .ok (.bl (XH w h x y)):=by have e1:=aph (ks:=ks) (xs:=xs) R;have e2:=apj (ks:=ks) (xs:=xs) R;simp only[cj,bM,cN];generalize tb rows ks xs=t at*;by_cases a:0<=x<;>by_cases b:x<w<;>by_cases c:0<=y<;>by_cases d:y<h<;>simp[a,b,c,d,leI,ltI,nG,e1,e2,XH]
def api(R:Rw rows w h)(x y:Int):sO 2 pU (tb rows ks xs) (.ok [.int x,.int y])= .ok (.d (.bl (XH w h x y))):=by have:=aeE (ks:=ks) (xs:=xs) R x y;simp only[sO,mY,pU,tb];simp only[tb] at this;simp[List.lookup,this]
def amo(R:Rw rows w h)(x y:Int):bK [.val (tb rows ks xs),.val (.int x),.val (.int y)]=if XH w h x y=true then .ok .cY else .err "NoPlace":=by
 have e:=api (ks:=ks) (xs:=xs) R x y;simp only[bK,bg,cN];generalize tb rows ks xs=t at*;cases q:XH w h x y with
 |true=>simp[e,q]
 |false=>simp[e,q,oV]
def ak7(R:Rw rows w h)(x y:Int):sO 2 ja (tb rows ks xs) (.ok [.int x,.int y])=if XH w h x y=true then .ok (.d .cY) else .err "NoPlace":=by
 have e:=amo (ks:=ks) (xs:=xs) R x y;simp only[sO,mY,ja,tb];simp only[tb] at e;cases q:XH w h x y with
 |true=>rw[q] at e;simp[List.lookup,e]
 |false=>rw[q] at e;simp[List.lookup,e]
end
def tR(r:List Sp):D:= .lst (r.map tD)
def rD(rows:List (List Sp)):D:= .lst (rows.map tR)
def vY:∀r:List Sp,fV (r.map tD)=true
 |[]=>rfl
 |c::r=>by simp[fV,KU c,vY r]
def Cw:∀rows:List (List Sp),fV (rows.map tR)=true
 |[]=>rfl
 |r::rows=>by simp[fV,tR,vY r,Cw rows]
def akJ{r:List Sp}(hl:r.length<1000000)(s0 s1:Slot):dh false (bW (aj 2)) 1 [] (aD 0) gz (om (qp 0 UP (aj 0) aB)) [s0,s1,.val (.tup (r.map oD))]= .ok (r.map tD):=by
 have i:bW (aj 2) [s0,s1,.val (.tup (r.map oD))]= .ok (r.map oD):=by simp[kg]
 rw[jJ,i,Res.bD,if_pos (by simpa using hl)];have b:sD false 1 [] [s0,s1,.val (.tup (r.map oD))]=[.no]:=rfl;rw[b];clear i b hl;induction r with
 |nil=>rfl
 |cons c r ih=>
  have e:wK (aD 0) gz (om (qp 0 UP (aj 0) aB)) [.no] (oD c)= .ok (some (tD c)):=by cases c<;>rfl
  simp only[List.map_cons,jN,e,ih];rfl
def FQ(s0:Slot):∀(l:List (List Sp)) (a:List (List Sp)) (s2:Slot),(∀r∈l,r.length<=16)->a.length+l.length<1000->∃t2,fP (aD 2) (jX 0) (gr l) [s0,.own (.l (a.map tR)),s2]= .nx [s0,.own (.l ((a++l).map tR)),t2]
 |[],a,s2,_,_=>⟨s2,by simp[gr]⟩
 |r::l,a,s2,hr,hl=>by
  rw[List.length_cons] at hl;obtain ⟨t2,e⟩:=FQ s0 l (a++[r]) (.val (.tup (r.map oD))) (λ x hx=>hr x (.tail _ hx)) (by simp;omega);refine ⟨t2,?_⟩;have c:=akJ (r:=r) (by have:=hr r (.head _);omega) s0 (.own (.l (a.map tR)));have st:jX 0 [s0,.own (.l (a.map tR)),.val (.tup (r.map oD))]= .nx [s0,.own (.l ((a++[r]).map tR)),.val (.tup (r.map oD))]:=by
   have l1:(a.map tR).length<1000000:=by simp;omega
   have n1:=vY r;rw[List.map_append];simp only[jX,uC];rw[uR,c];generalize a.map tR=A at*;simp[jg,xK,Of,vg,JJ,l1,n1,tR]
  rw[show a++r::l=(a++[r])++l by simp, <-e];simp only[gr,List.map_cons,fP];simp[st]
def GQ{rows:List (List Sp)}{w h:Nat}{ks:List (List gT)}{xs:List D}(R:Rw rows w h):cG [.val (tb rows ks xs)]= .new (.l (rows.map tR)):=by obtain ⟨t2,e⟩:=FQ (.val (tb rows ks xs)) rows [] .no (λ r hr=>by rw[R.row r hr];exact R.w1.2) (by rw[R.len];have:=R.h1;simp;omega);have n:=Cw rows;have fg:Dl "grid" (tb rows ks xs)= .ok (.tup (gr rows)):=yi _ _;simp only[List.nil_append,List.map_nil] at e;simp only[cG,eY,cN];generalize tb rows ks xs=t at*;simp[gY,fg,kg,e,qU,n]
def UU{rows:List (List Sp)}{w h:Nat}{ks:List (List gT)}{xs:List D}(R:Rw rows w h):sO 0 nB (tb rows ks xs) (.ok [])= .ok (.l (rows.map tR)):=by have e:=GQ (ks:=ks) (xs:=xs) R;simp only[sO,mY,nB,tb];simp only[tb] at e;simp[List.lookup,e]
def setC(rows:List (List Sp))(x y:Nat)(c:Sp):List (List Sp):=rows.set y ((rows.getD y []).set x c)
def rq{rows:List (List Sp)}{y:Nat}(hy:y<rows.length):rows.getD y []=rows[y]:=by simp[List.getD,hy]
def Rw.set{rows:List (List Sp)}{w h:Nat}(R:Rw rows w h){x y:Nat}(hy:y<h){c:Sp}(hc:c.ok):Rw (setC rows x y c) w h:=by
 have hk:y<rows.length:=by rw[R.len];exact hy
 unfold setC;rw[rq hk];have hr:=R.row _ (List.getElem_mem hk);refine ⟨by simp[R.len],λ r hr'=>?_,λ r hr' c' hc'=>?_,R.w1,R.h1⟩
 ·rcases List.mem_or_eq_of_mem_set hr' with z|z
  ·exact R.row r z
  ·rw[z,List.length_set];exact hr
 ·rcases List.mem_or_eq_of_mem_set hr' with z|z
  ·exact R.cell r z c' hc'
  ·rw[z] at hc';rcases List.mem_or_eq_of_mem_set hc' with q|q
   ·exact R.cell _ (List.getElem_mem hk) c' q
   ·rw[q];exact hc
noncomputable def ro(rows:List (List D)):M:= .n (rows.map M.l)
def Lh:∀rows:List (List D),nI (rows.map M.l)=rows.map (D.bor true)
 |[]=>by simp
 |r::rows=>by simp[Lh rows]
def abu:∀rows:List (List Sp),vp ((rs rows).map (D.bor true))=rows.map λ r=>D.bor false (r.map oD)
 |[]=>by simp[vp,rs]
 |r::rows=>by have:=abu rows;show vp (D.bor true (r.map oD)::(rs rows).map (D.bor true))=D.bor false (r.map oD)::_;simp only[vp,dn];rw[this,tY _ (NO r)]
def Ve:∀rows:List (List Sp),vZ ((rs rows).map M.l)=true
 |[]=>by simp[vZ,rs]
 |r::rows=>by have:=Ve rows;show (xJ (M.l (r.map oD))&&vZ ((rs rows).map M.l))=true;rw[this];simp[NJ]
def ajk{rows:List (List Sp)}{w h:Nat}{ks:List (List gT)}{xs:List D}(R:Rw rows w h)(s1 s2 s3 s4:Slot):
  mZ false (bW (qt "grid" (aj 0))) 1 [] (aD 0) gz (mL (lCB vm (ai (aj 0) aB))) [.val (tb rows ks xs),s1,s2,s3,s4]= .ok ((rs rows).map M.l):=by
 have fg:Dl "grid" (tb rows ks xs)= .ok (.tup (gr rows)):=yi _ _;have i:bW (qt "grid" (aj 0)) [.val (tb rows ks xs),s1,s2,s3,s4]= .ok (gr rows):=by generalize tb rows ks xs=t at*;simp[fg,kg]
 have hl:(gr rows).length<1000000:=by have:=R.len;have:=R.h1;simp[gr];omega
 unfold mZ;rw[i,Res.bD,if_pos hl];have b:sD false 1 [] [.val (tb rows ks xs),s1,s2,s3,s4]=[.no]:=rfl;rw[b];clear i b hl fg R;induction rows with
 |nil=>rfl
 |cons r rows ih=>have e:Yz (aD 0) gz (mL (lCB vm (ai (aj 0) aB))) [.no] (.tup (r.map oD))= .ok (some (.l (r.map oD))):=rfl;simp only[gr,rs,List.map_cons,nL] at ih ⊢;rw[e,ih];rfl
def ahI{rows:List (List Sp)}{x y:Nat}{c:Sp}(hy:y<rows.length):rs (setC rows x y c)=(rs rows).set y ((rows[y].map oD).set x (oD c)):=by unfold setC rs;rw[rq hy,List.map_set,List.map_set]
def aem{rows:List (List Sp)}{w h:Nat}(R:Rw rows w h){x y:Int}(hx:0<=x/\x<w)(hy:0<=y/\y<h)(c:Sp)(s0:Slot):
  lz 4 (pIx 4 (jg 4) (aj 2)) (aj 1) (aj 3) [s0,.val (.int x),.val (.int y),.val (oD c),.own (ro (rs rows))]= .nx [s0,.val (.int x),.val (.int y),.val (oD c),.own (ro (rs (setC rows x.toNat y.toNat c)))]:=by
 have hk:y.toNat<rows.length:=by rw[R.len];omega
 have hr:=R.row _ (List.getElem_mem hk);have lr:(rs rows).length=h:=by simp[rs,R.len]
 have p:pIx 4 (jg 4) (aj 2) [s0,.val (.int x),.val (.int y),.val (oD c),.own (ro (rs rows))]= .ok [y.toNat]:=by simp only[pIx,jg,Dv];simp[ro,Iv,qq hy.1 (show y<((rs rows).length:Int) by rw[lr];exact hy.2)]
 have e:((rs rows).map M.l)[y.toNat]? =some (.l (rows[y.toNat].map oD)):=by rw[List.getElem?_map];unfold rs;rw[List.getElem?_map,List.getElem?_eq_getElem hk];rfl
 have i2:nZ (rows[y.toNat].map oD).length x=some x.toNat:=qq hx.1 (by rw[List.length_map,hr];exact hx.2);have hd':=agk c;rw[ahI hk];unfold lz;rw[p];generalize rows[y.toNat].map oD=q at*;generalize oD c=d at*;generalize rs rows=g at*;have up:vg 4 [y.toNat] (setM x d) [s0,.val (.int x),.val (.int y),.val d,.own (ro g)]=some [s0,.val (.int x),.val (.int y),.val d,.own (ro (g.set y.toNat (q.set x.toNat d)))]:=by simp only[vg,ro];simp[pJ,e,setM,i2,hd',mW,List.map_set]
 simp[up]
def YI{rows:List (List Sp)}{w h:Nat}{ks:List (List gT)}{xs:List D}(R:Rw rows w h)(nx:fV xs=true){c:Sp}(hc:c.ok){x y:Int}(hx:0<=x/\x<w)(hy:0<=y/\y<h):
  (MD (setC rows x.toNat y.toNat c)->∃ks' xs',bA [.val (tb rows ks xs),.val (.int x),.val (.int y),.val (oD c)]= .ok (tb (setC rows x.toNat y.toNat c) ks' xs')/\fV xs'=true/\qx xs'=true)/\
  (¬MD (setC rows x.toNat y.toNat c)->bA [.val (tb rows ks xs),.val (.int x),.val (.int y),.val (oD c)]= .err "NoTable"):=by
 have R':=R.set (x:=x.toNat) (y:=y.toNat) (by omega) hc;have k0:=ak7 (ks:=ks) (xs:=xs) R x y;rw[if_pos (Vv.mpr ⟨hx,hy⟩)] at k0;have cp:=ajk (ks:=ks) (xs:=xs) R (.val (.int x)) (.val (.int y)) (.val (oD c)) .no;have si:=aem R hx hy c (.val (tb rows ks xs));have n1:=Ve rows;have dr:=abu (setC rows x.toNat y.toNat c);have ini:=aaX (f:=λ r=>D.bor false (r.map oD)) (λ r=>rfl) (rows:=setC rows x.toNat y.toNat c) (src:= .bor false ((setC rows x.toNat y.toNat c).map λ r=>D.bor false (r.map oD))) rfl R';have go:bA [.val (tb rows ks xs),.val (.int x),.val (.int y),.val (oD c)]=qf (Kp (zQ 1 "Table" ["grid","ends"] aW (ai (d7 4) aB)) [.val (tb rows ks xs),.val (.int x),.val (.int y),.val (oD c),.own (ro (rs (setC rows x.toNat y.toNat c)))]):=by
  rw[bA,dw,show cN Ab [.val (tb rows ks xs),.val (.int x),.val (.int y),.val (oD c)]=[.val (tb rows ks xs),.val (.int x),.val (.int y),.val (oD c),.no] from rfl];have s1:sr (om (vj 2 ja (aj 0) (ai (aj 1) (ai (aj 2) aB)))) [.val (tb rows ks xs),.val (.int x),.val (.int y),.val (oD c),.no]= .nx [.val (tb rows ks xs),.val (.int x),.val (.int y),.val (oD c),.no]:=by generalize tb rows ks xs=t at*;simp[k0]
  have s2:gX 4 (mN (mZ false (bW (qt "grid" (aj 0))) 1 [] (aD 0) gz (mL (lCB vm (ai (aj 0) aB))))) [.val (tb rows ks xs),.val (.int x),.val (.int y),.val (oD c),.no]= .nx [.val (tb rows ks xs),.val (.int x),.val (.int y),.val (oD c),.own (ro (rs rows))]:=by unfold gX mN;rw[cp];simp[ro,xJ,n1]
  rw[bT,s1,cP,bT,s2,cP,bT,si,cP]
 have le:lend (ro (rs (setC rows x.toNat y.toNat c)))= .bor true ((rs (setC rows x.toNat y.toNat c)).map (D.bor true)):=by simp[ro,lend,Lh]
 rw[go];generalize setC rows x.toNat y.toNat c=rows' at*;refine ⟨λ p=>?_,λ p=>?_⟩
 ·obtain ⟨ks',xs',e,x1,x2⟩:=ini.1 p;refine ⟨ks',xs',?_,x1,x2⟩;have nb0:=alF rows' (ks:=ks') x2;have nt0:=Z8 rows' (ks:=ks') x1;unfold tb at nb0 nt0 ⊢;unfold Kp zQ;simp[le,vp,dn,dr,e,oY,nbX,nb0,nt0]
 ·have e:=ini.2 p;unfold Kp zQ;simp[le,vp,dn,dr,e,oY,nbX]
def YH{rows:List (List Sp)}{w h:Nat}{ks:List (List gT)}{xs:List D}(R:Rw rows w h)(d:D){x y:Int}(hn:XH w h x y=false):
  bA [.val (tb rows ks xs),.val (.int x),.val (.int y),.val d]= .err "NoPlace":=by
 have k0:=ak7 (ks:=ks) (xs:=xs) R x y;rw[hn] at k0;simp only[bA,dw,cN];generalize tb rows ks xs=t at*;simp[k0]
def ahy{n:Str}(h:Nm n):PyData.strOk n=true:=by have:=h.ls;unfold PyData.strOk;rw[<-Array.all_toList];rw[List.all_eq_true] at this ⊢;intro c hc;have:=this c hc;simp only[isLet,Bool.and_eq_true,decide_eq_true_eq] at this;simp;omega
def Nn{c:Sp}(h:c.ok)(n:Nat):gK (n+2) (tD c)=true:=by
 have w0:=λ i=>(UJ i 0).1.1;have a0:=w0 0;have a1:=w0 1;have a2:=w0 2;have a3:=w0 3;have a4:=w0 4;have a5:=w0 5;simp only[wd] at a0 a1 a2 a3 a4 a5;cases c with
 |b x=>simp[tD,gK,ahy (n:=x) h];exact a5
 |e=>simp[tD,gK];exact a0
 |w=>simp[tD,gK];exact a4
 |m s=>simp[tD,gK];exact a1
 |h s t u=>simp[tD,gK];exact a2
 |f t u=>simp[tD,gK];exact a3
def ai3(c:Sp):(py (tD c)).eqv (py (tD c))=true:=by cases c<;>simp[tD,py,zc,PyData.eqv,PyData.eqvAll]
def VB:∀r:List Sp,PyData.eqvAll (zc (r.map tD)) (zc (r.map tD))=true
 |[]=>by simp[zc,PyData.eqvAll]
 |c::r=>by simp[zc,PyData.eqvAll,ai3 c,VB r]
def tB(r:List Sp):D:= .bor true (r.map tD)
def ale(r:List Sp):py (tB r)=py (tR r):=rfl
def Zn:∀rows:List (List Sp),zc (rows.map tB)=zc (rows.map tR)
 |[]=>rfl
 |r::rows=>by simp only[List.map_cons,zc];rw[Zn rows,ale]
def abn:∀rows:List (List Sp),PyData.eqvAll (zc (rows.map tR)) (zc (rows.map tR))=true
 |[]=>by simp[zc,PyData.eqvAll]
 |r::rows=>by
  have e:(py (tR r)).eqv (py (tR r))=true:=by simp[tR,py,PyData.eqv,VB r]
  simp only[List.map_cons,zc,PyData.eqvAll,e,abn rows,Bool.and_self]
def U9{r:List Sp}(h:∀c∈r,c.ok)(n:Nat):(r.map tD).all (gK (n+2))=true:=by rw[List.all_map,List.all_eq_true];intro c hc;exact Nn (h c hc) n
def Z0{rows:List (List Sp)}(h:∀r∈rows,∀c∈r,c.ok):(rows.map tR).all (gK 11)=true/\(rows.map tB).all (gK 11)=true:=by rw[List.all_map,List.all_eq_true,List.all_map,List.all_eq_true];exact ⟨λ r hr=>U9 (h r hr) 8,λ r hr=>U9 (h r hr) 8⟩
def Jc{rows:List (List Sp)}(h:∀r∈rows,∀c∈r,c.ok):pQ (.lst (rows.map tR)) (rD rows)= .ok (.bl true)/\CB (.lst (rows.map tR)) (rD rows)= .ok (.bl false)/\CB (.lst (rows.map tR)) (.bor true (rows.map tB))= .ok (.bl false):=by
 obtain ⟨o1,o2⟩:=Z0 h;have e:=abn rows;have p:=Zn rows;unfold rD;generalize rows.map tR=A at*;generalize rows.map tB=B at*;refine ⟨?_,?_,?_⟩
 ·simp[pQ,gK,o1,LS,py,PyData.eqv,e]
 ·simp[CB,gK,o1,LS,py,PyData.eqv,e]
 ·simp[CB,gK,o1,o2,LS,py,PyData.eqv,p,e]
def wY:Sp->Sp->Bool
 | .b n,.b m=>decide (n=m)
 |_,_=>false
def agp(c:Sp):∃r,tD c= .tup (.str (wd (kd c).val)::r):=by cases c<;>exact ⟨_,rfl⟩
def kd5{c:Sp}(h:kd c=5):∃n,c= .b n:=by
 cases c with
 |b n=>exact ⟨n,rfl⟩
 |e=>exact absurd (show (0:_root_.Fin 6)=5 from h) (by decide)
 |w=>exact absurd (show (4:_root_.Fin 6)=5 from h) (by decide)
 |m s=>exact absurd (show (1:_root_.Fin 6)=5 from h) (by decide)
 |h s t u=>exact absurd (show (2:_root_.Fin 6)=5 from h) (by decide)
 |f t u=>exact absurd (show (3:_root_.Fin 6)=5 from h) (by decide)
def BW{a b:Sp}(h:¬kd a=kd b):wY a b=false:=by
 cases a<;>cases b<;>first
  |rfl
  |exact absurd rfl h
def ai4{a b:Sp}(ha:a.ok)(hb:b.ok)(h:kd a=5\/kd b=5):pQ (tD a) (tD b)= .ok (.bl (wY a b)):=by
 have o1:=Nn ha 10;have o2:=Nn hb 10;have d:LS (tD a) (tD b)=wY a b:=by
  by_cases q:kd a=kd b
  ·have h5:kd a=5/\kd b=5:=by
    rcases h with h|h
    ·exact ⟨h,q▸h⟩
    ·exact ⟨q.trans h,h⟩
   obtain ⟨n,rfl⟩:=kd5 h5.1;obtain ⟨m,rfl⟩:=kd5 h5.2;simp only[LS,tD,py,zc,PyData.eqv,PyData.eqvAll,wY];by_cases e:n=m
   ·subst e;simp
   ·simp[e]
  ·obtain ⟨r1,e1⟩:=agp a;obtain ⟨r2,e2⟩:=agp b;have f:=(UJ (kd a) (kd b)).2;rw[decide_eq_false q] at f;rw[e1,e2,BW q];simp only[LS,py,zc,PyData.eqv,PyData.eqvAll,f,Bool.false_and]
 unfold pQ;rw[if_pos ⟨o1,o2⟩,d]
def alM{r:List Sp}(h:∀c∈r,c.ok)(hl:r.length<1000000):dh false (bW (aj 0)) 1 [] (aD 0) gz (bz 1 b8 (ai (aj 0) aB)) [.val (tR r)]= .ok (r.map oD):=by
 have i:bW (aj 0) [.val (tR r)]= .ok (r.map tD):=by simp[tR,kg]
 rw[jJ,i,Res.bD,if_pos (by simpa using hl)];have b:sD false 1 [] [.val (tR r)]=[.no]:=rfl;rw[b];clear i b hl;induction r with
 |nil=>rfl
 |cons c r ih=>
  have cr:=OZ (h c (.head _));have e:wK (aD 0) gz (bz 1 b8 (ai (aj 0) aB)) [.no] (tD c)= .ok (some (oD c)):=by generalize tD c=d at*;simp[wK,cr]
  simp only[List.map_cons,jN,e,ih λ x hx=>h x (.tail _ hx)];rfl
def alL{rows:List (List Sp)}(h:∀r∈rows,∀c∈r,c.ok)(hr:∀r∈rows,r.length<1000000)(hl:rows.length<1000000):dh false (bW (aj 0)) 1 [] (aD 0) gz (vc (dh false (bW (aj 0)) 1 [] (aD 0) gz (bz 1 b8 (ai (aj 0) aB)))) [.val (rD rows)]= .ok (rows.map λ r=>D.lst (r.map oD)):=by
 have i:bW (aj 0) [.val (rD rows)]= .ok (rows.map tR):=by simp[rD,kg]
 rw[jJ,i,Res.bD,if_pos (by simpa using hl)];have b:sD false 1 [] [.val (rD rows)]=[.no]:=rfl;rw[b];clear i b hl;induction rows with
 |nil=>rfl
 |cons r rows ih=>
  have cr:=alM (h r (.head _)) (hr r (.head _));have e:wK (aD 0) gz (vc (dh false (bW (aj 0)) 1 [] (aD 0) gz (bz 1 b8 (ai (aj 0) aB)))) [.no] (tR r)= .ok (some (.lst (r.map oD))):=by simp only[wK,rG,List.set_cons_zero];simp only[gz];rw[uR,cr];rfl
  simp only[List.map_cons,jN,e,ih (λ x hx=>h x (.tail _ hx)) λ x hx=>hr x (.tail _ hx)];rfl
def aed{rows:List (List Sp)}{w h:Nat}(R:Rw rows w h)(p:MD rows):∃ks xs,lU [.val (rD rows)]= .ok (tb rows ks xs)/\fV xs=true/\qx xs=true:=by have c:=alL (rows:=rows) R.cell (λ r hr=>by rw[R.row r hr];have:=R.w1;omega) (by rw[R.len];have:=R.h1;omega);obtain ⟨ks,xs,e,x1,x2⟩:=(aaX (f:=λ r=>D.lst (r.map oD)) (λ r=>rfl) (rows:=rows) (src:= .lst (rows.map λ r=>D.lst (r.map oD))) rfl R).1 p;refine ⟨ks,xs,?_,x1,x2⟩;rw[lU,jO,show cN F2 [.val (rD rows)]=[.val (rD rows)] from rfl];unfold eN t9;rw[lN,uR,c];simp[e,oY,tb]
def OY{t t' d:D}{x y:Int}(e:bA [.val t,.val (.int x),.val (.int y),.val d]= .ok t'):cy [.val t,.val (.int x),.val (.int y),.val d]= .ok (.tup [t',.cY]):=by simp only[cy,dB,cN];simp[e,zb,tryD]
def Am{t d:D}{x y:Int}{c:String}(hc:c="NoPlace"\/c="NoTable")(e:bA [.val t,.val (.int x),.val (.int y),.val d]= .err c):cy [.val t,.val (.int x),.val (.int y),.val d]= .ok (.tup [.cY,.exc c]):=by
 simp only[cy,dB,cN];rcases hc with rfl|rfl
 ·simp[e,zb,tryD,Ah,mt,List.lookup,aeX]
 ·simp[e,zb,tryD,Ah,mt,List.lookup,aeX]
def ak5:cL [.val (.exc "NoTable"),.val (.bl false)]= .ok (.bl true):=by simp only[cL,dz,cN];simp[yb,kinds,mt,List.lookup,CB,gK,LS,py,PyData.eqv]
def ak6:cL [.val (.exc "NoPlace"),.val (.bl true)]= .ok (.bl true):=by simp only[cL,dz,cN];simp[yb,kinds,mt,List.lookup,CB,gK,LS,py,PyData.eqv]
noncomputable def Su{α:Type}(f:α->Nat):List α->Nat
 |[]=>0
 |a::l=>f a+Su f l
def Uw{α:Type}(f:α->Nat)(b:α):∀(l:List α) (i:Nat) (h:i<l.length),Su f (l.set i b)+f l[i]=Su f l+f b
 |[],i,h=>by simp at h
 |a::l,0,h=>by simp[Su];omega
 |a::l,i+1,h=>by have:=Uw f b l i (by simpa using h);simp only[List.set_cons_succ,Su,List.getElem_cons_succ];omega
def OU(m:Str):∀r:List Sp,cn m (v7 r)=Su (λ c=>cn m (v7 [c])) r
 |[]=>rfl
 |c::r=>by have:=OU m r;rw[show c::r=[c]++r from rfl,uG,zS,this];rfl
def JA(m:Str):∀l:List (List Sp),cn m (v7 l.flatten)=Su (λ r=>cn m (v7 r)) l
 |[]=>rfl
 |r::l=>by rw[List.flatten_cons,uG,zS,JA m l];rfl
def abM{rows:List (List Sp)}{x y:Nat}(hy:y<rows.length)(hx:x<rows[y].length)(c:Sp)(m:Str):
  cn m (v7 (setC rows x y c).flatten)+cn m (v7 [rows[y][x]])=cn m (v7 rows.flatten)+cn m (v7 [c]):=by
 rw[JA,JA];unfold setC;rw[rq hy];have a:=Uw (λ r=>cn m (v7 r)) (rows[y].set x c) rows y hy;have b:=Uw (λ c=>cn m (v7 [c])) c rows[y] x hx;rw[OU m (rows[y].set x c),OU m rows[y]] at a;omega
def afT(m n:Str):cn m (v7 [.b n])=if m=n then 1 else 0:=abN m n
def L7{c:Sp}(h:¬kd c=5)(m:Str):cn m (v7 [c])=0:=by
 cases c with
 |b n=>exact absurd rfl h
 |_=>rfl
def kY(a b:Sp):Bool:=(!decide (kd a=5)&&!decide (kd b=5))||wY a b
def amm{rows:List (List Sp)}{x y:Nat}(hy:y<rows.length)(hx:x<rows[y].length)(m:Str):cn m (v7 [rows[y][x]])<=cn m (v7 rows.flatten):=by have:=abM hy hx .e m;have e:cn m (v7 [Sp.e])=0:=rfl;omega
def aeP{rows:List (List Sp)}{x y:Nat}(hy:y<rows.length)(hx:x<rows[y].length)(p:MD rows)(c:Sp):MD (setC rows x y c)↔ kY rows[y][x] c=true:=by
 have e:=λ m=>abM hy hx c m;have g:=λ m=>amm hy hx m;generalize rows[y][x]=a at*;by_cases ka:kd a=5
 ·obtain ⟨n,rfl⟩:=kd5 ka;have e1:=e n;have g1:=g n;rw[afT,if_pos rfl] at e1 g1;have p1:=p n;by_cases kc:kd c=5
  ·obtain ⟨m,rfl⟩:=kd5 kc;by_cases q:n=m
   ·subst q;have:kY (.b n) (.b n)=true:=by simp[kY,wY]
    rw[this];simp only[iff_true];intro k;have:=e k;have:=p k;omega
   ·have:kY (.b n) (.b m)=false:=by simp[kY,wY,q,ka]
    rw[this];simp only[Bool.false_eq_true,iff_false];intro z;rw[afT,if_neg q] at e1;have:=z n;omega
  ·have:kY (.b n) c=false:=by have s:wY (.b n) c=false:=BW (λ z=>kc (z▸rfl));simp[kY,s,ka]
   rw[this];simp only[Bool.false_eq_true,iff_false];intro z;rw[L7 kc] at e1;have:=z n;omega
 ·by_cases kc:kd c=5
  ·obtain ⟨m,rfl⟩:=kd5 kc;have:kY a (.b m)=false:=by have s:wY a (.b m)=false:=BW (λ z=>ka z);simp[kY,s,kc]
   rw[this];simp only[Bool.false_eq_true,iff_false];intro z;have e1:=e m;rw[L7 ka,afT,if_pos rfl] at e1;have:=z m;have:=p m;omega
  ·have:kY a c=true:=by simp[kY,ka,kc]
   rw[this];simp only[iff_true];intro k;have e1:=e k;rw[L7 ka,L7 kc] at e1;have:=p k;omega
def Zf{rows:List (List Sp)}{x y:Nat}(hy:y<rows.length)(hx:x<rows[y].length)(c:Sp):setC (setC rows x y c) x y rows[y][x]=rows:=by
 unfold setC;rw[rq hy];have:(rows.set y (rows[y].set x c)).getD y []=rows[y].set x c:=by rw[rq (by simpa using hy)];simp
 rw[this];simp
def ne0(c:Sp):CB (.str (wd (kd c).val)) (.str "fibre")= .ok (.bl (!decide (kd c=5))):=by have h:=UJ (kd c) 5;have e:wd (5:_root_.Fin 6).val="fibre":=rfl;rw[e] at h;simp only[CB,gK,LS,py,PyData.eqv];rw[if_pos h.1,h.2]
def afq{rows:List (List Sp)}{y:Int}(hy:0<=y)(h:y.toNat<rows.length):bV (rD rows) (.int y)= .ok (tR rows[y.toNat]):=by have i:nZ (rows.map tR).length y=some y.toNat:=qq hy (by rw[List.length_map];omega);unfold rD;simp only[bV,qy,i,Option.bind_some];rw[List.getElem?_map,List.getElem?_eq_getElem h];rfl
def aiF{r:List Sp}{x:Int}(hx:0<=x)(h:x.toNat<r.length):bV (tR r) (.int x)= .ok (tD r[x.toNat]):=by have i:nZ (r.map tD).length x=some x.toNat:=qq hx (by rw[List.length_map];omega);unfold tR;simp only[bV,qy,i,Option.bind_some];rw[List.getElem?_map,List.getElem?_eq_getElem h];rfl
def als(rows:List (List Sp)):nt (rD rows)=true:=by simp[rD,Cw]
def af1{rows:List (List Sp)}{x y:Int}(hx0:0<=x)(hy0:0<=y)(hy:y.toNat<rows.length)(hx:x.toNat<rows[y.toNat].length){c:Sp}(ha:rows[y.toNat][x.toNat].ok)(hc:c.ok):
  bY [.val (rD rows),.val (.int x),.val (.int y),.val (tD c)]= .ok (.bl (kY rows[y.toNat][x.toNat] c)):=by
 have i1:=afq hy0 hy;have i2:=aiF hx0 hx;generalize rows[y.toNat][x.toNat]=a at*;have na:=ne0 a;have nc:=ne0 c;have xa:=ix0 a;have xc:=ix0 c;have ef:=ai4 ha hc;unfold kY;simp only[bY,bX,cN];generalize rD rows=dr at*;generalize tR rows[y.toNat]=dy at*;generalize wd (kd a).val=wa at*;generalize wd (kd c).val=wc at*;by_cases ka:kd a=5
 ·have e:=ef (.inl ka);generalize tD a=da at*;generalize tD c=dc at*;simp[i1,i2,xa,na,ka,e]
 ·by_cases kc:kd c=5
  ·have e:=ef (.inr kc);generalize tD a=da at*;generalize tD c=dc at*;simp[i1,i2,xa,xc,na,nc,ka,kc,e]
  ·generalize tD a=da at*;generalize tD c=dc at*;simp[i1,i2,xa,xc,na,nc,ka,kc]
def ts(rows:List (List Sp)):List (List D):=rows.map λ r=>r.map tD
def Lg:∀rows:List (List Sp),nI ((ts rows).map M.l)=rows.map tB
 |[]=>by simp[ts]
 |r::rows=>by have:=Lg rows;show lend (M.l (r.map tD))::nI ((ts rows).map M.l)=_;rw[this];rfl
def Vd:∀rows:List (List Sp),vZ ((ts rows).map M.l)=true
 |[]=>by simp[vZ,ts]
 |r::rows=>by have:=Vd rows;show (xJ (M.l (r.map tD))&&vZ ((ts rows).map M.l))=true;rw[this];simp[vY]
def amk{rows:List (List Sp)}(hl:rows.length<1000000)(s0:Slot)(r:Sg):
  mZ false (bW (aj 1)) 1 [] (aD 0) gz (mL (lCB vm (ai (aj 0) aB))) (s0:: .val (rD rows)::r)= .ok ((ts rows).map M.l):=by
 have i:bW (aj 1) (s0:: .val (rD rows)::r)= .ok (rows.map tR):=by simp[rD,kg]
 unfold mZ;rw[i,Res.bD,if_pos (by simpa using hl)];have b:sD false 1 [] (s0:: .val (rD rows)::r)=[.no]:=rfl;rw[b];clear i b hl;induction rows with
 |nil=>rfl
 |cons q rows ih=>have e:Yz (aD 0) gz (mL (lCB vm (ai (aj 0) aB))) [.no] (tR q)= .ok (some (.l (q.map tD))):=rfl;simp only[ts,List.map_cons,nL] at ih ⊢;rw[e,ih];rfl
def ahr{rows:List (List Sp)}{x y:Nat}{c:Sp}(hy:y<rows.length):ts (setC rows x y c)=(ts rows).set y ((rows[y].map tD).set x (tD c)):=by unfold setC ts;rw[rq hy,List.map_set,List.map_set]
def ahE{rows:List (List Sp)}{w h:Nat}(R:Rw rows w h){x y:Int}(hx:0<=x/\x<w)(hy:0<=y/\y<h)(c:Sp)(s0 s1 s5 s6:Slot):
  lz 7 (pIx 7 (jg 7) (aj 3)) (aj 2) (aj 4) [s0,s1,.val (.int x),.val (.int y),.val (tD c),s5,s6,.own (ro (ts rows))]= .nx [s0,s1,.val (.int x),.val (.int y),.val (tD c),s5,s6,.own (ro (ts (setC rows x.toNat y.toNat c)))]:=by
 have hk:y.toNat<rows.length:=by rw[R.len];omega
 have hr:=R.row _ (List.getElem_mem hk);have lr:(ts rows).length=h:=by simp[ts,R.len]
 have p:pIx 7 (jg 7) (aj 3) [s0,s1,.val (.int x),.val (.int y),.val (tD c),s5,s6,.own (ro (ts rows))]= .ok [y.toNat]:=by simp only[pIx,jg,Dv];simp[ro,Iv,qq hy.1 (show y<((ts rows).length:Int) by rw[lr];exact hy.2)]
 have e:((ts rows).map M.l)[y.toNat]? =some (.l (rows[y.toNat].map tD)):=by rw[List.getElem?_map];unfold ts;rw[List.getElem?_map,List.getElem?_eq_getElem hk];rfl
 have i2:nZ (rows[y.toNat].map tD).length x=some x.toNat:=qq hx.1 (by rw[List.length_map,hr];exact hx.2);have hd':=KU c;rw[ahr hk];unfold lz;rw[p];generalize rows[y.toNat].map tD=q at*;generalize tD c=d at*;generalize ts rows=g at*;have up:vg 7 [y.toNat] (setM x d) [s0,s1,.val (.int x),.val (.int y),.val d,s5,s6,.own (ro g)]=some [s0,s1,.val (.int x),.val (.int y),.val d,s5,s6,.own (ro (g.set y.toNat (q.set x.toNat d)))]:=by simp only[vg,ro];simp[pJ,e,setM,i2,hd',mW,List.map_set]
 simp[up]
def G6{rows:List (List Sp)}{w h:Nat}{ks:List (List gT)}{xs:List D}(R:Rw rows w h)(p:MD rows)(nx:fV xs=true){c:Sp}(hc:c.ok){x y:Int}(hx:0<=x/\x<w)(hy:0<=y/\y<h):
  iY [.val (tb rows ks xs),.val (rD rows),.val (.int x),.val (.int y),.val (tD c)]= .ok (.bl true):=by
 have hk:y.toNat<rows.length:=by rw[R.len];omega
 have hr:=R.row _ (List.getElem_mem hk);have hxx:x.toNat<rows[y.toNat].length:=by rw[hr];omega
 have ha:rows[y.toNat][x.toNat].ok:=R.cell _ (List.getElem_mem hk) _ (List.getElem_mem hxx);have W:=YI (ks:=ks) R nx hc hx hy;have al:=af1 hx.1 hy.1 hk hxx ha hc;have ps:=aeP hk hxx p c;have ce:=OZ hc;have nb1:=Z8 rows (ks:=ks) nx;have nr:=als rows;have R':=R.set (x:=x.toNat) (y:=y.toNat) (by omega) hc;cases q:kY rows[y.toNat][x.toNat] c with
 |false=>
  rw[q] at al;have np:¬MD (setC rows x.toNat y.toNat c):=λ z=>by rw[ps.mp z] at q;cases q
  have ch:=Am (.inr rfl) (W.2 np);have rt:=ak5;simp only[iY,gG,cN];generalize tb rows ks xs=t at*;generalize rD rows=dr at*;generalize tD c=dc at*;generalize oD c=oc at*;simp[ce,ch,al,XA,rt]
 |true=>
  rw[q] at al;obtain ⟨ks',xs',e1,x1,x2⟩:=W.1 (ps.mpr q);have ch:=OY e1;have hk':y.toNat<(setC rows x.toNat y.toNat c).length:=by rw[R'.len];omega
  have W2:=YI (ks:=ks') R' x1 ha hx hy;rw[Zf hk hxx] at W2;obtain ⟨ks2,xs2,e2,y1,y2⟩:=W2.1 p;have ce2:=OZ ha;have i1:=afq hy.1 hk;have i2:=aiF hx.1 hxx;have cp:=amk (rows:=rows) (by rw[R.len];have:=R.h1;omega) (.val (tb rows ks xs)) [.val (.int x),.val (.int y),.val (tD c),.val (tb (setC rows x.toNat y.toNat c) ks' xs'),.val .cY,.no];have nm:=Vd rows;have st:=ahE R hx hy c (.val (tb rows ks xs)) (.val (rD rows)) (.val (tb (setC rows x.toNat y.toNat c) ks' xs')) (.val .cY);have r1:=UU (ks:=ks') (xs:=xs') R';have r2:=UU (ks:=ks) (xs:=xs) R;have r3:=UU (ks:=ks2) (xs:=xs2) R;obtain ⟨q1,q2,_⟩:=Jc R.cell;obtain ⟨_,_,q3⟩:=Jc R'.cell;have ld:lend (ro (ts (setC rows x.toNat y.toNat c)))= .bor true ((setC rows x.toNat y.toNat c).map tB):=by simp[ro,lend,Lg]
  have nb2:=Z8 (setC rows x.toNat y.toNat c) (ks:=ks') x1;have s2:gX 7 (mN (mZ false (bW (aj 1)) 1 [] (aD 0) gz (mL (lCB vm (ai (aj 0) aB))))) [.val (tb rows ks xs),.val (rD rows),.val (.int x),.val (.int y),.val (tD c),.val (tb (setC rows x.toNat y.toNat c) ks' xs'),.val .cY,.no]= .nx [.val (tb rows ks xs),.val (rD rows),.val (.int x),.val (.int y),.val (tD c),.val (tb (setC rows x.toNat y.toNat c) ks' xs'),.val .cY,.own (ro (ts rows))]:=by unfold gX mN;rw[cp];simp[ro,xJ,nm]
  have ie:Gg .cY .cY= .ok (.bl false):=rfl;rw[iY,gG,show cN F3 [.val (tb rows ks xs),.val (rD rows),.val (.int x),.val (.int y),.val (tD c)]=[.val (tb rows ks xs),.val (rD rows),.val (.int x),.val (.int y),.val (tD c),.no,.no,.no] from rfl];have s1:Wh (bz 4 cy (ai (aj 0) (ai (aj 2) (ai (aj 3) (ai (bz 1 b8 (ai (aj 4) aB)) aB))))) (nH 2 (b3 (aD 5) (b3 (aD 6) oO))) [.val (tb rows ks xs),.val (rD rows),.val (.int x),.val (.int y),.val (tD c),.no,.no,.no]= .nx [.val (tb rows ks xs),.val (rD rows),.val (.int x),.val (.int y),.val (tD c),.val (tb (setC rows x.toNat y.toNat c) ks' xs'),.val .cY,.no]:=by generalize tb rows ks xs=t at*;generalize tb (setC rows x.toNat y.toNat c) ks' xs'=t' at*;generalize rD rows=dr at*;generalize tD c=dc at*;generalize oD c=oc at*;simp[ce,ch]
  have s1b:sj (yK (dT (bz 4 bY (ai (aj 1) (ai (aj 2) (ai (aj 3) (ai (aj 4) aB))))))) (eN (Jo (aI XA (aj 5) (dC .cY)) (bz 2 cL (ai (aj 6) (ai (dC (.bl false)) aB))))) cz [.val (tb rows ks xs),.val (rD rows),.val (.int x),.val (.int y),.val (tD c),.val (tb (setC rows x.toNat y.toNat c) ks' xs'),.val .cY,.no]= .nx [.val (tb rows ks xs),.val (rD rows),.val (.int x),.val (.int y),.val (tD c),.val (tb (setC rows x.toNat y.toNat c) ks' xs'),.val .cY,.no]:=by generalize tb rows ks xs=t at*;generalize tb (setC rows x.toNat y.toNat c) ks' xs'=t' at*;generalize rD rows=dr at*;generalize tD c=dc at*;simp[al]
  have m1:mY nB (tb (setC rows x.toNat y.toNat c) ks' xs')=some cG:=rfl;have m2:mY nB (tb rows ks xs)=some cG:=rfl;have m3:mY nB (tb rows ks2 xs2)=some cG:=rfl;have f1:=GQ (ks:=ks') (xs:=xs') R';have f2:=GQ (ks:=ks) (xs:=xs) R;have f3:=GQ (ks:=ks2) (xs:=xs2) R;have s3:sj (cOr (dT (aI Gg (aj 6) (dC .cY))) (cOr (dT (aI CB (om (qp 0 nB (aj 5) aB)) (d7 7))) (dT (aI CB (om (qp 0 nB (aj 0) aB)) (aj 1))))) (eN (dC (.bl false))) cz [.val (tb rows ks xs),.val (rD rows),.val (.int x),.val (.int y),.val (tD c),.val (tb (setC rows x.toNat y.toNat c) ks' xs'),.val .cY,.own (ro (ts (setC rows x.toNat y.toNat c)))]= .nx [.val (tb rows ks xs),.val (rD rows),.val (.int x),.val (.int y),.val (tD c),.val (tb (setC rows x.toNat y.toNat c) ks' xs'),.val .cY,.own (ro (ts (setC rows x.toNat y.toNat c)))]:=by generalize tb rows ks xs=t at*;generalize tb (setC rows x.toNat y.toNat c) ks' xs'=t' at*;generalize rD rows=dr at*;generalize tD c=dc at*;generalize ro (ts (setC rows x.toNat y.toNat c))=ow at*;generalize (setC rows x.toNat y.toNat c).map tB=B at*;generalize (setC rows x.toNat y.toNat c).map tR=A at*;generalize rows.map tR=A0 at*;have fz:∀l:List D,MC (.l l)= .ok (.lst l):=λ l=>rfl;simp[ie,nb1,nb2,m1,m2,f1,f2,fz,ld,q2,q3,qp]
  rw[bT,s1,cP,bT,s1b,cP,bT,s2,cP,bT,st,cP,bT,s3,cP];generalize ro (ts (setC rows x.toNat y.toNat c))=ow at*;generalize tb (setC rows x.toNat y.toNat c) ks' xs'=t' at*;generalize tb rows ks2 xs2=t2 at*;generalize tb rows ks xs=t at*;generalize rows[y.toNat][x.toNat]=a at*;generalize rows[y.toNat]=ry at*;generalize rD rows=dr at*;generalize tR ry=dy at*;generalize tD a=da at*;generalize oD a=oa at*;generalize rows.map tR=A0 at*;have fz:∀l:List D,MC (.l l)= .ok (.lst l):=λ l=>rfl;simp[i1,i2,ce2,e2,r3,fz,q1]
def HZ:Nm "lost":=⟨by decide,by decide,by decide⟩
def abi:oY "Fibre" ["name"] (bH [.par (.o "Fibre" [] []),.val (.str "lost")])= .ok (oD (.b "lost")):=by rw[La HZ];rfl
def alh:Zu (.int 10) (.int 30)= .ok (.int (10^30)):=Zt 10 30 (by decide) (by decide) (by decide)
def aat{rows:List (List Sp)}{w h:Nat}(R:Rw rows w h):b4 [rD rows]= .ok (.int h):=by rw[<-R.len];simp[rD,b4,qi]
def aau{rows:List (List Sp)}{w h:Nat}(R:Rw rows w h):∃d,bV (rD rows) (.int 0)= .ok d/\b4 [d]= .ok (.int w):=by
 have hk:(0:Int).toNat<rows.length:=by rw[R.len];have:=R.h1;simp;omega
 refine ⟨_,afq (by decide) hk,?_⟩;have:=R.row _ (List.getElem_mem hk);rw[<-this];simp[tR,b4,qi]
def ahL{t:D}{x y:Int}{d:D}(e:bA [.val t,.val (.int x),.val (.int y),.val d]= .err "NoPlace"):cy [.val t,.val (.int x),.val (.int y),.val d]= .ok (.tup [.cY,.exc "NoPlace"]):=Am (.inl rfl) e
def WC{rows:List (List Sp)}{w h:Nat}{ks:List (List gT)}{xs:List D}(R:Rw rows w h)(c:Int):iP [.val (tb rows ks xs),.val (rD rows),.val (.int c)]= .ok (.bl true):=by
 have po:=alh;have f0:=fm (c.fdiv 8) (10^30) (by decide);have n0:(10^30:Int)≠0:=by decide
 generalize (10^30:Int)=N at*;have mN:mX (.int (c.fdiv 8)) (.int N)= .ok (.int ((c.fdiv 8).fmod N)):=qY _ _ n0;generalize (c.fdiv 8).fmod N=far at*;obtain ⟨d0,j1,j2⟩:=aau R;have j3:=aat R;have cells:∃d,bV (.lst [.obj "Empty" [] [],oD (.b "lost")]) (.int ((c.fdiv 4).fmod 2))= .ok d:=by
  have:=fm (c.fdiv 4) 2 (by decide);have:(c.fdiv 4).fmod 2=0\/(c.fdiv 4).fmod 2=1:=by omega
  rcases this with e|e
  ·exact ⟨.obj "Empty" [] [],by rw[e];simp[bV,qy,nZ]⟩
  ·exact ⟨oD (.b "lost"),by rw[e];simp[bV,qy,nZ]⟩
 obtain ⟨d,hd⟩:=cells;have akW:∃x y:Int,bV (.lst [.tup [.int (-1- far),.int 0],.tup [.int 0,.int (-1- far)],.tup [.int (w+far),.int 0],.tup [.int 0,.int (h+far)]]) (.int (c.fmod 4))= .ok (.tup [.int x,.int y])/\XH w h x y=false:=by
  have:=fm c 4 (by decide);have:c.fmod 4=0\/c.fmod 4=1\/c.fmod 4=2\/c.fmod 4=3:=by omega
  have no:∀x y:Int,¬((0<=x/\x<w)/\0<=y/\y<h)->XH w h x y=false:=λ x y z=>by
   cases q:XH w h x y with
   |false=>rfl
   |true=>exact absurd (Vv.mp q) z
  rcases this with e|e|e|e<;>rw[e]
  ·exact ⟨-1- far,0,by simp[bV,qy,nZ],no _ _ (by omega)⟩
  ·exact ⟨0, -1- far,by simp[bV,qy,nZ],no _ _ (by omega)⟩
  ·exact ⟨w+far,0,by simp[bV,qy,nZ],no _ _ (by omega)⟩
  ·exact ⟨0,h+far,by simp[bV,qy,nZ],no _ _ (by omega)⟩
 obtain ⟨x,y,hxy,hi⟩:=akW;have ch:=ahL (YH (ks:=ks) (xs:=xs) R d hi);have rp:=ak6;have fl:=abi;simp only[iP,fR,cN];generalize tb rows ks xs=t at*;generalize rD rows=dr at*;simp[po,mN,j1,j2,j3,hxy,t9,fl,hd,ch,XA,rp]
def N7(s0 s2:Slot):∀(r:List Sp) (n:Str) (s3:Slot),(∀c∈r,c.ok)->Nm n->∃m t3,Nm m/\fP (aD 3) (jH 0) (r.map tD) [s0,.own (.l [.str "lost",.str n]),s2,s3]= .nx [s0,.own (.l [.str "lost",.str m]),s2,t3]
 |[],n,s3,_,hn=>⟨n,s3,hn,rfl⟩
 |c::r,n,s3,h,hn=>by
  have e0:=eq0 "fibre" c 5 rfl;have i0:=ix0 c;by_cases k:kd c=5
  ·obtain ⟨m,rfl⟩:=kd5 k;obtain ⟨m',t3,hm,e⟩:=N7 s0 s2 r m (.val (tD (.b m))) (λ x hx=>h x (.tail _ hx)) (h _ (.head _));refine ⟨m',t3,hm,?_⟩;have i1:bV (tD (.b m)) (.int 1)= .ok (.str m):=by simp[tD,bV,qy,nZ]
   have st:jH 0 [s0,.own (.l [.str "lost",.str n]),s2,.val (tD (.b m))]= .nx [s0,.own (.l [.str "lost",.str m]),s2,.val (tD (.b m))]:=by simp only[jH];generalize tD (.b m)=d at*;generalize wd (kd (.b m)).val=W at*;simp[i0,e0,k,i1,lz,jg,vg,setM,nZ]
   rw[<-e];simp only[List.map_cons,fP];simp[st]
  ·obtain ⟨m',t3,hm,e⟩:=N7 s0 s2 r n (.val (tD c)) (λ x hx=>h x (.tail _ hx)) hn;refine ⟨m',t3,hm,?_⟩;have st:jH 0 [s0,.own (.l [.str "lost",.str n]),s2,.val (tD c)]= .nx [s0,.own (.l [.str "lost",.str n]),s2,.val (tD c)]:=by simp only[jH];generalize tD c=d at*;generalize wd (kd c).val=W at*;simp[i0,e0,k]
   rw[<-e];simp only[List.map_cons,fP];simp[st]
def aaH(s0:Slot):∀(l:List (List Sp)) (n:Str) (s2 s3:Slot),(∀r∈l,∀c∈r,c.ok)->Nm n->∃m t2 t3,Nm m/\fP (aD 2) (pR 0) (l.map tR) [s0,.own (.l [.str "lost",.str n]),s2,s3]= .nx [s0,.own (.l [.str "lost",.str m]),t2,t3]
 |[],n,s2,s3,_,hn=>⟨n,s2,s3,hn,rfl⟩
 |r::l,n,s2,s3,h,hn=>by
  obtain ⟨m,u3,hm,e1⟩:=N7 s0 (.val (tR r)) r n s3 (h r (.head _)) hn;obtain ⟨m',t2,t3,hm',e⟩:=aaH s0 l m (.val (tR r)) u3 (λ x hx=>h x (.tail _ hx)) hm;refine ⟨m',t2,t3,hm',?_⟩;have st:pR 0 [s0,.own (.l [.str "lost",.str n]),.val (tR r),s3]= .nx [s0,.own (.l [.str "lost",.str m]),.val (tR r),u3]:=by have sq:kg (tR r)= .ok (r.map tD):=rfl;simp only[pR];generalize tR r=d at*;simp[gY,sq,e1]
  rw[<-e];simp only[List.map_cons,fP];simp[st]
def afn{rows:List (List Sp)}{w h:Nat}(R:Rw rows w h):∃m,Nm m/\lV [.val (rD rows)]= .new (.l [.str "lost",.str m]):=by obtain ⟨m,t2,t3,hm,e⟩:=aaH (.val (rD rows)) rows "lost" .no .no R.cell HZ;refine ⟨m,hm,?_⟩;have sq:kg (rD rows)= .ok (rows.map tR):=rfl;simp only[lV,jP,cN];generalize rD rows=d at*;simp[gY,sq,e,qU]
def uP(c:Int){b p m:Int}(hb:b.natAbs<18446744073709551616)(hp:0<p)(hm:0<m):∃d,(0<=d/\d<m)/\eu [.val (.int c),.val (.int b),.val (.int p),.val (.int m)]= .ok (.int d):=by have e1:∀x:Int,kF (.int x) (.int b)= .ok (.int (x*b)):=λ x=>aaf x b hb;have e2:∀x:Int,mX (.int x) (.int p)= .ok (.int (x.fmod p)):=λ x=>qY _ _ (by omega);have e3:∀x:Int,mX (.int x) (.int m)= .ok (.int (x.fmod m)):=λ x=>qY _ _ (by omega);refine ⟨((((c.fmod 1000000007+1)*b).fmod p).fdiv 5).fmod m,fm _ _ hm,?_⟩;simp only[eu,dN,cN];simp[e1,e2,e3]
def afH(t b:Int)(h:0<t):0<Int.gcd t b:=Int.gcd_pos_of_ne_zero_left b (by omega)
def aek(c:Int):∃t b,Sh t b/\jS [.val (.int c)]= .ok (.tup [.int t,.int b]):=by
 obtain ⟨d1,h1,e1⟩:=uP c (b:=40692) (p:=99929) (m:=96) (by decide) (by decide) (by decide);obtain ⟨d2,h2,e2⟩:=uP c (b:=25253) (p:=99877) (m:=8) (by decide) (by decide) (by decide);have hm:=fm c 999999 (by decide);have bt:∃bo:Int,(2<=bo/\bo<2000000)/\bo=if d2=0 then 2+c.fmod 999999 else 2+d1:=by
  by_cases q:d2=0
  ·exact ⟨2+c.fmod 999999,by omega,by simp[q]⟩
  ·exact ⟨2+d1,by omega,by simp[q]⟩
 obtain ⟨bo,hb,eb⟩:=bt;obtain ⟨d3,h3,e3⟩:=uP c (b:=16807) (p:=99971) (m:=bo- 1) (by decide) (by decide) (by omega);have g0:=afH (1+d3) bo (by omega);have gd:cM [.val (.int (1+d3)),.val (.int bo)]= .ok (.int (Int.gcd (1+d3) bo)):=by simp only[cM];rw[if_pos (by omega)]
 have gl1:((Int.gcd (1+d3) bo:Nat):Int)∣1+d3:=Int.gcd_dvd_left _ _;have gl2:((Int.gcd (1+d3) bo:Nat):Int)∣bo:=Int.gcd_dvd_right _ _;have gle:((Int.gcd (1+d3) bo:Nat):Int)<=bo:=Int.le_of_dvd (by omega) gl2;generalize Int.gcd (1+d3) bo=g at*;have fd:∀x:Int,ig (.int x) (.int (g:Int))= .ok (.int (x.fdiv g)):=λ x=>Gs x g (by omega) (by omega);obtain ⟨u,hu⟩:=gl1;obtain ⟨v,hv⟩:=gl2;have gp:(0:Int)<(g:Int):=by omega
 have fu:(1+d3).fdiv g=u:=by rw[hu,Int.mul_fdiv_cancel_left _ (by omega)]
 have fv:bo.fdiv g=v:=by rw[hv,Int.mul_fdiv_cancel_left _ (by omega)]
 refine ⟨u,v,⟨?_,?_⟩,?_⟩
 ·have:(g:Int)*0<(g:Int)*u:=by omega
  exact Int.lt_of_mul_lt_mul_left this (by omega)
 ·have:(g:Int)*u<(g:Int)*v:=by omega
  exact Int.lt_of_mul_lt_mul_left this (by omega)
 ·simp only[jS,iV,cN];by_cases q:d2=0
  ·have eb':2+c.fmod 999999=bo:=by simpa[q] using eb.symm
   simp[e1,e2,q,eb',e3,gd,fd,fu,fv]
  ·have eb':2+d1=bo:=by simpa[q] using eb.symm
   simp[e1,e2,q,eb',e3,gd,fd,fu,fv]
def Sp.dr:Sp->Prop
 | .b n=>n=""
 |c=>c.ok0
def agi(c:Int):∃s:Sp,s.dr/\eZ [.val (.int c)]= .ok (tD s):=by
 obtain ⟨d,h,e⟩:=uP c (b:=48271) (p:=99991) (m:=16) (by decide) (by decide) (by decide);obtain ⟨t,b,hs,es⟩:=aek c;have f2:=fm d 2 (by decide);have sl:1+2*d.fmod 2=1\/1+2*d.fmod 2=3:=by omega
 by_cases a1:d<5
 ·exact ⟨.e,trivial,by simp only[eZ,gS,cN];simp[e,ltI,a1,tD]⟩
 ·by_cases a2:d<9
  ·exact ⟨.m (1+2*d.fmod 2),sl,by simp only[eZ,gS,cN];simp[e,ltI,a1,a2,tD]⟩
  ·by_cases a3:d=9
   ·exact ⟨.w,trivial,by simp only[eZ,gS,cN];simp[e,ltI,a3,tD]⟩
   ·by_cases a4:d<12
    ·exact ⟨.h (1+2*d.fmod 2) t b,⟨sl,hs⟩,by simp only[eZ,gS,cN];simp[e,es,ltI,a1,a2,a3,a4,tD]⟩
    ·by_cases a5:d<14
     ·exact ⟨.f t b,hs,by simp only[eZ,gS,cN];simp[e,es,ltI,a1,a2,a3,a4,a5,tD]⟩
     ·exact ⟨.b "",rfl,by simp only[eZ,gS,cN];simp[e,ltI,a1,a2,a3,a4,a5,tD]⟩
def aml{a:List Sp}(c:Sp)(hl:a.length<1000000)(s0 s1 s2 s5:Slot):
  ∃k:Nat,(nv b4 (ai (vc (dh false (bW (d7 3)) 1 [4] (aD 0) (dT (aI pQ (aI bV (aj 0) (dC (.int 0))) (aI bV (aj 1) (dC (.int 0))))) (aj 0))) aB)) [s0,s1,s2,.own (.l (a.map tD)),.val (tD c),s5]= .ok (.int k):=by
 have i:bW (d7 3) [s0,s1,s2,.own (.l (a.map tD)),.val (tD c),s5]= .ok (a.map tD):=by simp[lend,kg]
 have comp:dh false (bW (d7 3)) 1 [4] (aD 0) (dT (aI pQ (aI bV (aj 0) (dC (.int 0))) (aI bV (aj 1) (dC (.int 0))))) (aj 0) [s0,s1,s2,.own (.l (a.map tD)),.val (tD c),s5]= .ok ((a.filter λ b=>decide (kd b=kd c)).map tD):=by
  rw[jJ,i,Res.bD,if_pos (by simpa using hl)];have b:sD false 1 [4] [s0,s1,s2,.own (.l (a.map tD)),.val (tD c),s5]=[.no,.val (tD c)]:=rfl;rw[b];clear i b hl;induction a with
  |nil=>rfl
  |cons d a ih=>
   have e:wK (aD 0) (dT (aI pQ (aI bV (aj 0) (dC (.int 0))) (aI bV (aj 1) (dC (.int 0))))) (aj 0) [.no,.val (tD c)] (tD d)= .ok (if decide (kd d=kd c)=true then some (tD d) else none):=by
    have i1:=ix0 d;have i2:=ix0 c;have q:=agw (kd d) (kd c);generalize tD d=dd at*;generalize tD c=dc at*;generalize wd (kd d).val=W1 at*;generalize wd (kd c).val=W2 at*;by_cases z:kd d=kd c
    ·simp[wK,i1,i2,q,z]
    ·simp[wK,i1,i2,q,z]
   simp only[List.map_cons,jN];rw[e,ih,List.filter_cons];by_cases z:kd d=kd c
   ·simp[z]
   ·simp[z]
 refine ⟨(a.filter λ b=>decide (kd b=kd c)).length,?_⟩;rw[Jm,lN,uR,comp];simp[b4,qi]
def afB{c:Sp}(hc:c.dr)(k:Int)(s0 s3:Slot):∃c1:Sp,c1.dr/\sj (Yq (dT (aI pQ (aI bV (aj 4) (dC (.int 0))) (dC (.str "half")))) (dT (aI pQ (aj 5) (aj 1)))) (i8 4 (jm (ai (dC (.str "mirror")) (ai (aI bV (aj 4) (dC (.int 1))) aB)))) cz [s0,.val (.int 3),.val (.int 4),s3,.val (tD c),.val (.int k)]= .nx [s0,.val (.int 3),.val (.int 4),s3,.val (tD c1),.val (.int k)]:=by
 have i0:=ix0 c;have e2:=eq0 "half" c 2 rfl;by_cases k2:kd c=2
 ·by_cases k3:k=3
  ·cases c with
   |h s t b=>
    refine ⟨.m s,hc.1,?_⟩;have i1:bV (tD (.h s t b)) (.int 1)= .ok (.int s):=by simp[tD,bV,qy,nZ]
    have em:tD (.m s)=D.tup [.str "mirror",.int s]:=rfl;rw[em];generalize wd (kd (.h s t b)).val=W at*;generalize tD (.h s t b)=d at*;simp[i0,e2,k2,k3,i1]
   |e=>exact absurd (show (0:_root_.Fin 6)=2 from k2) (by decide)
   |w=>exact absurd (show (4:_root_.Fin 6)=2 from k2) (by decide)
   |m s=>exact absurd (show (1:_root_.Fin 6)=2 from k2) (by decide)
   |f t b=>exact absurd (show (3:_root_.Fin 6)=2 from k2) (by decide)
   |b n=>exact absurd (show (5:_root_.Fin 6)=2 from k2) (by decide)
  ·refine ⟨c,hc,?_⟩;generalize wd (kd c).val=W at*;generalize tD c=d at*;simp[i0,e2,k2,k3]
 ·refine ⟨c,hc,?_⟩;generalize wd (kd c).val=W at*;generalize tD c=d at*;simp[i0,e2,k2]
def afC{c:Sp}(hc:c.dr)(k:Int)(s0 s3:Slot):∃c1:Sp,c1.dr/\sj (Yq (dT (aI pQ (aI bV (aj 4) (dC (.int 0))) (dC (.str "filter")))) (dT (aI pQ (aj 5) (aj 2)))) (i8 4 (jm (ai (dC (.str "empty")) aB))) cz [s0,.val (.int 3),.val (.int 4),s3,.val (tD c),.val (.int k)]= .nx [s0,.val (.int 3),.val (.int 4),s3,.val (tD c1),.val (.int k)]:=by
 have i0:=ix0 c;have e2:=eq0 "filter" c 3 rfl;by_cases k2:kd c=3
 ·by_cases k3:k=4
  ·refine ⟨.e,trivial,?_⟩;have em:tD .e=D.tup [.str "empty"]:=rfl;rw[em];generalize wd (kd c).val=W at*;generalize tD c=d at*;simp[i0,e2,k2,k3]
  ·refine ⟨c,hc,?_⟩;generalize wd (kd c).val=W at*;generalize tD c=d at*;simp[i0,e2,k2,k3]
 ·refine ⟨c,hc,?_⟩;generalize wd (kd c).val=W at*;generalize tD c=d at*;simp[i0,e2,k2]
def OC{a:List Sp}{c:Sp}(hc:c.dr)(hl:a.length<1000)(s0 s5:Slot):
  ∃c' t5,c'.dr/\pS 0 [s0,.val (.int 3),.val (.int 4),.own (.l (a.map tD)),.val (tD c),s5]= .nx [s0,.val (.int 3),.val (.int 4),.own (.l ((a++[c']).map tD)),.val (tD c'),t5]:=by
 obtain ⟨k,ek⟩:=aml (a:=a) c (by omega) s0 (.val (.int 3)) (.val (.int 4)) s5;have s1:FY 5 (nv b4 (ai (vc (dh false (bW (d7 3)) 1 [4] (aD 0) (dT (aI pQ (aI bV (aj 0) (dC (.int 0))) (aI bV (aj 1) (dC (.int 0))))) (aj 0))) aB)) [s0,.val (.int 3),.val (.int 4),.own (.l (a.map tD)),.val (tD c),s5]= .nx [s0,.val (.int 3),.val (.int 4),.own (.l (a.map tD)),.val (tD c),.val (.int k)]:=by unfold FY;rw[ek];rfl
 obtain ⟨c1,h1,e1⟩:=afB hc k s0 (.own (.l (a.map tD)));obtain ⟨c2,h2,e2⟩:=afC h1 k s0 (.own (.l (a.map tD)));have l1:(a.map tD).length<1000000:=by simp;omega
 have app:uC 3 (jg 3) (aj 4) [s0,.val (.int 3),.val (.int 4),.own (.l (a.map tD)),.val (tD c2),.val (.int k)]= .nx [s0,.val (.int 3),.val (.int 4),.own (.l ((a++[c2]).map tD)),.val (tD c2),.val (.int k)]:=by have nd:=KU c2;rw[List.map_append,List.map_singleton];generalize tD c2=dd at*;generalize a.map tD=A at*;simp[uC,jg,xK,Of,vg,JJ,l1,nd]
 refine ⟨c2,.val (.int k),h2,?_⟩;rw[pS,bT,s1,cP,bT,e1,cP,bT,e2,cP,app]
def Dn(s0:Slot):∀(l a:List Sp) (s4 s5:Slot),(∀c∈l,c.dr)->(∀c∈a,c.dr)->a.length+l.length<1000->∃(b:List Sp) (t4 t5:Slot),(∀c∈b,c.dr)/\b.length=a.length+l.length/\fP (aD 4) (pS 0) (l.map tD) [s0,.val (.int 3),.val (.int 4),.own (.l (a.map tD)),s4,s5]= .nx [s0,.val (.int 3),.val (.int 4),.own (.l (b.map tD)),t4,t5]
 |[],a,s4,s5,_,ha,_=>⟨a,s4,s5,ha,rfl,rfl⟩
 |c::l,a,s4,s5,hl,ha,hn=>by
  rw[List.length_cons] at hn;obtain ⟨c',t5,hc',e1⟩:=OC (hl c (.head _)) (show a.length<1000 by omega) s0 s5;obtain ⟨b,u4,u5,hb,lb,e⟩:=Dn s0 l (a++[c']) (.val (tD c')) t5 (λ x hx=>hl x (.tail _ hx)) (λ x hx=>by
   rcases List.mem_append.mp hx with z|z
   ·exact ha x z
   ·rw[List.mem_singleton.mp z];exact hc') (by simp;omega)
  refine ⟨b,u4,u5,hb,by rw[lb];simp;omega,?_⟩;rw[<-e];simp only[List.map_cons,fP];simp only[rG,List.set_cons_succ,List.set_cons_zero];rw[e1]
def afL{l:List Sp}(hl:∀c∈l,c.dr)(hn:l.length<1000):∃b:List Sp,(∀c∈b,c.dr)/\b.length=l.length/\jT [.val (.lst (l.map tD)),.val (.int 3),.val (.int 4)]= .new (.l (b.map tD)):=by obtain ⟨b,t4,t5,hb,lb,e⟩:=Dn (.val (.lst (l.map tD))) l [] .no .no hl (λ _ z=>nomatch z) (by simpa using hn);refine ⟨b,hb,by simpa using lb,?_⟩;have nb:=vY b;simp only[List.map_nil] at e;simp only[jT,jQ,cN];generalize l.map tD=L at*;generalize b.map tD=B at*;simp[gY,kg,e,qU,nb]
def nm2(j:Int):Res D:=(aI jV (aI bV (aj 2) (aI mX (aI ig (aj 4) (dC (.int 2))) (dC (.int 26)))) (aI bV (aj 2) (aI ig (aj 4) (dC (.int 52))))) [.no,.no,.val (.str "abcdefghijklmnopqrstuvwxyz"),.no,.val (.int j)]
def nm8(a:Int)(d:D):Res D:=(aI jV (aI jV (vq (dC (.str "strand")) AY (dP (aj 3))) (aj 5)) (vq (dC (.str "strand")) (dP (aj 3)) AY)) [.no,.no,.no,.val (.int a),.no,.val d]
def nmR(a j:Nat):Res D:=(nm2 j).bnd (nm8 a)
def Bh(a j:Nat):Str:=match nmR a j with
 | .ok (.str s)=>s
 |_=>""
def nmC(a j:Nat):Bool:=(match nmR a j with
 | .ok (.str _)=>true
 |_=>false)&&(decide (1<=(Bh a j).length)&&decide ((Bh a j).length<=8)&&(Bh a j).cps.toList.all isLet&&((Bh a j).cps.getD a 0==97+j/ 2%26)&&((Bh a j).cps.getD (a+1) 0==97+j/ 52))
def Cz:∀a:_root_.Fin 7,∀j:_root_.Fin 64,nmC a.val j.val=true:=by decide+kernel
def ae2:∀a:_root_.Fin 7,∀i:_root_.Fin 32,Bh a.val (2*i.val+1)=Bh a.val (2*i.val):=by decide+kernel
def agl{a j:Nat}(ha:a<7)(hj:j<64):nmR a j= .ok (.str (Bh a j))/\Nm (Bh a j):=by
 have h:=Cz ⟨a,ha⟩ ⟨j,hj⟩;simp only[nmC,Bool.and_eq_true,decide_eq_true_eq] at h;obtain ⟨h1,⟨⟨⟨h2,h3⟩,h4⟩,_⟩,_⟩:=h;refine ⟨?_,h2,h3,h4⟩;unfold Bh;split at h1
 ·rename_i s e;rw[e]
 ·cases h1
def aip{a i k:Nat}(ha:a<7)(hi:i<32)(hk:k<32)(e:Bh a (2*i)=Bh a (2*k)):i=k:=by have h:=Cz ⟨a,ha⟩ ⟨2*i,by omega⟩;have g:=Cz ⟨a,ha⟩ ⟨2*k,by omega⟩;simp only[nmC,Bool.and_eq_true,beq_iff_eq] at h g;have h5:=h.2.1.2;have h6:=h.2.2;have g5:=g.2.1.2;have g6:=g.2.2;rw[e] at h5 h6;omega
def tot(a:Nat)(n:Str):Nat->Nat
 |0=>0
 |k+1=>tot a n k+if n=Bh a k then 1 else 0
def UO{a:Nat}(ha:a<7)(n:Str):∀p:Nat,p<=32->(tot a n (2*p)=0\/tot a n (2*p)=2)/\(tot a n (2*p)≠0->∃i,i<p/\n=Bh a (2*i))
 |0,_=>⟨.inl rfl,λ z=>absurd rfl z⟩
 |p+1,hp=>by
  obtain ⟨h1,h2⟩:=UO ha n p (by omega);have e:tot a n (2*(p+1))=tot a n (2*p)+(if n=Bh a (2*p) then 1 else 0)+if n=Bh a (2*p) then 1 else 0:=by rw[show 2*(p+1)=2*p+1+1 by omega,tot,tot,ae2 ⟨a,ha⟩ ⟨p,by omega⟩]
  rw[e];by_cases q:n=Bh a (2*p)
  ·rw[if_pos q];have z:tot a n (2*p)=0:=by
    by_cases z:tot a n (2*p)=0
    ·exact z
    ·obtain ⟨i,hi,ei⟩:=h2 z;have:=aip ha (show i<32 by omega) (show p<32 by omega) (by rw[<-ei, <-q]);omega
   rw[z];exact ⟨.inr rfl,λ _=>⟨p,by omega,q⟩⟩
  ·rw[if_neg q];refine ⟨by omega,λ z=>?_⟩;obtain ⟨i,hi,ei⟩:=h2 (by omega);exact ⟨i,by omega,ei⟩
def pairUp(a q:Nat):Nat->List Sp->List Sp
 |_,[]=>[]
 |j,c::r=>if kd c=5 then (if j<q then .b (Bh a j) else .e)::pairUp a q (j+1) r else c::pairUp a q j r
def nF:List Sp->Nat
 |[]=>0
 |c::r=>(if kd c=5 then 1 else 0)+nF r
def Cd(a q:Nat):∀(l:List Sp) (j:Nat),(pairUp a q j l).length=l.length
 |[],j=>rfl
 |c::l,j=>by unfold pairUp;split<;>simp[Cd a q l]
def zg(a q:Nat)(n:Str):∀(l:List Sp) (j:Nat),cn n (v7 (pairUp a q j l))+tot a n (min j q)=tot a n (min (j+nF l) q)
 |[],j=>by simp[pairUp,v7,cn,nF]
 |c::l,j=>by
  unfold pairUp nF;by_cases k:kd c=5
  ·rw[if_pos k,if_pos k];have ih:=zg a q n l (j+1);rw[show j+(1+nF l)=j+1+nF l by omega, <-ih];by_cases g:j<q
   ·rw[if_pos g,show Sp.b (Bh a j)::pairUp a q (j+1) l=[Sp.b (Bh a j)]++pairUp a q (j+1) l from rfl,uG,zS,afT,show min (j+1) q=j+1 by omega,show min j q=j by omega,tot];omega
   ·rw[if_neg g,show Sp.e::pairUp a q (j+1) l=[Sp.e]++pairUp a q (j+1) l from rfl,uG,zS,show cn n (v7 [Sp.e])=0 from rfl,show min (j+1) q=q by omega,show min j q=q by omega];omega
  ·rw[if_neg k,if_neg k];have ih:=zg a q n l j;rw[show j+(0+nF l)=j+nF l by omega, <-ih,show c::pairUp a q j l=[c]++pairUp a q j l from rfl,uG,zS,L7 k];omega
def ze{a q:Nat}(ha:a<7)(hq:q<=64):∀(l:List Sp) (j:Nat),(∀c∈l,c.dr)->∀c∈pairUp a q j l,c.ok
 |[],j,_=>λ c hc=>nomatch hc
 |c::l,j,h=>by
  intro d hd;unfold pairUp at hd;split at hd
  ·rcases List.mem_cons.mp hd with rfl|hd
   ·split
    ·exact (agl ha (by omega)).2
    ·trivial
   ·exact ze ha hq l (j+1) (λ x hx=>h x (.tail _ hx)) d hd
  ·rename_i k;rcases List.mem_cons.mp hd with rfl|hd
   ·have:=h d (.head _);cases d with
    |b n=>exact absurd rfl k
    |e=>trivial
    |w=>trivial
    |m s=>exact this
    |h s t u=>exact this
    |f t u=>exact this
   ·exact ze ha hq l j (λ x hx=>h x (.tail _ hx)) d hd
def Nk{a:Nat}(ha:a<7){l:List Sp}(hl:nF l<=64)(n:Str):cn n (v7 (pairUp a (2*(nF l/ 2)) 0 l))=0\/cn n (v7 (pairUp a (2*(nF l/ 2)) 0 l))=2:=by have h:=zg a (2*(nF l/ 2)) n l 0;rw[show min 0 (2*(nF l/ 2))=0 by omega,show min (0+nF l) (2*(nF l/ 2))=2*(nF l/ 2) by omega] at h;have t:=(UO ha n (nF l/ 2) (by omega)).1;have z:tot a n 0=0:=rfl;omega
def Dh:Nat->List Sp->List Nat
 |_,[]=>[]
 |k,c::r=>if kd c=5 then k::Dh (k+1) r else Dh (k+1) r
def Bm:∀(l:List Sp) (k:Nat),(Dh k l).length=nF l
 |[],k=>rfl
 |c::l,k=>by
  unfold Dh nF;split
  ·rw[List.length_cons,Bm l];omega
  ·rw[Bm l];omega
noncomputable def iL(l:List Nat):List D:=l.map λ(k:Nat)=>D.int (k:Int)
def uK(lo:Int)(n:Nat):fQ lo (n+1)=D.int lo::fQ (lo+1) n:=by unfold fQ;rw[List.range_succ_eq_map,List.map_cons,List.map_map];simp only[List.cons.injEq,D.int.injEq];refine ⟨by simp,?_⟩;apply List.map_congr_left;intro k _;simp only[Function.comp,D.int.injEq];omega
def xh{n:Nat}(h:n<=10000):G5 [.int n]= .ok (fQ 0 n):=by simp only[G5];rw[if_pos (by refine ⟨?_,?_⟩<;>omega)];simp
def X4{l:List Sp}(hl:l.length<=1000)(r:Sg):dh true (kM (ai (nv b4 (ai (d7 0) aB)) aB)) 1 [0] (aD 0) (dT (aI pQ (aI bV (aI bV (aj 1) (aj 0)) (dC (.int 0))) (dC (.str "fibre")))) (aj 0) (.par (.l (l.map tD))::r)= .ok (iL (Dh 0 l)):=by
 have ln:b4 [.bor true (l.map tD)]= .ok (.int l.length):=by simp[b4,qi]
 have i:kM (ai (nv b4 (ai (d7 0) aB)) aB) (.par (.l (l.map tD))::r)= .ok (fQ 0 l.length):=by
  unfold kM;have:(ai (nv b4 (ai (d7 0) aB)) aB) (.par (.l (l.map tD))::r)= .ok [.int l.length]:=by simp only[lN,Jm,d7,Dw,List.getElem?_cons_zero,lend,Res.bD,ln]
  rw[this,Res.bD,xh (by omega)]
 have li:(fQ 0 l.length).length<1000000:=by simp[fQ];omega
 rw[jJ,i,Res.bD,if_pos li];have b:sD true 1 [0] (.par (.l (l.map tD))::r)=[.no,.val (.bor true (l.map tD))]:=rfl;rw[b];have go:∀(jU pre:List Sp),l=pre++jU->jN (wK (aD 0) (dT (aI pQ (aI bV (aI bV (aj 1) (aj 0)) (dC (.int 0))) (dC (.str "fibre")))) (aj 0) [.no,.val (.bor true (l.map tD))]) (fQ pre.length jU.length)= .ok (iL (Dh pre.length jU)):=by
  intro jU;induction jU with
  |nil=>intro pre _;rfl
  |cons c jU ih=>
   intro pre hp;have ih':=ih (pre++[c]) (by rw[hp];simp);rw[List.length_append,List.length_singleton] at ih';have ix:bV (.bor true (l.map tD)) (.int (pre.length:Int))= .ok (tD c):=by
    have:nZ (l.map tD).length (pre.length:Int)=some pre.length:=by rw[qq (by omega) (by rw[hp];simp;omega)];simp
    simp only[bV,qy,this,Option.bind_some];rw[hp];simp
   have e0:=eq0 "fibre" c 5 rfl;have i0:=ix0 c;have e:wK (aD 0) (dT (aI pQ (aI bV (aI bV (aj 1) (aj 0)) (dC (.int 0))) (dC (.str "fibre")))) (aj 0) [.no,.val (.bor true (l.map tD))] (.int (pre.length:Int))= .ok (if kd c=5 then some (.int (pre.length:Int)) else none):=by
    generalize D.bor true (l.map tD)=B at*;generalize wd (kd c).val=W at*;generalize tD c=d at*;by_cases k:kd c=5
    ·simp[wK,ix,i0,e0,k]
    ·simp[wK,ix,i0,e0,k]
   rw[List.length_cons,uK];simp only[jN];rw[e];have cast:((pre.length:Int)+1)=((pre.length+1:Nat):Int):=by omega
   rw[cast,ih'];have ef:Dh pre.length (c::jU)=if kd c=5 then pre.length::Dh (pre.length+1) jU else Dh (pre.length+1) jU:=rfl
   rw[ef];by_cases k:kd c=5
   ·simp[k,iL]
   ·simp[k]
 have:=go l [] rfl;simpa using this
def VJ:∀j:_root_.Fin 64,Builtin.bitXor (j.val:Int) 1=if j.val%2=0 then (j.val:Int)+1 else (j.val:Int) - 1:=by decide+kernel
def akq{j m:Nat}(hj:j<m)(hm:m<=64):decide (Builtin.bitXor (j:Int) 1<(m:Int))=decide (j<2*(m/ 2)):=by have:=VJ ⟨j,by omega⟩;simp only at this;rw[this];apply decide_eq_decide.mpr;split<;>omega
def aly{Γ:Sg}{j:Int}(h2:Γ[2]? =some (.val (.str "abcdefghijklmnopqrstuvwxyz")))(h4:Γ[4]? =some (.val (.int j))):(aI jV (aI bV (aj 2) (aI mX (aI ig (aj 4) (dC (.int 2))) (dC (.int 26)))) (aI bV (aj 2) (aI ig (aj 4) (dC (.int 52))))) Γ=nm2 j:=by unfold nm2;simp only[aI,aj,dC,h2,h4,List.getElem?_cons_succ,List.getElem?_cons_zero]
def alx{Γ:Sg}{a:Int}{d:D}(h3:Γ[3]? =some (.val (.int a)))(h5:Γ[5]? =some (.val d)):(aI jV (aI jV (vq (dC (.str "strand")) AY (dP (aj 3))) (aj 5)) (vq (dC (.str "strand")) (dP (aj 3)) AY)) Γ=nm8 a d:=by unfold nm8;simp only[aI,vq,dP,AY,aj,dC,h3,h5,List.getElem?_cons_succ,List.getElem?_cons_zero]
def np(s:Slot):Prop:=∀m,s≠.par m
def Wz{pre jU:List Sp}{c:Sp}{E0 E1:List Nat}{a m:Nat}(ha:a<7)(hm:m<=64)(hE:(E0++pre.length::E1).length=m)(s5:Slot)(hs5:np s5):
  ∃t5,np t5/\jW 0 [.par (.l ((pre++c::jU).map tD)),.own (.l (iL (E0++pre.length::E1))),.val (.str "abcdefghijklmnopqrstuvwxyz"),.val (.int a),.val (.int (E0.length:Int)),s5]=.nx [.par (.l ((pre++(if E0.length<2*(m/ 2) then .b (Bh a E0.length) else .e)::jU).map tD)),.own (.l (iL (E0++pre.length::E1))),.val (.str "abcdefghijklmnopqrstuvwxyz"),.val (.int a),.val (.int (E0.length:Int)),t5]:=by
 have hj:E0.length<m:=by rw[<-hE,List.length_append,List.length_cons];omega
 have le:b4 [.bor true (iL (E0++pre.length::E1))]= .ok (.int m):=by rw[<-hE];simp[b4,qi,iL]
 have ie:bV (.bor true (iL (E0++pre.length::E1))) (.int (E0.length:Int))= .ok (.int (pre.length:Int)):=by
  have:nZ (iL (E0++pre.length::E1)).length (E0.length:Int)=some E0.length:=by rw[qq (by omega) (by simp[iL];omega)];simp
  simp only[bV,qy,this,Option.bind_some];simp[iL]
 have sx:∀(d d':Sp),setM (pre.length:Int) (tD d') (.l ((pre++d::jU).map tD))=some (.l ((pre++d'::jU).map tD)):=λ d d'=>by
  have n1:=KU d';have:nZ ((pre++d::jU).map tD).length (pre.length:Int)=some pre.length:=by rw[qq (by omega) (by simp;omega)];simp
  simp only[setM,n1,if_true,this,Option.map_some];simp
 have ld:∀l:List D,lend (.l l)= .bor true l:=λ _=>rfl;have st:∀(d d':Sp) (s4 s5:Slot) (f:Sg->Res D),s4= .val (.int (E0.length:Int))->f [.par (.l ((pre++d::jU).map tD)),.own (.l (iL (E0++pre.length::E1))),.val (.str "abcdefghijklmnopqrstuvwxyz"),.val (.int a),s4,s5]= .ok (tD d')->
   lz 0 (jg 0) (aI bV (d7 1) (aj 4)) f [.par (.l ((pre++d::jU).map tD)),.own (.l (iL (E0++pre.length::E1))),.val (.str "abcdefghijklmnopqrstuvwxyz"),.val (.int a),s4,s5]= .nx [.par (.l ((pre++d'::jU).map tD)),.own (.l (iL (E0++pre.length::E1))),.val (.str "abcdefghijklmnopqrstuvwxyz"),.val (.int a),s4,s5]:=λ d d' s4 s5 f e4 hf=>by
  subst e4;have q:=sx d d';unfold lz;rw[hf];generalize tD d'=dd at*;generalize (pre++d::jU).map tD=A at*;generalize (pre++d'::jU).map tD=A' at*;generalize iL (E0++pre.length::E1)=EE at*;simp[jg,ld,ie,vg,q]
 have t1:=st c .e (.val (.int (E0.length:Int))) s5 (jm (ai (dC (.str "empty")) aB)) rfl (by simp[tD]);have xr:=akq hj hm;have cond:(dT (aI ltI (aI adE (aj 4) (dC (.int 1))) (nv b4 (ai (d7 1) aB)))) [.par (.l ((pre++Sp.e::jU).map tD)),.own (.l (iL (E0++pre.length::E1))),.val (.str "abcdefghijklmnopqrstuvwxyz"),.val (.int a),.val (.int (E0.length:Int)),s5]= .ok (decide (E0.length<2*(m/ 2))):=by rw[<-xr];generalize (pre++Sp.e::jU).map tD=A at*;generalize iL (E0++pre.length::E1)=EE at*;simp[adE,ltI,ld,le]
 by_cases g:E0.length<2*(m/ 2)
 ·obtain ⟨n1,n2⟩:=agl ha (show E0.length<64 by omega);unfold nmR at n1;obtain ⟨nd,e2⟩:∃nd,nm2 (E0.length:Int)= .ok nd:=by
   cases q:nm2 (E0.length:Int) with
   |ok d=>exact ⟨d,rfl⟩
   |err x=>rw[q] at n1;cases n1
   |bad=>rw[q] at n1;cases n1
  rw[e2,Res.bD] at n1;rw[decide_eq_true g] at cond;have t2:=st .e (.b (Bh a E0.length)) (.val (.int (E0.length:Int))) (.val nd) (jm (ai (dC (.str "fibre")) (ai (aI jV (aI jV (vq (dC (.str "strand")) AY (dP (aj 3))) (aj 5)) (vq (dC (.str "strand")) (dP (aj 3)) AY)) aB))) rfl (by have e8:=alx (Γ:=[.par (.l ((pre++Sp.e::jU).map tD)),.own (.l (iL (E0++pre.length::E1))),.val (.str "abcdefghijklmnopqrstuvwxyz"),.val (.int a),.val (.int (E0.length:Int)),.val nd]) (a:=a) (d:=nd) rfl rfl;rw[n1] at e8;simp only[abD,lN,aji,Dw];rw[e8];simp[tD]);refine ⟨.val nd,λ m z=>(nomatch z),?_⟩;rw[if_pos g,jW,bT,t1,cP,US,cond];have e2':=aly (Γ:=[.par (.l ((pre++Sp.e::jU).map tD)),.own (.l (iL (E0++pre.length::E1))),.val (.str "abcdefghijklmnopqrstuvwxyz"),.val (.int a),.val (.int (E0.length:Int)),s5]) (j:=E0.length) rfl rfl;rw[e2] at e2';have s5':i8 5 (aI jV (aI bV (aj 2) (aI mX (aI ig (aj 4) (dC (.int 2))) (dC (.int 26)))) (aI bV (aj 2) (aI ig (aj 4) (dC (.int 52))))) [.par (.l ((pre++Sp.e::jU).map tD)),.own (.l (iL (E0++pre.length::E1))),.val (.str "abcdefghijklmnopqrstuvwxyz"),.val (.int a),.val (.int (E0.length:Int)),s5]= .nx [.par (.l ((pre++Sp.e::jU).map tD)),.own (.l (iL (E0++pre.length::E1))),.val (.str "abcdefghijklmnopqrstuvwxyz"),.val (.int a),.val (.int (E0.length:Int)),.val nd]:=by unfold i8;rw[e2'];rfl
  show aX _ _ _=_;rw[bT,s5',cP,t2]
 ·rw[decide_eq_false g] at cond;refine ⟨s5,hs5,?_⟩;rw[if_neg g,jW,bT,t1,cP,US,cond];rfl
def WB{a m:Nat}(ha:a<7)(hm:m<=64):∀(jU pre:List Sp) (E0:List Nat) (s4 s5:Slot),np s4->np s5->(E0++Dh pre.length jU).length=m->∃t4 t5,np t4/\np t5/\fP (aD 4) (jW 0) (fQ (E0.length:Int) (nF jU)) [.par (.l ((pre++jU).map tD)),.own (.l (iL (E0++Dh pre.length jU))),.val (.str "abcdefghijklmnopqrstuvwxyz"),.val (.int a),s4,s5]=.nx [.par (.l ((pre++pairUp a (2*(m/ 2)) E0.length jU).map tD)),.own (.l (iL (E0++Dh pre.length jU))),.val (.str "abcdefghijklmnopqrstuvwxyz"),.val (.int a),t4,t5]:=by
 intro jU;induction jU with
 |nil=>intro pre E0 s4 s5 h4 h5 _;exact ⟨s4,s5,h4,h5,rfl⟩
 |cons c jU ih=>
  intro pre E0 s4 s5 h4 h5 hE;by_cases k:kd c=5
  ·have ef:Dh pre.length (c::jU)=pre.length::Dh (pre.length+1) jU:=by show (if _ then _ else _)=_;rw[if_pos k]
   have en:nF (c::jU)=nF jU+1:=by show (if _ then _ else _)+_=_;rw[if_pos k];omega
   have ep:pairUp a (2*(m/ 2)) E0.length (c::jU)=(if E0.length<2*(m/ 2) then .b (Bh a E0.length) else .e)::pairUp a (2*(m/ 2)) (E0.length+1) jU:=by show (if _ then _ else _)=_;rw[if_pos k]
   rw[ef] at hE ⊢;rw[en,ep];obtain ⟨t5,q5,st⟩:=Wz (pre:=pre) (jU:=jU) (c:=c) (E0:=E0) (E1:=Dh (pre.length+1) jU) ha hm hE s5 h5;generalize (if E0.length<2*(m/ 2) then Sp.b (Bh a E0.length) else Sp.e)=c' at*;have eA:E0++pre.length::Dh (pre.length+1) jU=(E0++[pre.length])++Dh (pre++[c']).length jU:=by simp
   obtain ⟨u4,u5,v4,v5,e⟩:=ih (pre++[c']) (E0++[pre.length]) (.val (.int (E0.length:Int))) t5 (λ m z=>(nomatch z)) q5 (by rw[<-eA];exact hE);rw[<-eA] at e;refine ⟨u4,u5,v4,v5,?_⟩;have eB:pre++c'::jU=(pre++[c'])++jU:=by simp
   have eC:pre++c'::pairUp a (2*(m/ 2)) (E0.length+1) jU=(pre++[c'])++pairUp a (2*(m/ 2)) (E0++[pre.length]).length jU:=by simp
   have eD:(((E0++[pre.length]).length:Nat):Int)=(E0.length:Int)+1:=by simp
   rw[eB] at st;rw[eC, <-e,eD,uK];simp only[fP,rG,List.set_cons_succ,List.set_cons_zero];rw[st]
  ·have ef:Dh pre.length (c::jU)=Dh (pre.length+1) jU:=by show (if _ then _ else _)=_;rw[if_neg k]
   have en:nF (c::jU)=nF jU:=by show (if _ then _ else _)+_=_;rw[if_neg k];omega
   have ep:pairUp a (2*(m/ 2)) E0.length (c::jU)=c::pairUp a (2*(m/ 2)) E0.length jU:=by show (if _ then _ else _)=_;rw[if_neg k]
   have el:(pre++[c]).length=pre.length+1:=by simp
   obtain ⟨u4,u5,v4,v5,e⟩:=ih (pre++[c]) E0 s4 s5 h4 h5 (by rw[el, <-ef];exact hE);rw[el, <-ef] at e;refine ⟨u4,u5,v4,v5,?_⟩;rw[en,ep,show pre++c::jU=(pre++[c])++jU by simp,show pre++c::pairUp a (2*(m/ 2)) E0.length jU=(pre++[c])++pairUp a (2*(m/ 2)) E0.length jU by simp];exact e
def aeS{s t:Slot}(h1:np s)(h2:np t)(k:Nat):bP k [s,t]=[]:=by
 cases s with
 |par m=>exact absurd rfl (h1 m)
 |_=>cases t with
  |par m=>exact absurd rfl (h2 m)
  |_=>rfl
def aad:∀l:List Sp,nF l<=l.length
 |[]=>Nat.le_refl _
 |c::l=>by have:=aad l;show (if _ then _ else _)+_<=_;rw[List.length_cons];split<;>omega
def ZR{l:List Sp}(hl:l.length<=64):iO [.par (.l (l.map tD))]= .CA (.l ((pairUp (l.length%7) (2*(nF l/ 2)) 0 l).map tD)) [(0,.l ((pairUp (l.length%7) (2*(nF l/ 2)) 0 l).map tD))]:=by
 have nl:=aad l;have ec:=X4 (l:=l) (by omega) [.no,.no,.no,.no,.no];have nE:fV (iL (Dh 0 l))=true:=by
  have:∀q:List Nat,fV (iL q)=true:=by
   intro q;induction q with
   |nil=>rfl
   |cons k q ih=>show (nt (.int k)&&fV (iL q))=true;rw[ih];rfl
  exact this _
 have ln:b4 [.bor true (l.map tD)]= .ok (.int l.length):=by simp[b4,qi]
 have m7:mX (.int (l.length:Int)) (.int 7)= .ok (.int ((l.length%7:Nat):Int)):=by rw[qY _ _ (by decide)];exact congrArg (λ z=>Res.ok (D.int z)) (LO l.length 7)
 obtain ⟨t4,t5,v4,v5,e⟩:=WB (a:=l.length%7) (m:=nF l) (by omega) (by omega) l [] [] .no .no (λ m z=>(nomatch z)) (λ m z=>(nomatch z)) (by simp[Bm]);have le:b4 [.bor true (iL (Dh 0 l))]= .ok (.int (nF l)):=by rw[<-Bm l 0];simp[b4,qi,iL]
 have rg:G5 [.int (nF l)]= .ok (fQ 0 (nF l)):=xh (by omega);have ld:∀x:List D,lend (.l x)= .bor true x:=λ _=>rfl;simp only[List.nil_append,List.length_nil] at e;rw[show ((0:Nat):Int)=0 from rfl] at e;rw[iO,iC,show cN CP [.par (.l (l.map tD))]=[.par (.l (l.map tD)),.no,.no,.no,.no,.no] from rfl];have s1:gX 1 (mL (dh true (kM (ai (nv b4 (ai (d7 0) aB)) aB)) 1 [0] (aD 0) (dT (aI pQ (aI bV (aI bV (aj 1) (aj 0)) (dC (.int 0))) (dC (.str "fibre")))) (aj 0))) [.par (.l (l.map tD)),.no,.no,.no,.no,.no]= .nx [.par (.l (l.map tD)),.own (.l (iL (Dh 0 l))),.no,.no,.no,.no]:=by unfold gX mL;rw[ec];simp[xJ,nE]
 generalize pairUp (l.length%7) (2*(nF l/ 2)) 0 l=b at*;rw[bT,s1,cP];generalize l.map tD=A at*;generalize b.map tD=B at*;generalize iL (Dh 0 l)=EE at*;generalize l.length%7=a at*;have oo:=aeS v4 v5;simp[ld,ln,m7,gY,kM,dNt,ntR,le,rg,e,UQ,bP];show cV.CA (M.l B) ((0,M.l B)::bP _ [t4,t5])=_;rw[oo]
def abI(cs:List Int)(lo hi:Option Int):∃o:List Int,Jp (cs.map D.int) lo hi=o.map D.int/\(∀c∈o,c∈cs)/\o.length<=cs.length:=by
 refine ⟨Jp cs lo hi,?_,?_,?_⟩
 ·unfold Jp;simp[List.map_take,List.map_drop]
 ·intro c hc;exact List.mem_of_mem_drop (List.mem_of_mem_take hc)
 ·unfold Jp;rw[List.length_take,List.length_drop];omega
def Vb:∀zs:List Int,fV (zs.map D.int)=true
 |[]=>rfl
 |x::zs=>by simp[fV,Vb zs]
def ajn(zs:List Int)(k:Nat):∃x,bh [.val (.lst (zs.map D.int)),.val (.int k)]= .ok (.int x):=by
 have ln:b4 [.lst (zs.map D.int)]= .ok (.int zs.length):=by simp[b4,qi]
 by_cases h:k<zs.length
 ·have ix:bV (.lst (zs.map D.int)) (.int k)= .ok (.int zs[k]):=by
   have:nZ (zs.map D.int).length (k:Int)=some k:=by rw[qq (by omega) (by simp;omega)];simp
   simp only[bV,qy,this,Option.bind_some];rw[List.getElem?_map,List.getElem?_eq_getElem h];rfl
  refine ⟨zs[k],?_⟩;have c:decide ((k:Int)<(zs.length:Int))=true:=by simp;omega
  simp only[bh,cI,cN];generalize zs.map D.int=Z at*;simp[ln,ltI,c,ix];have:k<zs.length:=h;simp[this,ix]
 ·refine ⟨0,?_⟩;simp only[bh,cI,cN];generalize zs.map D.int=Z at*;have:¬k<zs.length:=h;simp[ln,ltI,this]
def X0(zs:List Int)(w h:Nat)(hwh:w*h<=1000)(s2 s3 s5:Slot)(he:kF (.int w) (.int h)= .ok (.int ((w*h:Nat):Int))):
  ∃l:List Sp,(∀c∈l,c.dr)/\l.length=w*h/\dh false (kM (ai (aI kF (aj 1) (aj 4)) aB)) 1 [0] (aD 0) gz (kW 1 eZ (ai (kW 2 bh (ai (aj 1) (ai (aj 0) aB))) aB)) [.val (.lst (zs.map D.int)),.val (.int w),s2,s3,.val (.int h),s5]= .ok (l.map tD):=by
 have i:kM (ai (aI kF (aj 1) (aj 4)) aB) [.val (.lst (zs.map D.int)),.val (.int w),s2,s3,.val (.int h),s5]= .ok (fQ 0 (w*h)):=by
  unfold kM;have:(ai (aI kF (aj 1) (aj 4)) aB) [.val (.lst (zs.map D.int)),.val (.int w),s2,s3,.val (.int h),s5]= .ok [.int ((w*h:Nat):Int)]:=by simp only[lN,afR,Dw];simp only[Dv,List.getElem?_cons_succ,List.getElem?_cons_zero,Res.bD,he]
  rw[this,Res.bD,xh (by omega)]
 have nz:=Vb zs;have go:∀(n:Nat) (k:Nat),∃l:List Sp,(∀c∈l,c.dr)/\l.length=n/\jN (wK (aD 0) gz (kW 1 eZ (ai (kW 2 bh (ai (aj 1) (ai (aj 0) aB))) aB)) [.no,.val (.lst (zs.map D.int))]) (fQ (k:Int) n)= .ok (l.map tD):=by
  intro n;induction n with
  |zero=>intro k;exact ⟨[],(λ _ z=>(nomatch z)),rfl,rfl⟩
  |succ n ih=>
   intro k;obtain ⟨l,h1,h2,h3⟩:=ih (k+1);obtain ⟨x,ex⟩:=ajn zs k;obtain ⟨s,hs,es⟩:=agi x;refine ⟨s::l,λ c hc=>?_,by simp[h2],?_⟩
   ·rcases List.mem_cons.mp hc with rfl|z
    ·exact hs
    ·exact h1 c z
   ·rw[uK];simp only[jN];have e:wK (aD 0) gz (kW 1 eZ (ai (kW 2 bh (ai (aj 1) (ai (aj 0) aB))) aB)) [.no,.val (.lst (zs.map D.int))] (.int (k:Int))= .ok (some (tD s)):=by generalize zs.map D.int=Z at*;generalize tD s=d at*;simp[wK,nz,ex,es]
    rw[e,show (k:Int)+1=((k+1:Nat):Int) by omega,h3];rfl
 obtain ⟨l,h1,h2,h3⟩:=go (w*h) 0;refine ⟨l,h1,h2,?_⟩;have li:(fQ 0 (w*h)).length<1000000:=by simp[fQ];omega
 rw[jJ,i,Res.bD,if_pos li];have b:sD false 1 [0] [.val (.lst (zs.map D.int)),.val (.int w),s2,s3,.val (.int h),s5]=[.no,.val (.lst (zs.map D.int))]:=rfl;rw[b];exact h3
def Wn{α:Type}(f:Nat->α)(k n:Nat):((List.range (n+1)).map λ y=>f (k+y))=f k::(List.range n).map λ y=>f (k+1+y):=by
 rw[List.range_succ_eq_map,List.map_cons,List.map_map];have:(λ y=>f (k+y))∘Nat.succ=λ y=>f (k+1+y):=by funext y;show f (k+(y+1))=f (k+1+y);rw[show k+(y+1)=k+1+y by omega]
 rw[this];rfl
def Ff(w h:Nat)(b:List Sp):List (List Sp):=(List.range h).map λ y=>(b.drop (w*y)).take w
def LY(w:Nat):∀(h:Nat) (b:List Sp),b.length=w*h->(Ff w h b).flatten=b
 |0,b,hb=>by have:b=[]:=List.eq_nil_of_length_eq_zero (by simpa using hb);subst this;rfl
 |h+1,b,hb=>by
  unfold Ff;rw[List.range_succ_eq_map,List.map_cons,List.flatten_cons,List.map_map];have:(λ y=>(b.drop (w*y)).take w)∘Nat.succ=λ y=>((b.drop w).drop (w*y)).take w:=by funext y;simp only[Function.comp,List.drop_drop];rw[show w*y.succ=w+w*y by rw[Nat.mul_succ];omega]
  rw[this];have ih:=LY w h (b.drop w) (by rw[List.length_drop,hb,Nat.mul_succ];omega);unfold Ff at ih;rw[ih];simp
def afS{w h:Nat}{b:List Sp}(hb:b.length=w*h):∀r∈Ff w h b,r.length=w:=by intro r hr;obtain ⟨y,hy,rfl⟩:=List.mem_map.mp hr;have hy:=List.mem_range.mp hy;rw[List.length_take,List.length_drop,hb];have:w*(y+1)<=w*h:=Nat.mul_le_mul_left w (by omega);rw[Nat.mul_succ] at this;omega
def abG{b:List Sp}{w h:Nat}(hw:w<=16)(hh:h<=16)(hb:b.length=w*h)(s0 s2 s3:Slot):
  dh true (kM (ai (aj 4) aB)) 1 [5,1] (aD 0) gz (vc (AL (aj 1) (dP (aI kF (aj 2) (aj 0))) (dP (aI kF (aj 2) (aI jV (aj 0) (dC (.int 1))))))) [s0,.val (.int w),s2,s3,.val (.int h),.own (.l (b.map tD))]= .ok ((Ff w h b).map tR):=by
 have i:kM (ai (aj 4) aB) [s0,.val (.int w),s2,s3,.val (.int h),.own (.l (b.map tD))]= .ok (fQ 0 h):=by
  unfold kM;have:(ai (aj 4) aB) [s0,.val (.int w),s2,s3,.val (.int h),.own (.l (b.map tD))]= .ok [.int h]:=by simp
  rw[this,Res.bD,xh (by omega)]
 have li:(fQ 0 h).length<1000000:=by simp[fQ];omega
 rw[jJ,i,Res.bD,if_pos li];have bk:sD true 1 [5,1] [s0,.val (.int w),s2,s3,.val (.int h),.own (.l (b.map tD))]=[.no,.val (.bor true (b.map tD)),.val (.int w)]:=rfl;rw[bk];have e:∀y:Nat,y<h->wK (aD 0) gz (vc (AL (aj 1) (dP (aI kF (aj 2) (aj 0))) (dP (aI kF (aj 2) (aI jV (aj 0) (dC (.int 1))))))) [.no,.val (.bor true (b.map tD)),.val (.int w)] (.int (y:Int))= .ok (some (tR ((b.drop (w*y)).take w))):=by
  intro y hy;have m1:kF (.int w) (.int (y:Int))= .ok (.int ((w*y:Nat):Int)):=by rw[zC _ _ (by omega)];simp
  have m2:kF (.int w) (.int ((y:Int)+1))= .ok (.int ((w*(y+1):Nat):Int)):=by rw[zC _ _ (by omega)];simp
  have le:w*(y+1)<=w*h:=Nat.mul_le_mul_left w (by omega);have ms:w*(y+1)=w*y+w:=Nat.mul_succ w y;have cl:Jp (b.map tD) (some ((w*y:Nat):Int)) (some ((w*(y+1):Nat):Int))=((b.drop (w*y)).take w).map tD:=by
   unfold Jp;have lb:(b.map tD).length=w*h:=by rw[List.length_map,hb]
   have s1:Ba (b.map tD).length 0 (some ((w*y:Nat):Int))=w*y:=by rw[lb];simp only[Ba];rw[if_neg (by omega),Int.toNat_natCast];omega
   have s2:Ba (b.map tD).length (b.map tD).length (some ((w*(y+1):Nat):Int))=w*(y+1):=by rw[lb];simp only[Ba];rw[if_neg (by omega),Int.toNat_natCast];omega
   rw[s1,s2,ms,show w*y+w- w*y=w by omega,List.map_take,List.map_drop]
  unfold tR;clear i bk;generalize ((b.drop (w*y)).take w).map tD=Rr at*;generalize b.map tD=Bd at*;generalize ((w*y:Nat):Int)=X1 at*;generalize ((w*(y+1):Nat):Int)=X2 at*;simp[wK,AL,dP,m1,m2,cl]
 have go:∀(n k:Nat),k+n<=h->jN (wK (aD 0) gz (vc (AL (aj 1) (dP (aI kF (aj 2) (aj 0))) (dP (aI kF (aj 2) (aI jV (aj 0) (dC (.int 1))))))) [.no,.val (.bor true (b.map tD)),.val (.int w)]) (fQ (k:Int) n)= .ok (((List.range n).map λ y=>(b.drop (w*(k+y))).take w).map tR):=by
  intro n;induction n with
  |zero=>intro k _;rfl
  |succ n ih=>intro k hk;rw[uK];simp only[jN];rw[e k (by omega),show (k:Int)+1=((k+1:Nat):Int) by omega,ih (k+1) (by omega),Wn (λ y=>(b.drop (w*y)).take w) k n];rfl
 have:=go h 0 (by omega);simpa[Ff] using this
def ahJ(zs:List Int)(hz:zs.length<=63){w:Nat}(hw:1<=w/\w<=8):∃rows h,Rw rows w h/\MD rows/\nk [.val (.lst (zs.map D.int)),.val (.int w),.val (.int 3),.val (.int 4)]= .new (.l (rows.map tR)):=by
 have ln:b4 [.lst (zs.map D.int)]= .ok (.int zs.length):=by simp[b4,qi]
 have fd:ig (.int (zs.length:Int)) (.int w)= .ok (.int ((zs.length:Int).fdiv w)):=Gs _ _ (by omega) (by omega);obtain ⟨h,hh,eh⟩:∃h:Nat,(1<=h/\h<=8)/\(nv C1 (ai (dC (.int 1)) (ai (nv CZ (ai (dC (.int 8)) (ai (aI ig (nv b4 (ai (aj 0) aB)) (aj 1)) aB))) aB))) [.val (.lst (zs.map D.int)),.val (.int w),.val (.int 3),.val (.int 4),.no,.no]= .ok (.int h):=by
  have:∃h:Int,(1<=h/\h<=8)/\(nv C1 (ai (dC (.int 1)) (ai (nv CZ (ai (dC (.int 8)) (ai (aI ig (nv b4 (ai (aj 0) aB)) (aj 1)) aB))) aB))) [.val (.lst (zs.map D.int)),.val (.int w),.val (.int 3),.val (.int 4),.no,.no]= .ok (.int h):=by
   generalize zs.map D.int=Z at*;generalize (zs.length:Int).fdiv w=q at*;refine ⟨if (if q<8 then q else 8)>1 then (if q<8 then q else 8) else 1,?_,?_⟩
   ·split<;>split<;>omega
   ·simp[ln,fd,CZ,C1]
  obtain ⟨h,hh,eh⟩:=this;exact ⟨h.toNat,by omega,by rw[eh,Int.toNat_of_nonneg (by omega)]⟩
 have wh:w*h<=64:=Nat.mul_le_mul hw.2 hh.2;have he:kF (.int w) (.int h)= .ok (.int ((w*h:Nat):Int)):=by rw[zC _ _ (by omega)];simp
 obtain ⟨l,hl,ll,lc⟩:=X0 zs w h (by omega) (.val (.int 3)) (.val (.int 4)) .no he;obtain ⟨b,hb,lb,eb⟩:=afL hl (by omega);have pr:=ZR (l:=b) (by omega);have nb:=vY b;have nl:=aad b;have p2:=λ n=>Nk (a:=b.length%7) (by omega) (l:=b) (by omega) n;have pok:=ze (a:=b.length%7) (q:=2*(nF b/ 2)) (by omega) (by omega) b 0 hb;have pl:=Cd (b.length%7) (2*(nF b/ 2)) b 0;generalize pairUp (b.length%7) (2*(nF b/ 2)) 0 b=c at*;have lcw:c.length=w*h:=by omega
 have fl:=LY w h c lcw;refine ⟨Ff w h c,h,⟨by simp[Ff],afS lcw,λ r hr d hd=>?_,by omega,by omega⟩,?_,?_⟩
 ·have:d∈(Ff w h c).flatten:=List.mem_flatten.mpr ⟨r,hr,hd⟩;rw[fl] at this;exact pok d this
 ·intro n;rw[fl];exact p2 n
 ·have cc:=abG (b:=c) (w:=w) (h:=h) (by omega) (by omega) lcw (.val (.lst (zs.map D.int))) (.val (.int 3)) (.val (.int 4));have nt1:=vY l;have ntr:=Cw (Ff w h c);rw[nk,nj,show cN KY [.val (.lst (zs.map D.int)),.val (.int w),.val (.int 3),.val (.int 4)]=[.val (.lst (zs.map D.int)),.val (.int w),.val (.int 3),.val (.int 4),.no,.no] from rfl];have s1:i8 4 (nv C1 (ai (dC (.int 1)) (ai (nv CZ (ai (dC (.int 8)) (ai (aI ig (nv b4 (ai (aj 0) aB)) (aj 1)) aB))) aB))) [.val (.lst (zs.map D.int)),.val (.int w),.val (.int 3),.val (.int 4),.no,.no]= .nx [.val (.lst (zs.map D.int)),.val (.int w),.val (.int 3),.val (.int 4),.val (.int h),.no]:=by unfold i8;rw[eh];rfl
  have s2:gX 5 (v8 3 jT (ai (vc (dh false (kM (ai (aI kF (aj 1) (aj 4)) aB)) 1 [0] (aD 0) gz (kW 1 eZ (ai (kW 2 bh (ai (aj 1) (ai (aj 0) aB))) aB)))) (ai (aj 2) (ai (aj 3) aB)))) [.val (.lst (zs.map D.int)),.val (.int w),.val (.int 3),.val (.int 4),.val (.int h),.no]= .nx [.val (.lst (zs.map D.int)),.val (.int w),.val (.int 3),.val (.int 4),.val (.int h),.own (.l (b.map tD))]:=by unfold gX v8;rw[lN,uR,lc];simp[nt1,eb,xJ,nb]
  have s3:G3 (BB 1 5 0 iO (ai (dC .cY) aB)) [.val (.lst (zs.map D.int)),.val (.int w),.val (.int 3),.val (.int 4),.val (.int h),.own (.l (b.map tD))]= .nx [.val (.lst (zs.map D.int)),.val (.int w),.val (.int 3),.val (.int 4),.val (.int h),.own (.l (c.map tD))]:=by simp[BB,noO,pr,J4,Mx,Wo]
  rw[bT,s1,cP,bT,s2,cP,bT,s3,cP];unfold Zk mL;rw[cc];simp[xJ,ntr]
def aay{rows:List (List Sp)}{w h:Nat}{ks:List (List gT)}{xs:List D}(R:Rw rows w h)(p:MD rows)(nx:fV xs=true)(se c:Int)(s0 s1 s6 s7 s8:Slot):
  ∃t6 t7 t8,uw 0 [s0,s1,.val (.int se),.val (rD rows),.val (tb rows ks xs),.val (.int c),s6,s7,s8]= .nx [s0,s1,.val (.int se),.val (rD rows),.val (tb rows ks xs),.val (.int c),t6,t7,t8]:=by
 obtain ⟨d0,j1,j2⟩:=aau R;have j3:=aat R;have w1:=R.w1;have h1:=R.h1;obtain ⟨x,hx,ex⟩:=uP c (b:=27211) (p:=99839) (m:=w) (by decide) (by decide) (by omega);obtain ⟨y,hy,ey⟩:=uP c (b:=28411) (p:=99833) (m:=h) (by decide) (by decide) (by omega);obtain ⟨s,hs,es⟩:=agi (c*7+se.fmod 1000+5);obtain ⟨n,hn,en⟩:=afn R;have hk:y.toNat<rows.length:=by rw[R.len];omega
 have hr:=R.row _ (List.getElem_mem hk);have hxx:x.toNat<rows[y.toNat].length:=by rw[hr];omega
 have ha:rows[y.toNat][x.toNat].ok:=R.cell _ (List.getElem_mem hk) _ (List.getElem_mem hxx);have i1:=afq hy.1 hk;have i2:=aiF hx.1 hxx;have r2:=G6 (ks:=ks) R p nx ha hx hy;have ou:=WC (ks:=ks) (xs:=xs) R c;have f2:=fm se 2 (by decide);have pick:∃m,Nm m/\bV (.lst [.str "lost",.str n]) (.int (se.fmod 2))= .ok (.str m):=by
  have:se.fmod 2=0\/se.fmod 2=1:=by omega
  rcases this with e|e
  ·exact ⟨"lost",HZ,by rw[e];simp[bV,qy,nZ]⟩
  ·exact ⟨n,hn,by rw[e];simp[bV,qy,nZ]⟩
 obtain ⟨m,hm,em⟩:=pick;have e0:=eq0 "fibre" s 5 rfl;have i0:=ix0 s;have fz:∀l:List D,MC (.l l)= .ok (.lst l):=λ l=>rfl;by_cases k:kd s=5
 ·have r1:=G6 (ks:=ks) R p nx (c:= .b m) hm hx hy;have et:tD (.b m)= .tup [.str "fibre",.str m]:=rfl;rw[et] at r1;refine ⟨.val (.int x),.val (.int y),.val (.tup [.str "fibre",.str m]),?_⟩;simp only[uw];generalize wd (kd s).val=W at*;generalize tD s=ds at*;generalize tb rows ks xs=t at*;generalize tD rows[y.toNat][x.toNat]=da at*;generalize tR rows[y.toNat]=dy at*;generalize rD rows=dr at*;simp[j1,j2,j3,ex,ey,es,i0,e0,k,en,fz,em,r1,r2,i1,i2,ou]
 ·have hso:s.ok:=by
   cases s with
   |b q=>exact absurd rfl k
   |e=>trivial
   |w=>trivial
   |m q=>exact hs
   |h q t u=>exact hs
   |f t u=>exact hs
  have r1:=G6 (ks:=ks) R p nx hso hx hy;refine ⟨.val (.int x),.val (.int y),.val (tD s),?_⟩;simp only[uw];generalize wd (kd s).val=W at*;generalize tD s=ds at*;generalize tb rows ks xs=t at*;generalize tD rows[y.toNat][x.toNat]=da at*;generalize tR rows[y.toNat]=dy at*;generalize rD rows=dr at*;simp[j1,j2,j3,ex,ey,es,i0,e0,k,r1,r2,i1,i2,ou]
def Lj{rows:List (List Sp)}{w h:Nat}{ks:List (List gT)}{xs:List D}(R:Rw rows w h)(p:MD rows)(nx:fV xs=true)(se:Int)(s0 s1:Slot):∀(cs:List Int) (s5 s6 s7 s8:Slot),∃t5 t6 t7 t8,fP (aD 5) (uw 0) (cs.map D.int) [s0,s1,.val (.int se),.val (rD rows),.val (tb rows ks xs),s5,s6,s7,s8]= .nx [s0,s1,.val (.int se),.val (rD rows),.val (tb rows ks xs),t5,t6,t7,t8]
 |[],s5,s6,s7,s8=>⟨s5,s6,s7,s8,by simp⟩
 |c::cs,s5,s6,s7,s8=>by obtain ⟨u6,u7,u8,st⟩:=aay (ks:=ks) R p nx se c s0 s1 s6 s7 s8;obtain ⟨t5,t6,t7,t8,e⟩:=Lj R p nx se s0 s1 cs (.val (.int c)) u6 u7 u8;refine ⟨t5,t6,t7,t8,?_⟩;rw[<-e];simp only[List.map_cons,fP];simp only[rG,List.set_cons_succ,List.set_cons_zero];rw[st]
def aax(zs:List Int)(hl:zs.length<=63):DX [.val (.lst (zs.map D.int))]= .ok (.bl true):=by
 obtain ⟨fi,hfi⟩:=ajn zs 0;obtain ⟨se,hse⟩:=ajn zs 1;obtain ⟨cs,hcs,_,hcl⟩:=abI zs (some 2) none;obtain ⟨ds,hds,_,hdl⟩:=abI zs (some 2) (some 14);have f8:=fm fi 8 (by decide);obtain ⟨w,hw⟩:∃w:Nat,(w:Int)=1+fi.fmod 8:=⟨(1+fi.fmod 8).toNat,by omega⟩;obtain ⟨rows,h,R,p,er⟩:=ahJ cs (by omega) (w:=w) (by omega);obtain ⟨ks,xs,et,nx,_⟩:=aed R p;obtain ⟨t5,t6,t7,t8,el⟩:=Lj (ks:=ks) R p nx se (.val (.lst (zs.map D.int))) (.val (.int fi)) (ds++[se]) .no .no .no .no;have rt:=UU (ks:=ks) (xs:=xs) R;obtain ⟨q1,_,_⟩:=Jc R.cell;have nr:=Cw rows;have fz:MC (.l (rows.map tR))= .ok (rD rows):=rfl;have fz2:MC (.l (rows.map tR))= .ok (.lst (rows.map tR)):=rfl;have sl:ds.length+1<=sizeLine:=by have:=sL;omega
 rw[DX,DP];have i:bW (vc (lOp Ye (vc (AL (aj 0) (dP (dC (.int 2))) (dP (dC (.int 14))))) (vc (Dy (ai (aj 2) aB))))) [.val (.lst (zs.map D.int)),.val (.int fi),.val (.int se),.val (rD rows),.val (tb rows ks xs),.no,.no,.no,.no]= .ok ((ds++[se]).map D.int):=by simp[AL,dP,hds,Ye,kg,sl]
 have s:gY (bW (vc (lOp Ye (vc (AL (aj 0) (dP (dC (.int 2))) (dP (dC (.int 14))))) (vc (Dy (ai (aj 2) aB)))))) (aD 5) (uw 0) [.val (.lst (zs.map D.int)),.val (.int fi),.val (.int se),.val (rD rows),.val (tb rows ks xs),.no,.no,.no,.no]= .nx [.val (.lst (zs.map D.int)),.val (.int fi),.val (.int se),.val (rD rows),.val (tb rows ks xs),t5,t6,t7,t8]:=by rw[gY,i,Va,el]
 have ap6:bh [.val (.lst (zs.map D.int)),.val (.int 0)]= .ok (.int fi):=hfi;have apW:bh [.val (.lst (zs.map D.int)),.val (.int 1)]= .ok (.int se):=hse;have er':nk [.val (.lst (cs.map D.int)),.val (.int (1+fi.fmod 8)),.val (.int 3),.val (.int 4)]= .new (.l (rows.map tR)):=by rw[<-hw];exact er
 generalize rows.map tR=A at*;generalize tb rows ks xs=t at*;generalize rD rows=dr at*;generalize zs.map D.int=Z at*;generalize cs.map D.int=C at*;simp[cN,ap6,apW,AL,dP,hcs,er',fz,et,s,rt];rw[fz2] at fz;cases fz;simp[q1]
end K38
end
section
namespace K38
open PySem PySem.Spec PyProof.Rows L2 L4
def top(i:Nat):Stmt:=PySem.Challenge.pw_beamtable_k38_with_cell.main.body.getD i (.Pass ⟨0,0,0,0⟩)
def nJ(s:Stmt)(j:Nat):Stmt:=match s with
 | .ClassDef _ _ _ b _ _ _ _ _ _ _=>b.getD j (.Pass ⟨0,0,0,0⟩)
 |_=>s
abbrev mR:Stmt:=top 33
abbrev qT:Stmt:=top 34
abbrev mP:Stmt:=top 35
abbrev qP:Stmt:=top 36
abbrev w9:Stmt:=top 37
abbrev qS:Stmt:=top 38
abbrev oQ:Stmt:=top 39
abbrev sM:Stmt:=top 40
abbrev jd:Stmt:=top 26
abbrev gU:Stmt:=top 27
abbrev kh:Stmt:=top 28
abbrev fK:Stmt:=nJ (top 29) 0
abbrev jb:Stmt:=top 14
abbrev eG:Stmt:=nJ (top 19) 0
abbrev wZ:Stmt:=top 10
abbrev je:Stmt:=top 15
abbrev gx:Stmt:=nJ (top 20) 0
abbrev eK:Stmt:=nJ (top 21) 0
abbrev ki:Stmt:=top 16
abbrev fL:Stmt:=nJ (top 23) 0
abbrev sN:Stmt:=top 41
abbrev qO:Stmt:=top 42
abbrev qR:Stmt:=top 47
abbrev gW:Stmt:=nJ (top 29) 2
abbrev jf:Stmt:=nJ (top 29) 1
abbrev eF:Stmt:=nJ (top 29) 3
abbrev cW:Stmt:=nJ (top 29) 4
abbrev mJ:Stmt:=top 31
abbrev mQ:Stmt:=top 43
abbrev mK:Stmt:=top 44
abbrev fJ:Stmt:=top 45
abbrev mT:Stmt:=nJ (top 18) 0
abbrev ko:Stmt:=nJ (top 19) 1
abbrev oS:Stmt:=nJ (top 20) 1
abbrev kr:Stmt:=nJ (top 21) 1
abbrev oR:Stmt:=nJ (top 22) 0
abbrev mS:Stmt:=nJ (top 23) 1
abbrev kj:Stmt:=nJ (top 29) 7
abbrev qQ:Stmt:=top 46
abbrev mO:Stmt:=top 48
abbrev Ko:Stmt:=top 49
set_option genInjectivity false in
structure Tx(K:W.Frag)(mg:Str->Option Value)(cb:Cb) where
 iK:Addr
 oj:FuncData
 p9:mg "_law_cell_at"=some (.ref iK)
 g7:W.keepIn K (.ref iK)=true
 iB:nM K "_law_cell_at" "_law_cell_at" mR iK oj
 cI:Binds K oj sW []
 lT:Addr
 rY:FuncData
 lF:mg "_law_drawn"=some (.ref lT)
 gB:W.keepIn K (.ref lT)=true
 lM:nM K "_law_drawn" "_law_drawn" qT lT rY
 dN:Binds K rY zp []
 iI:Addr
 oh:FuncData
 Ad:mg "_law_divisor"=some (.ref iI)
 m6:W.keepIn K (.ref iI)=true
 iz:nM K "_law_divisor" "_law_divisor" mP iI oh
 fS:Binds K oh pW []
 lP:Addr
 rT:FuncData
 zF:mg "_law_share"=some (.ref lP)
 oz:W.keepIn K (.ref lP)=true
 lH:nM K "_law_share" "_law_share" qP lP rT
 iV:Binds K rT zk []
 sf:Addr
 yl:FuncData
 Iu:mg "_law_one"=some (.ref sf)
 uJ:W.keepIn K (.ref sf)=true
 r6:nM K "_law_one" "_law_one" w9 sf yl
 gS:Binds K yl Ht []
 lS:Addr
 rX:FuncData
 F8:mg "_law_fewer"=some (.ref lS)
 rm:W.keepIn K (.ref lS)=true
 lK:nM K "_law_fewer" "_law_fewer" qS lS rX
 jQ:Binds K rX zo []
 jE:Addr
 qa:FuncData
 C3:mg "_law_paired"=some (.ref jE)
 o6:W.keepIn K (.ref jE)=true
 jB:nM K "_law_paired" "_law_paired" oQ jE qa
 iC:Binds K qa vN []
 pK:Addr
 uN:FuncData
 Le:mg "_law_rows"=some (.ref pK)
 tS:W.keepIn K (.ref pK)=true
 pB:nM K "_law_rows" "_law_rows" sM pK uN
 nj:Binds K uN Ce []
 fq:Addr
 kP:FuncData
 vh:mg "check_sides"=some (.ref fq)
 jh:W.keepIn K (.ref fq)=true
 ff:nM K "check_sides" "check_sides" jd fq kP
 dF:Binds K kP qk []
 dW:Addr
 jw:FuncData
 tP:mg "fibre_places"=some (.ref dW)
 g8:W.keepIn K (.ref dW)=true
 dS:nM K "fibre_places" "fibre_places" gU dW jw
 cJ:Binds K jw oW []
 gj:Addr
 mq:FuncData
 xS:mg "fibre_ends"=some (.ref gj)
 kH:W.keepIn K (.ref gj)=true
 fZ:nM K "fibre_ends" "fibre_ends" kh gj mq
 dg:Binds K mq rJ []
 dO:Addr
 gQ:FuncData
 iS:W.keepIn K (.ref dO)=true
 bB:nM K "__init__" "Table.__init__" fK dO gQ
 bF:Binds K gQ lC []
 fj:Addr
 kO:FuncData
 qm:mg "check_slant"=some (.ref fj)
 gC:W.keepIn K (.ref fj)=true
 fc:nM K "check_slant" "check_slant" jb fj kO
 dD:Binds K kO qj []
 cQ:Addr
 fX:FuncData
 gM:W.keepIn K (.ref cQ)=true
 bu:nM K "__init__" "Mirror.__init__" eG cQ fX
 b6:Binds K fX kB []
 sd:Addr
 yj:FuncData
 Ir:mg "under"=some (.ref sd)
 uI:W.keepIn K (.ref sd)=true
 rZ:nM K "under" "under" wZ sd yj
 mE:Binds K yj Hs []
 fB:Addr
 kQ:FuncData
 qo:mg "check_share"=some (.ref fB)
 gD:W.keepIn K (.ref fB)=true
 fh:nM K "check_share" "check_share" je fB kQ
 cF:Binds K kQ ql []
 eo:Addr
 iU:FuncData
 jv:W.keepIn K (.ref eo)=true
 bS:nM K "__init__" "Half.__init__" gx eo iU
 cu:Binds K iU nD []
 cR:Addr
 fY:FuncData
 gO:W.keepIn K (.ref cR)=true
 bw:nM K "__init__" "Filter.__init__" eK cR fY
 bN:Binds K fY kC []
 gk:Addr
 mw:FuncData
 xT:mg "check_name"=some (.ref gk)
 kI:W.keepIn K (.ref gk)=true
 f9:nM K "check_name" "check_name" ki gk mw
 eX:Binds K mw rK []
 dQ:Addr
 gR:FuncData
 iT:W.keepIn K (.ref dQ)=true
 bC:nM K "__init__" "Fibre.__init__" fL dQ gR
 bG:Binds K gR lD []
 pL:Addr
 uO:FuncData
 xR:mg "_law_cell"=some (.ref pL)
 o7:W.keepIn K (.ref pL)=true
 pC:nM K "_law_cell" "_law_cell" sN pL uO
 dU:Binds K uO Cg []
 lO:Addr
 rS:FuncData
 F6:mg "_law_table"=some (.ref lO)
 q8:W.keepIn K (.ref lO)=true
 lG:nM K "_law_table" "_law_table" qO lO rS
 jO:Binds K rS zj []
 lR:Addr
 rW:FuncData
 F7:mg "_law_known"=some (.ref lR)
 rj:W.keepIn K (.ref lR)=true
 lJ:nM K "_law_known" "_law_known" qR lR rW
 jP:Binds K rW zm []
 dX:Addr
 gy:FuncData
 g9:W.keepIn K (.ref dX)=true
 b5:nM K "height" "Table.height" gW dX gy
 cK:Binds K gy ku []
 fC:Addr
 ir:FuncData
 ji:W.keepIn K (.ref fC)=true
 cD:nM K "width" "Table.width" jf fC ir
 dG:Binds K ir lY []
 b7:Addr
 dR:FuncData
 eT:W.keepIn K (.ref b7)=true
 br:nM K "has_place" "Table.has_place" eF b7 dR
 bM:Binds K dR gJ []
 bJ:Addr
 cH:FuncData
 cX:W.keepIn K (.ref bJ)=true
 aT:nM K "check_place" "Table.check_place" cW bJ cH
 bg:Binds K cH fF []
 iF:Addr
 n5:FuncData
 tM:mg "with_cell"=some (.ref iF)
 jK:W.keepIn K (.ref iF)=true
 iu:nM K "with_cell" "with_cell" mJ iF n5
 dw:Binds K n5 sR []
 iJ:Addr
 oi:FuncData
 tO:mg "_law_changed"=some (.ref iJ)
 jM:W.keepIn K (.ref iJ)=true
 iA:nM K "_law_changed" "_law_changed" mQ iJ oi
 dB:Binds K oi sV []
 iG:Addr
 n6:FuncData
 tN:mg "_law_refused"=some (.ref iG)
 jL:W.keepIn K (.ref iG)=true
 iw:nM K "_law_refused" "_law_refused" mK iG n6
 dz:Binds K n6 sS []
 cB:Addr
 gP:FuncData
 qZ:mg "_law_fibres_alike"=some (.ref cB)
 fM:W.keepIn K (.ref cB)=true
 cA:nM K "_law_fibres_alike" "_law_fibres_alike" fJ cB gP
 bX:Binds K gP lA []
 iN:Addr
 kT:FuncData
 m9:W.keepIn K (.ref iN)=true
 eV:nM K "row" "Empty.row" mT iN kT
 iE:Binds K kT pY []
 gq:Addr
 jk:FuncData
 kK:W.keepIn K (.ref gq)=true
 c8:nM K "row" "Mirror.row" ko gq jk
 gg:Binds K jk nT []
 jG:Addr
 nh:FuncData
 o9:W.keepIn K (.ref jG)=true
 gf:nM K "row" "Half.row" oS jG nh
 jD:Binds K nh rM []
 gu:Addr
 jl:FuncData
 kL:W.keepIn K (.ref gu)=true
 c9:nM K "row" "Filter.row" kr gu jl
 gh:Binds K jl nU []
 jF:Addr
 ng:FuncData
 o8:W.keepIn K (.ref jF)=true
 gc:nM K "row" "Wall.row" oR jF ng
 jC:Binds K ng rL []
 iM:Addr
 kR:FuncData
 m8:W.keepIn K (.ref iM)=true
 eU:nM K "row" "Fibre.row" mS iM kR
 iD:Binds K kR pX []
 gn:Addr
 jj:FuncData
 kJ:W.keepIn K (.ref gn)=true
 cZ:nM K "rows" "Table.rows" kj gn jj
 eY:Binds K jj nS []
 lQ:Addr
 rV:FuncData
 zG:mg "_law_right"=some (.ref lQ)
 oA:W.keepIn K (.ref lQ)=true
 lI:nM K "_law_right" "_law_right" qQ lQ rV
 gG:Binds K rV zl []
 iH:Addr
 n9:FuncData
 Ac:mg "_law_outside"=some (.ref iH)
 m5:W.keepIn K (.ref iH)=true
 iy:nM K "_law_outside" "_law_outside" mO iH n9
 fR:Binds K n9 sU []
 Ar:Addr
 Ja:FuncData
 alN:mg "law"=some (.ref Ar)
 Vp:W.keepIn K (.ref Ar)=true
 Ak:nM K "law" "law" Ko Ar Ja
 DP:Binds K Ja ZS []
 nN:mg "ValueError"=none
 UD:mg "all"=none
 mG:mg "enumerate"=none
 ez:mg "isinstance"=none
 iZ:mg "len"=none
 BA:mg "list"=none
 UC:mg "max"=none
 UB:mg "min"=none
 rE:mg "range"=none
 wL:mg "tuple"=none
 yY:Value
 FO:mg "LETTERS"=some yY
 Gp:GlT K yY (.str "abcdefghijklmnopqrstuvwxyz")
 oN:Value
 sG:mg "LONGEST_NAME"=some oN
 tU:GlT K oN (.int 8)
 oM:Value
 oK:mg "LONGEST_SIDE"=some oM
 pA:GlT K oM (.int 16)
 Y0:Value
 aga:mg "ONE"=some Y0
 ags:GlT K Y0 (.gt [.int 1,.int 1])
 MP:Value
 YY:mg "ZERO"=some MP
 abd:GlT K MP (.gt [.int 0,.int 1])
 dJ:Addr
 Aj:mg "BeamError"=some (.ref dJ)
 bI:Addr
 LG:mg "NoCell"=some (.ref bI)
 aZ:Addr
 Gm:mg "NoTable"=some (.ref aZ)
 bf:Addr
 Gn:mg "NoPlace"=some (.ref bf)
 lW:Addr
 Gq:mg "Crossed"=some (.ref lW)
 aY:Addr
 IW:mg "Empty"=some (.ref aY)
 aM:Addr
 LH:mg "Mirror"=some (.ref aM)
 bL:Addr
 abf:mg "Half"=some (.ref bL)
 aN:Addr
 LJ:mg "Filter"=some (.ref aN)
 bQ:Addr
 abe:mg "Wall"=some (.ref bQ)
 aR:Addr
 Bs:mg "Fibre"=some (.ref aR)
 aK:Addr
 IV:mg "Table"=some (.ref aK)
 Bc:cb.cls "Empty"=some (aY,([]:List Str))
 ae9:cb.ins "Empty"=some aY
 jo:zZ K aY
 CY:Mk0 K aY
 nX:Meth K aY "row" iN
 BZ:cb.cls "Mirror"=some (aM,(["slant"]:List Str))
 K4:cb.ins "Mirror"=some aM
 gE:zZ K aM
 F4:Mk K aM cQ
 mh:Meth K aM "row" gq
 Na:cb.cls "Half"=some (bL,(["slant","share"]:List Str))
 aac:cb.ins "Half"=some bL
 mC:zZ K bL
 Vi:Mk K bL eo
 p8:Meth K bL "row" jG
 B0:cb.cls "Filter"=some (aN,(["share"]:List Str))
 K5:cb.ins "Filter"=some aN
 gF:zZ K aN
 F5:Mk K aN cR
 mj:Meth K aN "row" gu
 M9:cb.cls "Wall"=some (bQ,([]:List Str))
 aiq:cb.ins "Wall"=some bQ
 mz:zZ K bQ
 Vh:Mk0 K bQ
 p7:Meth K bQ "row" jF
 Bb:cb.cls "Fibre"=some (aR,(["name"]:List Str))
 Ip:cb.ins "Fibre"=some aR
 jn:zZ K aR
 CW:Mk K aR dQ
 nW:Meth K aR "row" iM
 pV:cb.cls "Table"=some (aK,(["grid","ends"]:List Str))
 Il:cb.ins "Table"=some aK
 eW:zZ K aK
 CV:Mk K aK dO
 lZ:Meth K aK "rows" gn
 eO:Meth K aK "check_place" bJ
 fW:Meth K aK "has_place" b7
 ju:Meth K aK "height" dX
 kG:Meth K aK "width" fC
 ft:ajG cb uZ
 VA:FA K cb "ends"
 qb:FA K cb "grid"
 Bt:FA K cb "name"
 tX:FA K cb "share"
 tW:FA K cb "slant"
 qz:XC K mg cb "NoCell" "NoCell" bI
 lq:XC K mg cb "NoTable" "NoTable" aZ
 uz:XC K mg cb "NoPlace" "NoPlace" bf
 Ai:am2 K cb (.ref dJ) (Ah mt "BeamError")
 xt:XTs K cb mt
 Vx:YA K cb mt (.ref aR) "Fibre"
 Gi:YA K cb mt (.ref aZ) "NoTable"
 Gj:YA K cb mt (.ref bf) "NoPlace"
 Gk:YA K cb mt (.ref lW) "Crossed"
 LA:YA K cb mt (.ref bI) "NoCell"
 yd:YA K cb mt (.type "ValueError") "ValueError"
section
variable{P:Program}{w:World}{K:W.Frag}{mg:Str->Option Value}{cb:Cb}{base:Heap}
def rO(M:Tx K mg cb):jR P w K mg base cb 1 M.iK M.oj sW bh:=by
 refine sE cI M.iB (λ as _ _=>⟨0,rfl⟩) (λ c cdv A outer s H E hcb hr g n=>?_);subst hcb;exact (ao (bq (yV (ah 1) (fU M.iZ (aa (ah 0) ak))) (au (aO (bx (ah 0) (ah 1)))) aP)
  (au (aO az)))
def lE(M:Tx K mg cb):jR P w K mg base cb 1 M.lT M.rY zp eu:=by refine sE dN M.lM (λ as _ _=>⟨0,rfl⟩) (λ c cdv A outer s H E hcb hr g n=>?_);subst hcb;exact (au (aO (jy (pT (jy (rF (jz (jy (ah 0) az) az) (ah 1)) (ah 2)) az) (ah 3))))
def Hy(M:Tx K mg cb):jR P w K mg base cb 1 M.iI M.oh pW cM:=by
 refine sE fS M.iz LC (λ c cdv A outer s H E hcb hr g n=>?_);subst hcb;exact (ao (ML n g (ahd (ah 1) az) (au (ad2 0 1 g.calm g.nd (aa (ah 1) (aa (jy (ah 0) (ah 1)) ak)))))
  (au (aO (ah 0))))
def Ci(M:Tx K mg cb):jR P w K mg base cb 2 M.lP M.rT zk jS:=by
 refine sE iV M.lH (λ as _ _=>⟨0,rfl⟩) (λ c cdv A outer s H E hcb hr g n=>?_);subst hcb;have hu:=hr.units;exact (ao (bR 1 g.nd (jz az (cC (lE M) (hr.mono (by decide)) M.lF M.gB M.dN (aa (ah 0) (aa az (aa az (aa az ak)))))))
  (ao (bq (i7 hu (cC (lE M) (hr.mono (by decide)) M.lF M.gB M.dN (aa (ah 0) (aa az (aa az (aa az ak))))) az) (au (bR 1 g.nd (jz az (jy (ah 0) az)))) aP)
  (ao (bR 2 g.nd (jz az (cC (lE M) (hr.mono (by decide)) M.lF M.gB M.dN (aa (ah 0) (aa az (aa az (aa (MN (ah 1) az) ak)))))))
  (ao (bR 3 g.nd (cC (Hy M) (hr.mono (by decide)) M.Ad M.m6 M.fS (aa (ah 2) (aa (ah 1) ak))))
  (au (aO (cT (aa (pT (ah 2) (ah 3)) (aa (pT (ah 1) (ah 3)) ak)))))))))
def KG(M:Tx K mg cb):jR P w K mg base cb 3 M.sf M.yl Ht eZ:=by
 refine sE gS M.r6 (λ as _ _=>⟨0,rfl⟩) (λ c cdv A outer s H E hcb hr g n=>?_);subst hcb;have hu:=hr.units;exact (ao (bR 1 g.nd (cC (lE M) (hr.mono (by decide)) M.lF M.gB M.dN (aa (ah 0) (aa az (aa az (aa az ak))))))
  (ao (bq (yV (ah 1) az) (au (aO (cT (aa aS ak)))) aP)
  (ao (bq (yV (ah 1) az) (au (aO (cT (aa aS (aa (jz az (rF az (jy (ah 1) az))) ak))))) aP)
  (ao (bq (i7 hu (ah 1) az) (au (aO (cT (aa aS ak)))) aP)
  (ao (bq (yV (ah 1) az) (au (aO (cT (aa aS (aa (jz az (rF az (jy (ah 1) az))) (aa (cC (Ci M) (hr.mono (by decide)) M.zF M.oz M.iV (aa (ah 0) ak)) ak)))))) aP)
  (ao (bq (yV (ah 1) az) (au (aO (cT (aa aS (aa (cC (Ci M) (hr.mono (by decide)) M.zF M.oz M.iV (aa (ah 0) ak)) ak))))) aP)
  (au (aO (cT (aa aS (aa aS ak)))))))))))
def Nr(M:Tx K mg cb):jR P w K mg base cb 1 M.lS M.rX zo jT:=by
 refine sE jQ M.lK (λ as _ _=>⟨0,rfl⟩) (λ c cdv A outer s H E hcb hr g n=>?_);subst hcb;have hu:=hr.units;exact (ao (qC 3 g.nd (λ B=>(oB (vF ak))))
  (ao (i9 g (fH (ah 0)) (aQ 4 g.nd) (ao (J8 5 g.nd (λ B=>(fU M.iZ (aa (eE (mH (tm:=false) (k:=1) (caps:=[4]) (N':=["_law_other","_law_one_here"]) (λ h=>nomatch h) rfl (fH (jZ 3)) ⟨rfl,by decide+kernel,rfl,by decide+kernel,rfl,(afV (aE (abQ rfl) gH))⟩ (by decide+kernel) (λ C s₀ H₀ ex=>(aQ 0 (by decide+kernel:(["_law_other","_law_one_here"]:List Str).Nodup))) (λ C s₀ H₀ ex=>(UG (i7 hu (bx (ah 0) az) (bx (ah 1) az)))) (λ C s₀ H₀ ex=>(ah 0)) (j5 (by decide)))) ak))))
  (ao (bq (BD (UI (i7 hu (bx (ah 4) az) aS) (J7 (i7 hu (ah 5) (ah 1))))) (au (bR 4 g.nd (cT (aa aS (aa (bx (ah 4) az) ak))))) aP)
  (ao (bq (BD (UI (i7 hu (bx (ah 4) az) aS) (J7 (i7 hu (ah 5) (ah 2))))) (au (bR 4 g.nd (cT (aa aS ak)))) aP)
  (au (BF (λ B=>(nP 3)) (λ B=>(ah 4))))))))
  (au (sF 3))))
def KD(M:Tx K mg cb):jR P w K mg base cb 1 M.jE M.qa vN iO:=by
 refine wfG iC M.jB (λ as _ _=>⟨0,rfl⟩) (λ c cdv A outer s H E hcb hr g n=>?_);subst hcb;have hu:=hr.units;exact (ao (V6 (tm:=true) 1 (k:=1) (caps:=[0]) (N':=["_law_k","_law_flat"]) g.nd rfl (λ B=>(wM M.rE (aa (fU M.iZ (aa (jZ 0) ak)) ak))) ⟨rfl,by decide+kernel,rfl,by decide+kernel,rfl,(afV (aE (abQ rfl) gH))⟩ (by decide+kernel) (λ B C s₀ H₀ ex=>(aQ 0 (by decide+kernel:(["_law_k","_law_flat"]:List Str).Nodup))) (λ B C s₀ H₀ ex=>(UG (i7 hu (bx (bx (ah 1) (ah 0)) az) aS))) (λ B C s₀ H₀ ex=>(ah 0)) (j5 (by decide)))
  (ao (bR 2 g.nd aS)
  (ao (J8 3 g.nd (λ B=>(jy (fU M.iZ (aa (jZ 0) ak)) az)))
  (ao (i9 g (wM M.rE (aa (akD (λ B=>(fU M.iZ (aa (jZ 1) ak)))) ak)) (aQ 4 g.nd) (ao (qD (λ B=>(nP 0)) (λ B=>(bx (jZ 1) (ah 4))) (λ B=>(cT (aa aS ak))))
  (au (YQ (λ B=>(yV (ahe (ah 4) az) (fU M.iZ (aa (jZ 1) ak)))) (ao (bR 5 g.nd (jz (bx (ah 2) (jy (pT (ah 4) az) az)) (bx (ah 2) (pT (ah 4) az))))
  (au (qD (λ B=>(nP 0)) (λ B=>(bx (jZ 1) (ah 4))) (λ B=>(cT (aa aS (aa (jz (jz (UK aS BG (oH (ah 3))) (ah 5)) (UK aS (oH (ah 3)) BG)) ak))))))) aP))))
  (au (YM 0))))))
def WQ(M:Tx K mg cb):jR P w K mg base cb 4 M.pK M.uN Ce nk:=by
 refine sE nj M.pB (λ as _ _=>⟨0,rfl⟩) (λ c cdv A outer s H E hcb hr g n=>?_);subst hcb;exact (ao (bR 4 g.nd (ad4 rfl M.UC (aa az (aa (ad3 rfl M.UB (aa az (aa (pT (fU M.iZ (aa (ah 0) ak)) (ah 1)) ak))) ak))))
  (ao (qC 5 g.nd (λ B=>(ahb (Nr M) (hr.mono (by decide)) M.F8 M.rm M.jQ (aa (eE (mH (tm:=false) (k:=1) (caps:=[0]) (N':=["_law_k","_law_cells"]) (λ h=>nomatch h) rfl (wM M.rE (aa (rF (ah 1) (ah 4)) ak)) ⟨rfl,by decide+kernel,rfl,by decide+kernel,rfl,(afV (aE (abQ rfl) gH))⟩ (by decide+kernel) (λ C s₀ H₀ ex=>(aQ 0 (by decide+kernel:(["_law_k","_law_cells"]:List Str).Nodup))) (λ C s₀ H₀ ex=>nO) (λ C s₀ H₀ ex=>(YV (KG M) (hr.mono (by decide)) M.Iu M.uJ M.gS (aa (YV (rO M) (hr.mono (by decide)) M.p9 M.g7 M.cI (aa (ah 1) (aa (ah 0) ak))) ak))) (j5 (by decide)))) (aa (ah 2) (aa (ah 3) ak))))))
  (ao (V4 g.nd (YK (KD M) (hr.mono (by decide)) M.C3 M.o6 M.iC (V7 5 ak)))
  (au (YO (λ B=>(oB (mH (tm:=true) (k:=1) (caps:=[5,1]) (N':=["_law_y","_law_flat","_law_wide"]) (λ _=>rfl) rfl (wM M.rE (aa (ah 4) ak)) ⟨rfl,by decide+kernel,rfl,by decide+kernel,rfl,(afV (aE (abQ rfl) (aE (abQ rfl) gH)))⟩ (by decide+kernel) (λ C s₀ H₀ ex=>(aQ 0 (by decide+kernel:(["_law_y","_law_flat","_law_wide"]:List Str).Nodup))) (λ C s₀ H₀ ex=>nO) (λ C s₀ H₀ ex=>(eE (MK (ah 1) (oH (rF (ah 2) (ah 0))) (oH (rF (ah 2) (jz (ah 0) az)))))) (j5 (by decide))))))))))
def Ck(M:Tx K mg cb):jR P w K mg base cb 1 M.fq M.kP qk dH:=by
 refine sE dF M.ff (λ as _ _=>⟨0,rfl⟩) (λ c cdv A outer s H E hcb hr g n=>?_);subst hcb;have hu:=hr.units;exact (ao (bq (jY (yW (oX z9) (oX z9) Aa Aa az (fU M.iZ (aa (ah 0) ak)) (qF M.oK M.pA))) (au (jI g M.lq (aa aS ak))) aP)
  (au (i9 g (fH (ah 0)) (aQ 1 g.nd) (ao (bq (jY (yW (oX z9) (oX z9) Aa Aa az (fU M.iZ (aa (ah 1) ak)) (qF M.oK M.pA))) (au (jI g M.lq (aa aS ak))) aP)
  (au (bq (BE hu (fU M.iZ (aa (ah 1) ak)) (fU M.iZ (aa (bx (ah 0) az) ak))) (au (jI g M.lq (aa aS ak))) aP))))))
def Ax(M:Tx K mg cb):jR P w K mg base cb 1 M.dW M.jw oW dY:=by
 refine sE cJ M.dS (λ as _ _=>⟨0,rfl⟩) (λ c cdv A outer s H E hcb hr g n=>?_);subst hcb;exact (ao (qC 1 g.nd (λ B=>adX))
  (ao (i9 g (J5 M.mG (aa (ah 0) ak)) (uA rfl (d9 (aQ 2 g.nd) (d9 (aQ 3 g.nd) qB))) (au (i9 g (J5 M.mG (aa (ah 3) ak)) (uA rfl (d9 (aQ 4 g.nd) (d9 (aQ 5 g.nd) qB))) (au (bq (nQ (GN M.ez M.xt M.Vx (ue M.Bs) (ah 5))) (au (MM 1 (ny M.Bt (ah 5)) (oB (vF ak)) (cT (aa (ah 4) (aa (ah 2) ak))))) aP)))))
  (au (sF 1))))
def Eg(M:Tx K mg cb):jR P w K mg base cb 2 M.gj M.mq rJ b9:=by
 refine sE dg M.fZ (λ as _ _=>⟨0,rfl⟩) (λ c cdv A outer s H E hcb hr g n=>?_);subst hcb;have hu:=hr.units;have hu1:=hU1 hr.units;exact (ao (qC 1 g.nd (λ B=>adW))
  (ao (i9 g (V2 (cC (Ax M) (hr.mono (by decide)) M.tP M.g8 M.cJ (aa (ah 0) ak))) (uA rfl (d9 (aQ 2 g.nd) (d9 (aQ 3 g.nd) qB))) (ao (bq (BE hu (fU M.iZ (aa (ah 3) ak)) az) (au (jI g M.lq (aa (ad6 (ah 2)) ak))) aP)
  (ao (J9 hu1 (λ B=>(nP 1)) (λ B=>(bx (ah 3) az)) (λ B=>(bx (ah 3) az)))
  (au (J9 hu1 (λ B=>(nP 1)) (λ B=>(bx (ah 3) az)) (λ B=>(bx (ah 3) az)))))))
  (au (sF 1))))
def pZ(M:Tx K mg cb):jR P w K mg base cb 3 M.dO M.gQ lC aW:=by
 refine wfG bF M.bB (λ as _ _=>⟨0,rfl⟩) (λ c cdv A outer s H E hcb hr g n=>?_);subst hcb;exact (ao (oG 0 M.qb M.ft (λ B=>(Ka M.wL (aa (eE (mH (tm:=false) (k:=1) (caps:=[]) (N':=["cells"]) (λ h=>nomatch h) rfl (fH (ah 1)) ⟨rfl,by decide+kernel,rfl,by decide+kernel,rfl,(λ i c y h=>by simp at h)⟩ (by decide+kernel) (λ C s₀ H₀ ex=>(aQ 0 (by decide+kernel:(["cells"]:List Str).Nodup))) (λ C s₀ H₀ ex=>nO) (λ C s₀ H₀ ex=>(Ka M.wL (aa (ah 0) ak))) (j5 (by decide)))) ak))))
  (ao (YR (λ B=>(YU (Ck M) (hr.mono (by decide)) M.vh M.jh M.dF (aa (ny M.qb (jZ 0)) ak))))
  (au (oG 0 M.VA M.ft (λ B=>(YU (Eg M) (hr.mono (by decide)) M.xS M.kH M.dg (aa (ny M.qb (jZ 0)) ak)))))))
def sX(M:Tx K mg cb):jR P w K mg base cb 1 M.fj M.kO qj fD:=by refine sE dD M.fc (λ as _ _=>⟨0,rfl⟩) (λ c cdv A outer s H E hcb hr g n=>?_);subst hcb;exact (au (bq (V3 (ah 0) (cT (aa az (aa az ak)))) (au (jI g M.qz (aa aS ak))) aP))
def vP(M:Tx K mg cb):jR P w K mg base cb 2 M.cQ M.fX kB cS:=by
 refine wfG b6 M.bu (λ as _ _=>⟨0,rfl⟩) (λ c cdv A outer s H E hcb hr g n=>?_);subst hcb;exact (ao (oq (cC (sX M) (hr.mono (by decide)) M.qm M.gC M.dD (aa (ah 1) ak)))
  (au (oG 0 M.tW M.ft (λ B=>(ah 1)))))
def KC(M:Tx K mg cb):jR P w K mg base cb 1 M.sd M.yj Hs mF:=by refine sE mE M.rZ (λ as _ _=>⟨0,rfl⟩) (λ c cdv A outer s H E hcb hr g n=>?_);subst hcb;exact (au (aO (akE (rF (bx (ah 0) az) (bx (ah 1) az)) (rF (bx (ah 1) az) (bx (ah 0) az)))))
def sY(M:Tx K mg cb):jR P w K mg base cb 2 M.fB M.kQ ql dI:=by refine sE cF M.fh (λ as _ _=>⟨0,rfl⟩) (λ c cdv A outer s H E hcb hr g n=>?_);subst hcb;exact (au (bq (BD (yU (jY (nQ (cC (KC M) (hr.mono (by decide)) M.Ir M.uI M.mE (aa (qF M.YY M.abd) (aa (ah 0) ak))))) (wN (jY (nQ (cC (KC M) (hr.mono (by decide)) M.Ir M.uI M.mE (aa (ah 0) (aa (qF M.aga M.ags) ak)))))))) (au (jI g M.qz (aa aS ak))) aP))
def zu(M:Tx K mg cb):jR P w K mg base cb 3 M.eo M.iU nD cU:=by
 refine wfG cu M.bS (λ as _ _=>⟨0,rfl⟩) (λ c cdv A outer s H E hcb hr g n=>?_);subst hcb;exact (ao (oq (cC (sX M) (hr.mono (by decide)) M.qm M.gC M.dD (aa (ah 1) ak)))
  (ao (oq (cC (sY M) (hr.mono (by decide)) M.qo M.gD M.cF (aa (ah 2) ak)))
  (ao (oG 0 M.tW M.ft (λ B=>(ah 1)))
  (au (oG 0 M.tX M.ft (λ B=>(ah 2)))))))
def vQ(M:Tx K mg cb):jR P w K mg base cb 3 M.cR M.fY kC ck:=by
 refine wfG bN M.bw (λ as _ _=>⟨0,rfl⟩) (λ c cdv A outer s H E hcb hr g n=>?_);subst hcb;exact (ao (oq (cC (sY M) (hr.mono (by decide)) M.qo M.gD M.cF (aa (ah 1) ak)))
  (au (oG 0 M.tX M.ft (λ B=>(ah 1)))))
def Eh(M:Tx K mg cb):jR P w K mg base cb 1 M.gk M.mw rK gw:=by refine sE eX M.f9 (λ as _ _=>⟨0,rfl⟩) (λ c cdv A outer s H E hcb hr g n=>?_);subst hcb;exact (au (bq (BD (yU (jY (yW (oX z9) (oX z9) Aa Aa az (fU M.iZ (aa (ah 0) ak)) (qF M.sG M.tU))) (wN (jY (nQ (ahi rfl M.UD (aa (eE (mH (tm:=false) (k:=1) (caps:=[]) (N':=["sign"]) (λ h=>nomatch h) rfl (adZ (ah 0)) ⟨rfl,by decide+kernel,rfl,by decide+kernel,rfl,(λ i c y h=>by simp at h)⟩ (by decide+kernel) (λ C s₀ H₀ ex=>(aQ 0 (by decide+kernel:(["sign"]:List Str).Nodup))) (λ C s₀ H₀ ex=>nO) (λ C s₀ H₀ ex=>(ahh (ah 0) (qF M.FO M.Gp))) (j5 (by decide)))) ak))))))) (au (jI g M.qz (aa aS ak))) aP))
def p6(M:Tx K mg cb):jR P w K mg base cb 2 M.dQ M.gR lD bH:=by
 refine wfG bG M.bC (λ as _ _=>⟨0,rfl⟩) (λ c cdv A outer s H E hcb hr g n=>?_);subst hcb;exact (ao (oq (cC (Eh M) (hr.mono (by decide)) M.xT M.kI M.eX (aa (ah 1) ak)))
  (au (oG 0 M.Bt M.ft (λ B=>(ah 1)))))
def zq(M:Tx K mg cb):jR P w K mg base cb 5 M.pL M.uO Cg b8:=by
 refine sE dU M.pC (λ as _ _=>⟨0,rfl⟩) (λ c cdv A outer s H E hcb hr g n=>?_);subst hcb;have hu:=hr.units;exact (ao (bq (i7 hu (bx (ah 0) az) aS) (au (aO (BI M.CY M.Bc M.IW))) aP)
  (ao (bq (i7 hu (bx (ah 0) az) aS) (au (aO (qE (oF (bU _) M.F4 (vP M) (hr.mono (by decide)) M.b6 M.K4 M.BZ M.LH (aa (bx (ah 0) az) ak) rfl)))) aP)
  (ao (bq (i7 hu (bx (ah 0) az) aS) (au (aO (qE (oF (bU _) M.Vi (zu M) (hr.mono (by decide)) M.cu M.aac M.Na M.abf (aa (bx (ah 0) az) (aa (bx (ah 0) az) ak)) rfl)))) aP)
  (ao (bq (i7 hu (bx (ah 0) az) aS) (au (aO (qE (oF (bU _) M.F5 (vQ M) (hr.mono (by decide)) M.bN M.K5 M.B0 M.LJ (aa (bx (ah 0) az) ak) rfl)))) aP)
  (ao (bq (i7 hu (bx (ah 0) az) aS) (au (aO (BI M.Vh M.M9 M.abe))) aP)
  (au (aO (qE (oF (bU _) M.CW (p6 M) (hr.mono (by decide)) M.bG M.Ip M.Bb M.Bs (aa (bx (ah 0) az) ak) rfl)))))))))
def Np(M:Tx K mg cb):jR P w K mg base cb 6 M.lO M.rS zj lU:=by refine sE jO M.lG (λ as _ _=>⟨0,rfl⟩) (λ c cdv A outer s H E hcb hr g n=>?_);subst hcb;exact (au (aO (qE (oF (bU _) M.CV (pZ M) (hr.mono (by decide)) M.bF M.Il M.pV M.IV (aa (eE (mH (tm:=false) (k:=1) (caps:=[]) (N':=["_law_row"]) (λ h=>nomatch h) rfl (fH (ah 0)) ⟨rfl,by decide+kernel,rfl,by decide+kernel,rfl,(λ i c y h=>by simp at h)⟩ (by decide+kernel) (λ C s₀ H₀ ex=>(aQ 0 (by decide+kernel:(["_law_row"]:List Str).Nodup))) (λ C s₀ H₀ ex=>nO) (λ C s₀ H₀ ex=>(eE (mH (tm:=false) (k:=1) (caps:=[]) (N':=["_law_one_here"]) (λ h=>nomatch h) rfl (fH (ah 0)) ⟨rfl,by decide+kernel,rfl,by decide+kernel,rfl,(λ i c y h=>by simp at h)⟩ (by decide+kernel) (λ C s₀ H₀ ex=>(aQ 0 (by decide+kernel:(["_law_one_here"]:List Str).Nodup))) (λ C s₀ H₀ ex=>nO) (λ C s₀ H₀ ex=>(cC (zq M) (hr.mono (by decide)) M.xR M.o7 M.dU (aa (ah 0) ak))) (j5 (by decide))))) (j5 (by decide)))) ak) rfl))))
def Nq(M:Tx K mg cb):jR P w K mg base cb 1 M.lR M.rW zm lV:=by
 refine sE jP M.lJ (λ as _ _=>⟨0,rfl⟩) (λ c cdv A outer s H E hcb hr g n=>?_);subst hcb;have hu:=hr.units;exact (ao (qC 1 g.nd (λ B=>(oB (vF (aa aS (aa aS ak))))))
  (ao (i9 g (fH (ah 0)) (aQ 2 g.nd) (au (i9 g (fH (ah 2)) (aQ 3 g.nd) (au (bq (i7 hu (bx (ah 3) az) aS) (au (qD (λ B=>(nP 1)) (λ B=>az) (λ B=>(bx (ah 3) az)))) aP)))))
  (au (sF 1))))
def Ay(M:Tx K mg cb):jR P w K mg base cb 1 M.dX M.gy ku dZ:=by refine sE cK M.b5 (λ as _ _=>⟨0,rfl⟩) (λ c cdv A outer s H E hcb hr g n=>?_);subst hcb;exact (au (aO (fU M.iZ (aa (ny M.qb (ah 0)) ak))))
def W7{X:Cx}(M:Tx K mg cb)(hP:X.prog=P)(hw:X.w=w)(hK:X.K=K)(hm:X.mg=mg)(hb:X.base=base)(hr:fN 1 X.A):JW X cb "height" 0 wU:=by
 subst hP hw hK hm hb;exact zE (aE (mt1 M.pV ⟨1,M.dX,M.gy,ku,M.eW,M.ju,Ay M,hr.mono (by decide),M.cK,rfl,by decide⟩)
  gH)
def Cm(M:Tx K mg cb):jR P w K mg base cb 1 M.fC M.ir lY fE:=by refine sE dG M.cD (λ as _ _=>⟨0,rfl⟩) (λ c cdv A outer s H E hcb hr g n=>?_);subst hcb;exact (au (aO (fU M.iZ (aa (bx (ny M.qb (ah 0)) az) ak))))
def aag{X:Cx}(M:Tx K mg cb)(hP:X.prog=P)(hw:X.w=w)(hK:X.K=K)(hm:X.mg=mg)(hb:X.base=base)(hr:fN 1 X.A):JW X cb "width" 0 A8:=by
 subst hP hw hK hm hb;exact zE (aE (mt1 M.pV ⟨1,M.fC,M.ir,lY,M.eW,M.kG,Cm M,hr.mono (by decide),M.dG,rfl,by decide⟩)
  gH)
def vO(M:Tx K mg cb):jR P w K mg base cb 2 M.b7 M.dR gJ cj:=by refine sE bM M.br (λ as _ _=>⟨0,rfl⟩) (λ c cdv A outer s H E hcb hr g n=>?_);subst hcb;exact (au (aO (BJ (Kc (oX z9) (oX U8) Aa agj az (ah 1) (j0 (qA (ly (bU _) (aag M rfl rfl rfl rfl rfl (hr.mono (by decide))) (ah 0))))) (yX (Kc (oX z9) (oX U8) Aa agj az (ah 2) (j0 (qA (ly (bU _) (W7 M rfl rfl rfl rfl rfl (hr.mono (by decide))) (ah 0)))))))))
def Iq{X:Cx}(M:Tx K mg cb)(hP:X.prog=P)(hw:X.w=w)(hK:X.K=K)(hm:X.mg=mg)(hb:X.base=base)(hr:fN 2 X.A):JW X cb "has_place" 2 pU:=by
 subst hP hw hK hm hb;exact zE (aE (mt1 M.pV ⟨2,M.b7,M.dR,gJ,M.eW,M.fW,vO M,hr.mono (by decide),M.bM,rfl,by decide⟩)
  gH)
def sZ(M:Tx K mg cb):jR P w K mg base cb 3 M.bJ M.cH fF bK:=by refine sE bg M.aT (λ as _ _=>⟨0,rfl⟩) (λ c cdv A outer s H E hcb hr g n=>?_);subst hcb;exact (au (bq (jY (nQ (j0 (qA (J6 (bU _) (Iq M rfl rfl rfl rfl rfl (hr.mono (by decide))) (ah 0) (aa (ah 1) (aa (ah 2) ak))))))) (au (jI g M.uz (aa aS ak))) aP))
def CU{X:Cx}(M:Tx K mg cb)(hP:X.prog=P)(hw:X.w=w)(hK:X.K=K)(hm:X.mg=mg)(hb:X.base=base)(hr:fN 3 X.A):JW X cb "check_place" 2 ja:=by
 subst hP hw hK hm hb;exact zE (aE (mt1 M.pV ⟨3,M.bJ,M.cH,fF,M.eW,M.eO,sZ M,hr.mono (by decide),M.bg,rfl,by decide⟩)
  gH)
def xx(M:Tx K mg cb):jR P w K mg base cb 5 M.iF M.n5 sR bA:=by
 refine sE dw M.iu (λ as _ _=>⟨0,rfl⟩) (λ c cdv A outer s H E hcb hr g n=>?_);subst hcb;exact (ao (oq (j0 (qA (J6 (bU _) (CU M rfl rfl rfl rfl rfl (hr.mono (by decide))) (ah 0) (aa (ah 1) (aa (ah 2) ak))))))
  (ao (FJ (tm:=false) 4 (k:=1) (caps:=[]) (N':=["cells"]) g.nd rfl (λ B=>(fH (ny M.qb (ah 0)))) ⟨rfl,by decide+kernel,rfl,by decide+kernel,rfl,(λ i c y h=>by simp at h)⟩ (by decide+kernel) (λ B C s₀ H₀ ex=>(aQ 0 (by decide+kernel:(["cells"]:List Str).Nodup))) (λ B C s₀ H₀ ex=>nO) (λ B C s₀ H₀ ex=>(oB (UH M.BA (aa (ah 0) ak)))) (j5 (by decide)))
  (ao (qD (λ B=>(af7 (nP 4) (ah 2))) (λ B=>(ah 1)) (λ B=>(ah 3)))
  (au (YN (λ B=>(YT (oF (Vj _) M.CV (pZ M) (hr.mono (by decide)) M.bF M.Il M.pV M.IV (aa (jZ 4) ak) rfl))))))))
def xB(M:Tx K mg cb):jR P w K mg base cb 6 M.iJ M.oi sV cy:=by
 refine sE dB M.iA (λ as _ _=>⟨0,rfl⟩) (λ c cdv A outer s H E hcb hr g n=>?_);subst hcb;exact (ao (bR 4 g.nd BH)
  (ao (bR 5 g.nd BH)
  (ao (V5 6 g M.Aj M.Ai (λ pn xe g=>(au (bR 4 g.nd (cC (xx M) (hr.mono (by decide)) M.tM M.jK M.dw (aa (ah 0) (aa (ah 1) (aa (ah 2) (aa (ah 3) ak)))))))) (λ ev pn=>(au (bR 5 g.nd (ah 6)))))
  (au (aO (cT (aa (ah 4) (aa (ah 5) ak))))))))
def xy(M:Tx K mg cb):jR P w K mg base cb 1 M.iG M.n6 sS cL:=by
 refine sE dz M.iw (λ as _ _=>⟨0,rfl⟩) (λ c cdv A outer s H E hcb hr g n=>?_);subst hcb;have hu:=hr.units;exact (ao (bq (BD (yU (BE hu (GN M.ez M.xt M.Gj (ue M.Gn) (ah 0)) (ah 1)) (wN (i7 hu (GN M.ez M.xt M.Gi (ue M.Gm) (ah 0)) (ah 1))))) (au (aO FL)) aP)
  (au (aO (BJ (GN M.ez M.xt M.yd (afU M.nN Fy (by decide)) (ah 0)) (yX (ahg (ad5 M.ez M.xt (.cons M.Gk (.cons M.LA .nil)) (YX (YX ahk)) (ah 0) (UL (YJ (ue M.Gq)) (UL (YJ (ue M.LG)) ahj)) (λ _ _ _ q=>q) (by simp))))))))
def xA(M:Tx K mg cb):jR P w K mg base cb 1 M.cB M.gP lA bY:=by
 refine sE bX M.cA (λ as _ _=>⟨0,rfl⟩) (λ c cdv A outer s H E hcb hr g n=>?_);subst hcb;have hu:=hr.units;exact (ao (bR 4 g.nd (bx (bx (ah 0) (ah 2)) (ah 1)))
  (au (aO (akC (BJ (af8 hu (bx (ah 4) az) aS) (yX (af8 hu (bx (ah 3) az) aS))) (yX (YW hu (ah 4) (ah 3)))))))
def HA(M:Tx K mg cb):jR P w K mg base cb 1 M.iN M.kT pY nu:=by refine sE iE M.eV (λ as _ _=>⟨0,rfl⟩) (λ c cdv A outer s H E hcb hr g n=>?_);subst hcb;exact (au (aO (cT (aa aS ak))))
def Ej(M:Tx K mg cb):jR P w K mg base cb 1 M.gq M.jk nT kZ:=by refine sE gg M.c8 (λ as _ _=>⟨0,rfl⟩) (λ c cdv A outer s H E hcb hr g n=>?_);subst hcb;exact (au (aO (cT (aa aS (aa (ny M.tW (ah 0)) ak)))))
def KI(M:Tx K mg cb):jR P w K mg base cb 1 M.jG M.nh rM pO:=by refine sE jD M.gf (λ as _ _=>⟨0,rfl⟩) (λ c cdv A outer s H E hcb hr g n=>?_);subst hcb;exact (au (aO (cT (aa aS (aa (ny M.tW (ah 0)) (aa (ny M.tX (ah 0)) ak))))))
def Ek(M:Tx K mg cb):jR P w K mg base cb 1 M.gu M.jl nU k6:=by refine sE gh M.c9 (λ as _ _=>⟨0,rfl⟩) (λ c cdv A outer s H E hcb hr g n=>?_);subst hcb;exact (au (aO (cT (aa aS (aa (ny M.tX (ah 0)) ak)))))
def KH(M:Tx K mg cb):jR P w K mg base cb 1 M.jF M.ng rL pN:=by refine sE jC M.gc (λ as _ _=>⟨0,rfl⟩) (λ c cdv A outer s H E hcb hr g n=>?_);subst hcb;exact (au (aO (cT (aa aS ak))))
def Hz(M:Tx K mg cb):jR P w K mg base cb 1 M.iM M.kR pX nq:=by refine sE iD M.eU (λ as _ _=>⟨0,rfl⟩) (λ c cdv A outer s H E hcb hr g n=>?_);subst hcb;exact (au (aO (cT (aa aS (aa (ny M.Bt (ah 0)) ak)))))
def air{X:Cx}(M:Tx K mg cb)(hP:X.prog=P)(hw:X.w=w)(hK:X.K=K)(hm:X.mg=mg)(hb:X.base=base)(hr:fN 1 X.A):JW X cb "row" 0 UP:=by
 subst hP hw hK hm hb;exact zE (aE (mt1 M.Bc ⟨1,M.iN,M.kT,pY,M.jo,M.nX,HA M,hr.mono (by decide),M.iE,rfl,by decide⟩)
  (aE (mt1 M.BZ ⟨1,M.gq,M.jk,nT,M.gE,M.mh,Ej M,hr.mono (by decide),M.gg,rfl,by decide⟩)
  (aE (mt1 M.Na ⟨1,M.jG,M.nh,rM,M.mC,M.p8,KI M,hr.mono (by decide),M.jD,rfl,by decide⟩)
  (aE (mt1 M.B0 ⟨1,M.gu,M.jl,nU,M.gF,M.mj,Ek M,hr.mono (by decide),M.gh,rfl,by decide⟩)
  (aE (mt1 M.M9 ⟨1,M.jF,M.ng,rL,M.mz,M.p7,KH M,hr.mono (by decide),M.jC,rfl,by decide⟩)
  (aE (mt1 M.Bb ⟨1,M.iM,M.kR,pX,M.jn,M.nW,Hz M,hr.mono (by decide),M.iD,rfl,by decide⟩)
  gH))))))
def Ei(M:Tx K mg cb):jR P w K mg base cb 2 M.gn M.jj nS cG:=by
 refine sE eY M.cZ (λ as _ _=>⟨0,rfl⟩) (λ c cdv A outer s H E hcb hr g n=>?_);subst hcb;exact (ao (qC 1 g.nd (λ B=>(oB (vF ak))))
  (ao (i9 g (fH (ny M.qb (ah 0))) (aQ 2 g.nd) (au (BF (λ B=>(nP 1)) (λ B=>(eE (mH (tm:=false) (k:=1) (caps:=[]) (N':=["cell"]) (λ h=>nomatch h) rfl (fH (ah 2)) ⟨rfl,by decide+kernel,rfl,by decide+kernel,rfl,(λ i c y h=>by simp at h)⟩ (by decide+kernel) (λ C s₀ H₀ ex=>(aQ 0 (by decide+kernel:(["cell"]:List Str).Nodup))) (λ C s₀ H₀ ex=>nO) (λ C s₀ H₀ ex=>(j0 (BC (ly (xU _) (air M rfl rfl rfl rfl rfl (hr.mono (by decide))) (ah 0))))) (j5 (by decide))))))))
  (au (sF 1))))
def Bj{X:Cx}(M:Tx K mg cb)(hP:X.prog=P)(hw:X.w=w)(hK:X.K=K)(hm:X.mg=mg)(hb:X.base=base)(hr:fN 2 X.A):JW X cb "rows" 0 nB:=by
 subst hP hw hK hm hb;exact zE (aE (mt1 M.pV ⟨2,M.gn,M.jj,nS,M.eW,M.lZ,Ei M,hr.mono (by decide),M.eY,rfl,by decide⟩)
  gH)
def Cj(M:Tx K mg cb):jR P w K mg base cb 7 M.lQ M.rV zl iY:=by
 refine sE gG M.lI (λ as _ _=>⟨0,rfl⟩) (λ c cdv A outer s H E hcb hr g n=>?_);subst hcb;have hu:=hr.units;exact (ao (GL (cC (xB M) (hr.mono (by decide)) M.tO M.jM M.dB (aa (ah 0) (aa (ah 2) (aa (ah 3) (aa (cC (zq M) (hr.mono (by decide)) M.xR M.o7 M.dU (aa (ah 4) ak)) ak))))) (uA rfl (d9 (aQ 5 g.nd) (d9 (aQ 6 g.nd) qB))))
  (ao (bq (jY (nQ (cC (xA M) (hr.mono (by decide)) M.qZ M.fM M.bX (aa (ah 1) (aa (ah 2) (aa (ah 3) (aa (ah 4) ak))))))) (au (aO (BJ (af9 (ah 5) BH) (yX (cC (xy M) (hr.mono (by decide)) M.tN M.jL M.dz (aa (ah 6) (aa FL ak))))))) aP)
  (ao (FJ (tm:=false) 7 (k:=1) (caps:=[]) (N':=["_law_row"]) g.nd rfl (λ B=>(fH (ah 1))) ⟨rfl,by decide+kernel,rfl,by decide+kernel,rfl,(λ i c y h=>by simp at h)⟩ (by decide+kernel) (λ B C s₀ H₀ ex=>(aQ 0 (by decide+kernel:(["_law_row"]:List Str).Nodup))) (λ B C s₀ H₀ ex=>nO) (λ B C s₀ H₀ ex=>(oB (UH M.BA (aa (ah 0) ak)))) (j5 (by decide)))
  (ao (qD (λ B=>(af7 (nP 7) (ah 3))) (λ B=>(ah 2)) (λ B=>(ah 4)))
  (ao (YQ (λ B=>(BD (yU (YL (ah 6) BH) (yU (BE hu (j0 (BC (ly (xU _) (Bj M rfl rfl rfl rfl rfl (hr.mono (by decide))) (ah 5)))) (jZ 7)) (wN (BE hu (j0 (BC (ly (xU _) (Bj M rfl rfl rfl rfl rfl (hr.mono (by decide))) (ah 0)))) (ah 1))))))) (au (aO FL)) aP)
  (au (aO (YW hu (j0 (qA (ly (bU _) (Bj M rfl rfl rfl rfl rfl (hr.mono (by decide))) (cC (xx M) (hr.mono (by decide)) M.tM M.jK M.dw (aa (ah 5) (aa (ah 2) (aa (ah 3) (aa (cC (zq M) (hr.mono (by decide)) M.xR M.o7 M.dU (aa (bx (bx (ah 1) (ah 3)) (ah 2)) ak)) ak)))))))) (ah 1)))))))))
def Hw(M:Tx K mg cb):jR P w K mg base cb 7 M.iH M.n9 sU iP:=by
 refine sE fR M.iy (λ as _ _=>⟨0,rfl⟩) (λ c cdv A outer s H E hcb hr g n=>?_);subst hcb;exact (ao (bR 3 g.nd (jy (pT (ah 2) az) (ahf az az)))
  (ao (bR 4 g.nd (eE (vF (aa (cT (aa (MN (YS az) (ah 3)) (aa az ak))) (aa (cT (aa az (aa (MN (YS az) (ah 3)) ak))) (aa (cT (aa (jz (fU M.iZ (aa (bx (ah 1) az) ak)) (ah 3)) (aa az ak))) (aa (cT (aa az (aa (jz (fU M.iZ (aa (ah 1) ak)) (ah 3)) ak))) ak)))))))
  (ao (GL (bx (ah 4) (jy (ah 2) az)) (uA rfl (d9 (aQ 5 g.nd) (d9 (aQ 6 g.nd) qB))))
  (ao (GL (cC (xB M) (hr.mono (by decide)) M.tO M.jM M.dB (aa (ah 0) (aa (ah 5) (aa (ah 6) (aa (bx (eE (vF (aa (BI M.CY M.Bc M.IW) (aa (qE (oF (bU _) M.CW (p6 M) (hr.mono (by decide)) M.bG M.Ip M.Bb M.Bs (aa aS ak) rfl)) ak)))) (jy (pT (ah 2) az) az)) ak))))) (uA rfl (d9 (aQ 7 g.nd) (d9 (aQ 8 g.nd) qB))))
  (au (aO (BJ (af9 (ah 7) BH) (yX (cC (xy M) (hr.mono (by decide)) M.tN M.jL M.dz (aa (ah 8) (aa FL ak)))))))))))
def aij(M:Tx K mg cb):jR P w K mg base cb 8 M.Ar M.Ja ZS DX:=by
 refine sE DP M.Ak (λ as _ _=>⟨0,rfl⟩) (λ c cdv A outer s H E hcb hr g n=>?_);subst hcb;have hu:=hr.units;exact (ao (bR 1 g.nd (cC (rO M) (hr.mono (by decide)) M.p9 M.g7 M.cI (aa (ah 0) (aa az ak))))
  (ao (bR 2 g.nd (cC (rO M) (hr.mono (by decide)) M.p9 M.g7 M.cI (aa (ah 0) (aa az ak))))
  (ao (bR 3 g.nd (cC (WQ M) (hr.mono (by decide)) M.Le M.tS M.nj (aa (eE (MK (ah 0) (oH az) BG)) (aa (jz az (jy (ah 1) az)) (aa az (aa az ak))))))
  (ao (bR 4 g.nd (cC (Np M) (hr.mono (by decide)) M.F6 M.q8 M.jO (aa (ah 3) ak)))
  (ao (i9 g (fH (eE (ahc (eE (MK (ah 0) (oH az) (oH az))) (eE (vF (aa (ah 2) ak)))))) (aQ 5 g.nd) (ao (bR 6 g.nd (cC (lE M) (hr.mono (by decide)) M.lF M.gB M.dN (aa (ah 5) (aa az (aa az (aa (fU M.iZ (aa (bx (ah 3) az) ak)) ak))))))
  (ao (bR 7 g.nd (cC (lE M) (hr.mono (by decide)) M.lF M.gB M.dN (aa (ah 5) (aa az (aa az (aa (fU M.iZ (aa (ah 3) ak)) ak))))))
  (ao (bR 8 g.nd (cC (KG M) (hr.mono (by decide)) M.Iu M.uJ M.gS (aa (jz (jz (rF (ah 5) az) (jy (ah 2) az)) az) ak)))
  (ao (bq (i7 hu (bx (ah 8) az) aS) (au (bR 8 g.nd (cT (aa aS (aa (bx (cC (Nq M) (hr.mono (by decide)) M.F7 M.rj M.jP (aa (ah 3) ak)) (jy (ah 2) az)) ak))))) aP)
  (ao (bq (BD (yU (jY (nQ (cC (Cj M) (hr.mono (by decide)) M.zG M.oA M.gG (aa (ah 4) (aa (ah 3) (aa (ah 6) (aa (ah 7) (aa (ah 8) ak)))))))) (wN (jY (nQ (cC (Cj M) (hr.mono (by decide)) M.zG M.oA M.gG (aa (ah 4) (aa (ah 3) (aa (ah 6) (aa (ah 7) (aa (bx (bx (ah 3) (ah 7)) (ah 6)) ak))))))))))) (au (aO FL)) aP)
  (au (bq (jY (nQ (cC (Hw M) (hr.mono (by decide)) M.Ac M.m5 M.fR (aa (ah 4) (aa (ah 3) (aa (ah 5) ak)))))) (au (aO FL)) aP))))))))
  (au (aO (YW hu (j0 (qA (ly (bU _) (Bj M rfl rfl rfl rfl rfl (hr.mono (by decide))) (ah 4)))) (ah 3)))))))))
end
def all_mk{P:Program}{w:World}{K:W.Frag}{h:Heap}{mg:Str->Option Value}{fa:Addr}(X:K.In h)(G:h.Ns mainGlobals mg)(hfa:mg "law"=some (.ref fa)) {dJ:Addr} {bI:Addr} {aZ:Addr} {bf:Addr} {lW:Addr} {aY:Addr} {aM:Addr} {bL:Addr} {aN:Addr} {bQ:Addr} {aR:Addr} {aK:Addr} {iB:Addr} {HL JQ:Option Addr} {G0:Array (Option Value)} {HV IM Ji Hj yE Jv:Value} {lM:Addr} {Nz Pc:Option Addr} {M5:Array (Option Value)} {NI Od OL Ni DM OS:Value} {iz:Addr} {HJ JO:Option Addr} {GY:Array (Option Value)} {HS IK Jg Hh yC Jt:Value} {lH:Addr} {Nu O8:Option Addr} {MZ:Array (Option Value)} {ND N9 OG Nc DI OO:Value} {r6:Addr} {Z4 ab0:Option Addr} {Zd:Array (Option Value)} {Z6 aaN abA Zz Me abK:Value} {lK:Addr} {Ny Pb:Option Addr} {M4:Array (Option Value)} {NH Oc OJ Nh DL OR:Value} {jB:Addr} {KJ Ms:Option Addr} {Kf:Array (Option Value)} {KQ Lu LU Kv An L1:Value} {pB:Addr} {WU Ys:Option Addr} {V9:Array (Option Value)} {WX Xw X6 Wu GC Yb:Value} {ff:Addr} {Co DR:Option Addr} {BR:Array (Option Value)} {Cs De Ds B6 ug DB:Value} {dS:Addr} {Az A5:Option Addr} {As:Array (Option Value)} {AB AM AW Av su A1:Value} {fZ:Addr} {El FD:Option Addr} {D4:Array (Option Value)} {Er EW E8 Ea vt Fg:Value} {bB:Addr} {xD yO:Option Addr} {wW:Array (Option Value)} {xG xZ yp xq qd yt:Value} {fc:Addr} {Cn DQ:Option Addr} {BQ:Array (Option Value)} {Cr Dd Dr B5 uf DA:Value} {bu:Addr} {vS wH:Option Addr} {vH:Array (Option Value)} {vW wg wA vK pH wD:Value} {rZ:Addr} {Z3 abZ:Option Addr} {Zc:Array (Option Value)} {Z5 aaM abz Zy Mb abJ:Value} {fh:Addr} {Cp DS:Option Addr} {BS:Array (Option Value)} {Cu Df Dt B7 uh DC:Value} {bS:Addr} {zw zY:Option Addr} {za:Array (Option Value)} {zx zM zP zd rA zR:Value} {bw:Addr} {vU wI:Option Addr} {vI:Array (Option Value)} {vX wj wB vL pI wF:Value} {f9:Addr} {Em FE:Option Addr} {D5:Array (Option Value)} {Es EX E9 Eb vz Fi:Value} {bC:Addr} {xE yP:Option Addr} {wX:Array (Option Value)} {xH ya yq xu qe yu:Value} {pC:Addr} {WV Yt:Option Addr} {Wb:Array (Option Value)} {WY Xx X7 Wv GD Yc:Value} {lG:Addr} {Nt O7:Option Addr} {MY:Array (Option Value)} {NC N8 OF Nb DH ON:Value} {lJ:Addr} {Nx Pa:Option Addr} {M3:Array (Option Value)} {NG Ob OI Ng DK OQ:Value} {b5:Addr} {AA A6:Option Addr} {Au:Array (Option Value)} {AD AN AX Aw sy A2:Value} {cD:Addr} {Cq DT:Option Addr} {BU:Array (Option Value)} {Cv Dg Du B8 um DE:Value} {br:Addr} {vR wG:Option Addr} {vG:Array (Option Value)} {vV we wz vJ pG wC:Value} {aT:Addr} {tF uq:Option Addr} {sJ:Array (Option Value)} {tG tT tZ sP ni uc:Value} {iu:Addr} {HE JL:Option Addr} {GV:Array (Option Value)} {HP IG Jd G9 yx Jq:Value} {iA:Addr} {HK JP:Option Addr} {GZ:Array (Option Value)} {HU IL Jh Hi yD Ju:Value} {iw:Addr} {HG JM:Option Addr} {GW:Array (Option Value)} {HQ II Je Hf yy Jr:Value} {cA:Addr} {xC yN:Option Addr} {wV:Array (Option Value)} {xF xY yo xo qc yr:Value} {eV:Addr} {HN JS:Option Addr} {G2:Array (Option Value)} {HX IQ Jk Hq yG Jy:Value} {c8:Addr} {Eo FG:Option Addr} {D7:Array (Option Value)} {Eu EZ Fc Ed vB Fl:Value} {gf:Addr} {KN Mu:Option Addr} {Kh:Array (Option Value)} {KS Lw LW Kz Aq L5:Value} {c9:Addr} {Ep FH:Option Addr} {D8:Array (Option Value)} {Ew E2 Fd Ef vC Fo:Value} {gc:Addr} {KL Mt:Option Addr} {Kg:Array (Option Value)} {KR Lv LV Ky Ao L3:Value} {eU:Addr} {HM JR:Option Addr} {G1:Array (Option Value)} {HW IP Jj Ho yF Jw:Value} {cZ:Addr} {En FF:Option Addr} {D6:Array (Option Value)} {Et EY Fb Ec vA Fj:Value} {lI:Addr} {Nv O9:Option Addr} {M0:Array (Option Value)} {NF Oa OH Nf DJ OP:Value} {iy:Addr} {HH JN:Option Addr} {GX:Array (Option Value)} {HR IJ Jf Hg yz Js:Value} {Ak:Addr} {aik ajo:Option Addr} {ahD:Array (Option Value)} {ail aiD ajd ahW abO ajj:Value} {z7:Tok} {qJ:Tok} {qI:Tok} {aef:Tok} {aee:Tok} {JY:Addr} {NB:Option Addr} {NN:Nat} {M6:Array (Option Value)} {Y6:Tok} {Y5:Tok} {DY:Addr} {KP:Option Addr} {KW:Nat} {Kl:Array (Option Value)} (LR:W.nsIn K mainGlobals "BeamError"=some (some (.ref dJ))) (LQ:W.nsIn K mainGlobals "NoCell"=some (some (.ref bI))) (Gx:W.nsIn K mainGlobals "NoTable"=some (some (.ref aZ))) (Gy:W.nsIn K mainGlobals "NoPlace"=some (some (.ref bf))) (X5:W.nsIn K mainGlobals "Crossed"=some (some (.ref lW))) (afQ:W.nsIn K mainGlobals "Empty"=some (some (.ref aY))) (abp:W.nsIn K mainGlobals "Mirror"=some (some (.ref aM))) (ajb:W.nsIn K mainGlobals "Half"=some (some (.ref bL))) (abq:W.nsIn K mainGlobals "Filter"=some (some (.ref aN))) (aja:W.nsIn K mainGlobals "Wall"=some (some (.ref bQ))) (afP:W.nsIn K mainGlobals "Fibre"=some (some (.ref aR))) (afO:W.nsIn K mainGlobals "Table"=some (some (.ref aK))) (iK:W.nsIn K mainGlobals "_law_cell_at"=some (some (.ref iB))) (Lp:K.lookup iB=some ⟨HV,HL,.func (W.fnOf "_law_cell_at" "_law_cell_at" (aJ mR) (aH mR) (aA mR) .none IM Ji Hj JQ yE Jv),G0⟩) (Mn:W.codeIn K yE "_law_cell_at"=true) (g7:W.keepIn K (.ref iB)=true) (lT:W.nsIn K mainGlobals "_law_drawn"=some (some (.ref lM))) (Xn:K.lookup lM=some ⟨NI,Nz,.func (W.fnOf "_law_drawn" "_law_drawn" (aJ qT) (aH qT) (aA qT) .none Od OL Ni Pc DM OS),M5⟩) (Yp:W.codeIn K DM "_law_drawn"=true) (gB:W.keepIn K (.ref lM)=true) (iI:W.nsIn K mainGlobals "_law_divisor"=some (some (.ref iz))) (Ln:K.lookup iz=some ⟨HS,HJ,.func (W.fnOf "_law_divisor" "_law_divisor" (aJ mP) (aH mP) (aA mP) .none IK Jg Hh JO yC Jt),GY⟩) (Ml:W.codeIn K yC "_law_divisor"=true) (m6:W.keepIn K (.ref iz)=true) (lP:W.nsIn K mainGlobals "_law_share"=some (some (.ref lH))) (Xj:K.lookup lH=some ⟨ND,Nu,.func (W.fnOf "_law_share" "_law_share" (aJ qP) (aH qP) (aA qP) .none N9 OG Nc O8 DI OO),MZ⟩) (Yl:W.codeIn K DI "_law_share"=true) (oz:W.keepIn K (.ref lH)=true) (sf:W.nsIn K mainGlobals "_law_one"=some (some (.ref r6))) (afh:K.lookup r6=some ⟨Z6,Z4,.func (W.fnOf "_law_one" "_law_one" (aJ w9) (aH w9) (aA w9) .none aaN abA Zz ab0 Me abK),Zd⟩) (afX:W.codeIn K Me "_law_one"=true) (uJ:W.keepIn K (.ref r6)=true) (lS:W.nsIn K mainGlobals "_law_fewer"=some (some (.ref lK))) (Xm:K.lookup lK=some ⟨NH,Ny,.func (W.fnOf "_law_fewer" "_law_fewer" (aJ qS) (aH qS) (aA qS) .none Oc OJ Nh Pb DL OR),M4⟩) (Yo:W.codeIn K DL "_law_fewer"=true) (rm:W.keepIn K (.ref lK)=true) (jE:W.nsIn K mainGlobals "_law_paired"=some (some (.ref jB))) (N4:K.lookup jB=some ⟨KQ,KJ,.func (W.fnOf "_law_paired" "_law_paired" (aJ oQ) (aH oQ) (aA oQ) .none Lu LU Kv Ms An L1),Kf⟩) (O3:W.codeIn K An "_law_paired"=true) (o6:W.keepIn K (.ref jB)=true) (pK:W.nsIn K mainGlobals "_law_rows"=some (some (.ref pB))) (aaB:K.lookup pB=some ⟨WX,WU,.func (W.fnOf "_law_rows" "_law_rows" (aJ sM) (aH sM) (aA sM) .none Xw X6 Wu Ys GC Yb),V9⟩) (abU:W.codeIn K GC "_law_rows"=true) (tS:W.keepIn K (.ref pB)=true) (fq:W.nsIn K mainGlobals "check_sides"=some (some (.ref ff))) (ET:K.lookup ff=some ⟨Cs,Co,.func (W.fnOf "check_sides" "check_sides" (aJ jd) (aH jd) (aA jd) .none De Ds B6 DR ug DB),BR⟩) (Fv:W.codeIn K ug "check_sides"=true) (jh:W.keepIn K (.ref ff)=true) (dW:W.nsIn K mainGlobals "fibre_places"=some (some (.ref dS))) (C7:K.lookup dS=some ⟨AB,Az,.func (W.fnOf "fibre_places" "fibre_places" (aJ gU) (aH gU) (aA gU) .none AM AW Av A5 su A1),As⟩) (DN:W.codeIn K su "fibre_places"=true) (g8:W.keepIn K (.ref dS)=true) (gj:W.nsIn K mainGlobals "fibre_ends"=some (some (.ref fZ))) (Iz:K.lookup fZ=some ⟨Er,El,.func (W.fnOf "fibre_ends" "fibre_ends" (aJ kh) (aH kh) (aA kh) .none EW E8 Ea FD vt Fg),D4⟩) (JC:W.codeIn K vt "fibre_ends"=true) (kH:W.keepIn K (.ref fZ)=true) (dO:W.findIn K (.ref aK) "__init__"=some (some (.ref bB))) (zJ:K.lookup bB=some ⟨xG,xD,.func (W.fnOf "__init__" "Table.__init__" (aJ fK) (aH fK) (aA fK) .none xZ yp xq yO qd yt),wW⟩) (zV:W.codeIn K qd "Table.__init__"=true) (iS:W.keepIn K (.ref bB)=true) (fj:W.nsIn K mainGlobals "check_slant"=some (some (.ref fc))) (ES:K.lookup fc=some ⟨Cr,Cn,.func (W.fnOf "check_slant" "check_slant" (aJ jb) (aH jb) (aA jb) .none Dd Dr B5 DQ uf DA),BQ⟩) (Ft:W.codeIn K uf "check_slant"=true) (gC:W.keepIn K (.ref fc)=true) (cQ:W.findIn K (.ref aM) "__init__"=some (some (.ref bu))) (xW:K.lookup bu=some ⟨vW,vS,.func (W.fnOf "__init__" "Mirror.__init__" (aJ eG) (aH eG) (aA eG) .none wg wA vK wH pH wD),vH⟩) (yI:W.codeIn K pH "Mirror.__init__"=true) (gM:W.keepIn K (.ref bu)=true) (sd:W.nsIn K mainGlobals "under"=some (some (.ref rZ))) (afg:K.lookup rZ=some ⟨Z5,Z3,.func (W.fnOf "under" "under" (aJ wZ) (aH wZ) (aA wZ) .none aaM abz Zy abZ Mb abJ),Zc⟩) (afW:W.codeIn K Mb "under"=true) (uI:W.keepIn K (.ref rZ)=true) (fB:W.nsIn K mainGlobals "check_share"=some (some (.ref fh))) (EU:K.lookup fh=some ⟨Cu,Cp,.func (W.fnOf "check_share" "check_share" (aJ je) (aH je) (aA je) .none Df Dt B7 DS uh DC),BS⟩) (Fw:W.codeIn K uh "check_share"=true) (gD:W.keepIn K (.ref fh)=true) (eo:W.findIn K (.ref bL) "__init__"=some (some (.ref bS))) (AK:K.lookup bS=some ⟨zx,zw,.func (W.fnOf "__init__" "Half.__init__" (aJ gx) (aH gx) (aA gx) .none zM zP zd zY rA zR),za⟩) (A3:W.codeIn K rA "Half.__init__"=true) (jv:W.keepIn K (.ref bS)=true) (cR:W.findIn K (.ref aN) "__init__"=some (some (.ref bw))) (xX:K.lookup bw=some ⟨vX,vU,.func (W.fnOf "__init__" "Filter.__init__" (aJ eK) (aH eK) (aA eK) .none wj wB vL wI pI wF),vI⟩) (yJ:W.codeIn K pI "Filter.__init__"=true) (gO:W.keepIn K (.ref bw)=true) (gk:W.nsIn K mainGlobals "check_name"=some (some (.ref f9))) (IA:K.lookup f9=some ⟨Es,Em,.func (W.fnOf "check_name" "check_name" (aJ ki) (aH ki) (aA ki) .none EX E9 Eb FE vz Fi),D5⟩) (JD:W.codeIn K vz "check_name"=true) (kI:W.keepIn K (.ref f9)=true) (dQ:W.findIn K (.ref aR) "__init__"=some (some (.ref bC))) (zK:K.lookup bC=some ⟨xH,xE,.func (W.fnOf "__init__" "Fibre.__init__" (aJ fL) (aH fL) (aA fL) .none ya yq xu yP qe yu),wX⟩) (zW:W.codeIn K qe "Fibre.__init__"=true) (iT:W.keepIn K (.ref bC)=true) (pL:W.nsIn K mainGlobals "_law_cell"=some (some (.ref pC))) (aaC:K.lookup pC=some ⟨WY,WV,.func (W.fnOf "_law_cell" "_law_cell" (aJ sN) (aH sN) (aA sN) .none Xx X7 Wv Yt GD Yc),Wb⟩) (abV:W.codeIn K GD "_law_cell"=true) (o7:W.keepIn K (.ref pC)=true) (lO:W.nsIn K mainGlobals "_law_table"=some (some (.ref lG))) (Xi:K.lookup lG=some ⟨NC,Nt,.func (W.fnOf "_law_table" "_law_table" (aJ qO) (aH qO) (aA qO) .none N8 OF Nb O7 DH ON),MY⟩) (Yk:W.codeIn K DH "_law_table"=true) (q8:W.keepIn K (.ref lG)=true) (lR:W.nsIn K mainGlobals "_law_known"=some (some (.ref lJ))) (Xl:K.lookup lJ=some ⟨NG,Nx,.func (W.fnOf "_law_known" "_law_known" (aJ qR) (aH qR) (aA qR) .none Ob OI Ng Pa DK OQ),M3⟩) (Yn:W.codeIn K DK "_law_known"=true) (rj:W.keepIn K (.ref lJ)=true) (dX:W.findIn K (.ref aK) "height"=some (some (.ref b5))) (C8:K.lookup b5=some ⟨AD,AA,.func (W.fnOf "height" "Table.height" (aJ gW) (aH gW) (aA gW) .none AN AX Aw A6 sy A2),Au⟩) (DO:W.codeIn K sy "Table.height"=true) (g9:W.keepIn K (.ref b5)=true) (fC:W.findIn K (.ref aK) "width"=some (some (.ref cD))) (EV:K.lookup cD=some ⟨Cv,Cq,.func (W.fnOf "width" "Table.width" (aJ jf) (aH jf) (aA jf) .none Dg Du B8 DT um DE),BU⟩) (Fx:W.codeIn K um "Table.width"=true) (ji:W.keepIn K (.ref cD)=true) (b7:W.findIn K (.ref aK) "has_place"=some (some (.ref br))) (xV:K.lookup br=some ⟨vV,vR,.func (W.fnOf "has_place" "Table.has_place" (aJ eF) (aH eF) (aA eF) .none we wz vJ wG pG wC),vG⟩) (yH:W.codeIn K pG "Table.has_place"=true) (eT:W.keepIn K (.ref br)=true) (bJ:W.findIn K (.ref aK) "check_place"=some (some (.ref aT))) (uV:K.lookup aT=some ⟨tG,tF,.func (W.fnOf "check_place" "Table.check_place" (aJ cW) (aH cW) (aA cW) .none tT tZ sP uq ni uc),sJ⟩) (vd:W.codeIn K ni "Table.check_place"=true) (cX:W.keepIn K (.ref aT)=true) (iF:W.nsIn K mainGlobals "with_cell"=some (some (.ref iu))) (Lk:K.lookup iu=some ⟨HP,HE,.func (W.fnOf "with_cell" "with_cell" (aJ mJ) (aH mJ) (aA mJ) .none IG Jd G9 JL yx Jq),GV⟩) (Mh:W.codeIn K yx "with_cell"=true) (jK:W.keepIn K (.ref iu)=true) (iJ:W.nsIn K mainGlobals "_law_changed"=some (some (.ref iA))) (Lo:K.lookup iA=some ⟨HU,HK,.func (W.fnOf "_law_changed" "_law_changed" (aJ mQ) (aH mQ) (aA mQ) .none IL Jh Hi JP yD Ju),GZ⟩) (Mm:W.codeIn K yD "_law_changed"=true) (jM:W.keepIn K (.ref iA)=true) (iG:W.nsIn K mainGlobals "_law_refused"=some (some (.ref iw))) (Ll:K.lookup iw=some ⟨HQ,HG,.func (W.fnOf "_law_refused" "_law_refused" (aJ mK) (aH mK) (aA mK) .none II Je Hf JM yy Jr),GW⟩) (Mi:W.codeIn K yy "_law_refused"=true) (jL:W.keepIn K (.ref iw)=true) (cB:W.nsIn K mainGlobals "_law_fibres_alike"=some (some (.ref cA))) (zI:K.lookup cA=some ⟨xF,xC,.func (W.fnOf "_law_fibres_alike" "_law_fibres_alike" (aJ fJ) (aH fJ) (aA fJ) .none xY yo xo yN qc yr),wV⟩) (zU:W.codeIn K qc "_law_fibres_alike"=true) (fM:W.keepIn K (.ref cA)=true) (iN:W.findIn K (.ref aY) "row"=some (some (.ref eV))) (Lr:K.lookup eV=some ⟨HX,HN,.func (W.fnOf "row" "Empty.row" (aJ mT) (aH mT) (aA mT) .none IQ Jk Hq JS yG Jy),G2⟩) (Mq:W.codeIn K yG "Empty.row"=true) (m9:W.keepIn K (.ref eV)=true) (gq:W.findIn K (.ref aM) "row"=some (some (.ref c8))) (ID:K.lookup c8=some ⟨Eu,Eo,.func (W.fnOf "row" "Mirror.row" (aJ ko) (aH ko) (aA ko) .none EZ Fc Ed FG vB Fl),D7⟩) (JF:W.codeIn K vB "Mirror.row"=true) (kK:W.keepIn K (.ref c8)=true) (jG:W.findIn K (.ref bL) "row"=some (some (.ref gf))) (N6:K.lookup gf=some ⟨KS,KN,.func (W.fnOf "row" "Half.row" (aJ oS) (aH oS) (aA oS) .none Lw LW Kz Mu Aq L5),Kh⟩) (O5:W.codeIn K Aq "Half.row"=true) (o9:W.keepIn K (.ref gf)=true) (gu:W.findIn K (.ref aN) "row"=some (some (.ref c9))) (IF:K.lookup c9=some ⟨Ew,Ep,.func (W.fnOf "row" "Filter.row" (aJ kr) (aH kr) (aA kr) .none E2 Fd Ef FH vC Fo),D8⟩) (JG:W.codeIn K vC "Filter.row"=true) (kL:W.keepIn K (.ref c9)=true) (jF:W.findIn K (.ref bQ) "row"=some (some (.ref gc))) (N5:K.lookup gc=some ⟨KR,KL,.func (W.fnOf "row" "Wall.row" (aJ oR) (aH oR) (aA oR) .none Lv LV Ky Mt Ao L3),Kg⟩) (O4:W.codeIn K Ao "Wall.row"=true) (o8:W.keepIn K (.ref gc)=true) (iM:W.findIn K (.ref aR) "row"=some (some (.ref eU))) (Lq:K.lookup eU=some ⟨HW,HM,.func (W.fnOf "row" "Fibre.row" (aJ mS) (aH mS) (aA mS) .none IP Jj Ho JR yF Jw),G1⟩) (Mp:W.codeIn K yF "Fibre.row"=true) (m8:W.keepIn K (.ref eU)=true) (gn:W.findIn K (.ref aK) "rows"=some (some (.ref cZ))) (IB:K.lookup cZ=some ⟨Et,En,.func (W.fnOf "rows" "Table.rows" (aJ kj) (aH kj) (aA kj) .none EY Fb Ec FF vA Fj),D6⟩) (JE:W.codeIn K vA "Table.rows"=true) (kJ:W.keepIn K (.ref cZ)=true) (lQ:W.nsIn K mainGlobals "_law_right"=some (some (.ref lI))) (Xk:K.lookup lI=some ⟨NF,Nv,.func (W.fnOf "_law_right" "_law_right" (aJ qQ) (aH qQ) (aA qQ) .none Oa OH Nf O9 DJ OP),M0⟩) (Ym:W.codeIn K DJ "_law_right"=true) (oA:W.keepIn K (.ref lI)=true) (iH:W.nsIn K mainGlobals "_law_outside"=some (some (.ref iy))) (Lm:K.lookup iy=some ⟨HR,HH,.func (W.fnOf "_law_outside" "_law_outside" (aJ mO) (aH mO) (aA mO) .none IJ Jf Hg JN yz Js),GX⟩) (Mj:W.codeIn K yz "_law_outside"=true) (m5:W.keepIn K (.ref iy)=true) (Ar:W.nsIn K mainGlobals "law"=some (some (.ref Ak))) (alQ:K.lookup Ak=some ⟨ail,aik,.func (W.fnOf "law" "law" (aJ Ko) (aH Ko) (aA Ko) .none aiD ajd ahW ajo abO ajj),ahD⟩) (amr:W.codeIn K abO "law"=true) (Vp:W.keepIn K (.ref Ak)=true) (nN:W.nsIn K mainGlobals "ValueError"=some none) (UD:W.nsIn K mainGlobals "all"=some none) (mG:W.nsIn K mainGlobals "enumerate"=some none) (ez:W.nsIn K mainGlobals "isinstance"=some none) (iZ:W.nsIn K mainGlobals "len"=some none) (BA:W.nsIn K mainGlobals "list"=some none) (UC:W.nsIn K mainGlobals "max"=some none) (UB:W.nsIn K mainGlobals "min"=some none) (rE:W.nsIn K mainGlobals "range"=some none) (wL:W.nsIn K mainGlobals "tuple"=some none) (Ou:W.nsIn K mainGlobals "LETTERS"=some (some (.str "abcdefghijklmnopqrstuvwxyz" z7))) (AR:W.nsIn K mainGlobals "LONGEST_NAME"=some (some (.int 8 qJ))) (AQ:W.nsIn K mainGlobals "LONGEST_SIDE"=some (some (.int 16 qI))) (aiW:W.nsIn K mainGlobals "ONE"=some (some (.ref JY))) (aaD:K.lookup JY=some ⟨.type "tuple",NB,.seq [.int 1 aef,.int 1 aee].toArray NN,M6⟩) (afI:W.nsIn K mainGlobals "ZERO"=some (some (.ref DY))) (Xo:K.lookup DY=some ⟨.type "tuple",KP,.seq [.int 0 Y6,.int 1 Y5].toArray KW,Kl⟩) (ZH:W.plainGet K aY Str.empty=true) (aba:W.hasDictIn K aY=true) (Zx:W.plainOver K aY=true) (Zj:W.findIn K (.ref aY) "__setattr__"=some (some (.builtin "object.__setattr__"))) (XQ:W.findIn K (.ref aY) "__class__"=some (some (.builtin "object.__class__"))) (XM:W.mroIn K aY (.type "object")=some true) (aak:W.makesIn K aY=true) (aaG:W.keepIn K (.ref aY)=true) (aa0:W.findIn K (.ref aY) "__init__"=some (some (.builtin "object.__init__"))) (nX:W.findIn K (.ref aY) "row"=some (some (.ref eV))) (EL:W.findIn K (.ref aY) "ends"=some none) (EK:W.findIn K (.ref aY) "grid"=some none) (EJ:W.findIn K (.ref aY) "name"=some none) (CO:W.findIn K (.ref aY) "share"=some none) (CN:W.findIn K (.ref aY) "slant"=some none) (Wx:W.plainGet K aM Str.empty=true) (XU:W.hasDictIn K aM=true) (Wr:W.plainOver K aM=true) (We:W.findIn K (.ref aM) "__setattr__"=some (some (.builtin "object.__setattr__"))) (Oj:W.findIn K (.ref aM) "__class__"=some (some (.builtin "object.__class__"))) (Oh:W.mroIn K aM (.type "object")=some true) (W9:W.makesIn K aM=true) (Xr:W.keepIn K (.ref aM)=true) (XF:W.findIn K (.ref aM) "__init__"=some (some (.ref bu))) (mh:W.findIn K (.ref aM) "row"=some (some (.ref c8))) (CH:W.findIn K (.ref aM) "ends"=some none) (CG:W.findIn K (.ref aM) "grid"=some none) (CF:W.findIn K (.ref aM) "name"=some none) (AG:W.findIn K (.ref aM) "share"=some none) (AE:W.findIn K (.ref aM) "slant"=some none) (aeK:W.plainGet K bL Str.empty=true) (afF:W.hasDictIn K bL=true) (aeD:W.plainOver K bL=true) (aeo:W.findIn K (.ref bL) "__setattr__"=some (some (.builtin "object.__setattr__"))) (aa4:W.findIn K (.ref bL) "__class__"=some (some (.builtin "object.__class__"))) (aa2:W.mroIn K bL (.type "object")=some true) (afb:W.makesIn K bL=true) (afm:W.keepIn K (.ref bL)=true) (afy:W.findIn K (.ref bL) "__init__"=some (some (.ref bS))) (p8:W.findIn K (.ref bL) "row"=some (some (.ref gf))) (Ih:W.findIn K (.ref bL) "ends"=some none) (Ig:W.findIn K (.ref bL) "grid"=some none) (Ie:W.findIn K (.ref bL) "name"=some none) (EF:W.findIn K (.ref bL) "share"=some none) (ED:W.findIn K (.ref bL) "slant"=some none) (Wy:W.plainGet K aN Str.empty=true) (XW:W.hasDictIn K aN=true) (Ws:W.plainOver K aN=true) (Wg:W.findIn K (.ref aN) "__setattr__"=some (some (.builtin "object.__setattr__"))) (Ol:W.findIn K (.ref aN) "__class__"=some (some (.builtin "object.__class__"))) (Oi:W.mroIn K aN (.type "object")=some true) (Xa:W.makesIn K aN=true) (Xs:W.keepIn K (.ref aN)=true) (XG:W.findIn K (.ref aN) "__init__"=some (some (.ref bw))) (mj:W.findIn K (.ref aN) "row"=some (some (.ref c9))) (CK:W.findIn K (.ref aN) "ends"=some none) (CJ:W.findIn K (.ref aN) "grid"=some none) (CI:W.findIn K (.ref aN) "name"=some none) (AI:W.findIn K (.ref aN) "share"=some none) (AH:W.findIn K (.ref aN) "slant"=some none) (aeJ:W.plainGet K bQ Str.empty=true) (afE:W.hasDictIn K bQ=true) (aeC:W.plainOver K bQ=true) (aen:W.findIn K (.ref bQ) "__setattr__"=some (some (.builtin "object.__setattr__"))) (aa3:W.findIn K (.ref bQ) "__class__"=some (some (.builtin "object.__class__"))) (aa1:W.mroIn K bQ (.type "object")=some true) (afa:W.makesIn K bQ=true) (afl:W.keepIn K (.ref bQ)=true) (afx:W.findIn K (.ref bQ) "__init__"=some (some (.builtin "object.__init__"))) (p7:W.findIn K (.ref bQ) "row"=some (some (.ref gc))) (Ic:W.findIn K (.ref bQ) "ends"=some none) (Ib:W.findIn K (.ref bQ) "grid"=some none) (Ia:W.findIn K (.ref bQ) "name"=some none) (Ez:W.findIn K (.ref bQ) "share"=some none) (Ey:W.findIn K (.ref bQ) "slant"=some none) (ZG:W.plainGet K aR Str.empty=true) (aa9:W.hasDictIn K aR=true) (Zw:W.plainOver K aR=true) (Zi:W.findIn K (.ref aR) "__setattr__"=some (some (.builtin "object.__setattr__"))) (XO:W.findIn K (.ref aR) "__class__"=some (some (.builtin "object.__class__"))) (XJ:W.mroIn K aR (.type "object")=some true) (aaj:W.makesIn K aR=true) (aaF:W.keepIn K (.ref aR)=true) (aaZ:W.findIn K (.ref aR) "__init__"=some (some (.ref bC))) (nW:W.findIn K (.ref aR) "row"=some (some (.ref eU))) (EI:W.findIn K (.ref aR) "ends"=some none) (EH:W.findIn K (.ref aR) "grid"=some none) (EG:W.findIn K (.ref aR) "name"=some none) (CM:W.findIn K (.ref aR) "share"=some none) (CL:W.findIn K (.ref aR) "slant"=some none) (ZF:W.plainGet K aK Str.empty=true) (aa8:W.hasDictIn K aK=true) (Zv:W.plainOver K aK=true) (Zh:W.findIn K (.ref aK) "__setattr__"=some (some (.builtin "object.__setattr__"))) (XN:W.findIn K (.ref aK) "__class__"=some (some (.builtin "object.__class__"))) (XI:W.mroIn K aK (.type "object")=some true) (aai:W.makesIn K aK=true) (aaE:W.keepIn K (.ref aK)=true) (aaY:W.findIn K (.ref aK) "__init__"=some (some (.ref bB))) (lZ:W.findIn K (.ref aK) "rows"=some (some (.ref cZ))) (eO:W.findIn K (.ref aK) "check_place"=some (some (.ref aT))) (fW:W.findIn K (.ref aK) "has_place"=some (some (.ref br))) (ju:W.findIn K (.ref aK) "height"=some (some (.ref b5))) (kG:W.findIn K (.ref aK) "width"=some (some (.ref cD))) (EC:W.findIn K (.ref aK) "ends"=some none) (EB:W.findIn K (.ref aK) "grid"=some none) (EA:W.findIn K (.ref aK) "name"=some none) (CD:W.findIn K (.ref aK) "share"=some none) (CC:W.findIn K (.ref aK) "slant"=some none) (ic2:W.specialIn K (.builtin "object.__class__") "__get__"=some (some (.builtin "getset_descriptor.__get__"))) (ic3:W.takesIn K (.builtin "object.__class__")=some true) (nd:([aY,aM,bL,aN,bQ,aR,aK]:List Addr).Nodup) (yg:W.isFn K (.ref bB)=true) (wo:W.isFn K (.ref bu)=true) (zN:W.isFn K (.ref bS)=true) (wu:W.isFn K (.ref bw)=true) (yh:W.isFn K (.ref bC)=true) (AV:W.isFn K (.ref b5)=true) (Dk:W.isFn K (.ref cD)=true) (wm:W.isFn K (.ref br)=true) (tV:W.isFn K (.ref aT)=true) (IZ:W.isFn K (.ref eV)=true) (E5:W.isFn K (.ref c8)=true) (LN:W.isFn K (.ref gf)=true) (E6:W.isFn K (.ref c9)=true) (LL:W.isFn K (.ref gc)=true) (IY:W.isFn K (.ref eU)=true) (E4:W.isFn K (.ref cZ)=true) (qz:W.excIn K bI Yr "ValueError.__new__"=true) (XZ:W.findIn K (.ref bI) "__getattribute__"=some (some (.builtin "BaseException.__getattribute__"))) (XY:W.findIn K (.ref bI) "__getattr__"=some none) (Yj:W.findIn K (.ref bI) "__class__"=some (some (.builtin "object.__class__"))) (W8:W.mroIn K bI (.type "object")=some true) (Xe:W.subIn K (.ref bI) (.type "BaseException")=some true) (Yd:W.isClsIn K bI=true) (wk:W.exmOne K (.ref bI) (.ref dJ)=some true) (lq:W.excIn K aZ Yr "ValueError.__new__"=true) (Ov:W.findIn K (.ref aZ) "__getattribute__"=some (some (.builtin "BaseException.__getattribute__"))) (Oo:W.findIn K (.ref aZ) "__getattr__"=some none) (O1:W.findIn K (.ref aZ) "__class__"=some (some (.builtin "object.__class__"))) (NT:W.mroIn K aZ (.type "object")=some true) (NV:W.subIn K (.ref aZ) (.type "BaseException")=some true) (OW:W.isClsIn K aZ=true) (uW:W.exmOne K (.ref aZ) (.ref dJ)=some true) (uz:W.excIn K bf Yr "ValueError.__new__"=true) (Ox:W.findIn K (.ref bf) "__getattribute__"=some (some (.builtin "BaseException.__getattribute__"))) (Oq:W.findIn K (.ref bf) "__getattr__"=some none) (O2:W.findIn K (.ref bf) "__class__"=some (some (.builtin "object.__class__"))) (NU:W.mroIn K bf (.type "object")=some true) (NW:W.subIn K (.ref bf) (.type "BaseException")=some true) (OX:W.isClsIn K bf=true) (uX:W.exmOne K (.ref bf) (.ref dJ)=some true) (ik:isAll K mt [("NoCell",bI),("NoTable",aZ),("NoPlace",bf)] ([("Empty",(aY,[])),("Mirror",(aM,["slant"])),("Half",(bL,["slant","share"])),("Filter",(aN,["share"])),("Wall",(bQ,[])),("Fibre",(aR,["name"])),("Table",(aK,["grid","ends"]))]:rC) [(.ref aR,"Fibre"),(.ref aZ,"NoTable"),(.ref bf,"NoPlace"),(.ref lW,"Crossed"),(.ref bI,"NoCell"),(.type "ValueError","ValueError")]=true):
  ∃(cb:Cb) (fd:FuncData),(∀(s:Shared) (u:Value),BindsTo s fd ⟨[u],[]⟩ [("_law_script",u)])/\∀base:Heap,jR P w K mg base cb 8 fa fd ["_law_script"] DX:=by
 have e:fa=Ak:=Value.ref.inj (Option.some.inj (hfa.symm.trans (W.mg_of X G Ar)));rw[e];have bh:=aV (st:=mR) Lp Mn g7;have cI:=bh.binds (ps:=sW) λ _ _ _ _ _ _ us hl=>by obtain ⟨u0,u1,rfl⟩:=Iw hl;rfl
 have eu:=aV (st:=qT) Xn Yp gB;have dN:=eu.binds (ps:=zp) λ _ _ _ _ _ _ us hl=>by obtain ⟨u0,u1,u2,u3,rfl⟩:=Xg hl;rfl
 have cM:=aV (st:=mP) Ln Ml m6;have fS:=cM.binds (ps:=pW) λ _ _ _ _ _ _ us hl=>by obtain ⟨u0,u1,rfl⟩:=Iw hl;rfl
 have jS:=aV (st:=qP) Xj Yl oz;have iV:=jS.binds (ps:=zk) λ _ _ _ _ _ _ us hl=>by obtain ⟨u0,rfl⟩:=oZ hl;rfl
 have eZ:=aV (st:=w9) afh afX uJ;have gS:=eZ.binds (ps:=Ht) λ _ _ _ _ _ _ us hl=>by obtain ⟨u0,rfl⟩:=oZ hl;rfl
 have jT:=aV (st:=qS) Xm Yo rm;have jQ:=jT.binds (ps:=zo) λ _ _ _ _ _ _ us hl=>by obtain ⟨u0,u1,u2,rfl⟩:=Xh hl;rfl
 have iO:=aV (st:=oQ) N4 O3 o6;have iC:=iO.binds (ps:=vN) λ _ _ _ _ _ _ us hl=>by obtain ⟨u0,rfl⟩:=oZ hl;rfl
 have nk:=aV (st:=sM) aaB abU tS;have nj:=nk.binds (ps:=Ce) λ _ _ _ _ _ _ us hl=>by obtain ⟨u0,u1,u2,u3,rfl⟩:=Xg hl;rfl
 have dH:=aV (st:=jd) ET Fv jh;have dF:=dH.binds (ps:=qk) λ _ _ _ _ _ _ us hl=>by obtain ⟨u0,rfl⟩:=oZ hl;rfl
 have dY:=aV (st:=gU) C7 DN g8;have cJ:=dY.binds (ps:=oW) λ _ _ _ _ _ _ us hl=>by obtain ⟨u0,rfl⟩:=oZ hl;rfl
 have b9:=aV (st:=kh) Iz JC kH;have dg:=b9.binds (ps:=rJ) λ _ _ _ _ _ _ us hl=>by obtain ⟨u0,rfl⟩:=oZ hl;rfl
 have aW:=aV (st:=fK) zJ zV iS;have bF:=aW.binds (ps:=lC) λ _ _ _ _ _ _ us hl=>by obtain ⟨u0,u1,rfl⟩:=Iw hl;rfl
 have fD:=aV (st:=jb) ES Ft gC;have dD:=fD.binds (ps:=qj) λ _ _ _ _ _ _ us hl=>by obtain ⟨u0,rfl⟩:=oZ hl;rfl
 have cS:=aV (st:=eG) xW yI gM;have b6:=cS.binds (ps:=kB) λ _ _ _ _ _ _ us hl=>by obtain ⟨u0,u1,rfl⟩:=Iw hl;rfl
 have mF:=aV (st:=wZ) afg afW uI;have mE:=mF.binds (ps:=Hs) λ _ _ _ _ _ _ us hl=>by obtain ⟨u0,u1,rfl⟩:=Iw hl;rfl
 have dI:=aV (st:=je) EU Fw gD;have cF:=dI.binds (ps:=ql) λ _ _ _ _ _ _ us hl=>by obtain ⟨u0,rfl⟩:=oZ hl;rfl
 have cU:=aV (st:=gx) AK A3 jv;have cu:=cU.binds (ps:=nD) λ _ _ _ _ _ _ us hl=>by obtain ⟨u0,u1,u2,rfl⟩:=Xh hl;rfl
 have ck:=aV (st:=eK) xX yJ gO;have bN:=ck.binds (ps:=kC) λ _ _ _ _ _ _ us hl=>by obtain ⟨u0,u1,rfl⟩:=Iw hl;rfl
 have gw:=aV (st:=ki) IA JD kI;have eX:=gw.binds (ps:=rK) λ _ _ _ _ _ _ us hl=>by obtain ⟨u0,rfl⟩:=oZ hl;rfl
 have bH:=aV (st:=fL) zK zW iT;have bG:=bH.binds (ps:=lD) λ _ _ _ _ _ _ us hl=>by obtain ⟨u0,u1,rfl⟩:=Iw hl;rfl
 have b8:=aV (st:=sN) aaC abV o7;have dU:=b8.binds (ps:=Cg) λ _ _ _ _ _ _ us hl=>by obtain ⟨u0,rfl⟩:=oZ hl;rfl
 have lU:=aV (st:=qO) Xi Yk q8;have jO:=lU.binds (ps:=zj) λ _ _ _ _ _ _ us hl=>by obtain ⟨u0,rfl⟩:=oZ hl;rfl
 have lV:=aV (st:=qR) Xl Yn rj;have jP:=lV.binds (ps:=zm) λ _ _ _ _ _ _ us hl=>by obtain ⟨u0,rfl⟩:=oZ hl;rfl
 have dZ:=aV (st:=gW) C8 DO g9;have cK:=dZ.binds (ps:=ku) λ _ _ _ _ _ _ us hl=>by obtain ⟨u0,rfl⟩:=oZ hl;rfl
 have fE:=aV (st:=jf) EV Fx ji;have dG:=fE.binds (ps:=lY) λ _ _ _ _ _ _ us hl=>by obtain ⟨u0,rfl⟩:=oZ hl;rfl
 have cj:=aV (st:=eF) xV yH eT;have bM:=cj.binds (ps:=gJ) λ _ _ _ _ _ _ us hl=>by obtain ⟨u0,u1,u2,rfl⟩:=Xh hl;rfl
 have bK:=aV (st:=cW) uV vd cX;have bg:=bK.binds (ps:=fF) λ _ _ _ _ _ _ us hl=>by obtain ⟨u0,u1,u2,rfl⟩:=Xh hl;rfl
 have bA:=aV (st:=mJ) Lk Mh jK;have dw:=bA.binds (ps:=sR) λ _ _ _ _ _ _ us hl=>by obtain ⟨u0,u1,u2,u3,rfl⟩:=Xg hl;rfl
 have cy:=aV (st:=mQ) Lo Mm jM;have dB:=cy.binds (ps:=sV) λ _ _ _ _ _ _ us hl=>by obtain ⟨u0,u1,u2,u3,rfl⟩:=Xg hl;rfl
 have cL:=aV (st:=mK) Ll Mi jL;have dz:=cL.binds (ps:=sS) λ _ _ _ _ _ _ us hl=>by obtain ⟨u0,u1,rfl⟩:=Iw hl;rfl
 have bY:=aV (st:=fJ) zI zU fM;have bX:=bY.binds (ps:=lA) λ _ _ _ _ _ _ us hl=>by obtain ⟨u0,u1,u2,u3,rfl⟩:=Xg hl;rfl
 have nu:=aV (st:=mT) Lr Mq m9;have iE:=nu.binds (ps:=pY) λ _ _ _ _ _ _ us hl=>by obtain ⟨u0,rfl⟩:=oZ hl;rfl
 have kZ:=aV (st:=ko) ID JF kK;have gg:=kZ.binds (ps:=nT) λ _ _ _ _ _ _ us hl=>by obtain ⟨u0,rfl⟩:=oZ hl;rfl
 have pO:=aV (st:=oS) N6 O5 o9;have jD:=pO.binds (ps:=rM) λ _ _ _ _ _ _ us hl=>by obtain ⟨u0,rfl⟩:=oZ hl;rfl
 have k6:=aV (st:=kr) IF JG kL;have gh:=k6.binds (ps:=nU) λ _ _ _ _ _ _ us hl=>by obtain ⟨u0,rfl⟩:=oZ hl;rfl
 have pN:=aV (st:=oR) N5 O4 o8;have jC:=pN.binds (ps:=rL) λ _ _ _ _ _ _ us hl=>by obtain ⟨u0,rfl⟩:=oZ hl;rfl
 have nq:=aV (st:=mS) Lq Mp m8;have iD:=nq.binds (ps:=pX) λ _ _ _ _ _ _ us hl=>by obtain ⟨u0,rfl⟩:=oZ hl;rfl
 have cG:=aV (st:=kj) IB JE kJ;have eY:=cG.binds (ps:=nS) λ _ _ _ _ _ _ us hl=>by obtain ⟨u0,rfl⟩:=oZ hl;rfl
 have iY:=aV (st:=qQ) Xk Ym oA;have gG:=iY.binds (ps:=zl) λ _ _ _ _ _ _ us hl=>by obtain ⟨u0,u1,u2,u3,u4,rfl⟩:=apN hl;rfl
 have iP:=aV (st:=mO) Lm Mj m5;have fR:=iP.binds (ps:=sU) λ _ _ _ _ _ _ us hl=>by obtain ⟨u0,u1,u2,rfl⟩:=Xh hl;rfl
 have DX:=aV (st:=Ko) alQ amr Vp;have DP:=DX.binds (ps:=ZS) λ _ _ _ _ _ _ us hl=>by obtain ⟨u0,rfl⟩:=oZ hl;rfl
 have VI:XT K bI:=⟨XZ,XY,Yj,W8,Xe,Yd⟩;have MF:XT K aZ:=⟨Ov,Oo,O1,NT,NV,OW⟩;have MG:XT K bf:=⟨Ox,Oq,O2,NU,NW,OX⟩;have jo:zZ K aY:=⟨ZH,aba,Zx,Zj⟩;have gE:zZ K aM:=⟨Wx,XU,Wr,We⟩;have mC:zZ K bL:=⟨aeK,afF,aeD,aeo⟩;have gF:zZ K aN:=⟨Wy,XW,Ws,Wg⟩;have mz:zZ K bQ:=⟨aeJ,afE,aeC,aen⟩;have jn:zZ K aR:=⟨ZG,aa9,Zw,Zi⟩;have eW:zZ K aK:=⟨ZF,aa8,Zv,Zh⟩;let M:Tx K mg (abP [("NoCell",bI),("NoTable",aZ),("NoPlace",bf)] ([("Empty",(aY,[])),("Mirror",(aM,["slant"])),("Half",(bL,["slant","share"])),("Filter",(aN,["share"])),("Wall",(bQ,[])),("Fibre",(aR,["name"])),("Table",(aK,["grid","ends"]))]:rC)):={
  iK:=iB,oj:=_,g7:=g7,iB:=bh,cI:=cI,
  p9:=W.mg_of X G iK,
  lT:=lM,rY:=_,gB:=gB,lM:=eu,dN:=dN,
  lF:=W.mg_of X G lT,
  iI:=iz,oh:=_,m6:=m6,iz:=cM,fS:=fS,
  Ad:=W.mg_of X G iI,
  lP:=lH,rT:=_,oz:=oz,lH:=jS,iV:=iV,
  zF:=W.mg_of X G lP,
  sf:=r6,yl:=_,uJ:=uJ,r6:=eZ,gS:=gS,
  Iu:=W.mg_of X G sf,
  lS:=lK,rX:=_,rm:=rm,lK:=jT,jQ:=jQ,
  F8:=W.mg_of X G lS,
  jE:=jB,qa:=_,o6:=o6,jB:=iO,iC:=iC,
  C3:=W.mg_of X G jE,
  pK:=pB,uN:=_,tS:=tS,pB:=nk,nj:=nj,
  Le:=W.mg_of X G pK,
  fq:=ff,kP:=_,jh:=jh,ff:=dH,dF:=dF,
  vh:=W.mg_of X G fq,
  dW:=dS,jw:=_,g8:=g8,dS:=dY,cJ:=cJ,
  tP:=W.mg_of X G dW,
  gj:=fZ,mq:=_,kH:=kH,fZ:=b9,dg:=dg,
  xS:=W.mg_of X G gj,
  dO:=bB,gQ:=_,iS:=iS,bB:=aW,bF:=bF,
  fj:=fc,kO:=_,gC:=gC,fc:=fD,dD:=dD,
  qm:=W.mg_of X G fj,
  cQ:=bu,fX:=_,gM:=gM,bu:=cS,b6:=b6,
  sd:=rZ,yj:=_,uI:=uI,rZ:=mF,mE:=mE,
  Ir:=W.mg_of X G sd,
  fB:=fh,kQ:=_,gD:=gD,fh:=dI,cF:=cF,
  qo:=W.mg_of X G fB,
  eo:=bS,iU:=_,jv:=jv,bS:=cU,cu:=cu,
  cR:=bw,fY:=_,gO:=gO,bw:=ck,bN:=bN,
  gk:=f9,mw:=_,kI:=kI,f9:=gw,eX:=eX,
  xT:=W.mg_of X G gk,
  dQ:=bC,gR:=_,iT:=iT,bC:=bH,bG:=bG,
  pL:=pC,uO:=_,o7:=o7,pC:=b8,dU:=dU,
  xR:=W.mg_of X G pL,
  lO:=lG,rS:=_,q8:=q8,lG:=lU,jO:=jO,
  F6:=W.mg_of X G lO,
  lR:=lJ,rW:=_,rj:=rj,lJ:=lV,jP:=jP,
  F7:=W.mg_of X G lR,
  dX:=b5,gy:=_,g9:=g9,b5:=dZ,cK:=cK,
  fC:=cD,ir:=_,ji:=ji,cD:=fE,dG:=dG,
  b7:=br,dR:=_,eT:=eT,br:=cj,bM:=bM,
  bJ:=aT,cH:=_,cX:=cX,aT:=bK,bg:=bg,
  iF:=iu,n5:=_,jK:=jK,iu:=bA,dw:=dw,
  tM:=W.mg_of X G iF,
  iJ:=iA,oi:=_,jM:=jM,iA:=cy,dB:=dB,
  tO:=W.mg_of X G iJ,
  iG:=iw,n6:=_,jL:=jL,iw:=cL,dz:=dz,
  tN:=W.mg_of X G iG,
  cB:=cA,gP:=_,fM:=fM,cA:=bY,bX:=bX,
  qZ:=W.mg_of X G cB,
  iN:=eV,kT:=_,m9:=m9,eV:=nu,iE:=iE,
  gq:=c8,jk:=_,kK:=kK,c8:=kZ,gg:=gg,
  jG:=gf,nh:=_,o9:=o9,gf:=pO,jD:=jD,
  gu:=c9,jl:=_,kL:=kL,c9:=k6,gh:=gh,
  jF:=gc,ng:=_,o8:=o8,gc:=pN,jC:=jC,
  iM:=eU,kR:=_,m8:=m8,eU:=nq,iD:=iD,
  gn:=cZ,jj:=_,kJ:=kJ,cZ:=cG,eY:=eY,
  lQ:=lI,rV:=_,oA:=oA,lI:=iY,gG:=gG,
  zG:=W.mg_of X G lQ,
  iH:=iy,n9:=_,m5:=m5,iy:=iP,fR:=fR,
  Ac:=W.mg_of X G iH,
  Ar:=Ak,Ja:=_,Vp:=Vp,Ak:=DX,DP:=DP,
  alN:=W.mg_of X G Ar,
  nN:=W.mg_none_of X G nN,
  UD:=W.mg_none_of X G UD,
  mG:=W.mg_none_of X G mG,
  ez:=W.mg_none_of X G ez,
  iZ:=W.mg_none_of X G iZ,
  BA:=W.mg_none_of X G BA,
  UC:=W.mg_none_of X G UC,
  UB:=W.mg_none_of X G UB,
  rE:=W.mg_none_of X G rE,
  wL:=W.mg_none_of X G wL,
  yY:=(.str "abcdefghijklmnopqrstuvwxyz" z7),FO:=W.mg_of X G Ou,Gp:=afG,
  oN:=(.int 8 qJ),sG:=W.mg_of X G AR,tU:=uM,
  oM:=(.int 16 qI),oK:=W.mg_of X G AQ,pA:=uM,
  Y0:=(.ref JY),aga:=W.mg_of X G aiW,ags:=(Vy aaD (by simp) (uL uM (uL uM LF))),
  MP:=(.ref DY),YY:=W.mg_of X G afI,abd:=(Vy Xo (by simp) (uL uM (uL uM LF))),
  dJ:=dJ,Aj:=W.mg_of X G LR,
  bI:=bI,LG:=W.mg_of X G LQ,
  aZ:=aZ,Gm:=W.mg_of X G Gx,
  bf:=bf,Gn:=W.mg_of X G Gy,
  lW:=lW,Gq:=W.mg_of X G X5,
  aY:=aY,IW:=W.mg_of X G afQ,
  aM:=aM,LH:=W.mg_of X G abp,
  bL:=bL,abf:=W.mg_of X G ajb,
  aN:=aN,LJ:=W.mg_of X G abq,
  bQ:=bQ,abe:=W.mg_of X G aja,
  aR:=aR,Bs:=W.mg_of X G afP,
  aK:=aK,IV:=W.mg_of X G afO,
  Bc:=rfl,ae9:=rfl,jo:=jo,
  CY:=⟨aak,aa0,aaG⟩,
  nX:=⟨nX,IZ,m9⟩,
  BZ:=rfl,K4:=rfl,gE:=gE,
  F4:=⟨W9,XF,wo,Xr⟩,
  mh:=⟨mh,E5,kK⟩,
  Na:=rfl,aac:=rfl,mC:=mC,
  Vi:=⟨afb,afy,zN,afm⟩,
  p8:=⟨p8,LN,o9⟩,
  B0:=rfl,K5:=rfl,gF:=gF,
  F5:=⟨Xa,XG,wu,Xs⟩,
  mj:=⟨mj,E6,kL⟩,
  M9:=rfl,aiq:=rfl,mz:=mz,
  Vh:=⟨afa,afx,afl⟩,
  p7:=⟨p7,LL,o8⟩,
  Bb:=rfl,Ip:=rfl,jn:=jn,
  CW:=⟨aaj,aaZ,yh,aaF⟩,
  nW:=⟨nW,IY,m8⟩,
  pV:=rfl,Il:=rfl,eW:=eW,
  CV:=⟨aai,aaY,yg,aaE⟩,
  lZ:=⟨lZ,E4,kJ⟩,
  eO:=⟨eO,tV,cX⟩,
  fW:=⟨fW,wm,eT⟩,
  ju:=⟨ju,AV,g9⟩,
  kG:=⟨kG,Dk,ji⟩,
  ft:=afJ nd,
  VA:=LP (aE ⟨jo,EL⟩ (aE ⟨gE,CH⟩ (aE ⟨mC,Ih⟩ (aE ⟨gF,CK⟩ (aE ⟨mz,Ic⟩ (aE ⟨jn,EI⟩ (aE ⟨eW,EC⟩ gH))))))),
  qb:=LP (aE ⟨jo,EK⟩ (aE ⟨gE,CG⟩ (aE ⟨mC,Ig⟩ (aE ⟨gF,CJ⟩ (aE ⟨mz,Ib⟩ (aE ⟨jn,EH⟩ (aE ⟨eW,EB⟩ gH))))))),
  Bt:=LP (aE ⟨jo,EJ⟩ (aE ⟨gE,CF⟩ (aE ⟨mC,Ie⟩ (aE ⟨gF,CI⟩ (aE ⟨mz,Ia⟩ (aE ⟨jn,EG⟩ (aE ⟨eW,EA⟩ gH))))))),
  tX:=LP (aE ⟨jo,CO⟩ (aE ⟨gE,AG⟩ (aE ⟨mC,EF⟩ (aE ⟨gF,AI⟩ (aE ⟨mz,Ez⟩ (aE ⟨jn,CM⟩ (aE ⟨eW,CD⟩ gH))))))),
  tW:=LP (aE ⟨jo,CN⟩ (aE ⟨gE,AE⟩ (aE ⟨mC,ED⟩ (aE ⟨gF,AH⟩ (aE ⟨mz,Ey⟩ (aE ⟨jn,CL⟩ (aE ⟨eW,CC⟩ gH))))))),
  qz:=⟨W.mg_of X G LQ,qz,rfl⟩,
  lq:=⟨W.mg_of X G Gx,lq,rfl⟩,
  uz:=⟨W.mg_of X G Gy,uz,rfl⟩,
  Ai:=λ c C b hc hb=>abl (E:=[("NoCell",bI),("NoTable",aZ),("NoPlace",bf)]) (P:=λ c C=>∀b,Ah mt "BeamError" c=some b->W.exmOne K (.ref C) (.ref dJ)=some b) (aE (hb1 (show Ah mt "BeamError" "NoCell"=some true from by decide) wk) (aE (hb1 (show Ah mt "BeamError" "NoTable"=some true from by decide) uW) (aE (hb1 (show Ah mt "BeamError" "NoPlace"=some true from by decide) uX) gH))) hc b hb,
  xt:=⟨λ c C hc _=>abl (E:=[("NoCell",bI),("NoTable",aZ),("NoPlace",bf)]) (P:=λ _ C=>XT K C) (aE VI (aE MF (aE MG gH))) hc,λ c C ns hc=>aiK (T:=([("Empty",(aY,[])),("Mirror",(aM,["slant"])),("Half",(bL,["slant","share"])),("Filter",(aN,["share"])),("Wall",(bQ,[])),("Fibre",(aR,["name"])),("Table",(aK,["grid","ends"]))]:rC)) (P:=λ _ C=>IC K C) (aE ⟨jo,XQ,ic2,ic3,XM⟩ (aE ⟨gE,Oj,ic2,ic3,Oh⟩ (aE ⟨mC,aa4,ic2,ic3,aa2⟩ (aE ⟨gF,Ol,ic2,ic3,Oi⟩ (aE ⟨mz,aa3,ic2,ic3,aa1⟩ (aE ⟨jn,XO,ic2,ic3,XJ⟩ (aE ⟨eW,XN,ic2,ic3,XI⟩ gH))))))) hc⟩,
  Vx:=Xz ik (.head _),
  Gi:=Xz ik (.tail _ (.head _)),
  Gj:=Xz ik (.tail _ (.tail _ (.head _))),
  Gk:=Xz ik (.tail _ (.tail _ (.tail _ (.head _)))),
  LA:=Xz ik (.tail _ (.tail _ (.tail _ (.tail _ (.head _))))),
  yd:=Xz ik (.tail _ (.tail _ (.tail _ (.tail _ (.tail _ (.head _))))))}
 refine ⟨(abP [("NoCell",bI),("NoTable",aZ),("NoPlace",bf)] ([("Empty",(aY,[])),("Mirror",(aM,["slant"])),("Half",(bL,["slant","share"])),("Filter",(aN,["share"])),("Wall",(bQ,[])),("Fibre",(aR,["name"])),("Table",(aK,["grid","ends"]))]:rC)),_,?_,λ base=>aij M⟩;exact λ s v=> .of_eq rfl
end K38
end
open PySem PySem.W PyProof.Rows
theorem PySem.Challenge.cw_beamtable_k38_with_cell_holds : PySem.Challenge.rw_beamtable_k38_with_cell.Holds := by
 refine KO.looked λ said=>?_
 refine W.holds_openX (q:=W.view PySem.Challenge.pw_beamtable_k38_with_cell [49]) (loose:=KO.LZ) (Xt:=λ _=>true) (XP:=λ _ _=>True) (Yf:=W.X.obsZ KO.AF)
  (Ya:=W.X.valZ KO.KF 545 879) (N:=9112) KO.hl (λ _ _=>trivial) (λ _ _ _ _ _=>trivial) (by rfl) (by rfl) (by rfl)
  (λ _ _=>W.recFacts_nil rfl) (by rfl) said (by decide+kernel) ⟨rfl,rfl,rfl,rfl,rfl,by decide+kernel⟩ ?hw ?hc
 case hw=>w_witness2
 k_fill
 refine L4.walkZ (l:=PySem.Challenge.rw_beamtable_k38_with_cell) (k:=8) rfl rfl (by decide) (by decide) (λ _=>by kernel_rfl) ?F K38.aax
 case F=>
  intro w mg fa h KX G hmg
  apply K38.all_mk KX G hmg
  any_goals first|k_is|kernel_rfl|decide
