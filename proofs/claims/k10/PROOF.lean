import PyProof.Rows.All
import Wide.All
import OpenK.AllK
import Wide.FinOn
import Lean
import PyProof.EqAt
import PyProof.EqKinds
import PyProof.TupleCall
import PyProof.P3Statements
import PyProof.NoPylong
import PySem.Builtin.Int.W1All
import PyProof.StrBlockI
import KE.KSortTup
import PyProof.EnumMake
import PyProof.Draws
import KE.KSortAsk
import KE.KItemsList
import PySem.Challenge.RW_beamtable_k10_passes
set_option Elab.async false
set_option linter.all false
set_option maxRecDepth 100000
set_option maxHeartbeats 0
set_option exponentiation.threshold 10000
noncomputable section
section
def KO.looked(h:PySem.Challenge.rw_beamtable_k10_passes.row.wellSaid=true->PySem.Challenge.rw_beamtable_k10_passes.row.Holds):PySem.Challenge.rw_beamtable_k10_passes.Holds:=by w_on;o_law;exact h (by assumption)
namespace KO
open PySem PySem.W PySem.Calls
noncomputable abbrev pq:Program:=W.Fast.tw8672299788683738659
def bE:List Stmt:=behindTheImports pq
noncomputable def g0(l:List Stmt)(i:Nat):Stmt:=(List.drop i l).headD (.Pass ⟨0,0,0,0⟩)
def g1(i:Nat):Stmt:=g0 pq.main.body i
noncomputable def gb:Stmt->List Stmt| .ClassDef _ _ _ b _ _ _ _ _ _ _=>b| .FunctionDef _ _ b _ _ _ _ _ _ _=>b|_=>[]
def g2(i j:Nat):Stmt:=g0 (gb (g1 i)) j
def fo(s:Stmt)(q:Str)(g:Addr)(cl:List (Str×Addr))(d kd doc md:Value)(an:Option Addr)(code ct:Value)(b:Addr):Data:=match s with| .FunctionDef n a bd _ _ _ sc _ _ _=> .func ⟨n,q,a,.stmts bd,sc,g,cl,d,kd,doc,md,an,code,ct,b⟩|_=> .plain
def e(P:Params)(s:Str)(t:Nat)(v:Value):DictEntry:=⟨PySem.PyData.keyHash P s,.str s t,v⟩
def ud(o:Obj)(ch:List (Nat×DictEntry))(m:List DictEntry)(n:Nat):Obj:=match o with|⟨c,d,.dict es _,s⟩=>⟨c,d,.dict ⟨(ch.foldl (λ l p=>l.set p.1 p.2) es.toList)++m⟩ n,s⟩|o=>o
noncomputable abbrev r(a:Nat):Value:= .ref a
noncomputable abbrev z:Value:= .int 0 0
noncomputable abbrev v:Value:= .none
noncomputable abbrev s(x:Str)(t:Nat):Value:= .str x t
noncomputable abbrev y(x:String):Value:= .type x
noncomputable abbrev F(c:Value)(xs:Array Value):Obj:=⟨c,none,.fields xs, #[]⟩
noncomputable abbrev Q(c:Value)(xs:Array Value):Obj:=⟨c,none,.seq xs 0, #[]⟩
noncomputable abbrev lf:Life:=⟨[],[],[],0,[],[],false, #[],[],0,false,false,false,0,[2000,10,10],false,0,true,[],[],0,false⟩
noncomputable abbrev I:=BT.ins
noncomputable def x0:Str:=⟨⟨[60,109,111,100,117,108,101,62]⟩⟩
noncomputable def x1:Str:=⟨⟨[47,99,108,97,105,109,47,99,117,116,46,112,121]⟩⟩
noncomputable def x2:Str:=⟨⟨[95,95,109,97,105,110,95,95]⟩⟩
noncomputable def x3:Str:=⟨⟨[95,95,110,97,109,101,95,95]⟩⟩
noncomputable def x4:Str:=⟨⟨[98,101,97,109,116,97,98,108,101,46,101,114,114,111,114,115]⟩⟩
noncomputable def x5:Str:=⟨⟨[95,119,97,108,108]⟩⟩
noncomputable def x6:Str:=⟨⟨[66,101,97,109,69,114,114,111,114]⟩⟩
noncomputable def x7:Str:=⟨⟨[107]⟩⟩
noncomputable def x8:Str:=⟨⟨[95,95,109,111,100,117,108,101,95,95]⟩⟩
noncomputable def x9:Str:=⟨⟨[95,95,113,117,97,108,110,97,109,101,95,95]⟩⟩
noncomputable def DV:Str:=⟨⟨[95,95,102,105,114,115,116,108,105,110,101,110,111,95,95]⟩⟩
noncomputable def DT:Str:=⟨⟨[95,95,115,116,97,116,105,99,95,97,116,116,114,105,98,117,116,101,115,95,95]⟩⟩
noncomputable def x12:Str:=⟨⟨[95,95,119,101,97,107,114,101,102,95,95]⟩⟩
noncomputable def Yp:Str:=⟨⟨[95,95,100,111,99,95,95]⟩⟩
noncomputable def x14:Str:=⟨⟨[78,111,67,101,108,108]⟩⟩
noncomputable def x15:Str:=⟨⟨[78,111,84,97,98,108,101]⟩⟩
noncomputable def x16:Str:=⟨⟨[78,111,80,108,97,99,101]⟩⟩
noncomputable def Yn:Str:=⟨⟨[98,101,97,109,116,97,98,108,101,46,112,97,115,115,101,115]⟩⟩
noncomputable def x18:Str:=⟨⟨[78,111,80,97,115,115]⟩⟩
noncomputable def x19:Str:=⟨⟨[90,69,82,79]⟩⟩
noncomputable def x20:Str:=⟨⟨[79,78,69]⟩⟩
noncomputable def x21:Str:=⟨⟨[69,65,83,84]⟩⟩
noncomputable def x22:Str:=⟨⟨[78,79,82,84,72]⟩⟩
noncomputable def x23:Str:=⟨⟨[87,69,83,84]⟩⟩
noncomputable def x24:Str:=⟨⟨[87,65,89,83]⟩⟩
noncomputable def x25:Str:=⟨⟨[111,112,112,111,115,105,116,101]⟩⟩
noncomputable def x26:Str:=⟨⟨[98,101,121,111,110,100]⟩⟩
noncomputable def x27:Str:=⟨⟨[98,97,99,107,95,111,102]⟩⟩
noncomputable def x28:Str:=⟨⟨[119,97,121]⟩⟩
noncomputable def x29:Str:=⟨⟨[98,101,97,109,116,97,98,108,101,46,119,97,121,115]⟩⟩
noncomputable def x30:Str:=⟨⟨[120]⟩⟩
noncomputable def x31:Str:=⟨⟨[121]⟩⟩
noncomputable def x32:Str:=⟨⟨[112]⟩⟩
noncomputable def x33:Str:=⟨⟨[98,101,104,105,110,100]⟩⟩
noncomputable def uT:Str:=⟨⟨[98,101,97,109,116,97,98,108,101,46,99,101,108,108,115]⟩⟩
noncomputable def x35:Str:=⟨⟨[99,111,109,101,115,95,105,110]⟩⟩
noncomputable def x36:Str:=⟨⟨[99,111,109,101,115,95,111,117,116]⟩⟩
noncomputable def x37:Str:=⟨⟨[99,104,101,99,107,95,112,97,115,115]⟩⟩
noncomputable def x38:Str:=⟨⟨[112,97,115,115,101,115,95,105,110]⟩⟩
noncomputable def x39:Str:=⟨⟨[105,110,108,101,116,115]⟩⟩
noncomputable def x40:Str:=⟨⟨[111,117,116,108,101,116,115]⟩⟩
noncomputable def x41:Str:=⟨⟨[97,108,108,95,112,97,115,115,101,115]⟩⟩
noncomputable def x42:Str:=⟨⟨[108,101,97,118,105,110,103]⟩⟩
noncomputable def x43:Str:=⟨⟨[103,111,101,115,95,111,110]⟩⟩
noncomputable def x44:Str:=⟨⟨[115,119,97,108,108,111,119,101,100,95,97,116]⟩⟩
noncomputable def x45:Str:=⟨⟨[76,69,84,84,69,82,83]⟩⟩
noncomputable def x46:Str:=⟨⟨[97,98,99,100,101,102,103,104,105,106,107,108,109,110,111,112,113,114,115,116,117,118,119,120,121,122]⟩⟩
noncomputable def x47:Str:=⟨⟨[76,79,78,71,69,83,84,95,78,65,77,69]⟩⟩
noncomputable def x48:Str:=⟨⟨[99,104,101,99,107,95,115,108,97,110,116]⟩⟩
noncomputable def x49:Str:=⟨⟨[99,104,101,99,107,95,110,97,109,101]⟩⟩
noncomputable def x50:Str:=⟨⟨[116,97,98,108,101]⟩⟩
noncomputable def x51:Str:=⟨⟨[112,108,97,99,101]⟩⟩
noncomputable def x52:Str:=⟨⟨[116,104,101,114,101]⟩⟩
noncomputable def x53:Str:=⟨⟨[115,108,97,110,116]⟩⟩
noncomputable def Ag:Str:=⟨⟨[67,101,108,108]⟩⟩
noncomputable def x55:Str:=⟨⟨[108,101,97,100,115]⟩⟩
noncomputable def x56:Str:=⟨⟨[115,119,97,108,108,111,119,115]⟩⟩
noncomputable def x57:Str:=⟨⟨[116,117,114,110,101,100]⟩⟩
noncomputable def G1:Str:=⟨⟨[115,101,108,102]⟩⟩
noncomputable def x59:Str:=⟨⟨[67,101,108,108,46,108,101,97,100,115]⟩⟩
noncomputable def x60:Str:=⟨⟨[67,101,108,108,46,115,119,97,108,108,111,119,115]⟩⟩
noncomputable def x61:Str:=⟨⟨[67,101,108,108,46,116,117,114,110,101,100]⟩⟩
noncomputable def x62:Str:=⟨⟨[95,95,100,105,99,116,95,95]⟩⟩
noncomputable def x63:Str:=⟨⟨[69,109,112,116,121]⟩⟩
noncomputable def Yg:Str:=⟨⟨[114,111,119]⟩⟩
noncomputable def x65:Str:=⟨⟨[69,109,112,116,121,46,114,111,119]⟩⟩
noncomputable def x66:Str:=⟨⟨[77,105,114,114,111,114]⟩⟩
noncomputable def x67:Str:=⟨⟨[95,95,105,110,105,116,95,95]⟩⟩
noncomputable def x68:Str:=⟨⟨[77,105,114,114,111,114,46,95,95,105,110,105,116,95,95]⟩⟩
noncomputable def x69:Str:=⟨⟨[77,105,114,114,111,114,46,114,111,119]⟩⟩
noncomputable def x70:Str:=⟨⟨[77,105,114,114,111,114,46,108,101,97,100,115]⟩⟩
noncomputable def x71:Str:=⟨⟨[77,105,114,114,111,114,46,116,117,114,110,101,100]⟩⟩
noncomputable def x72:Str:=⟨⟨[87,97,108,108]⟩⟩
noncomputable def x73:Str:=⟨⟨[87,97,108,108,46,114,111,119]⟩⟩
noncomputable def x74:Str:=⟨⟨[87,97,108,108,46,108,101,97,100,115]⟩⟩
noncomputable def x75:Str:=⟨⟨[87,97,108,108,46,115,119,97,108,108,111,119,115]⟩⟩
noncomputable def LQ:Str:=⟨⟨[98,101,97,109,116,97,98,108,101,46,116,97,98,108,101,115]⟩⟩
noncomputable def x77:Str:=⟨⟨[70,105,98,114,101]⟩⟩
noncomputable def x78:Str:=⟨⟨[76,79,78,71,69,83,84,95,83,73,68,69]⟩⟩
noncomputable def x79:Str:=⟨⟨[99,104,101,99,107,95,115,105,100,101,115]⟩⟩
noncomputable def x80:Str:=⟨⟨[102,105,98,114,101,95,112,108,97,99,101,115]⟩⟩
noncomputable def x81:Str:=⟨⟨[102,105,98,114,101,95,101,110,100,115]⟩⟩
noncomputable def x82:Str:=⟨⟨[110,97,109,101]⟩⟩
noncomputable def x83:Str:=⟨⟨[70,105,98,114,101,46,95,95,105,110,105,116,95,95]⟩⟩
noncomputable def x84:Str:=⟨⟨[70,105,98,114,101,46,114,111,119]⟩⟩
noncomputable def x85:Str:=⟨⟨[103,114,105,100]⟩⟩
noncomputable def x86:Str:=⟨⟨[99,101,108,108,115]⟩⟩
noncomputable def x87:Str:=⟨⟨[112,108,97,99,101,115]⟩⟩
noncomputable def x88:Str:=⟨⟨[99,101,108,108]⟩⟩
noncomputable def x89:Str:=⟨⟨[101,110,100,115]⟩⟩
noncomputable def x90:Str:=⟨⟨[84,97,98,108,101]⟩⟩
noncomputable def x91:Str:=⟨⟨[119,105,100,116,104]⟩⟩
noncomputable def x92:Str:=⟨⟨[104,101,105,103,104,116]⟩⟩
noncomputable def x93:Str:=⟨⟨[104,97,115,95,112,108,97,99,101]⟩⟩
noncomputable def x94:Str:=⟨⟨[99,104,101,99,107,95,112,108,97,99,101]⟩⟩
noncomputable def x95:Str:=⟨⟨[111,116,104,101,114,95,101,110,100]⟩⟩
noncomputable def x96:Str:=⟨⟨[114,111,119,115]⟩⟩
noncomputable def x97:Str:=⟨⟨[84,97,98,108,101,46,95,95,105,110,105,116,95,95]⟩⟩
noncomputable def x98:Str:=⟨⟨[84,97,98,108,101,46,119,105,100,116,104]⟩⟩
noncomputable def x99:Str:=⟨⟨[84,97,98,108,101,46,104,101,105,103,104,116]⟩⟩
noncomputable def ahn:Str:=⟨⟨[84,97,98,108,101,46,104,97,115,95,112,108,97,99,101]⟩⟩
noncomputable def ahm:Str:=⟨⟨[84,97,98,108,101,46,99,104,101,99,107,95,112,108,97,99,101]⟩⟩
noncomputable def ahl:Str:=⟨⟨[84,97,98,108,101,46,99,101,108,108]⟩⟩
noncomputable def ahk:Str:=⟨⟨[84,97,98,108,101,46,111,116,104,101,114,95,101,110,100]⟩⟩
noncomputable def ahj:Str:=⟨⟨[84,97,98,108,101,46,114,111,119,115]⟩⟩
noncomputable def uU:Str:=⟨⟨[108,97,119,95,98,101,97,109,116,97,98,108,101,95,107,49,48,95,112,97,115,115,101,115]⟩⟩
noncomputable def VA:Str:=⟨⟨[95,108,97,119,95,99,101,108,108,95,97,116]⟩⟩
noncomputable def Vz:Str:=⟨⟨[95,108,97,119,95,115,105,100,101]⟩⟩
noncomputable def Vy:Str:=⟨⟨[95,108,97,119,95,116,97,98,108,101]⟩⟩
noncomputable def Vx:Str:=⟨⟨[95,108,97,119,95,105,110]⟩⟩
noncomputable def Vw:Str:=⟨⟨[95,108,97,119,95,98,101,104,105,110,100]⟩⟩
noncomputable def Vv:Str:=⟨⟨[95,108,97,119,95,100,117,101]⟩⟩
noncomputable def Vu:Str:=⟨⟨[95,108,97,119,95,105,110,108,101,116]⟩⟩
noncomputable def Vt:Str:=⟨⟨[95,108,97,119,95,97,108,105,107,101]⟩⟩
noncomputable def Vs:Str:=⟨⟨[95,108,97,119,95,119,104,111,108,101]⟩⟩
noncomputable def Vr:Str:=⟨⟨[95,108,97,119,95,116,111,108,100]⟩⟩
noncomputable def Vq:Str:=⟨⟨[95,108,97,119,95,114,101,102,117,115,101,100]⟩⟩
noncomputable def Vp:Str:=⟨⟨[95,108,97,119,95,105,115]⟩⟩
noncomputable def akP:Str:=⟨⟨[95,108,97,119,95,115,99,114,105,112,116]⟩⟩
noncomputable def apa:Str:=⟨⟨[95,108,97,119,95,107]⟩⟩
noncomputable def akO:Str:=⟨⟨[95,108,97,119,95,99,101,108,108]⟩⟩
noncomputable def ahi:Str:=⟨⟨[95,108,97,119,95,120]⟩⟩
noncomputable def ahh:Str:=⟨⟨[95,108,97,119,95,121]⟩⟩
noncomputable def Vo:Str:=⟨⟨[95,108,97,119,95,119,105,100,101]⟩⟩
noncomputable def Vn:Str:=⟨⟨[95,108,97,119,95,104,105,103,104]⟩⟩
noncomputable def Yq:Str:=⟨⟨[95,108,97,119,95,112]⟩⟩
noncomputable def ao9:Str:=⟨⟨[95,108,97,119,95,100,120]⟩⟩
noncomputable def ao8:Str:=⟨⟨[95,108,97,119,95,100,121]⟩⟩
noncomputable def akN:Str:=⟨⟨[95,108,97,119,95,102,111,117,110,100]⟩⟩
noncomputable def akM:Str:=⟨⟨[95,108,97,119,95,119,97,121]⟩⟩
noncomputable def ahg:Str:=⟨⟨[95,108,97,119,95,117]⟩⟩
noncomputable def ahf:Str:=⟨⟨[95,108,97,119,95,118]⟩⟩
noncomputable def akL:Str:=⟨⟨[95,108,97,119,95,116,97,98,108,101,95,104,101,114,101]⟩⟩
noncomputable def ao7:Str:=⟨⟨[95,108,97,119,95,114,101,102,117,115,101,100,95,104,101,114,101]⟩⟩
noncomputable def ao6:Str:=⟨⟨[101]⟩⟩
noncomputable def Vm:Str:=⟨⟨[95,108,97,119,95,111,100,100]⟩⟩
noncomputable def Yo:Str:=⟨⟨[108,97,119]⟩⟩
noncomputable def ao5:Str:=⟨⟨[95,108,97,119,95,114,97,119]⟩⟩
noncomputable def ao4:Str:=⟨⟨[95,108,97,119,95,110,111,110,101]⟩⟩
noncomputable abbrev l0:String:=W.SL.s2766695959194262286x5
noncomputable abbrev l1:String:=W.SL.s5856160107412720595x4
noncomputable abbrev l2:String:=W.SL.s658472552662922059x5
noncomputable abbrev l3:String:=W.SL.s7174869446012820540x8
noncomputable abbrev l4:String:=W.SL.s6070975301684473832x10
noncomputable abbrev l5:String:=W.SL.s10062305145149207511x16
noncomputable abbrev l6:String:=W.SL.s17162191345867700912x4
noncomputable abbrev l7:String:=W.SL.s11030030927630378310x26
noncomputable abbrev l8:String:=W.SL.s14018661285674007319x4
noncomputable abbrev l9:String:=W.SL.s5946037652744460706x9
noncomputable abbrev l10:String:=W.SL.s4278001404047624695x13
noncomputable abbrev AN:String:=W.SL.s2742458400755230247x6
noncomputable abbrev l12:String:=W.SL.s4209523147560561109x18
noncomputable abbrev l13:String:=W.SL.s10220274742760427390x26
noncomputable abbrev l14:String:=W.SL.s14755015743595814543x17
noncomputable abbrev l15:String:=W.SL.s4290257624100764138x5
noncomputable abbrev l16:String:=W.SL.s4860613602091757760x24
noncomputable abbrev l17:String:=W.SL.s11443829558043349243x14
noncomputable abbrev l18:String:=W.SL.s6511155373996960695x17
noncomputable abbrev l19:String:=W.SL.s12411053484034534018x21
def af:Obj:=Q (y l0) #[]
def ao:Obj:=F v #[]
def ac3:Obj:=F (y l1) #[s x0 182,s x0 183,s x1 184,.int 1 0,z,z,z,z,r 11,.bool false,.int 181 0,r 12,v,v,v,v,.int 185 0,.int 1 0,s x1 186]
def ac1:Obj:=⟨y l2,none,.plain, #[(some (r 13)),(some (r 3)),(some (r 3)),none,(some (s x2 164)),none,(some (r 0))]⟩
def T0(P:Params):BT:=(.node (boot_o_0 P) (.node (boot_o_1 P) (.node (boot_o_3 P) (.node (boot_o_7 P) .nil .nil) (.node af .nil .nil)) (.node (boot_o_5 P) (.node (boot_o_9 P) .nil .nil) (.node ac3 .nil .nil))) (.node (boot_o_2 P) (.node (boot_o_4 P) (.node (boot_o_8 P) .nil .nil) (.node ao .nil .nil)) (.node (boot_o_6 P) (.node (boot_o_10 P) .nil .nil) (.node ac1 .nil .nil))))
def S0(P:Params)(os:OsState):SharedT:=⟨T0 P,15,lf, #[],⟨0,0,0,0⟩,187,os⟩
def T1(P:Params):BT:=(T0 P)
def S1(P:Params)(os:OsState):SharedT:=⟨T1 P,15,lf, #[],⟨0,0,0,0⟩,187,os⟩
def am9(P:Params):Obj:=ud (boot_o_3 P) [(0,e P x3 165 (s x4 194))] [e P x5 193 (r 21),e P x6 213 (r 31)] 11
def ano:Obj:=F v #[.int 1 0,z,r 20,.int 5 0,z,r 27]
def acZ:Obj:=Q (y l0) #[s x7 190]
def acU:Obj:=⟨v,none,(fo (g1 0) x5 0 [] v v v v none v v 0), #[]⟩
def acT:Obj:=F (y l1) #[s x5 187,s x5 188,s x1 189,.int 1 0,.int 1 0,z,z,.int 3 0,r 15,.bool true,.int 181 0,r 16,v,r 17,r 18,r 19,.int 191 0,.int 1 0,s x1 192]
def acP:Obj:=⟨y l3,none,(fo (g1 0) x5 3 [] v v v (s x2 164) none (r 20) v 0), #[]⟩
def acL:Obj:=Q (y l0) #[y l4]
def iL:Obj:=F (y l7) #[.builtin l5,y l6]
def ag7(P:Params):Obj:=⟨y l8,none,(.dict #[e P x8 203 (s x4 194),e P x9 205 (s x6 204),e P DV 207 (.int 5 206),e P DT 208 (r 29)] 4), #[]⟩
def ag6:Obj:=F (y l1) #[s x6 198,s x6 199,s x1 200,.int 5 0,z,z,z,z,r 25,.bool false,.int 181 0,r 26,v,v,v,v,.int 201 0,.int 5 0,s x1 202]
def ag5:Obj:=⟨y l2,none,.plain, #[(some (r 27)),(some (r 3)),(some (r 24)),none,(some (s x4 194)),none,(some (r 0))]⟩
def acv(P:Params):Obj:=⟨y l8,none,(.dict #[e P x8 203 (s x4 194),e P DV 207 (.int 5 206),e P DT 208 (r 29),e P x12 210 (r 32),e P Yp 211 v] 3), #[]⟩
def ane:Obj:=⟨y l6,none,(.cls ⟨x6,[y l4],[r 31,y l4,y l9,y l10,y AN],30,x6,true,[],[],false,none,false⟩), #[(some (r 22)),none,(some (s x6 196)),(some (s x6 204)),(some (.builtin l12)),(some (.bool true))]⟩
def aco:Obj:=F (y l14) #[s x12 209,r 31,.builtin l13,v]
def ag4:Obj:=F (y l15) #[r 31,r 31,r 31]
def ag3:Obj:=F (y l7) #[.builtin l16,r 31]
def T2(P:Params):BT:=(I (I (I (I (I (I (I (I (I (I (I (I (I (I (I (I (I (I (I (I (I (I (T1 P) 3 (am9 P)) 12 ano) 15 af) 16 ao) 17 acZ) 18 af) 19 acU) 20 acT) 21 acP) 22 acL) 23 iL) 24 (ag7 P)) 25 af) 26 ao) 27 ag6) 28 ag5) 29 af) 30 (acv P)) 31 ane) 32 aco) 33 ag4) 34 ag3)
def S2(P:Params)(os:OsState):SharedT:=⟨T2 P,35,lf, #[],⟨0,0,0,0⟩,214,os⟩
def am8(P:Params):Obj:=ud (am9 P) [] [e P x14 229 (r 44)] 12
def anm:Obj:=F v #[.int 1 0,z,r 20,.int 5 0,z,r 27,.int 7 0,z,r 40]
def anc:Obj:=⟨y l6,none,(.cls ⟨x6,[y l4],[r 31,y l4,y l9,y l10,y AN],30,x6,true,[],[r 44],false,none,false⟩), #[(some (r 22)),none,(some (s x6 196)),(some (s x6 204)),(some (.builtin l12)),(some (.bool true))]⟩
def rE:Obj:=Q (y l0) #[r 31]
def ag2(P:Params):Obj:=⟨y l8,none,(.dict #[e P x8 221 (s x4 194),e P x9 223 (s x14 222),e P DV 225 (.int 7 224),e P DT 226 (r 42)] 4), #[]⟩
def agY:Obj:=F (y l1) #[s x14 216,s x14 217,s x1 218,.int 7 0,z,z,z,z,r 38,.bool false,.int 181 0,r 39,v,v,v,v,.int 219 0,.int 7 0,s x1 220]
def agX:Obj:=⟨y l2,none,.plain, #[(some (r 40)),(some (r 3)),(some (r 37)),none,(some (s x4 194)),none,(some (r 0))]⟩
def acd(P:Params):Obj:=⟨y l8,none,(.dict #[e P x8 221 (s x4 194),e P DV 225 (.int 7 224),e P DT 226 (r 42),e P Yp 227 v] 2), #[]⟩
def ab9:Obj:=⟨y l6,none,(.cls ⟨x14,[r 31],[r 44,r 31,y l4,y l9,y l10,y AN],43,x14,true,[],[],false,none,false⟩), #[(some (r 35)),none,(some (s x14 214)),(some (s x14 222)),(some (.builtin l12)),(some (.bool true))]⟩
def agW:Obj:=F (y l15) #[r 44,r 44,r 44]
def agV:Obj:=F (y l7) #[.builtin l16,r 44]
def T3(P:Params):BT:=(I (I (I (I (I (I (I (I (I (I (I (I (I (I (I (T2 P) 3 (am8 P)) 12 anm) 31 anc) 35 rE) 36 iL) 37 (ag2 P)) 38 af) 39 ao) 40 agY) 41 agX) 42 af) 43 (acd P)) 44 ab9) 45 agW) 46 agV)
def S3(P:Params)(os:OsState):SharedT:=⟨T3 P,47,lf, #[],⟨0,0,0,0⟩,230,os⟩
def am7(P:Params):Obj:=ud (am8 P) [] [e P x15 245 (r 56)] 13
def anl:Obj:=F v #[.int 1 0,z,r 20,.int 5 0,z,r 27,.int 7 0,z,r 40,.int 9 0,z,r 52]
def anb:Obj:=⟨y l6,none,(.cls ⟨x6,[y l4],[r 31,y l4,y l9,y l10,y AN],30,x6,true,[],[r 44,r 56],false,none,false⟩), #[(some (r 22)),none,(some (s x6 196)),(some (s x6 204)),(some (.builtin l12)),(some (.bool true))]⟩
def agU(P:Params):Obj:=⟨y l8,none,(.dict #[e P x8 237 (s x4 194),e P x9 239 (s x15 238),e P DV 241 (.int 9 240),e P DT 242 (r 54)] 4), #[]⟩
def agT:Obj:=F (y l1) #[s x15 232,s x15 233,s x1 234,.int 9 0,z,z,z,z,r 50,.bool false,.int 181 0,r 51,v,v,v,v,.int 235 0,.int 9 0,s x1 236]
def agS:Obj:=⟨y l2,none,.plain, #[(some (r 52)),(some (r 3)),(some (r 49)),none,(some (s x4 194)),none,(some (r 0))]⟩
def ab8(P:Params):Obj:=⟨y l8,none,(.dict #[e P x8 237 (s x4 194),e P DV 241 (.int 9 240),e P DT 242 (r 54),e P Yp 243 v] 2), #[]⟩
def ab7:Obj:=⟨y l6,none,(.cls ⟨x15,[r 31],[r 56,r 31,y l4,y l9,y l10,y AN],55,x15,true,[],[],false,none,false⟩), #[(some (r 47)),none,(some (s x15 230)),(some (s x15 238)),(some (.builtin l12)),(some (.bool true))]⟩
def agR:Obj:=F (y l15) #[r 56,r 56,r 56]
def agQ:Obj:=F (y l7) #[.builtin l16,r 56]
def T4(P:Params):BT:=(I (I (I (I (I (I (I (I (I (I (I (I (I (I (I (T3 P) 3 (am7 P)) 12 anl) 31 anb) 47 rE) 48 iL) 49 (agU P)) 50 af) 51 ao) 52 agT) 53 agS) 54 af) 55 (ab8 P)) 56 ab7) 57 agR) 58 agQ)
def S4(P:Params)(os:OsState):SharedT:=⟨T4 P,59,lf, #[],⟨0,0,0,0⟩,246,os⟩
def am6(P:Params):Obj:=ud (am7 P) [] [e P x16 261 (r 68)] 14
def ank:Obj:=F v #[.int 1 0,z,r 20,.int 5 0,z,r 27,.int 7 0,z,r 40,.int 9 0,z,r 52,.int 11 0,z,r 64]
def ana:Obj:=⟨y l6,none,(.cls ⟨x6,[y l4],[r 31,y l4,y l9,y l10,y AN],30,x6,true,[],[r 44,r 56,r 68],false,none,false⟩), #[(some (r 22)),none,(some (s x6 196)),(some (s x6 204)),(some (.builtin l12)),(some (.bool true))]⟩
def agP(P:Params):Obj:=⟨y l8,none,(.dict #[e P x8 253 (s x4 194),e P x9 255 (s x16 254),e P DV 257 (.int 11 256),e P DT 258 (r 66)] 4), #[]⟩
def agO:Obj:=F (y l1) #[s x16 248,s x16 249,s x1 250,.int 11 0,z,z,z,z,r 62,.bool false,.int 181 0,r 63,v,v,v,v,.int 251 0,.int 11 0,s x1 252]
def agN:Obj:=⟨y l2,none,.plain, #[(some (r 64)),(some (r 3)),(some (r 61)),none,(some (s x4 194)),none,(some (r 0))]⟩
def ab6(P:Params):Obj:=⟨y l8,none,(.dict #[e P x8 253 (s x4 194),e P DV 257 (.int 11 256),e P DT 258 (r 66),e P Yp 259 v] 2), #[]⟩
def ab5:Obj:=⟨y l6,none,(.cls ⟨x16,[r 31],[r 68,r 31,y l4,y l9,y l10,y AN],67,x16,true,[],[],false,none,false⟩), #[(some (r 59)),none,(some (s x16 246)),(some (s x16 254)),(some (.builtin l12)),(some (.bool true))]⟩
def agM:Obj:=F (y l15) #[r 68,r 68,r 68]
def agL:Obj:=F (y l7) #[.builtin l16,r 68]
def T5(P:Params):BT:=(I (I (I (I (I (I (I (I (I (I (I (I (I (I (I (T4 P) 3 (am6 P)) 12 ank) 31 ana) 59 rE) 60 iL) 61 (agP P)) 62 af) 63 ao) 64 agO) 65 agN) 66 af) 67 (ab6 P)) 68 ab5) 69 agM) 70 agL)
def S5(P:Params)(os:OsState):SharedT:=⟨T5 P,71,lf, #[],⟨0,0,0,0⟩,262,os⟩
def am5(P:Params):Obj:=ud (am6 P) [(0,e P x3 165 (s Yn 322))] [e P x18 277 (r 80),e P x19 280 (r 83),e P x20 283 (r 84),e P x21 287 (.int 0 286),e P x22 289 (.int 1 288),e P x23 291 (.int 2 290),e P x24 296 (r 85),e P x25 303 (r 92),e P x26 312 (r 99),e P x27 321 (r 106)] 24
def anj:Obj:=F v #[.int 1 0,z,r 20,.int 5 0,z,r 27,.int 7 0,z,r 40,.int 9 0,z,r 52,.int 11 0,z,r 64,.int 13 0,z,r 76,.int 22 0,z,r 91,.int 24 0,z,r 98,.int 32 0,z,r 105]
def acp:Obj:=⟨y l6,none,(.cls ⟨x6,[y l4],[r 31,y l4,y l9,y l10,y AN],30,x6,true,[],[r 44,r 56,r 68,r 80],false,none,false⟩), #[(some (r 22)),none,(some (s x6 196)),(some (s x6 204)),(some (.builtin l12)),(some (.bool true))]⟩
def agK(P:Params):Obj:=⟨y l8,none,(.dict #[e P x8 269 (s x4 194),e P x9 271 (s x18 270),e P DV 273 (.int 13 272),e P DT 274 (r 78)] 4), #[]⟩
def agJ:Obj:=F (y l1) #[s x18 264,s x18 265,s x1 266,.int 13 0,z,z,z,z,r 74,.bool false,.int 181 0,r 75,v,v,v,v,.int 267 0,.int 13 0,s x1 268]
def agI:Obj:=⟨y l2,none,.plain, #[(some (r 76)),(some (r 3)),(some (r 73)),none,(some (s x4 194)),none,(some (r 0))]⟩
def ab4(P:Params):Obj:=⟨y l8,none,(.dict #[e P x8 269 (s x4 194),e P DV 273 (.int 13 272),e P DT 274 (r 78),e P Yp 275 v] 2), #[]⟩
def ab3:Obj:=⟨y l6,none,(.cls ⟨x18,[r 31],[r 80,r 31,y l4,y l9,y l10,y AN],79,x18,true,[],[],false,none,false⟩), #[(some (r 71)),none,(some (s x18 262)),(some (s x18 270)),(some (.builtin l12)),(some (.bool true))]⟩
def agH:Obj:=F (y l15) #[r 80,r 80,r 80]
def agG:Obj:=F (y l7) #[.builtin l16,r 80]
def ab2:Obj:=Q (y l0) #[.int 0 278,.int 1 279]
def ab1:Obj:=Q (y l0) #[.int 1 281,.int 1 282]
def ab0:Obj:=Q (y l0) #[.int 0 292,.int 1 293,.int 2 294,.int 3 295]
def abZ:Obj:=Q (y l0) #[s x28 300]
def abY:Obj:=⟨v,none,(fo (g1 14) x25 0 [] v v v v none v v 0), #[]⟩
def abX:Obj:=F (y l1) #[s x25 297,s x25 298,s x1 299,.int 22 0,.int 1 0,z,z,.int 3 0,r 86,.bool true,.int 181 0,r 87,v,r 88,r 89,r 90,.int 301 0,.int 22 0,s x1 302]
def abW:Obj:=⟨y l3,none,(fo (g1 14) x25 3 [] v v v (s x29 284) none (r 91) v 0), #[]⟩
def abV:Obj:=Q (y l0) #[s x30 307,s x31 308,s x28 309]
def abU:Obj:=⟨v,none,(fo (g1 15) x26 0 [] v v v v none v v 0), #[]⟩
def abT:Obj:=F (y l1) #[s x26 304,s x26 305,s x1 306,.int 24 0,.int 3 0,z,z,.int 3 0,r 93,.bool true,.int 181 0,r 94,v,r 95,r 96,r 97,.int 310 0,.int 24 0,s x1 311]
def abS:Obj:=⟨y l3,none,(fo (g1 15) x26 3 [] v v v (s x29 284) none (r 98) v 0), #[]⟩
def TM:Obj:=Q (y l0) #[s x32 316,s x28 317,s x33 318]
def TL:Obj:=⟨v,none,(fo (g1 16) x27 0 [] v v v v none v v 0), #[]⟩
def TJ:Obj:=F (y l1) #[s x27 313,s x27 314,s x1 315,.int 32 0,.int 1 0,z,z,.int 3 0,r 100,.bool true,.int 181 0,r 101,v,r 102,r 103,r 104,.int 319 0,.int 32 0,s x1 320]
def TH:Obj:=⟨y l3,none,(fo (g1 16) x27 3 [] v v v (s x29 284) none (r 105) v 0), #[]⟩
def T6(P:Params):BT:=(I (I (I (I (I (I (I (I (I (I (I (I (I (I (I (I (I (I (I (I (I (I (I (I (I (I (I (I (I (I (I (I (I (I (I (I (I (I (I (T5 P) 3 (am5 P)) 12 anj) 31 acp) 71 rE) 72 iL) 73 (agK P)) 74 af) 75 ao) 76 agJ) 77 agI) 78 af) 79 (ab4 P)) 80 ab3) 81 agH) 82 agG) 83 ab2) 84 ab1) 85 ab0) 86 af) 87 ao) 88 abZ) 89 af) 90 abY) 91 abX) 92 abW) 93 af) 94 ao) 95 abV) 96 af) 97 abU) 98 abT) 99 abS) 100 af) 101 ao) 102 TM) 103 af) 104 TL) 105 TJ) 106 TH)
def S6(P:Params)(os:OsState):SharedT:=⟨T6 P,107,lf, #[],⟨0,0,0,0⟩,324,os⟩
def am4(P:Params):Obj:=ud (am5 P) [(0,e P x3 165 (s uT 396))] [e P x35 331 (r 113),e P x36 339 (r 120),e P x37 347 (r 127),e P x38 353 (r 132),e P x39 359 (r 137),e P x40 365 (r 142),e P x41 372 (r 149),e P x42 381 (r 156),e P x43 387 (r 161),e P x44 395 (r 168),e P x45 399 (s x46 398),e P x47 401 (.int 8 400),e P x48 408 (r 175),e P x49 414 (r 180)] 38
def ani:Obj:=F v #[.int 1 0,z,r 20,.int 5 0,z,r 27,.int 7 0,z,r 40,.int 9 0,z,r 52,.int 11 0,z,r 64,.int 13 0,z,r 76,.int 22 0,z,r 91,.int 24 0,z,r 98,.int 32 0,z,r 105,.int 37 0,z,r 112,.int 39 0,z,r 119,.int 41 0,z,r 126,.int 44 0,z,r 131,.int 50 0,z,r 136,.int 52 0,z,r 141,.int 54 0,z,r 148,.int 56 0,z,r 155,.int 59 0,z,r 160,.int 68 0,z,r 167,.int 76 0,z,r 174,.int 79 0,z,r 179]
def TF:Obj:=Q (y l0) #[s x50 327,s x32 328]
def Tz:Obj:=⟨v,none,(fo (g1 18) x35 0 [] v v v v none v v 0), #[]⟩
def Tw:Obj:=F (y l1) #[s x35 324,s x35 325,s x1 326,.int 37 0,.int 2 0,z,z,.int 3 0,r 107,.bool true,.int 181 0,r 108,v,r 109,r 110,r 111,.int 329 0,.int 37 0,s x1 330]
def Tv:Obj:=⟨y l3,none,(fo (g1 18) x35 3 [] v v v (s Yn 322) none (r 112) v 0), #[]⟩
def Tu:Obj:=Q (y l0) #[s x50 335,s x32 336]
def Tt:Obj:=⟨v,none,(fo (g1 19) x36 0 [] v v v v none v v 0), #[]⟩
def Tr:Obj:=F (y l1) #[s x36 332,s x36 333,s x1 334,.int 39 0,.int 2 0,z,z,.int 3 0,r 114,.bool true,.int 181 0,r 115,v,r 116,r 117,r 118,.int 337 0,.int 39 0,s x1 338]
def Tq:Obj:=⟨y l3,none,(fo (g1 19) x36 3 [] v v v (s Yn 322) none (r 119) v 0), #[]⟩
def Tp:Obj:=Q (y l0) #[s x50 343,s x32 344]
def To:Obj:=⟨v,none,(fo (g1 20) x37 0 [] v v v v none v v 0), #[]⟩
def Tn:Obj:=F (y l1) #[s x37 340,s x37 341,s x1 342,.int 41 0,.int 2 0,z,z,.int 3 0,r 121,.bool true,.int 181 0,r 122,v,r 123,r 124,r 125,.int 345 0,.int 41 0,s x1 346]
def Tj:Obj:=⟨y l3,none,(fo (g1 20) x37 3 [] v v v (s Yn 322) none (r 126) v 0), #[]⟩
def Th:Obj:=⟨v,none,(fo (g1 21) x38 0 [] v v v v none v v 0), #[]⟩
def Te:Obj:=F (y l1) #[s x38 348,s x38 349,s x1 350,.int 44 0,.int 1 0,z,z,.int 3 0,r 128,.bool true,.int 181 0,r 129,v,v,v,r 130,.int 351 0,.int 44 0,s x1 352]
def Td:Obj:=⟨y l3,none,(fo (g1 21) x38 3 [] v v v (s Yn 322) none (r 131) v 0), #[]⟩
def Tc:Obj:=⟨v,none,(fo (g1 22) x39 0 [] v v v v none v v 0), #[]⟩
def SY:Obj:=F (y l1) #[s x39 354,s x39 355,s x1 356,.int 50 0,.int 1 0,z,z,.int 3 0,r 133,.bool true,.int 181 0,r 134,v,v,v,r 135,.int 357 0,.int 50 0,s x1 358]
def SX:Obj:=⟨y l3,none,(fo (g1 22) x39 3 [] v v v (s Yn 322) none (r 136) v 0), #[]⟩
def SW:Obj:=⟨v,none,(fo (g1 23) x40 0 [] v v v v none v v 0), #[]⟩
def SV:Obj:=F (y l1) #[s x40 360,s x40 361,s x1 362,.int 52 0,.int 1 0,z,z,.int 3 0,r 138,.bool true,.int 181 0,r 139,v,v,v,r 140,.int 363 0,.int 52 0,s x1 364]
def SR:Obj:=⟨y l3,none,(fo (g1 23) x40 3 [] v v v (s Yn 322) none (r 141) v 0), #[]⟩
def SQ:Obj:=Q (y l0) #[s x50 369]
def SO:Obj:=⟨v,none,(fo (g1 24) x41 0 [] v v v v none v v 0), #[]⟩
def SN:Obj:=F (y l1) #[s x41 366,s x41 367,s x1 368,.int 54 0,.int 1 0,z,z,.int 3 0,r 143,.bool true,.int 181 0,r 144,v,r 145,r 146,r 147,.int 370 0,.int 54 0,s x1 371]
def SM:Obj:=⟨y l3,none,(fo (g1 24) x41 3 [] v v v (s Yn 322) none (r 148) v 0), #[]⟩
def SK:Obj:=Q (y l0) #[s x51 376,s x28 377,s x52 378]
def SJ:Obj:=⟨v,none,(fo (g1 25) x42 0 [] v v v v none v v 0), #[]⟩
def SI:Obj:=F (y l1) #[s x42 373,s x42 374,s x1 375,.int 56 0,.int 2 0,z,z,.int 3 0,r 150,.bool true,.int 181 0,r 151,v,r 152,r 153,r 154,.int 379 0,.int 56 0,s x1 380]
def SH:Obj:=⟨y l3,none,(fo (g1 25) x42 3 [] v v v (s Yn 322) none (r 155) v 0), #[]⟩
def SG:Obj:=⟨v,none,(fo (g1 26) x43 0 [] v v v v none v v 0), #[]⟩
def SE:Obj:=F (y l1) #[s x43 382,s x43 383,s x1 384,.int 59 0,.int 2 0,z,z,.int 3 0,r 157,.bool true,.int 181 0,r 158,v,v,v,r 159,.int 385 0,.int 59 0,s x1 386]
def SD:Obj:=⟨y l3,none,(fo (g1 26) x43 3 [] v v v (s Yn 322) none (r 160) v 0), #[]⟩
def SA:Obj:=Q (y l0) #[s x50 391,s x32 392]
def Sz:Obj:=⟨v,none,(fo (g1 27) x44 0 [] v v v v none v v 0), #[]⟩
def Sy:Obj:=F (y l1) #[s x44 388,s x44 389,s x1 390,.int 68 0,.int 2 0,z,z,.int 3 0,r 162,.bool true,.int 181 0,r 163,v,r 164,r 165,r 166,.int 393 0,.int 68 0,s x1 394]
def Sx:Obj:=⟨y l3,none,(fo (g1 27) x44 3 [] v v v (s Yn 322) none (r 167) v 0), #[]⟩
def Sw:Obj:=Q (y l0) #[s x53 405]
def Sv:Obj:=⟨v,none,(fo (g1 31) x48 0 [] v v v v none v v 0), #[]⟩
def Su:Obj:=F (y l1) #[s x48 402,s x48 403,s x1 404,.int 76 0,.int 1 0,z,z,.int 3 0,r 169,.bool true,.int 181 0,r 170,v,r 171,r 172,r 173,.int 406 0,.int 76 0,s x1 407]
def Ss:Obj:=⟨y l3,none,(fo (g1 31) x48 3 [] v v v (s uT 396) none (r 174) v 0), #[]⟩
def Sq:Obj:=⟨v,none,(fo (g1 32) x49 0 [] v v v v none v v 0), #[]⟩
def So:Obj:=F (y l1) #[s x49 409,s x49 410,s x1 411,.int 79 0,.int 1 0,z,z,.int 3 0,r 176,.bool true,.int 181 0,r 177,v,v,v,r 178,.int 412 0,.int 79 0,s x1 413]
def Sn:Obj:=⟨y l3,none,(fo (g1 32) x49 3 [] v v v (s uT 396) none (r 179) v 0), #[]⟩
def T7(P:Params):BT:=(I (I (I (I (I (I (I (I (I (I (I (I (I (I (I (I (I (I (I (I (I (I (I (I (I (I (I (I (I (I (I (I (I (I (I (I (I (I (I (I (I (I (I (I (I (I (I (I (I (I (I (I (I (I (I (I (I (I (I (I (I (I (I (I (I (I (I (I (I (I (I (I (I (I (I (I (T6 P) 3 (am4 P)) 12 ani) 107 af) 108 ao) 109 TF) 110 af) 111 Tz) 112 Tw) 113 Tv) 114 af) 115 ao) 116 Tu) 117 af) 118 Tt) 119 Tr) 120 Tq) 121 af) 122 ao) 123 Tp) 124 af) 125 To) 126 Tn) 127 Tj) 128 af) 129 ao) 130 Th) 131 Te) 132 Td) 133 af) 134 ao) 135 Tc) 136 SY) 137 SX) 138 af) 139 ao) 140 SW) 141 SV) 142 SR) 143 af) 144 ao) 145 SQ) 146 af) 147 SO) 148 SN) 149 SM) 150 af) 151 ao) 152 SK) 153 af) 154 SJ) 155 SI) 156 SH) 157 af) 158 ao) 159 SG) 160 SE) 161 SD) 162 af) 163 ao) 164 SA) 165 af) 166 Sz) 167 Sy) 168 Sx) 169 af) 170 ao) 171 Sw) 172 af) 173 Sv) 174 Su) 175 Ss) 176 af) 177 ao) 178 Sq) 179 So) 180 Sn)
def S7(P:Params)(os:OsState):SharedT:=⟨T7 P,181,lf, #[],⟨0,0,0,0⟩,415,os⟩
def am3(P:Params):Obj:=ud (am4 P) [] [e P Ag 456 (r 211)] 39
def anh:Obj:=F v #[.int 1 0,z,r 20,.int 5 0,z,r 27,.int 7 0,z,r 40,.int 9 0,z,r 52,.int 11 0,z,r 64,.int 13 0,z,r 76,.int 22 0,z,r 91,.int 24 0,z,r 98,.int 32 0,z,r 105,.int 37 0,z,r 112,.int 39 0,z,r 119,.int 41 0,z,r 126,.int 44 0,z,r 131,.int 50 0,z,r 136,.int 52 0,z,r 141,.int 54 0,z,r 148,.int 56 0,z,r 155,.int 59 0,z,r 160,.int 68 0,z,r 167,.int 76 0,z,r 174,.int 79 0,z,r 179,.int 82 0,z,r 186]
def acY(P:Params):Obj:=⟨y l8,none,(.dict #[e P x8 422 (s uT 396),e P x9 424 (s Ag 423),e P DV 426 (.int 82 425),e P x55 434 (r 194),e P x56 441 (r 201),e P x57 448 (r 208),e P DT 449 (r 209)] 7), #[]⟩
def acX:Obj:=F v #[.int 84 0,.int 4 0,r 193,.int 87 0,.int 4 0,r 200,.int 90 0,.int 4 0,r 207]
def acW:Obj:=F (y l1) #[s Ag 417,s Ag 418,s x1 419,.int 82 0,z,z,z,z,r 184,.bool false,.int 181 0,r 185,v,v,v,v,.int 420 0,.int 82 0,s x1 421]
def acV:Obj:=⟨y l2,none,.plain, #[(some (r 186)),(some (r 3)),(some (r 183)),none,(some (s uT 396)),none,(some (r 0))]⟩
def Sm:Obj:=Q (y l0) #[s G1 430,s x28 431]
def Sl:Obj:=⟨v,none,(fo (g2 33 0) x59 0 [] v v v v none v v 0), #[]⟩
def Sk:Obj:=F (y l1) #[s x55 427,s x59 428,s x1 429,.int 84 0,.int 2 0,z,z,.int 3 0,r 188,.bool true,.int 181 0,r 189,v,r 190,r 191,r 192,.int 432 0,.int 84 0,s x1 433]
def Sj:Obj:=⟨y l3,none,(fo (g2 33 0) x59 3 [] v v v (s uT 396) none (r 193) v 0), #[]⟩
def Si:Obj:=Q (y l0) #[s G1 438]
def Sh:Obj:=⟨v,none,(fo (g2 33 1) x60 0 [] v v v v none v v 0), #[]⟩
def Sf:Obj:=F (y l1) #[s x56 435,s x60 436,s x1 437,.int 87 0,.int 1 0,z,z,.int 3 0,r 195,.bool true,.int 181 0,r 196,v,r 197,r 198,r 199,.int 439 0,.int 87 0,s x1 440]
def Se:Obj:=⟨y l3,none,(fo (g2 33 1) x60 3 [] v v v (s uT 396) none (r 200) v 0), #[]⟩
def Sd:Obj:=Q (y l0) #[s G1 445]
def Sb:Obj:=⟨v,none,(fo (g2 33 2) x61 0 [] v v v v none v v 0), #[]⟩
def Sa:Obj:=F (y l1) #[s x57 442,s x61 443,s x1 444,.int 90 0,.int 1 0,z,z,.int 3 0,r 202,.bool true,.int 181 0,r 203,v,r 204,r 205,r 206,.int 446 0,.int 90 0,s x1 447]
def R9:Obj:=⟨y l3,none,(fo (g2 33 2) x61 3 [] v v v (s uT 396) none (r 207) v 0), #[]⟩
def R8(P:Params):Obj:=⟨y l8,none,(.dict #[e P x8 422 (s uT 396),e P DV 426 (.int 82 425),e P x55 434 (r 194),e P x56 441 (r 201),e P x57 448 (r 208),e P DT 449 (r 209),e P x62 451 (r 212),e P x12 453 (r 213),e P Yp 454 v] 4), #[]⟩
def ajy:Obj:=⟨y l6,none,(.cls ⟨Ag,[y AN],[r 211,y AN],210,Ag,true,[],[],false,none,false⟩), #[none,none,(some (s Ag 415)),(some (s Ag 423)),(some (.builtin l17)),(some (.bool true))]⟩
def R6:Obj:=F (y l14) #[s x62 450,r 211,.builtin l18,.builtin l19]
def R5:Obj:=F (y l14) #[s x12 452,r 211,.builtin l13,v]
def acS:Obj:=F (y l15) #[r 211,r 211,r 211]
def acR:Obj:=F (y l7) #[.builtin l16,r 211]
def T8(P:Params):BT:=(I (I (I (I (I (I (I (I (I (I (I (I (I (I (I (I (I (I (I (I (I (I (I (I (I (I (I (I (I (I (I (I (I (I (I (I (I (T7 P) 3 (am3 P)) 12 anh) 181 af) 182 iL) 183 (acY P)) 184 af) 185 acX) 186 acW) 187 acV) 188 af) 189 ao) 190 Sm) 191 af) 192 Sl) 193 Sk) 194 Sj) 195 af) 196 ao) 197 Si) 198 af) 199 Sh) 200 Sf) 201 Se) 202 af) 203 ao) 204 Sd) 205 af) 206 Sb) 207 Sa) 208 R9) 209 af) 210 (R8 P)) 211 ajy) 212 R6) 213 R5) 214 acS) 215 acR)
def S8(P:Params)(os:OsState):SharedT:=⟨T8 P,216,lf, #[],⟨0,0,0,0⟩,457,os⟩
def am2(P:Params):Obj:=ud (am3 P) [] [e P x63 479 (r 232)] 40
def ang:Obj:=F v #[.int 1 0,z,r 20,.int 5 0,z,r 27,.int 7 0,z,r 40,.int 9 0,z,r 52,.int 11 0,z,r 64,.int 13 0,z,r 76,.int 22 0,z,r 91,.int 24 0,z,r 98,.int 32 0,z,r 105,.int 37 0,z,r 112,.int 39 0,z,r 119,.int 41 0,z,r 126,.int 44 0,z,r 131,.int 50 0,z,r 136,.int 52 0,z,r 141,.int 54 0,z,r 148,.int 56 0,z,r 155,.int 59 0,z,r 160,.int 68 0,z,r 167,.int 76 0,z,r 174,.int 79 0,z,r 179,.int 82 0,z,r 186,.int 92 0,z,r 221]
def ajx:Obj:=⟨y l6,none,(.cls ⟨Ag,[y AN],[r 211,y AN],210,Ag,true,[],[r 232],false,none,false⟩), #[none,none,(some (s Ag 415)),(some (s Ag 423)),(some (.builtin l17)),(some (.bool true))]⟩
def mO:Obj:=Q (y l0) #[r 211]
def acQ(P:Params):Obj:=⟨y l8,none,(.dict #[e P x8 464 (s uT 396),e P x9 466 (s x63 465),e P DV 468 (.int 92 467),e P Yg 475 (r 229),e P DT 476 (r 230)] 5), #[]⟩
def acO:Obj:=F v #[.int 94 0,.int 4 0,r 228]
def acN:Obj:=F (y l1) #[s x63 459,s x63 460,s x1 461,.int 92 0,z,z,z,z,r 219,.bool false,.int 181 0,r 220,v,v,v,v,.int 462 0,.int 92 0,s x1 463]
def acM:Obj:=⟨y l2,none,.plain, #[(some (r 221)),(some (r 3)),(some (r 218)),none,(some (s uT 396)),none,(some (r 0))]⟩
def R4:Obj:=Q (y l0) #[s G1 472]
def R3:Obj:=⟨v,none,(fo (g2 34 0) x65 0 [] v v v v none v v 0), #[]⟩
def R0:Obj:=F (y l1) #[s Yg 469,s x65 470,s x1 471,.int 94 0,.int 1 0,z,z,.int 3 0,r 223,.bool true,.int 181 0,r 224,v,r 225,r 226,r 227,.int 473 0,.int 94 0,s x1 474]
def RZ:Obj:=⟨y l3,none,(fo (g2 34 0) x65 3 [] v v v (s uT 396) none (r 228) v 0), #[]⟩
def RY(P:Params):Obj:=⟨y l8,none,(.dict #[e P x8 464 (s uT 396),e P DV 468 (.int 92 467),e P Yg 475 (r 229),e P DT 476 (r 230),e P Yp 477 v] 2), #[]⟩
def RX:Obj:=⟨y l6,none,(.cls ⟨x63,[r 211],[r 232,r 211,y AN],231,x63,true,[],[],false,none,false⟩), #[(some (r 216)),none,(some (s x63 457)),(some (s x63 465)),(some (.builtin l17)),(some (.bool true))]⟩
def acK:Obj:=F (y l15) #[r 232,r 232,r 232]
def acJ:Obj:=F (y l7) #[.builtin l16,r 232]
def T9(P:Params):BT:=(I (I (I (I (I (I (I (I (I (I (I (I (I (I (I (I (I (I (I (I (I (I (T8 P) 3 (am2 P)) 12 ang) 211 ajx) 216 mO) 217 iL) 218 (acQ P)) 219 af) 220 acO) 221 acN) 222 acM) 223 af) 224 ao) 225 R4) 226 af) 227 R3) 228 R0) 229 RZ) 230 af) 231 (RY P)) 232 RX) 233 acK) 234 acJ)
def S9(P:Params)(os:OsState):SharedT:=⟨T9 P,235,lf, #[],⟨0,0,0,0⟩,480,os⟩
def am1(P:Params):Obj:=ud (am2 P) [] [e P x66 526 (r 272)] 41
def anf:Obj:=F v #[.int 1 0,z,r 20,.int 5 0,z,r 27,.int 7 0,z,r 40,.int 9 0,z,r 52,.int 11 0,z,r 64,.int 13 0,z,r 76,.int 22 0,z,r 91,.int 24 0,z,r 98,.int 32 0,z,r 105,.int 37 0,z,r 112,.int 39 0,z,r 119,.int 41 0,z,r 126,.int 44 0,z,r 131,.int 50 0,z,r 136,.int 52 0,z,r 141,.int 54 0,z,r 148,.int 56 0,z,r 155,.int 59 0,z,r 160,.int 68 0,z,r 167,.int 76 0,z,r 174,.int 79 0,z,r 179,.int 82 0,z,r 186,.int 92 0,z,r 221,.int 96 0,z,r 240]
def ajw:Obj:=⟨y l6,none,(.cls ⟨Ag,[y AN],[r 211,y AN],210,Ag,true,[],[r 232,r 272],false,none,false⟩), #[none,none,(some (s Ag 415)),(some (s Ag 423)),(some (.builtin l17)),(some (.bool true))]⟩
def acI(P:Params):Obj:=⟨y l8,none,(.dict #[e P x8 487 (s uT 396),e P x9 489 (s x66 488),e P DV 491 (.int 96 490),e P x67 499 (r 248),e P Yg 506 (r 255),e P x55 514 (r 262),e P x57 521 (r 269),e P DT 523 (r 270)] 8), #[]⟩
def acH:Obj:=F v #[.int 98 0,.int 4 0,r 247,.int 102 0,.int 4 0,r 254,.int 105 0,.int 4 0,r 261,.int 108 0,.int 4 0,r 268]
def acG:Obj:=F (y l1) #[s x66 482,s x66 483,s x1 484,.int 96 0,z,z,z,z,r 238,.bool false,.int 181 0,r 239,v,v,v,v,.int 485 0,.int 96 0,s x1 486]
def acF:Obj:=⟨y l2,none,.plain, #[(some (r 240)),(some (r 3)),(some (r 237)),none,(some (s uT 396)),none,(some (r 0))]⟩
def RW:Obj:=Q (y l0) #[s G1 495,s x53 496]
def RV:Obj:=⟨v,none,(fo (g2 35 0) x68 0 [] v v v v none v v 0), #[]⟩
def RU:Obj:=F (y l1) #[s x67 492,s x68 493,s x1 494,.int 98 0,.int 2 0,z,z,.int 3 0,r 242,.bool true,.int 181 0,r 243,v,r 244,r 245,r 246,.int 497 0,.int 98 0,s x1 498]
def RT:Obj:=⟨y l3,none,(fo (g2 35 0) x68 3 [] v v v (s uT 396) none (r 247) v 0), #[]⟩
def RS:Obj:=Q (y l0) #[s G1 503]
def RQ:Obj:=⟨v,none,(fo (g2 35 1) x69 0 [] v v v v none v v 0), #[]⟩
def RP:Obj:=F (y l1) #[s Yg 500,s x69 501,s x1 502,.int 102 0,.int 1 0,z,z,.int 3 0,r 249,.bool true,.int 181 0,r 250,v,r 251,r 252,r 253,.int 504 0,.int 102 0,s x1 505]
def RO:Obj:=⟨y l3,none,(fo (g2 35 1) x69 3 [] v v v (s uT 396) none (r 254) v 0), #[]⟩
def RN:Obj:=Q (y l0) #[s G1 510,s x28 511]
def RM:Obj:=⟨v,none,(fo (g2 35 2) x70 0 [] v v v v none v v 0), #[]⟩
def RL:Obj:=F (y l1) #[s x55 507,s x70 508,s x1 509,.int 105 0,.int 2 0,z,z,.int 3 0,r 256,.bool true,.int 181 0,r 257,v,r 258,r 259,r 260,.int 512 0,.int 105 0,s x1 513]
def RK:Obj:=⟨y l3,none,(fo (g2 35 2) x70 3 [] v v v (s uT 396) none (r 261) v 0), #[]⟩
def RJ:Obj:=Q (y l0) #[s G1 518]
def RH:Obj:=⟨v,none,(fo (g2 35 3) x71 0 [] v v v v none v v 0), #[]⟩
def RG:Obj:=F (y l1) #[s x57 515,s x71 516,s x1 517,.int 108 0,.int 1 0,z,z,.int 3 0,r 263,.bool true,.int 181 0,r 264,v,r 265,r 266,r 267,.int 519 0,.int 108 0,s x1 520]
def RE:Obj:=⟨y l3,none,(fo (g2 35 3) x71 3 [] v v v (s uT 396) none (r 268) v 0), #[]⟩
def RD:Obj:=Q (y l0) #[s x53 522]
def RC(P:Params):Obj:=⟨y l8,none,(.dict #[e P x8 487 (s uT 396),e P DV 491 (.int 96 490),e P x67 499 (r 248),e P Yg 506 (r 255),e P x55 514 (r 262),e P x57 521 (r 269),e P DT 523 (r 270),e P Yp 524 v] 2), #[]⟩
def RB:Obj:=⟨y l6,none,(.cls ⟨x66,[r 211],[r 272,r 211,y AN],271,x66,true,[],[],false,none,false⟩), #[(some (r 235)),none,(some (s x66 480)),(some (s x66 488)),(some (.builtin l17)),(some (.bool true))]⟩
def acE:Obj:=F (y l15) #[r 272,r 272,r 272]
def acD:Obj:=F (y l7) #[.builtin l16,r 272]
def T10(P:Params):BT:=(I (I (I (I (I (I (I (I (I (I (I (I (I (I (I (I (I (I (I (I (I (I (I (I (I (I (I (I (I (I (I (I (I (I (I (I (I (I (I (I (I (I (I (T9 P) 3 (am1 P)) 12 anf) 211 ajw) 235 mO) 236 iL) 237 (acI P)) 238 af) 239 acH) 240 acG) 241 acF) 242 af) 243 ao) 244 RW) 245 af) 246 RV) 247 RU) 248 RT) 249 af) 250 ao) 251 RS) 252 af) 253 RQ) 254 RP) 255 RO) 256 af) 257 ao) 258 RN) 259 af) 260 RM) 261 RL) 262 RK) 263 af) 264 ao) 265 RJ) 266 af) 267 RH) 268 RG) 269 RE) 270 RD) 271 (RC P)) 272 RB) 273 acE) 274 acD)
def S10(P:Params)(os:OsState):SharedT:=⟨T10 P,275,lf, #[],⟨0,0,0,0⟩,527,os⟩
def am0(P:Params):Obj:=ud (am1 P) [] [e P x72 564 (r 305)] 42
def ajC:Obj:=F v #[.int 1 0,z,r 20,.int 5 0,z,r 27,.int 7 0,z,r 40,.int 9 0,z,r 52,.int 11 0,z,r 64,.int 13 0,z,r 76,.int 22 0,z,r 91,.int 24 0,z,r 98,.int 32 0,z,r 105,.int 37 0,z,r 112,.int 39 0,z,r 119,.int 41 0,z,r 126,.int 44 0,z,r 131,.int 50 0,z,r 136,.int 52 0,z,r 141,.int 54 0,z,r 148,.int 56 0,z,r 155,.int 59 0,z,r 160,.int 68 0,z,r 167,.int 76 0,z,r 174,.int 79 0,z,r 179,.int 82 0,z,r 186,.int 92 0,z,r 221,.int 96 0,z,r 240,.int 110 0,z,r 280]
def ajv:Obj:=⟨y l6,none,(.cls ⟨Ag,[y AN],[r 211,y AN],210,Ag,true,[],[r 232,r 272,r 305],false,none,false⟩), #[none,none,(some (s Ag 415)),(some (s Ag 423)),(some (.builtin l17)),(some (.bool true))]⟩
def acC(P:Params):Obj:=⟨y l8,none,(.dict #[e P x8 534 (s uT 396),e P x9 536 (s x72 535),e P DV 538 (.int 110 537),e P Yg 545 (r 288),e P x55 553 (r 295),e P x56 560 (r 302),e P DT 561 (r 303)] 7), #[]⟩
def acB:Obj:=F v #[.int 112 0,.int 4 0,r 287,.int 115 0,.int 4 0,r 294,.int 118 0,.int 4 0,r 301]
def acA:Obj:=F (y l1) #[s x72 529,s x72 530,s x1 531,.int 110 0,z,z,z,z,r 278,.bool false,.int 181 0,r 279,v,v,v,v,.int 532 0,.int 110 0,s x1 533]
def acz:Obj:=⟨y l2,none,.plain, #[(some (r 280)),(some (r 3)),(some (r 277)),none,(some (s uT 396)),none,(some (r 0))]⟩
def RA:Obj:=Q (y l0) #[s G1 542]
def Rz:Obj:=⟨v,none,(fo (g2 36 0) x73 0 [] v v v v none v v 0), #[]⟩
def Ry:Obj:=F (y l1) #[s Yg 539,s x73 540,s x1 541,.int 112 0,.int 1 0,z,z,.int 3 0,r 282,.bool true,.int 181 0,r 283,v,r 284,r 285,r 286,.int 543 0,.int 112 0,s x1 544]
def Rx:Obj:=⟨y l3,none,(fo (g2 36 0) x73 3 [] v v v (s uT 396) none (r 287) v 0), #[]⟩
def Rv:Obj:=Q (y l0) #[s G1 549,s x28 550]
def Ru:Obj:=⟨v,none,(fo (g2 36 1) x74 0 [] v v v v none v v 0), #[]⟩
def Rt:Obj:=F (y l1) #[s x55 546,s x74 547,s x1 548,.int 115 0,.int 2 0,z,z,.int 3 0,r 289,.bool true,.int 181 0,r 290,v,r 291,r 292,r 293,.int 551 0,.int 115 0,s x1 552]
def Rr:Obj:=⟨y l3,none,(fo (g2 36 1) x74 3 [] v v v (s uT 396) none (r 294) v 0), #[]⟩
def Rq:Obj:=Q (y l0) #[s G1 557]
def Rp:Obj:=⟨v,none,(fo (g2 36 2) x75 0 [] v v v v none v v 0), #[]⟩
def Ro:Obj:=F (y l1) #[s x56 554,s x75 555,s x1 556,.int 118 0,.int 1 0,z,z,.int 3 0,r 296,.bool true,.int 181 0,r 297,v,r 298,r 299,r 300,.int 558 0,.int 118 0,s x1 559]
def Rn:Obj:=⟨y l3,none,(fo (g2 36 2) x75 3 [] v v v (s uT 396) none (r 301) v 0), #[]⟩
def Rm(P:Params):Obj:=⟨y l8,none,(.dict #[e P x8 534 (s uT 396),e P DV 538 (.int 110 537),e P Yg 545 (r 288),e P x55 553 (r 295),e P x56 560 (r 302),e P DT 561 (r 303),e P Yp 562 v] 2), #[]⟩
def Rk:Obj:=⟨y l6,none,(.cls ⟨x72,[r 211],[r 305,r 211,y AN],304,x72,true,[],[],false,none,false⟩), #[(some (r 275)),none,(some (s x72 527)),(some (s x72 535)),(some (.builtin l17)),(some (.bool true))]⟩
def acy:Obj:=F (y l15) #[r 305,r 305,r 305]
def acw:Obj:=F (y l7) #[.builtin l16,r 305]
def T11(P:Params):BT:=(I (I (I (I (I (I (I (I (I (I (I (I (I (I (I (I (I (I (I (I (I (I (I (I (I (I (I (I (I (I (I (I (I (I (I (I (T10 P) 3 (am0 P)) 12 ajC) 211 ajv) 275 mO) 276 iL) 277 (acC P)) 278 af) 279 acB) 280 acA) 281 acz) 282 af) 283 ao) 284 RA) 285 af) 286 Rz) 287 Ry) 288 Rx) 289 af) 290 ao) 291 Rv) 292 af) 293 Ru) 294 Rt) 295 Rr) 296 af) 297 ao) 298 Rq) 299 af) 300 Rp) 301 Ro) 302 Rn) 303 af) 304 (Rm P)) 305 Rk) 306 acy) 307 acw)
def S11(P:Params)(os:OsState):SharedT:=⟨T11 P,308,lf, #[],⟨0,0,0,0⟩,565,os⟩
def ag1(P:Params):Obj:=ud (am0 P) [(0,e P x3 165 (s LQ 597))] [e P x77 596 (r 331),e P x78 600 (.int 16 599),e P x79 608 (r 340),e P x80 620 (r 347),e P x81 630 (r 354)] 47
def ajB:Obj:=F v #[.int 1 0,z,r 20,.int 5 0,z,r 27,.int 7 0,z,r 40,.int 9 0,z,r 52,.int 11 0,z,r 64,.int 13 0,z,r 76,.int 22 0,z,r 91,.int 24 0,z,r 98,.int 32 0,z,r 105,.int 37 0,z,r 112,.int 39 0,z,r 119,.int 41 0,z,r 126,.int 44 0,z,r 131,.int 50 0,z,r 136,.int 52 0,z,r 141,.int 54 0,z,r 148,.int 56 0,z,r 155,.int 59 0,z,r 160,.int 68 0,z,r 167,.int 76 0,z,r 174,.int 79 0,z,r 179,.int 82 0,z,r 186,.int 92 0,z,r 221,.int 96 0,z,r 240,.int 110 0,z,r 280,.int 120 0,z,r 313,.int 130 0,z,r 339,.int 138 0,z,r 346,.int 145 0,z,r 353]
def R7:Obj:=⟨y l6,none,(.cls ⟨Ag,[y AN],[r 211,y AN],210,Ag,true,[],[r 232,r 272,r 305,r 331],false,none,false⟩), #[none,none,(some (s Ag 415)),(some (s Ag 423)),(some (.builtin l17)),(some (.bool true))]⟩
def acu(P:Params):Obj:=⟨y l8,none,(.dict #[e P x8 572 (s uT 396),e P x9 574 (s x77 573),e P DV 576 (.int 120 575),e P x67 584 (r 321),e P Yg 591 (r 328),e P DT 593 (r 329)] 6), #[]⟩
def acs:Obj:=F v #[.int 122 0,.int 4 0,r 320,.int 126 0,.int 4 0,r 327]
def acr:Obj:=F (y l1) #[s x77 567,s x77 568,s x1 569,.int 120 0,z,z,z,z,r 311,.bool false,.int 181 0,r 312,v,v,v,v,.int 570 0,.int 120 0,s x1 571]
def acq:Obj:=⟨y l2,none,.plain, #[(some (r 313)),(some (r 3)),(some (r 310)),none,(some (s uT 396)),none,(some (r 0))]⟩
def Rj:Obj:=Q (y l0) #[s G1 580,s x82 581]
def Ri:Obj:=⟨v,none,(fo (g2 37 0) x83 0 [] v v v v none v v 0), #[]⟩
def Rh:Obj:=F (y l1) #[s x67 577,s x83 578,s x1 579,.int 122 0,.int 2 0,z,z,.int 3 0,r 315,.bool true,.int 181 0,r 316,v,r 317,r 318,r 319,.int 582 0,.int 122 0,s x1 583]
def Rf:Obj:=⟨y l3,none,(fo (g2 37 0) x83 3 [] v v v (s uT 396) none (r 320) v 0), #[]⟩
def Rc:Obj:=Q (y l0) #[s G1 588]
def Rb:Obj:=⟨v,none,(fo (g2 37 1) x84 0 [] v v v v none v v 0), #[]⟩
def Ra:Obj:=F (y l1) #[s Yg 585,s x84 586,s x1 587,.int 126 0,.int 1 0,z,z,.int 3 0,r 322,.bool true,.int 181 0,r 323,v,r 324,r 325,r 326,.int 589 0,.int 126 0,s x1 590]
def Q9:Obj:=⟨y l3,none,(fo (g2 37 1) x84 3 [] v v v (s uT 396) none (r 327) v 0), #[]⟩
def Q8:Obj:=Q (y l0) #[s x82 592]
def Q7(P:Params):Obj:=⟨y l8,none,(.dict #[e P x8 572 (s uT 396),e P DV 576 (.int 120 575),e P x67 584 (r 321),e P Yg 591 (r 328),e P DT 593 (r 329),e P Yp 594 v] 2), #[]⟩
def Q6:Obj:=⟨y l6,none,(.cls ⟨x77,[r 211],[r 331,r 211,y AN],330,x77,true,[],[],false,none,false⟩), #[(some (r 308)),none,(some (s x77 565)),(some (s x77 573)),(some (.builtin l17)),(some (.bool true))]⟩
def acn:Obj:=F (y l15) #[r 331,r 331,r 331]
def acm:Obj:=F (y l7) #[.builtin l16,r 331]
def Q5:Obj:=Q (y l0) #[s x85 604,s x86 605]
def Q4:Obj:=⟨v,none,(fo (g1 40) x79 0 [] v v v v none v v 0), #[]⟩
def Q3:Obj:=F (y l1) #[s x79 601,s x79 602,s x1 603,.int 130 0,.int 1 0,z,z,.int 3 0,r 334,.bool true,.int 181 0,r 335,v,r 336,r 337,r 338,.int 606 0,.int 130 0,s x1 607]
def Q2:Obj:=⟨y l3,none,(fo (g1 40) x79 3 [] v v v (s LQ 597) none (r 339) v 0), #[]⟩
def Q0:Obj:=Q (y l0) #[s x85 612,s x87 613,s x31 614,s x86 615,s x30 616,s x88 617]
def QZ:Obj:=⟨v,none,(fo (g1 41) x80 0 [] v v v v none v v 0), #[]⟩
def QY:Obj:=F (y l1) #[s x80 609,s x80 610,s x1 611,.int 138 0,.int 1 0,z,z,.int 3 0,r 341,.bool true,.int 181 0,r 342,v,r 343,r 344,r 345,.int 618 0,.int 138 0,s x1 619]
def QX:Obj:=⟨y l3,none,(fo (g1 41) x80 3 [] v v v (s LQ 597) none (r 346) v 0), #[]⟩
def QW:Obj:=Q (y l0) #[s x85 624,s x89 625,s x82 626,s x87 627]
def QV:Obj:=⟨v,none,(fo (g1 42) x81 0 [] v v v v none v v 0), #[]⟩
def QU:Obj:=F (y l1) #[s x81 621,s x81 622,s x1 623,.int 145 0,.int 1 0,z,z,.int 3 0,r 348,.bool true,.int 181 0,r 349,v,r 350,r 351,r 352,.int 628 0,.int 145 0,s x1 629]
def QT:Obj:=⟨y l3,none,(fo (g1 42) x81 3 [] v v v (s LQ 597) none (r 353) v 0), #[]⟩
def T12(P:Params):BT:=(I (I (I (I (I (I (I (I (I (I (I (I (I (I (I (I (I (I (I (I (I (I (I (I (I (I (I (I (I (I (I (I (I (I (I (I (I (I (I (I (I (I (I (I (I (I (I (I (I (I (T11 P) 3 (ag1 P)) 12 ajB) 211 R7) 308 mO) 309 iL) 310 (acu P)) 311 af) 312 acs) 313 acr) 314 acq) 315 af) 316 ao) 317 Rj) 318 af) 319 Ri) 320 Rh) 321 Rf) 322 af) 323 ao) 324 Rc) 325 af) 326 Rb) 327 Ra) 328 Q9) 329 Q8) 330 (Q7 P)) 331 Q6) 332 acn) 333 acm) 334 af) 335 ao) 336 Q5) 337 af) 338 Q4) 339 Q3) 340 Q2) 341 af) 342 ao) 343 Q0) 344 af) 345 QZ) 346 QY) 347 QX) 348 af) 349 ao) 350 QW) 351 af) 352 QV) 353 QU) 354 QT)
def S12(P:Params)(os:OsState):SharedT:=⟨T12 P,355,lf, #[],⟨0,0,0,0⟩,631,os⟩
def ag0(P:Params):Obj:=ud (ag1 P) [] [e P x90 714 (r 416)] 48
def ajA:Obj:=F v #[.int 1 0,z,r 20,.int 5 0,z,r 27,.int 7 0,z,r 40,.int 9 0,z,r 52,.int 11 0,z,r 64,.int 13 0,z,r 76,.int 22 0,z,r 91,.int 24 0,z,r 98,.int 32 0,z,r 105,.int 37 0,z,r 112,.int 39 0,z,r 119,.int 41 0,z,r 126,.int 44 0,z,r 131,.int 50 0,z,r 136,.int 52 0,z,r 141,.int 54 0,z,r 148,.int 56 0,z,r 155,.int 59 0,z,r 160,.int 68 0,z,r 167,.int 76 0,z,r 174,.int 79 0,z,r 179,.int 82 0,z,r 186,.int 92 0,z,r 221,.int 96 0,z,r 240,.int 110 0,z,r 280,.int 120 0,z,r 313,.int 130 0,z,r 339,.int 138 0,z,r 346,.int 145 0,z,r 353,.int 153 0,z,r 360]
def ack(P:Params):Obj:=⟨y l8,none,(.dict #[e P x8 638 (s LQ 597),e P x9 640 (s x90 639),e P DV 642 (.int 153 641),e P x67 648 (r 366),e P x91 655 (r 373),e P x92 662 (r 380),e P x93 671 (r 387),e P x94 680 (r 394),e P x88 689 (r 401),e P x95 698 (r 408),e P x96 704 (r 413),e P DT 707 (r 414)] 12), #[]⟩
def acj:Obj:=F v #[.int 155 0,.int 4 0,r 365,.int 160 0,.int 4 0,r 372,.int 163 0,.int 4 0,r 379,.int 166 0,.int 4 0,r 386,.int 169 0,.int 4 0,r 393,.int 173 0,.int 4 0,r 400,.int 177 0,.int 4 0,r 407,.int 181 0,.int 4 0,r 412]
def aci:Obj:=F (y l1) #[s x90 633,s x90 634,s x1 635,.int 153 0,z,z,z,z,r 358,.bool false,.int 181 0,r 359,v,v,v,v,.int 636 0,.int 153 0,s x1 637]
def ach:Obj:=⟨y l2,none,.plain, #[(some (r 360)),(some (r 3)),(some (r 357)),none,(some (s LQ 597)),none,(some (r 0))]⟩
def QS:Obj:=⟨v,none,(fo (g2 43 0) x97 0 [] v v v v none v v 0), #[]⟩
def QO:Obj:=F (y l1) #[s x67 643,s x97 644,s x1 645,.int 155 0,.int 2 0,z,z,.int 3 0,r 362,.bool true,.int 181 0,r 363,v,v,v,r 364,.int 646 0,.int 155 0,s x1 647]
def QN:Obj:=⟨y l3,none,(fo (g2 43 0) x97 3 [] v v v (s LQ 597) none (r 365) v 0), #[]⟩
def QM:Obj:=Q (y l0) #[s G1 652]
def QL:Obj:=⟨v,none,(fo (g2 43 1) x98 0 [] v v v v none v v 0), #[]⟩
def QK:Obj:=F (y l1) #[s x91 649,s x98 650,s x1 651,.int 160 0,.int 1 0,z,z,.int 3 0,r 367,.bool true,.int 181 0,r 368,v,r 369,r 370,r 371,.int 653 0,.int 160 0,s x1 654]
def QJ:Obj:=⟨y l3,none,(fo (g2 43 1) x98 3 [] v v v (s LQ 597) none (r 372) v 0), #[]⟩
def QI:Obj:=Q (y l0) #[s G1 659]
def QH:Obj:=⟨v,none,(fo (g2 43 2) x99 0 [] v v v v none v v 0), #[]⟩
def QG:Obj:=F (y l1) #[s x92 656,s x99 657,s x1 658,.int 163 0,.int 1 0,z,z,.int 3 0,r 374,.bool true,.int 181 0,r 375,v,r 376,r 377,r 378,.int 660 0,.int 163 0,s x1 661]
def QF:Obj:=⟨y l3,none,(fo (g2 43 2) x99 3 [] v v v (s LQ 597) none (r 379) v 0), #[]⟩
def QE:Obj:=Q (y l0) #[s G1 666,s x30 667,s x31 668]
def QD:Obj:=⟨v,none,(fo (g2 43 3) ahn 0 [] v v v v none v v 0), #[]⟩
def QC:Obj:=F (y l1) #[s x93 663,s ahn 664,s x1 665,.int 166 0,.int 3 0,z,z,.int 3 0,r 381,.bool true,.int 181 0,r 382,v,r 383,r 384,r 385,.int 669 0,.int 166 0,s x1 670]
def QB:Obj:=⟨y l3,none,(fo (g2 43 3) ahn 3 [] v v v (s LQ 597) none (r 386) v 0), #[]⟩
def QA:Obj:=Q (y l0) #[s G1 675,s x30 676,s x31 677]
def Qz:Obj:=⟨v,none,(fo (g2 43 4) ahm 0 [] v v v v none v v 0), #[]⟩
def Qy:Obj:=F (y l1) #[s x94 672,s ahm 673,s x1 674,.int 169 0,.int 3 0,z,z,.int 3 0,r 388,.bool true,.int 181 0,r 389,v,r 390,r 391,r 392,.int 678 0,.int 169 0,s x1 679]
def Qx:Obj:=⟨y l3,none,(fo (g2 43 4) ahm 3 [] v v v (s LQ 597) none (r 393) v 0), #[]⟩
def Qw:Obj:=Q (y l0) #[s G1 684,s x30 685,s x31 686]
def Qv:Obj:=⟨v,none,(fo (g2 43 5) ahl 0 [] v v v v none v v 0), #[]⟩
def Qu:Obj:=F (y l1) #[s x88 681,s ahl 682,s x1 683,.int 173 0,.int 3 0,z,z,.int 3 0,r 395,.bool true,.int 181 0,r 396,v,r 397,r 398,r 399,.int 687 0,.int 173 0,s x1 688]
def Qt:Obj:=⟨y l3,none,(fo (g2 43 5) ahl 3 [] v v v (s LQ 597) none (r 400) v 0), #[]⟩
def Qs:Obj:=Q (y l0) #[s G1 693,s x30 694,s x31 695]
def Qq:Obj:=⟨v,none,(fo (g2 43 6) ahk 0 [] v v v v none v v 0), #[]⟩
def Qp:Obj:=F (y l1) #[s x95 690,s ahk 691,s x1 692,.int 177 0,.int 3 0,z,z,.int 3 0,r 402,.bool true,.int 181 0,r 403,v,r 404,r 405,r 406,.int 696 0,.int 177 0,s x1 697]
def Qo:Obj:=⟨y l3,none,(fo (g2 43 6) ahk 3 [] v v v (s LQ 597) none (r 407) v 0), #[]⟩
def Qn:Obj:=⟨v,none,(fo (g2 43 7) ahj 0 [] v v v v none v v 0), #[]⟩
def Qm:Obj:=F (y l1) #[s x96 699,s ahj 700,s x1 701,.int 181 0,.int 1 0,z,z,.int 3 0,r 409,.bool true,.int 181 0,r 410,v,v,v,r 411,.int 702 0,.int 181 0,s x1 703]
def Ql:Obj:=⟨y l3,none,(fo (g2 43 7) ahj 3 [] v v v (s LQ 597) none (r 412) v 0), #[]⟩
def Qk:Obj:=Q (y l0) #[s x89 705,s x85 706]
def Qj(P:Params):Obj:=⟨y l8,none,(.dict #[e P x8 638 (s LQ 597),e P DV 642 (.int 153 641),e P x67 648 (r 366),e P x91 655 (r 373),e P x92 662 (r 380),e P x93 671 (r 387),e P x94 680 (r 394),e P x88 689 (r 401),e P x95 698 (r 408),e P x96 704 (r 413),e P DT 707 (r 414),e P x62 709 (r 417),e P x12 711 (r 418),e P Yp 712 v] 4), #[]⟩
def Qi:Obj:=⟨y l6,none,(.cls ⟨x90,[y AN],[r 416,y AN],415,x90,true,[],[],false,none,false⟩), #[none,none,(some (s x90 631)),(some (s x90 639)),(some (.builtin l17)),(some (.bool true))]⟩
def Qh:Obj:=F (y l14) #[s x62 708,r 416,.builtin l18,.builtin l19]
def Qg:Obj:=F (y l14) #[s x12 710,r 416,.builtin l13,v]
def acf:Obj:=F (y l15) #[r 416,r 416,r 416]
def ace:Obj:=F (y l7) #[.builtin l16,r 416]
def T13(P:Params):BT:=(I (I (I (I (I (I (I (I (I (I (I (I (I (I (I (I (I (I (I (I (I (I (I (I (I (I (I (I (I (I (I (I (I (I (I (I (I (I (I (I (I (I (I (I (I (I (I (I (I (I (I (I (I (I (I (I (I (I (I (I (I (I (I (I (I (I (I (I (T12 P) 3 (ag0 P)) 12 ajA) 355 af) 356 iL) 357 (ack P)) 358 af) 359 acj) 360 aci) 361 ach) 362 af) 363 ao) 364 QS) 365 QO) 366 QN) 367 af) 368 ao) 369 QM) 370 af) 371 QL) 372 QK) 373 QJ) 374 af) 375 ao) 376 QI) 377 af) 378 QH) 379 QG) 380 QF) 381 af) 382 ao) 383 QE) 384 af) 385 QD) 386 QC) 387 QB) 388 af) 389 ao) 390 QA) 391 af) 392 Qz) 393 Qy) 394 Qx) 395 af) 396 ao) 397 Qw) 398 af) 399 Qv) 400 Qu) 401 Qt) 402 af) 403 ao) 404 Qs) 405 af) 406 Qq) 407 Qp) 408 Qo) 409 af) 410 ao) 411 Qn) 412 Qm) 413 Ql) 414 Qk) 415 (Qj P)) 416 Qi) 417 Qh) 418 Qg) 419 acf) 420 ace)
def S13(P:Params)(os:OsState):SharedT:=⟨T13 P,421,lf, #[],⟨0,0,0,0⟩,715,os⟩
def agZ(P:Params):Obj:=ud (ag0 P) [(0,e P x3 165 (s uU 715))] [e P VA 724 (r 427),e P Vz 731 (r 434),e P Vy 737 (r 439),e P Vx 747 (r 446),e P Vw 756 (r 453),e P Vv 770 (r 460),e P Vu 781 (r 467),e P Vt 787 (r 472),e P Vs 794 (r 479),e P Vr 800 (r 484),e P Vq 811 (r 491),e P Vp 822 (r 498)] 60
def ajz:Obj:=F v #[.int 1 0,z,r 20,.int 5 0,z,r 27,.int 7 0,z,r 40,.int 9 0,z,r 52,.int 11 0,z,r 64,.int 13 0,z,r 76,.int 22 0,z,r 91,.int 24 0,z,r 98,.int 32 0,z,r 105,.int 37 0,z,r 112,.int 39 0,z,r 119,.int 41 0,z,r 126,.int 44 0,z,r 131,.int 50 0,z,r 136,.int 52 0,z,r 141,.int 54 0,z,r 148,.int 56 0,z,r 155,.int 59 0,z,r 160,.int 68 0,z,r 167,.int 76 0,z,r 174,.int 79 0,z,r 179,.int 82 0,z,r 186,.int 92 0,z,r 221,.int 96 0,z,r 240,.int 110 0,z,r 280,.int 120 0,z,r 313,.int 130 0,z,r 339,.int 138 0,z,r 346,.int 145 0,z,r 353,.int 153 0,z,r 360,.int 187 0,z,r 426,.int 191 0,z,r 433,.int 195 0,z,r 438,.int 205 0,z,r 445,.int 207 0,z,r 452,.int 210 0,z,r 459,.int 219 0,z,r 466,.int 222 0,z,r 471,.int 224 0,z,r 478,.int 226 0,z,r 483,.int 234 0,z,r 490,.int 244 0,z,r 497]
def Qf:Obj:=Q (y l0) #[s akP 720,s apa 721]
def Qe:Obj:=⟨v,none,(fo (g1 45) VA 0 [] v v v v none v v 0), #[]⟩
def Qd:Obj:=F (y l1) #[s VA 717,s VA 718,s x1 719,.int 187 0,.int 2 0,z,z,.int 3 0,r 421,.bool true,.int 181 0,r 422,v,r 423,r 424,r 425,.int 722 0,.int 187 0,s x1 723]
def Qc:Obj:=⟨y l3,none,(fo (g1 45) VA 3 [] v v v (s uU 715) none (r 426) v 0), #[]⟩
def Qa:Obj:=Q (y l0) #[s akO 728]
def P9:Obj:=⟨v,none,(fo (g1 46) Vz 0 [] v v v v none v v 0), #[]⟩
def P8:Obj:=F (y l1) #[s Vz 725,s Vz 726,s x1 727,.int 191 0,.int 1 0,z,z,.int 3 0,r 428,.bool true,.int 181 0,r 429,v,r 430,r 431,r 432,.int 729 0,.int 191 0,s x1 730]
def P7:Obj:=⟨y l3,none,(fo (g1 46) Vz 3 [] v v v (s uU 715) none (r 433) v 0), #[]⟩
def P6:Obj:=⟨v,none,(fo (g1 47) Vy 0 [] v v v v none v v 0), #[]⟩
def P5:Obj:=F (y l1) #[s Vy 732,s Vy 733,s x1 734,.int 195 0,.int 3 0,z,z,.int 3 0,r 435,.bool true,.int 181 0,r 436,v,v,v,r 437,.int 735 0,.int 195 0,s x1 736]
def P4:Obj:=⟨y l3,none,(fo (g1 47) Vy 3 [] v v v (s uU 715) none (r 438) v 0), #[]⟩
def P1:Obj:=Q (y l0) #[s ahi 741,s ahh 742,s Vo 743,s Vn 744]
def PZ:Obj:=⟨v,none,(fo (g1 48) Vx 0 [] v v v v none v v 0), #[]⟩
def PY:Obj:=F (y l1) #[s Vx 738,s Vx 739,s x1 740,.int 205 0,.int 4 0,z,z,.int 3 0,r 440,.bool true,.int 181 0,r 441,v,r 442,r 443,r 444,.int 745 0,.int 205 0,s x1 746]
def PX:Obj:=⟨y l3,none,(fo (g1 48) Vx 3 [] v v v (s uU 715) none (r 445) v 0), #[]⟩
def PV:Obj:=Q (y l0) #[s Yq 751,s ao9 752,s ao8 753]
def PU:Obj:=⟨v,none,(fo (g1 49) Vw 0 [] v v v v none v v 0), #[]⟩
def PN:Obj:=F (y l1) #[s Vw 748,s Vw 749,s x1 750,.int 207 0,.int 1 0,z,z,.int 3 0,r 447,.bool true,.int 181 0,r 448,v,r 449,r 450,r 451,.int 754 0,.int 207 0,s x1 755]
def PK:Obj:=⟨y l3,none,(fo (g1 49) Vw 3 [] v v v (s uU 715) none (r 452) v 0), #[]⟩
def PJ:Obj:=Q (y l0) #[s Vo 760,s Vn 761,s akN 762,s ahi 763,s ahh 764,s akM 765,s ahg 766,s ahf 767]
def PF:Obj:=⟨v,none,(fo (g1 50) Vv 0 [] v v v v none v v 0), #[]⟩
def PC:Obj:=F (y l1) #[s Vv 757,s Vv 758,s x1 759,.int 210 0,.int 2 0,z,z,.int 3 0,r 454,.bool true,.int 181 0,r 455,v,r 456,r 457,r 458,.int 768 0,.int 210 0,s x1 769]
def PB:Obj:=⟨y l3,none,(fo (g1 50) Vv 3 [] v v v (s uU 715) none (r 459) v 0), #[]⟩
def Pz:Obj:=Q (y l0) #[s Yq 774,s Vo 775,s Vn 776,s ahg 777,s ahf 778]
def Py:Obj:=⟨v,none,(fo (g1 51) Vu 0 [] v v v v none v v 0), #[]⟩
def Px:Obj:=F (y l1) #[s Vu 771,s Vu 772,s x1 773,.int 219 0,.int 3 0,z,z,.int 3 0,r 461,.bool true,.int 181 0,r 462,v,r 463,r 464,r 465,.int 779 0,.int 219 0,s x1 780]
def Pw:Obj:=⟨y l3,none,(fo (g1 51) Vu 3 [] v v v (s uU 715) none (r 466) v 0), #[]⟩
def Pu:Obj:=⟨v,none,(fo (g1 52) Vt 0 [] v v v v none v v 0), #[]⟩
def Pr:Obj:=F (y l1) #[s Vt 782,s Vt 783,s x1 784,.int 222 0,.int 2 0,z,z,.int 3 0,r 468,.bool true,.int 181 0,r 469,v,v,v,r 470,.int 785 0,.int 222 0,s x1 786]
def Pq:Obj:=⟨y l3,none,(fo (g1 52) Vt 3 [] v v v (s uU 715) none (r 471) v 0), #[]⟩
def Pp:Obj:=Q (y l0) #[s akN 791]
def Po:Obj:=⟨v,none,(fo (g1 53) Vs 0 [] v v v v none v v 0), #[]⟩
def Pk:Obj:=F (y l1) #[s Vs 788,s Vs 789,s x1 790,.int 224 0,.int 1 0,z,z,.int 3 0,r 473,.bool true,.int 181 0,r 474,v,r 475,r 476,r 477,.int 792 0,.int 224 0,s x1 793]
def Pj:Obj:=⟨y l3,none,(fo (g1 53) Vs 3 [] v v v (s uU 715) none (r 478) v 0), #[]⟩
def Ph:Obj:=⟨v,none,(fo (g1 54) Vr 0 [] v v v v none v v 0), #[]⟩
def Pg:Obj:=F (y l1) #[s Vr 795,s Vr 796,s x1 797,.int 226 0,.int 3 0,z,z,.int 3 0,r 480,.bool true,.int 181 0,r 481,v,v,v,r 482,.int 798 0,.int 226 0,s x1 799]
def Pf:Obj:=⟨y l3,none,(fo (g1 54) Vr 3 [] v v v (s uU 715) none (r 483) v 0), #[]⟩
def Pe:Obj:=Q (y l0) #[s akL 804,s Yq 805,s akM 806,s ao7 807,s ao6 808]
def Pc:Obj:=⟨v,none,(fo (g1 55) Vq 0 [] v v v v none v v 0), #[]⟩
def Pb:Obj:=F (y l1) #[s Vq 801,s Vq 802,s x1 803,.int 234 0,.int 3 0,z,z,.int 3 0,r 485,.bool true,.int 181 0,r 486,v,r 487,r 488,r 489,.int 809 0,.int 234 0,s x1 810]
def Pa:Obj:=⟨y l3,none,(fo (g1 55) Vq 3 [] v v v (s uU 715) none (r 490) v 0), #[]⟩
def O9:Obj:=Q (y l0) #[s Yq 815,s Vo 816,s Vn 817,s ahg 818,s ahf 819]
def O8:Obj:=⟨v,none,(fo (g1 56) Vp 0 [] v v v v none v v 0), #[]⟩
def O7:Obj:=F (y l1) #[s Vp 812,s Vp 813,s x1 814,.int 244 0,.int 3 0,z,z,.int 3 0,r 492,.bool true,.int 181 0,r 493,v,r 494,r 495,r 496,.int 820 0,.int 244 0,s x1 821]
def O6:Obj:=⟨y l3,none,(fo (g1 56) Vp 3 [] v v v (s uU 715) none (r 497) v 0), #[]⟩
def T14(P:Params):BT:=(I (I (I (I (I (I (I (I (I (I (I (I (I (I (I (I (I (I (I (I (I (I (I (I (I (I (I (I (I (I (I (I (I (I (I (I (I (I (I (I (I (I (I (I (I (I (I (I (I (I (I (I (I (I (I (I (I (I (I (I (I (I (I (I (I (I (I (I (I (I (I (I (I (I (I (I (I (I (I (I (T13 P) 3 (agZ P)) 12 ajz) 421 af) 422 ao) 423 Qf) 424 af) 425 Qe) 426 Qd) 427 Qc) 428 af) 429 ao) 430 Qa) 431 af) 432 P9) 433 P8) 434 P7) 435 af) 436 ao) 437 P6) 438 P5) 439 P4) 440 af) 441 ao) 442 P1) 443 af) 444 PZ) 445 PY) 446 PX) 447 af) 448 ao) 449 PV) 450 af) 451 PU) 452 PN) 453 PK) 454 af) 455 ao) 456 PJ) 457 af) 458 PF) 459 PC) 460 PB) 461 af) 462 ao) 463 Pz) 464 af) 465 Py) 466 Px) 467 Pw) 468 af) 469 ao) 470 Pu) 471 Pr) 472 Pq) 473 af) 474 ao) 475 Pp) 476 af) 477 Po) 478 Pk) 479 Pj) 480 af) 481 ao) 482 Ph) 483 Pg) 484 Pf) 485 af) 486 ao) 487 Pe) 488 af) 489 Pc) 490 Pb) 491 Pa) 492 af) 493 ao) 494 O9) 495 af) 496 O8) 497 O7) 498 O6)
def S14(P:Params)(os:OsState):SharedT:=⟨T14 P,499,lf, #[],⟨0,0,0,0⟩,823,os⟩
def acg(P:Params):Obj:=ud (agZ P) [] [e P Vm 833 (r 505),e P Yo 846 (r 512)] 62
def Ti:Obj:=F v #[.int 1 0,z,r 20,.int 5 0,z,r 27,.int 7 0,z,r 40,.int 9 0,z,r 52,.int 11 0,z,r 64,.int 13 0,z,r 76,.int 22 0,z,r 91,.int 24 0,z,r 98,.int 32 0,z,r 105,.int 37 0,z,r 112,.int 39 0,z,r 119,.int 41 0,z,r 126,.int 44 0,z,r 131,.int 50 0,z,r 136,.int 52 0,z,r 141,.int 54 0,z,r 148,.int 56 0,z,r 155,.int 59 0,z,r 160,.int 68 0,z,r 167,.int 76 0,z,r 174,.int 79 0,z,r 179,.int 82 0,z,r 186,.int 92 0,z,r 221,.int 96 0,z,r 240,.int 110 0,z,r 280,.int 120 0,z,r 313,.int 130 0,z,r 339,.int 138 0,z,r 346,.int 145 0,z,r 353,.int 153 0,z,r 360,.int 187 0,z,r 426,.int 191 0,z,r 433,.int 195 0,z,r 438,.int 205 0,z,r 445,.int 207 0,z,r 452,.int 210 0,z,r 459,.int 219 0,z,r 466,.int 222 0,z,r 471,.int 224 0,z,r 478,.int 226 0,z,r 483,.int 234 0,z,r 490,.int 244 0,z,r 497,.int 249 0,z,r 504,.int 255 0,z,r 511]
def O5:Obj:=Q (y l0) #[s akO 826,s Vo 827,s Vn 828,s ahi 829,s ahh 830]
def O4:Obj:=⟨v,none,(fo (g1 57) Vm 0 [] v v v v none v v 0), #[]⟩
def O3:Obj:=F (y l1) #[s Vm 823,s Vm 824,s x1 825,.int 249 0,.int 3 0,z,z,.int 3 0,r 499,.bool true,.int 181 0,r 500,v,r 501,r 502,r 503,.int 831 0,.int 249 0,s x1 832]
def O2:Obj:=⟨y l3,none,(fo (g1 57) Vm 3 [] v v v (s uU 715) none (r 504) v 0), #[]⟩
def O1:Obj:=Q (y l0) #[s akP 837,s Vo 838,s Vn 839,s akL 840,s ao5 841,s Yq 842,s ao4 843]
def O0:Obj:=⟨v,none,(fo (g1 58) Yo 0 [] v v v v none v v 0), #[]⟩
def OZ:Obj:=F (y l1) #[s Yo 834,s Yo 835,s x1 836,.int 255 0,.int 1 0,z,z,.int 3 0,r 506,.bool true,.int 181 0,r 507,v,r 508,r 509,r 510,.int 844 0,.int 255 0,s x1 845]
def OY:Obj:=⟨y l3,none,(fo (g1 58) Yo 3 [] v v v (s uU 715) none (r 511) v 0), #[]⟩
def T15(P:Params):BT:=(I (I (I (I (I (I (I (I (I (I (I (I (I (I (I (I (T14 P) 3 (acg P)) 12 Ti) 499 af) 500 ao) 501 O5) 502 af) 503 O4) 504 O3) 505 O2) 506 af) 507 ao) 508 O1) 509 af) 510 O0) 511 OZ) 512 OY)
def S15(P:Params)(os:OsState):SharedT:=⟨T15 P,513,lf, #[],⟨0,0,0,0⟩,847,os⟩
def HF(P:Params):Heap:=⟨⟨[boot_o_0 P,boot_o_1 P,boot_o_2 P,acg P,boot_o_4 P,boot_o_5 P,boot_o_6 P,boot_o_7 P,boot_o_8 P,boot_o_9 P,boot_o_10 P,af,Ti,ac3,ac1,af,ao,acZ,af,acU,acT,acP,acL,iL,ag7 P,af,ao,ag6,ag5,af,acv P,acp,aco,ag4,ag3,rE,iL,ag2 P,af,ao,agY,agX,af,acd P,ab9,agW,agV,rE,iL,agU P,af,ao,agT,agS,af,ab8 P,ab7,agR,agQ,rE,iL,agP P,af,ao,agO,agN,af,ab6 P,ab5,agM,agL,rE,iL,agK P,af,ao,agJ,agI,af,ab4 P,ab3,agH,agG,ab2,ab1,ab0,af,ao,abZ,af,abY,abX,abW,af,ao,abV,af,abU,abT,abS,af,ao,TM,af,TL,TJ,TH,af,ao,TF,af,Tz,Tw,Tv,af,ao,Tu,af,Tt,Tr,Tq,af,ao,Tp,af,To,Tn,Tj,af,ao,Th,Te,Td,af,ao,Tc,SY,SX,af,ao,SW,SV,SR,af,ao,SQ,af,SO,SN,SM,af,ao,SK,af,SJ,SI,SH,af,ao,SG,SE,SD,af,ao,SA,af,Sz,Sy,Sx,af,ao,Sw,af,Sv,Su,Ss,af,ao,Sq,So,Sn,af,iL,acY P,af,acX,acW,acV,af,ao,Sm,af,Sl,Sk,Sj,af,ao,Si,af,Sh,Sf,Se,af,ao,Sd,af,Sb,Sa,R9,af,R8 P,R7,R6,R5,acS,acR,mO,iL,acQ P,af,acO,acN,acM,af,ao,R4,af,R3,R0,RZ,af,RY P,RX,acK,acJ,mO,iL,acI P,af,acH,acG,acF,af,ao,RW,af,RV,RU,RT,af,ao,RS,af,RQ,RP,RO,af,ao,RN,af,RM,RL,RK,af,ao,RJ,af,RH,RG,RE,RD,RC P,RB,acE,acD,mO,iL,acC P,af,acB,acA,acz,af,ao,RA,af,Rz,Ry,Rx,af,ao,Rv,af,Ru,Rt,Rr,af,ao,Rq,af,Rp,Ro,Rn,af,Rm P,Rk,acy,acw,mO,iL,acu P,af,acs,acr,acq,af,ao,Rj,af,Ri,Rh,Rf,af,ao,Rc,af,Rb,Ra,Q9,Q8,Q7 P,Q6,acn,acm,af,ao,Q5,af,Q4,Q3,Q2,af,ao,Q0,af,QZ,QY,QX,af,ao,QW,af,QV,QU,QT,af,iL,ack P,af,acj,aci,ach,af,ao,QS,QO,QN,af,ao,QM,af,QL,QK,QJ,af,ao,QI,af,QH,QG,QF,af,ao,QE,af,QD,QC,QB,af,ao,QA,af,Qz,Qy,Qx,af,ao,Qw,af,Qv,Qu,Qt,af,ao,Qs,af,Qq,Qp,Qo,af,ao,Qn,Qm,Ql,Qk,Qj P,Qi,Qh,Qg,acf,ace,af,ao,Qf,af,Qe,Qd,Qc,af,ao,Qa,af,P9,P8,P7,af,ao,P6,P5,P4,af,ao,P1,af,PZ,PY,PX,af,ao,PV,af,PU,PN,PK,af,ao,PJ,af,PF,PC,PB,af,ao,Pz,af,Py,Px,Pw,af,ao,Pu,Pr,Pq,af,ao,Pp,af,Po,Pk,Pj,af,ao,Ph,Pg,Pf,af,ao,Pe,af,Pc,Pb,Pa,af,ao,O9,af,O8,O7,O6,af,ao,O5,af,O4,O3,O2,af,ao,O1,af,O0,OZ,OY]⟩,lf⟩
def KF(P:Params):Frag:=(nat_lit 0,(boot_o_0 P))::(nat_lit 1,(boot_o_1 P))::(nat_lit 2,(boot_o_2 P))::(nat_lit 3,(acg P))::(nat_lit 4,(boot_o_4 P))::(nat_lit 5,(boot_o_5 P))::(nat_lit 6,(boot_o_6 P))::(nat_lit 7,(boot_o_7 P))::(nat_lit 8,(boot_o_8 P))::(nat_lit 9,(boot_o_9 P))::(nat_lit 10,(boot_o_10 P))::(nat_lit 11,af)::(nat_lit 12,Ti)::(nat_lit 13,ac3)::(nat_lit 14,ac1)::(nat_lit 15,af)::(nat_lit 16,ao)::(nat_lit 17,acZ)::(nat_lit 18,af)::(nat_lit 19,acU)::(nat_lit 20,acT)::(nat_lit 21,acP)::(nat_lit 22,acL)::(nat_lit 29,af)::(nat_lit 30,(acv P))::(nat_lit 31,acp)::(nat_lit 32,aco)::(nat_lit 35,rE)::(nat_lit 42,af)::(nat_lit 43,(acd P))::(nat_lit 44,ab9)::(nat_lit 47,rE)::(nat_lit 54,af)::(nat_lit 55,(ab8 P))::(nat_lit 56,ab7)::(nat_lit 59,rE)::(nat_lit 66,af)::(nat_lit 67,(ab6 P))::(nat_lit 68,ab5)::(nat_lit 71,rE)::(nat_lit 78,af)::(nat_lit 79,(ab4 P))::(nat_lit 80,ab3)::(nat_lit 83,ab2)::(nat_lit 84,ab1)::(nat_lit 85,ab0)::(nat_lit 86,af)::(nat_lit 87,ao)::(nat_lit 88,abZ)::(nat_lit 89,af)::(nat_lit 90,abY)::(nat_lit 91,abX)::(nat_lit 92,abW)::(nat_lit 93,af)::(nat_lit 94,ao)::(nat_lit 95,abV)::(nat_lit 96,af)::(nat_lit 97,abU)::(nat_lit 98,abT)::(nat_lit 99,abS)::(nat_lit 100,af)::(nat_lit 101,ao)::(nat_lit 102,TM)::(nat_lit 103,af)::(nat_lit 104,TL)::(nat_lit 105,TJ)::(nat_lit 106,TH)::(nat_lit 107,af)::(nat_lit 108,ao)::(nat_lit 109,TF)::(nat_lit 110,af)::(nat_lit 111,Tz)::(nat_lit 112,Tw)::(nat_lit 113,Tv)::(nat_lit 114,af)::(nat_lit 115,ao)::(nat_lit 116,Tu)::(nat_lit 117,af)::(nat_lit 118,Tt)::(nat_lit 119,Tr)::(nat_lit 120,Tq)::(nat_lit 121,af)::(nat_lit 122,ao)::(nat_lit 123,Tp)::(nat_lit 124,af)::(nat_lit 125,To)::(nat_lit 126,Tn)::(nat_lit 127,Tj)::(nat_lit 128,af)::(nat_lit 129,ao)::(nat_lit 130,Th)::(nat_lit 131,Te)::(nat_lit 132,Td)::(nat_lit 133,af)::(nat_lit 134,ao)::(nat_lit 135,Tc)::(nat_lit 136,SY)::(nat_lit 137,SX)::(nat_lit 138,af)::(nat_lit 139,ao)::(nat_lit 140,SW)::(nat_lit 141,SV)::(nat_lit 142,SR)::(nat_lit 143,af)::(nat_lit 144,ao)::(nat_lit 145,SQ)::(nat_lit 146,af)::(nat_lit 147,SO)::(nat_lit 148,SN)::(nat_lit 149,SM)::(nat_lit 150,af)::(nat_lit 151,ao)::(nat_lit 152,SK)::(nat_lit 153,af)::(nat_lit 154,SJ)::(nat_lit 155,SI)::(nat_lit 156,SH)::(nat_lit 157,af)::(nat_lit 158,ao)::(nat_lit 159,SG)::(nat_lit 160,SE)::(nat_lit 161,SD)::(nat_lit 162,af)::(nat_lit 163,ao)::(nat_lit 164,SA)::(nat_lit 165,af)::(nat_lit 166,Sz)::(nat_lit 167,Sy)::(nat_lit 168,Sx)::(nat_lit 169,af)::(nat_lit 170,ao)::(nat_lit 171,Sw)::(nat_lit 172,af)::(nat_lit 173,Sv)::(nat_lit 174,Su)::(nat_lit 175,Ss)::(nat_lit 176,af)::(nat_lit 177,ao)::(nat_lit 178,Sq)::(nat_lit 179,So)::(nat_lit 180,Sn)::(nat_lit 188,af)::(nat_lit 189,ao)::(nat_lit 190,Sm)::(nat_lit 191,af)::(nat_lit 192,Sl)::(nat_lit 193,Sk)::(nat_lit 194,Sj)::(nat_lit 195,af)::(nat_lit 196,ao)::(nat_lit 197,Si)::(nat_lit 198,af)::(nat_lit 199,Sh)::(nat_lit 200,Sf)::(nat_lit 201,Se)::(nat_lit 202,af)::(nat_lit 203,ao)::(nat_lit 204,Sd)::(nat_lit 205,af)::(nat_lit 206,Sb)::(nat_lit 207,Sa)::(nat_lit 208,R9)::(nat_lit 209,af)::(nat_lit 210,(R8 P))::(nat_lit 211,R7)::(nat_lit 212,R6)::(nat_lit 213,R5)::(nat_lit 216,mO)::(nat_lit 223,af)::(nat_lit 224,ao)::(nat_lit 225,R4)::(nat_lit 226,af)::(nat_lit 227,R3)::(nat_lit 228,R0)::(nat_lit 229,RZ)::(nat_lit 230,af)::(nat_lit 231,(RY P))::(nat_lit 232,RX)::(nat_lit 235,mO)::(nat_lit 242,af)::(nat_lit 243,ao)::(nat_lit 244,RW)::(nat_lit 245,af)::(nat_lit 246,RV)::(nat_lit 247,RU)::(nat_lit 248,RT)::(nat_lit 249,af)::(nat_lit 250,ao)::(nat_lit 251,RS)::(nat_lit 252,af)::(nat_lit 253,RQ)::(nat_lit 254,RP)::(nat_lit 255,RO)::(nat_lit 256,af)::(nat_lit 257,ao)::(nat_lit 258,RN)::(nat_lit 259,af)::(nat_lit 260,RM)::(nat_lit 261,RL)::(nat_lit 262,RK)::(nat_lit 263,af)::(nat_lit 264,ao)::(nat_lit 265,RJ)::(nat_lit 266,af)::(nat_lit 267,RH)::(nat_lit 268,RG)::(nat_lit 269,RE)::(nat_lit 270,RD)::(nat_lit 271,(RC P))::(nat_lit 272,RB)::(nat_lit 275,mO)::(nat_lit 282,af)::(nat_lit 283,ao)::(nat_lit 284,RA)::(nat_lit 285,af)::(nat_lit 286,Rz)::(nat_lit 287,Ry)::(nat_lit 288,Rx)::(nat_lit 289,af)::(nat_lit 290,ao)::(nat_lit 291,Rv)::(nat_lit 292,af)::(nat_lit 293,Ru)::(nat_lit 294,Rt)::(nat_lit 295,Rr)::(nat_lit 296,af)::(nat_lit 297,ao)::(nat_lit 298,Rq)::(nat_lit 299,af)::(nat_lit 300,Rp)::(nat_lit 301,Ro)::(nat_lit 302,Rn)::(nat_lit 303,af)::(nat_lit 304,(Rm P))::(nat_lit 305,Rk)::(nat_lit 308,mO)::(nat_lit 315,af)::(nat_lit 316,ao)::(nat_lit 317,Rj)::(nat_lit 318,af)::(nat_lit 319,Ri)::(nat_lit 320,Rh)::(nat_lit 321,Rf)::(nat_lit 322,af)::(nat_lit 323,ao)::(nat_lit 324,Rc)::(nat_lit 325,af)::(nat_lit 326,Rb)::(nat_lit 327,Ra)::(nat_lit 328,Q9)::(nat_lit 329,Q8)::(nat_lit 330,(Q7 P))::(nat_lit 331,Q6)::(nat_lit 334,af)::(nat_lit 335,ao)::(nat_lit 336,Q5)::(nat_lit 337,af)::(nat_lit 338,Q4)::(nat_lit 339,Q3)::(nat_lit 340,Q2)::(nat_lit 341,af)::(nat_lit 342,ao)::(nat_lit 343,Q0)::(nat_lit 344,af)::(nat_lit 345,QZ)::(nat_lit 346,QY)::(nat_lit 347,QX)::(nat_lit 348,af)::(nat_lit 349,ao)::(nat_lit 350,QW)::(nat_lit 351,af)::(nat_lit 352,QV)::(nat_lit 353,QU)::(nat_lit 354,QT)::(nat_lit 362,af)::(nat_lit 363,ao)::(nat_lit 364,QS)::(nat_lit 365,QO)::(nat_lit 366,QN)::(nat_lit 367,af)::(nat_lit 368,ao)::(nat_lit 369,QM)::(nat_lit 370,af)::(nat_lit 371,QL)::(nat_lit 372,QK)::(nat_lit 373,QJ)::(nat_lit 374,af)::(nat_lit 375,ao)::(nat_lit 376,QI)::(nat_lit 377,af)::(nat_lit 378,QH)::(nat_lit 379,QG)::(nat_lit 380,QF)::(nat_lit 381,af)::(nat_lit 382,ao)::(nat_lit 383,QE)::(nat_lit 384,af)::(nat_lit 385,QD)::(nat_lit 386,QC)::(nat_lit 387,QB)::(nat_lit 388,af)::(nat_lit 389,ao)::(nat_lit 390,QA)::(nat_lit 391,af)::(nat_lit 392,Qz)::(nat_lit 393,Qy)::(nat_lit 394,Qx)::(nat_lit 395,af)::(nat_lit 396,ao)::(nat_lit 397,Qw)::(nat_lit 398,af)::(nat_lit 399,Qv)::(nat_lit 400,Qu)::(nat_lit 401,Qt)::(nat_lit 402,af)::(nat_lit 403,ao)::(nat_lit 404,Qs)::(nat_lit 405,af)::(nat_lit 406,Qq)::(nat_lit 407,Qp)::(nat_lit 408,Qo)::(nat_lit 409,af)::(nat_lit 410,ao)::(nat_lit 411,Qn)::(nat_lit 412,Qm)::(nat_lit 413,Ql)::(nat_lit 414,Qk)::(nat_lit 415,(Qj P))::(nat_lit 416,Qi)::(nat_lit 417,Qh)::(nat_lit 418,Qg)::(nat_lit 421,af)::(nat_lit 422,ao)::(nat_lit 423,Qf)::(nat_lit 424,af)::(nat_lit 425,Qe)::(nat_lit 426,Qd)::(nat_lit 427,Qc)::(nat_lit 428,af)::(nat_lit 429,ao)::(nat_lit 430,Qa)::(nat_lit 431,af)::(nat_lit 432,P9)::(nat_lit 433,P8)::(nat_lit 434,P7)::(nat_lit 435,af)::(nat_lit 436,ao)::(nat_lit 437,P6)::(nat_lit 438,P5)::(nat_lit 439,P4)::(nat_lit 440,af)::(nat_lit 441,ao)::(nat_lit 442,P1)::(nat_lit 443,af)::(nat_lit 444,PZ)::(nat_lit 445,PY)::(nat_lit 446,PX)::(nat_lit 447,af)::(nat_lit 448,ao)::(nat_lit 449,PV)::(nat_lit 450,af)::(nat_lit 451,PU)::(nat_lit 452,PN)::(nat_lit 453,PK)::(nat_lit 454,af)::(nat_lit 455,ao)::(nat_lit 456,PJ)::(nat_lit 457,af)::(nat_lit 458,PF)::(nat_lit 459,PC)::(nat_lit 460,PB)::(nat_lit 461,af)::(nat_lit 462,ao)::(nat_lit 463,Pz)::(nat_lit 464,af)::(nat_lit 465,Py)::(nat_lit 466,Px)::(nat_lit 467,Pw)::(nat_lit 468,af)::(nat_lit 469,ao)::(nat_lit 470,Pu)::(nat_lit 471,Pr)::(nat_lit 472,Pq)::(nat_lit 473,af)::(nat_lit 474,ao)::(nat_lit 475,Pp)::(nat_lit 476,af)::(nat_lit 477,Po)::(nat_lit 478,Pk)::(nat_lit 479,Pj)::(nat_lit 480,af)::(nat_lit 481,ao)::(nat_lit 482,Ph)::(nat_lit 483,Pg)::(nat_lit 484,Pf)::(nat_lit 485,af)::(nat_lit 486,ao)::(nat_lit 487,Pe)::(nat_lit 488,af)::(nat_lit 489,Pc)::(nat_lit 490,Pb)::(nat_lit 491,Pa)::(nat_lit 492,af)::(nat_lit 493,ao)::(nat_lit 494,O9)::(nat_lit 495,af)::(nat_lit 496,O8)::(nat_lit 497,O7)::(nat_lit 498,O6)::(nat_lit 499,af)::(nat_lit 500,ao)::(nat_lit 501,O5)::(nat_lit 502,af)::(nat_lit 503,O4)::(nat_lit 504,O3)::(nat_lit 505,O2)::(nat_lit 506,af)::(nat_lit 507,ao)::(nat_lit 508,O1)::(nat_lit 509,af)::(nat_lit 510,O0)::(nat_lit 511,OZ)::(nat_lit 512,OY)::[]
noncomputable def AF:List Nat:=[0,1,2,3,4,5,6,7,8,9,10,11,12,13,14,15,16,17,18,19,20,21,22,29,30,31,32,35,42,43,44,47,54,55,56,59,66,67,68,71,78,79,80,83,84,85,86,87,88,89,90,91,92,93,94,95,96,97,98,99,100,101,102,103,104,105,106,107,108,109,110,111,112,113,114,115,116,117,118,119,120,121,122,123,124,125,126,127,128,129,130,131,132,133,134,135,136,137,138,139,140,141,142,143,144,145,146,147,148,149,150,151,152,153,154,155,156,157,158,159,160,161,162,163,164,165,166,167,168,169,170,171,172,173,174,175,176,177,178,179,180,188,189,190,191,192,193,194,195,196,197,198,199,200,201,202,203,204,205,206,207,208,209,210,211,212,213,216,223,224,225,226,227,228,229,230,231,232,235,242,243,244,245,246,247,248,249,250,251,252,253,254,255,256,257,258,259,260,261,262,263,264,265,266,267,268,269,270,271,272,275,282,283,284,285,286,287,288,289,290,291,292,293,294,295,296,297,298,299,300,301,302,303,304,305,308,315,316,317,318,319,320,321,322,323,324,325,326,327,328,329,330,331,334,335,336,337,338,339,340,341,342,343,344,345,346,347,348,349,350,351,352,353,354,362,363,364,365,366,367,368,369,370,371,372,373,374,375,376,377,378,379,380,381,382,383,384,385,386,387,388,389,390,391,392,393,394,395,396,397,398,399,400,401,402,403,404,405,406,407,408,409,410,411,412,413,414,415,416,417,418,421,422,423,424,425,426,427,428,429,430,431,432,433,434,435,436,437,438,439,440,441,442,443,444,445,446,447,448,449,450,451,452,453,454,455,456,457,458,459,460,461,462,463,464,465,466,467,468,469,470,471,472,473,474,475,476,477,478,479,480,481,482,483,484,485,486,487,488,489,490,491,492,493,494,495,496,497,498,499,500,501,502,503,504,505,506,507,508,509,510,511,512]
def LZ:List Str:=[x5,x6,x14,x15,x16,x18,x19,x20,x21,x22,x23,x24,x25,x26,x27,x35,x36,x37,x38,x39,x40,x41,x42,x43,x44,x45,x47,x48,x49,Ag,x63,x66,x72,x77,x78,x79,x80,x81,x90,VA,Vz,Vy,Vx,Vw,Vv,Vu,Vt,Vs,Vr,Vq,Vp,Vm]
def ev:Env:={scope:=pq.main.scope,locals:=mainNs,globals:=mainNs,cells:=[],code:=(.ref 13),frame:=some 14}
noncomputable abbrev cE:Code:= .body bE ev
noncomputable abbrev Bq:List Frame:=[topFrame ⟨0,0,0,0⟩]
def sl(i n:Nat):List Stmt:=(bE.drop i).take n
noncomputable abbrev an:Option Value:=(some (.ref 6))
def lg{w:World}{n:Nat}{s s':SharedT}{t:Thread}{f:Flow}{c:Code}{q:Pos}(h:W.Fast.tw10110043849684766642 W.Fast.tw14364793385576792824 pq w 11 an 1 n s t=some (f,s',c,q)):segRun treeTable pq w 11 an 1 n s.abs t=some (f,s'.abs,c,q):=segRun_of (by rw[W.Fast.te10110043849684766642,W.Fast.te14364793385576792824];exact h)
def lt{w:World}{n:Nat}{s:Shared}{t:Thread}{r:Option Shared}(h:W.Fast.tw14082659384304107361 W.Fast.tw14364793385576792824 pq w 11 an n s t=r):topRun treeTable pq w 11 an n s t=r:=by rw[W.Fast.te14082659384304107361,W.Fast.te14364793385576792824];exact h
def lp{w:World}{n:Nat}{s s':Shared}{p:Pos}(h:W.Fast.tw15667345088766844465 W.Fast.tw14364793385576792824 pq w 11 an n s (W.topStub pq)=some (s',⟨W.Fast.tw11892475500146522536 W.Fast.tw14364793385576792824 cE,cE,p,Bq⟩)):topGo treeTable pq w 11 an n s (topStub pq)=some (s',⟨denote treeTable cE,cE,p,Bq⟩):=by rw[W.Fast.te15667345088766844465,W.Fast.te11892475500146522536,W.Fast.te14364793385576792824];exact h
def pre(w:World)(os:OsState):topGo treeTable pq w 11 an 12 ⟨boot_heap w.params,Array.mk [],boot_drawn,boot_toks,os⟩ (topStub pq)=some ((S0 w.params os).abs,⟨denote treeTable cE,cE,⟨0,0,0,0⟩,Bq⟩):=lp (by kernel_rfl)
def rH(w:World)(os:OsState):segRun treeTable pq w 11 an 1 1 (S0 w.params os).abs (blockOf bE ev cE ⟨0,0,0,0⟩ Bq)=some (.next,(S1 w.params os).abs,cE,⟨0,0,0,0⟩):=lg (by kernel_rfl)
def g_1(w:World)(os:OsState):segRun treeTable pq w 11 an 1 225 (S1 w.params os).abs (piecesOf (sl 0 3) ev cE ⟨0,0,0,0⟩ Bq)=some (.next,(S2 w.params os).abs,cE,⟨5,0,6,8⟩):=lg (by kernel_rfl)
def g_2(w:World)(os:OsState):segRun treeTable pq w 11 an 1 214 (S2 w.params os).abs (piecesOf (sl 3 1) ev cE ⟨5,0,6,8⟩ Bq)=some (.next,(S3 w.params os).abs,cE,⟨7,0,8,8⟩):=lg (by kernel_rfl)
def g_3(w:World)(os:OsState):segRun treeTable pq w 11 an 1 214 (S3 w.params os).abs (piecesOf (sl 4 1) ev cE ⟨7,0,8,8⟩ Bq)=some (.next,(S4 w.params os).abs,cE,⟨9,0,10,8⟩):=lg (by kernel_rfl)
def g_4(w:World)(os:OsState):segRun treeTable pq w 11 an 1 214 (S4 w.params os).abs (piecesOf (sl 5 1) ev cE ⟨9,0,10,8⟩ Bq)=some (.next,(S5 w.params os).abs,cE,⟨11,0,12,8⟩):=lg (by kernel_rfl)
def g_5(w:World)(os:OsState):segRun treeTable pq w 11 an 1 388 (S5 w.params os).abs (piecesOf (sl 6 12) ev cE ⟨11,0,12,8⟩ Bq)=some (.next,(S6 w.params os).abs,cE,⟨36,0,36,8⟩):=lg (by kernel_rfl)
def g_6(w:World)(os:OsState):segRun treeTable pq w 11 an 1 367 (S6 w.params os).abs (piecesOf (sl 18 15) ev cE ⟨36,0,36,8⟩ Bq)=some (.next,(S7 w.params os).abs,cE,⟨79,0,81,67⟩):=lg (by kernel_rfl)
def g_7(w:World)(os:OsState):segRun treeTable pq w 11 an 1 284 (S7 w.params os).abs (piecesOf (sl 33 1) ev cE ⟨79,0,81,67⟩ Bq)=some (.next,(S8 w.params os).abs,cE,⟨82,0,91,16⟩):=lg (by kernel_rfl)
def g_8(w:World)(os:OsState):segRun treeTable pq w 11 an 1 244 (S8 w.params os).abs (piecesOf (sl 34 1) ev cE ⟨82,0,91,16⟩ Bq)=some (.next,(S9 w.params os).abs,cE,⟨92,0,95,25⟩):=lg (by kernel_rfl)
def g_9(w:World)(os:OsState):segRun treeTable pq w 11 an 1 340 (S9 w.params os).abs (piecesOf (sl 35 1) ev cE ⟨92,0,95,25⟩ Bq)=some (.next,(S10 w.params os).abs,cE,⟨96,0,109,16⟩):=lg (by kernel_rfl)
def aqw(w:World)(os:OsState):segRun treeTable pq w 11 an 1 307 (S10 w.params os).abs (piecesOf (sl 36 1) ev cE ⟨96,0,109,16⟩ Bq)=some (.next,(S11 w.params os).abs,cE,⟨110,0,119,18⟩):=lg (by kernel_rfl)
def aqv(w:World)(os:OsState):segRun treeTable pq w 11 an 1 391 (S11 w.params os).abs (piecesOf (sl 37 6) ev cE ⟨110,0,119,18⟩ Bq)=some (.next,(S12 w.params os).abs,cE,⟨145,0,152,15⟩):=lg (by kernel_rfl)
def aqu(w:World)(os:OsState):segRun treeTable pq w 11 an 1 442 (S12 w.params os).abs (piecesOf (sl 43 1) ev cE ⟨145,0,152,15⟩ Bq)=some (.next,(S13 w.params os).abs,cE,⟨153,0,185,19⟩):=lg (by kernel_rfl)
def aqt(w:World)(os:OsState):segRun treeTable pq w 11 an 1 374 (S13 w.params os).abs (piecesOf (sl 44 13) ev cE ⟨153,0,185,19⟩ Bq)=some (.next,(S14 w.params os).abs,cE,⟨244,0,248,111⟩):=lg (by kernel_rfl)
def aqs(w:World)(os:OsState):segRun treeTable pq w 11 an 1 69 (S14 w.params os).abs (piecesOf (sl 57 2) ev cE ⟨244,0,248,111⟩ Bq)=some (.next,(S15 w.params os).abs,cE,⟨255,0,269,59⟩):=lg (by kernel_rfl)
def fin(w:World)(os:OsState):topRun treeTable pq w 11 an 2 (S15 w.params os).abs ⟨doneF .next,cE,⟨255,0,269,59⟩,Bq⟩=some ⟨HF w.params, #[],⟨0,0,0,0⟩,847,os⟩:=lt (by kernel_rfl)
def amX:bE=sl 0 3++(sl 3 1++(sl 4 1++(sl 5 1++(sl 6 12++(sl 18 15++(sl 33 1++(sl 34 1++(sl 35 1++(sl 36 1++(sl 37 6++(sl 43 1++(sl 44 13++(sl 57 2++[]))))))))))))):=by kernel_rfl
def rest(w:World)(os:OsState):topRun treeTable pq w 11 an (225+(214+(214+(214+(388+(367+(284+(244+(340+(307+(391+(442+(374+(69+(2))))))))))))))) (S1 w.params os).abs (restOf bE ev cE ⟨0,0,0,0⟩ Bq)=some ⟨HF w.params, #[],⟨0,0,0,0⟩,847,os⟩:=(congrArg (λ l=>topRun treeTable pq w 11 an (225+(214+(214+(214+(388+(367+(284+(244+(340+(307+(391+(442+(374+(69+(2))))))))))))))) (S1 w.params os).abs (restOf l ev cE ⟨0,0,0,0⟩ Bq)) amX).trans (piece_app (g_1 w os) (piece_app (g_2 w os) (piece_app (g_3 w os) (piece_app (g_4 w os) (piece_app (g_5 w os) (piece_app (g_6 w os) (piece_app (g_7 w os) (piece_app (g_8 w os) (piece_app (g_9 w os) (piece_app (aqw w os) (piece_app (aqv w os) (piece_app (aqu w os) (piece_app (aqt w os) (piece_app (aqs w os) (piece_nil (fin w os))))))))))))))))
def run(w:World)(os:OsState):topRun treeTable pq w 11 an (12+(1+(225+(214+(214+(214+(388+(367+(284+(244+(340+(307+(391+(442+(374+(69+(2))))))))))))))))) ⟨boot_heap w.params,Array.mk [],boot_drawn,boot_toks,os⟩ (topStub pq)=some ⟨HF w.params, #[],⟨0,0,0,0⟩,847,os⟩:=go_top (pre w os) (piece_block (rH w os) (rest w os))
noncomputable abbrev qv:Program:=view pq [58]
def lk1(w:World)(os:OsState):(staticsOk (importedModules pq.main.body) (boot_heap w.params) (HF w.params)&&namesBound pq (HF w.params)&&gensDone (Shared.mk (HF w.params) #[] ⟨0,0,0,0⟩ 847 os)&&laidKept (boot_heap w.params) (HF w.params))=true:=by kernel_rfl
def lk2(w:World)(os:OsState):openSeen qv LZ (importedModules pq.main.body) (λ _=>true) true (Shared.mk (HF w.params) #[] ⟨0,0,0,0⟩ 847 os)=openGood qv LZ:=by rw[W.Fast.te4187177175401517315];kernel_rfl
def lk3(w:World)(os:OsState):X.obsZ AF (Shared.mk (HF w.params) #[] ⟨0,0,0,0⟩ 847 os)=X.valZ KF 513 847 w:=by kernel_rfl
def hl1:LeftO pq qv LZ (λ _=>true) (X.obsZ AF) (X.valZ KF 513 847) 8244:=LeftO.of_pieces (boot_open (by kernel_rfl) (by kernel_rfl) (λ s=>by kernel_rfl)) (m₀:=11) (ann:=an) (λ w=>by kernel_rfl) run (by kernel_rfl) (λ w=>funext λ os=>looks_pair (lk1 w os) (looks_pair (lk2 w os) (lk3 w os)))
def hl:LeftO PySem.Challenge.pw_beamtable_k10_passes (view PySem.Challenge.pw_beamtable_k10_passes [58]) LZ (λ _=>true) (X.obsZ AF) (X.valZ KF 513 847) 8244:=by rw[W.Fast.te8672299788683738659];exact hl1
end KO
end
section
namespace L2
open PySem PySem.Spec PyProof.Rows
noncomputable abbrev Key:=Sum Int Str
def CW:Key->Value->Bool
 | .inl k,v=>Value.isInt k v
 | .inr x,v=>Value.isStrOf x v
def ap9(w:World):Key->Int
 | .inl k=>hashInt k
 | .inr x=>hashStr w x
def dY:∀{k:Key} {v:Value},CW k v=true->(∃i t,k=Sum.inl i/\v=Value.int i t)\/(∃x t,k=Sum.inr x/\v=Value.str x t)
 | .inl i,v,h=>by obtain ⟨t,e⟩:=Value.isInt_shape (k:=i) (v:=v) h;exact .inl ⟨i,t,rfl,e⟩
 | .inr x,v,h=>by obtain ⟨t,e⟩:=Value.isStrOf_shape (x:=x) (v:=v) h;exact .inr ⟨x,t,rfl,e⟩
def WZ(i:Int)(t:Tok):CW (.inl i) (.int i t)=true:=by simp[CW,Value.isInt]
def WY(x:Str)(t:Tok):CW (.inr x) (.str x t)=true:=by simp[CW,Value.isStrOf]
def aiN(a b:Int):decide ((Sum.inl a:Key)=Sum.inl b)=(a==b):=by
 by_cases e:a=b
 ·subst e;simp
 ·have h:¬(Sum.inl a:Key)=Sum.inl b:=λ q=>e (Sum.inl.inj q);rw[decide_eq_false h];exact (beq_eq_false_iff_ne.mpr e).symm
def aiK(a b:Str):decide ((Sum.inr a:Key)=Sum.inr b)=decide (a=b):=by
 by_cases e:a=b
 ·subst e;simp
 ·have h:¬(Sum.inr a:Key)=Sum.inr b:=λ q=>e (Sum.inr.inj q);rw[decide_eq_false h,decide_eq_false e]
def aiM(a:Int)(b:Str):decide ((Sum.inl a:Key)=Sum.inr b)=false:=decide_eq_false (λ q=>nomatch q)
def aiL(a:Str)(b:Int):decide ((Sum.inr a:Key)=Sum.inl b)=false:=decide_eq_false (λ q=>nomatch q)
def ff(prog:Program)(w:World):PySem.KeyKind prog w Key where
 is:=CW
 hash:=ap9 w
 inj:=λ v a b ha hb=>by
  rcases dY ha with ⟨i,t,rfl,rfl⟩|⟨x,t,rfl,rfl⟩
  ·rcases dY hb with ⟨j,u,rfl,e⟩|⟨y,u,rfl,e⟩
   ·injection e with e1 _;rw[e1]
   ·exact nomatch e
  ·rcases dY hb with ⟨j,u,rfl,e⟩|⟨y,u,rfl,e⟩
   ·exact nomatch e
   ·injection e with e1 _;rw[e1]
 byValue:=λ k v h=>by
  rcases dY h with ⟨i,t,rfl,rfl⟩|⟨x,t,rfl,rfl⟩<;>rfl
 pyHash:=λ hv h=>by
  rcases dY hv with ⟨i,t,rfl,rfl⟩|⟨x,t,rfl,rfl⟩
  ·exact wpAny_pyHash_int h
  ·exact wpAny_pyHash_str h
 eqBool:=λ hu hv h=>by
  rcases dY hu with ⟨i,t,rfl,rfl⟩|⟨x,t,rfl,rfl⟩
  ·rcases dY hv with ⟨j,u,rfl,rfl⟩|⟨y,u,rfl,rfl⟩
   ·rw[aiN] at h;exact wpAny_eqBool_int h
   ·rw[aiM] at h;exact SeqAt.EqAt.int_str i t y u _ _ _ _ h
  ·rcases dY hv with ⟨j,u,rfl,rfl⟩|⟨y,u,rfl,rfl⟩
   ·rw[aiL] at h;exact SeqAt.EqAt.str_int x t j u _ _ _ _ h
   ·rw[aiK] at h;exact wpAny_eqBool_str h
 «strs»:=λ k x t v h=>by
  rcases dY h with ⟨i,u,rfl,e⟩|⟨y,u,rfl,e⟩
  ·exact nomatch e
  ·injection e with e1 _
   subst e1
   cases v<;>rfl
def aiy(prog:Program)(w:World)(k:Key)(v:Value):(ff prog w).is k v=CW k v:=rfl
def KI(prog:Program)(w:World)(i:Int)(t:Tok):(ff prog w).is (.inl i) (.int i t)=true:=WZ i t
def KH(prog:Program)(w:World)(x:Str)(t:Tok):(ff prog w).is (.inr x) (.str x t)=true:=WY x t
inductive V where
 |fE|bl (b:Bool)|int (i:Int)|str (x:Str)|byt (b:Array UInt8)|flt (b:UInt64)|ref (a:Addr)|ty (n:String)
 deriving DecidableEq
noncomputable def RelV:V->Value->Prop
 | .fE,u=>u=Value.none
 | .bl b,u=>u=Value.bool b
 | .int i,u=>∃t,u=Value.int i t
 | .str x,u=>∃t,u=Value.str x t
 | .byt b,u=>∃t,u=Value.bytes b t
 | .flt b,u=>∃t,u=Value.float b t
 | .ref a,u=>u=Value.ref a
 | .ty n,u=>u=Value.type n
abbrev Vals:List V->List Value->Prop:=Paired RelV
def Vals.length{xs:List V}{us:List Value}(r:Vals xs us):xs.length=us.length:=Paired.length r
def Vals.get:∀{xs:List V} {us:List Value} {i:Nat} {x:V},Vals xs us->xs[i]? =some x->∃u,us[i]? =some u/\RelV x u
 |_,_,_,_,.nil,e=>by simp at e
 |_,_,0,_,.cons r _,e=>by simp at e;subst e;exact ⟨_,rfl,r⟩
 |_,_,i+1,x,.cons _ t,e=>by obtain ⟨u,h1,h2⟩:=Vals.get (i:=i) (x:=x) t (by simpa using e);exact ⟨u,by simpa using h1,h2⟩
def Vals.set{x:V}{u:Value}(r:RelV x u):∀{xs:List V} {us:List Value} (i:Nat),Vals xs us->Vals (xs.set i x) (us.set i u)
 |_,_,_,.nil=> .nil
 |_,_,0,.cons _ t=> .cons r t
 |_,_,i+1,.cons q t=> .cons q (Vals.set r i t)
def Vals.append:∀{xs ys:List V} {us ws:List Value},Vals xs us->Vals ys ws->Vals (xs++ys) (us++ws)
 |_,_,_,_,.nil,s=>s
 |_,_,_,_,.cons r t,s=> .cons r (Vals.append t s)
def Vals.take:∀{xs:List V} {us:List Value} (n:Nat),Vals xs us->Vals (xs.take n) (us.take n)
 |_,_,0,_=> .nil
 |_,_,_+1,.nil=> .nil
 |_,_,n+1,.cons r t=> .cons r (Vals.take n t)
def Vals.drop:∀{xs:List V} {us:List Value} (n:Nat),Vals xs us->Vals (xs.drop n) (us.drop n)
 |_,_,0,r=>r
 |_,_,_+1,.nil=> .nil
 |_,_,n+1,.cons _ t=>Vals.drop n t
def uD:Option V->Option Value->Prop
 |some v,some u=>RelV v u
 |none,none=>True
 |_,_=>False
def KV{κ:Type}:List (κ×V)->List (κ×Value)->Prop:=Paired λ(p:κ×V) (q:κ×Value)=>p.1=q.1/\RelV p.2 q.2
def kV:Key->V
 | .inl i=> .int i
 | .inr x=> .str x
inductive HO where
 /-- a list -/
 |lst (xs:List V)
 /-- a tuple (never changes) -/
 |tup (xs:List V)
 /-- a dict akQ keys are ints and texts;one akQ keys are tuples of ints and texts (FW empty one is both) -/
 |dK (kvs:List (Key×V))|dT (kvs:List (List Key×V))
 /-- a set of ints:its members,its size -/
 |set (S:Int->Bool) (n:Nat)
 /-- an instance of FW class at C,its dict at dx,its attributes -/
 |ins (C dx:Addr) (fs:List (Str×V))
 /-- FW dict of FW instance at x -/
 |own (x:Addr)
 /-- FW dict of an exception -/
 |xd (fs:List (Str×V))
 /-- a bound method,f of x -/
 |met (f x:Addr)
 /-- a range object lo,lo+1,.. below hi -/
 |rng (lo hi:Int)
 /-- a thing JU is known to FW object (FW script;a dict while a loop walks it):read,never written while it is so -/
 |EX (o:Obj) (u:HO)
 /-- a code alM table -/
 |rK (ps:Array Value)
 /-- any other thing,by what is true of its one object (a def of arI own:atL a S n:=HO.ext λ h=> ..) -/
 |ext (φ:Heap->Prop)
noncomputable abbrev Hp:=Addr->Option HO
def upd(H:Hp)(a:Addr)(o:HO):Hp:=λ b=>if b=a then some o else H b
def aG{H:Hp}{a:Addr}{o:HO}:upd H a o a=some o:=by unfold upd;rw[if_pos rfl]
def aE{H:Hp}{a b:Addr}{o:HO}(h:b≠a):upd H a o b=H b:=by unfold upd;rw[if_neg h]
def alW{H:Hp}{a b:Addr}{o u:HO}(h:H a=some o)(h':H b=some u)(d:o≠u):a≠b:=by intro e;subst e;rw[h] at h';exact d (Option.some.inj h')
def fH{H:Hp}{a b:Addr}{o:HO}(h:H a=some o)(h':H b=none):a≠b:=by intro e;subst e;rw[h] at h';cases h'
section
variable(P:Program)(w:World)
def dM(H:Hp)(h:Heap)(a:Addr):HO->Prop
 | .lst xs=>xs.length<=sizeLine/\∃(its:List Value) (n:Nat),Vals xs its/\h.get? a=some {cls:= .type "list",data:= .seq its.toArray n}
 | .tup xs=>xs.length<=sizeLine/\∃its:List Value,Vals xs its/\IsTup h a its.toArray
 | .dK kvs=>kvs.length<=sizeLine/\(a==sysModules)=false/\∃vs,KV kvs vs/\h.DictOf (ff P w) a vs
 | .dT kvs=>kvs.length<=sizeLine/\(a==sysModules)=false/\∃xs:List (List Key×Addr×Value),Paired (λ(p:List Key×V) (q:List Key×Addr×Value)=>p.1=q.1/\H q.2.1=some (.tup (p.1.map kV))/\RelV p.2 q.2.2) kvs xs/\∃o es ep,h.get? a=some o/\o.ExactDict/\o.data= .dict es ep/\es.toList=xs.map (entryOfKey (tupleKind (ff P w)))/\(xs.map (·.1)).Nodup
 | .set S n=>h.SetOf (intKind P w) a S n
 | .ins C dx fs=>H dx=some (.own a)/\fs.length<=1000/\dx≠a/\h.get? a=some (W.instObj C dx)/\∃mA,h.Ns1 dx mA/\(∀f,uD (fs.lookup f) (mA f))/\PySem.Within mA (fs.map (·.1))
 | .own _=>∃o,h.get? a=some o
 | .xd fs=>∃mA,h.Ns1 a mA/\∀f,uD (fs.lookup f) (mA f)
 | .rng lo hi=>∃t u v,h.get? a=some {cls:= .type "range",data:= .fields #[.int lo t,.int hi u,.int 1 v]}
 | .EX o u=>h.get? a=some o/\dM H h a u
 | .rK ps=>h.get? a=some {cls:= .none,data:= .fields ps}
 | .met f x=>h.get? a=some (W.methodObj (.ref f) (.ref x))
 | .ext φ=>φ h/\(∃o,h.get? a=some o)/\∀h1 h2:Heap,φ h1->(∀o,h1.get? a=some o->h2.get? a=some o)->φ h2
def uE(H:Hp)(h:Heap):Prop:=∀a o,H a=some o->dM P w H h a o
end
section
variable{P:Program}{w:World}{H H':Hp}{h h':Heap}{a:Addr}{o:HO}
def dM.lt(x:dM P w H h a o):a<h.objs.size:=by
 cases o with
 |lst xs=>obtain ⟨_,_,_,_,e⟩:=x;exact Heap.lt_size e
 |tup xs=>obtain ⟨_,_,_,p⟩:=x;exact p.lt
 |dK kvs=>obtain ⟨_,_,_,_,o,_,_,e,_⟩:=x;exact Heap.lt_size e
 |dT kvs=>obtain ⟨_,_,_,_,o,_,_,e,_⟩:=x;exact Heap.lt_size e
 |set S n=>obtain ⟨o,_,_,_,e,_⟩:=x;exact Heap.lt_size e
 |ins C dx fs=>obtain ⟨_,_,_,e,_⟩:=x;exact Heap.lt_size e
 |own y=>obtain ⟨_,e⟩:=x;exact Heap.lt_size e
 |xd fs=>obtain ⟨_,⟨_,_,_,e,_⟩,_⟩:=x;exact Heap.lt_size e
 |rng lo hi=>obtain ⟨_,_,_,e⟩:=x;exact Heap.lt_size e
 |EX ob u=>obtain ⟨e,_⟩:=x;exact Heap.lt_size e
 |rK ps=>exact Heap.lt_size (show h.get? a=some _ from x)
 |met f y=>exact Heap.lt_size (show h.get? a=some _ from x)
 |ext φ=>obtain ⟨_,⟨_,e⟩,_⟩:=x;exact Heap.lt_size e
def Paired.aeP{α β:Type}{F G:α->β->Prop}:∀{l₁:List α} {l₂:List β},Paired F l₁ l₂->(∀a b,F a b->G a b)->Paired G l₁ l₂
 |_,_,.nil,_=> .nil
 |_,_,.cons r t,f=> .cons (f _ _ r) (Paired.aeP t f)
def dM.stay(x:dM P w H h a o)(k:∀b u,(b=a\/H b=some (.own a))->h.get? b=some u->h'.get? b=some u) (ho:∀b,H b=some (.own a)->H' b=some (.own a)) (ht:∀b xs,H b=some (.tup xs)->H' b=some (.tup xs)):dM P w H' h' a o:=by
 induction o with
 |lst xs=>obtain ⟨z,its,n,r,e⟩:=x;exact ⟨z,its,n,r,k _ _ (.inl rfl) e⟩
 |tup xs=>obtain ⟨z,its,r,ob,e,c⟩:=x;exact ⟨z,its,r,ob,k _ _ (.inl rfl) e,c⟩
 |dK kvs=>obtain ⟨z,y,vs,r,ob,es,ep,e,c⟩:=x;exact ⟨z,y,vs,r,ob,es,ep,k _ _ (.inl rfl) e,c⟩
 |dT kvs=>obtain ⟨z,y,xs,r,ob,es,ep,e,c⟩:=x;exact ⟨z,y,xs,Paired.aeP r λ p q z=>⟨z.1,ht _ _ z.2.1,z.2.2⟩,ob,es,ep,k _ _ (.inl rfl) e,c⟩
 |set S n=>obtain ⟨ob,es,ep,t,e,c⟩:=x;exact ⟨ob,es,ep,t,k _ _ (.inl rfl) e,c⟩
 |ins C dx fs=>obtain ⟨d,z,ne,e,mA,⟨od,es,ep,e2,c⟩,r⟩:=x;exact ⟨ho _ d,z,ne,k _ _ (.inl rfl) e,mA,⟨od,es,ep,k _ _ (.inr d) e2,c⟩,r⟩
 |own y=>obtain ⟨ob,e⟩:=x;exact ⟨ob,k _ _ (.inl rfl) e⟩
 |xd fs=>obtain ⟨mA,⟨od,es,ep,e,c⟩,r⟩:=x;exact ⟨mA,⟨od,es,ep,k _ _ (.inl rfl) e,c⟩,r⟩
 |rng lo hi=>obtain ⟨t,u,v,e⟩:=x;exact ⟨t,u,v,k _ _ (.inl rfl) e⟩
 |EX ob u ih=>obtain ⟨e,q⟩:=x;exact ⟨k _ _ (.inl rfl) e,ih q⟩
 |rK ps=>have e:h.get? a=some {cls:= .none,data:= .fields ps}:=x;show h'.get? a=some {cls:= .none,data:= .fields ps};exact k a _ (.inl rfl) e
 |met f y=>have e:h.get? a=some (W.methodObj (.ref f) (.ref y)):=x;show h'.get? a=some (W.methodObj (.ref f) (.ref y));exact k a _ (.inl rfl) e
 |ext φ=>obtain ⟨p,⟨o,e⟩,st⟩:=x;exact ⟨st _ _ p λ o q=>k _ _ (.inl rfl) q,⟨o,k _ _ (.inl rfl) e⟩,st⟩
def uE.lt(x:uE P w H h)(e:H a=some o):a<h.objs.size:=(x a o e).lt
def uE.fresh(x:uE P w H h)(e:h.objs.size<=a):H a=none:=by
 cases q:H a with
 |none=>rfl
 |some u=>exact absurd (Nat.lt_of_lt_of_le (x.lt q) e) (Nat.lt_irrefl _)
def uE.kept(x:uE P w H h)(k:∀b u,h.get? b=some u->h'.get? b=some u):uE P w H h':=λ a o e=>(x a o e).stay (λ b u _ q=>k b u q) (λ _ q=>q) λ _ _ q=>q
def uE.laid(x:uE P w H h)(k:∀b u,h.get? b=some u->h'.get? b=some u)(hp:h.objs.size<=a)(new:dM P w (upd H a o) h' a o):uE P w (upd H a o) h':=λ b u e=>by
 have hn:=x.fresh hp;by_cases hb:b=a
 ·subst hb;rw[aG] at e;cases e;exact new
 ·rw[aE hb] at e;exact (x b u e).stay (λ c v _ q=>k c v q) (λ c q=>by rw[aE (fH q hn)];exact q) λ c xs q=>by rw[aE (fH q hn)];exact q
end
def Rd(H:Hp)(a:Addr)(u:HO):Prop:=H a=some u\/∃o,H a=some (.EX o u)
def Rd.ok{P:Program}{w:World}{H:Hp}{h:Heap}{a:Addr}{u:HO}(r:Rd H a u)(x:uE P w H h):dM P w H h a u:=by
 rcases r with r|⟨o,r⟩
 ·exact x a u r
 ·obtain ⟨_,q⟩:=x a _ r;exact q
def Mut:Option HO->Prop
 |some (.lst _)=>True
 |some (.dK _)=>True
 |some (.dT _)=>True
 |some (.set _ _)=>True
 |some (.ins _ _ _)=>True
 |some (.ext _)=>True
 |_=>False
section
variable{P:Program}{w:World}{H:Hp}{h h':Heap}{x e:Addr}{o':HO}
def uE.write(ok:uE P w H h)(mu:Mut (H x))(he:e=x\/H e=some (.own x))(k:∀b u,b≠e->h.get? b=some u->h'.get? b=some u)(heo:∃u,h'.get? e=some u) (new:dM P w (upd H x o') h' x o'):uE P w (upd H x o') h':=λ b u q=>by
 have alS:∀c y,H c=some (.own y)->c≠x:=λ c y r z=>by subst z;rw[r] at mu;exact mu
 have apQ:∀c xs,H c=some (.tup xs)->c≠x:=λ c xs r z=>by subst z;rw[r] at mu;exact mu
 by_cases hb:b=x
 ·subst hb;rw[aG] at q;cases q;exact new
 ·rw[aE hb] at q;by_cases hbe:b=e
  ·have q':H b=some (.own x):=by
    rcases he with z|z
    ·exact absurd (hbe.trans z) hb
    ·rw[hbe];exact z
   rw[q] at q';cases q';obtain ⟨v,hv⟩:=heo;exact ⟨v,by rw[hbe];exact hv⟩
  ·refine (ok b u q).stay (λ c v hc r=>k c v ?_ r) (λ c r=>by rw[aE (alS c b r)];exact r) λ c xs r=>by rw[aE (apQ c xs r)];exact r
   rcases hc with rfl|hc
   ·exact hbe
   ·rintro rfl
    rcases he with z|z
    ·exact alS c b hc z
    ·rw[hc] at z;cases z;exact hb rfl
end
structure Un(fs ex:List Addr)(H H':Hp)(h h':Heap):Prop where
 keep:∀b o,h.get? b=some o->H b=none->b∉fs->b∉ex->h'.get? b=some o
 slot:∀b o,h.get? b=some o->H b=none->b∈fs->b∉ex->∃sl,h'.get? b=some {o with slots:=sl}
 free:∀b o,h.get? b=some o->H b=none->b∉ex->H' b=none
 there:∀b o,h.get? b=some o->b∉ex->∃o',h'.get? b=some o'
 tups:∀b xs,H b=some (.tup xs)->H' b=some (.tup xs)
 xS:∀b o u,H b=some (.EX o u)->H' b=some (.EX o u)
 yD:∀b ps,H b=some (.rK ps)->∃more,H' b=some (.rK (ps++more))
section
variable{fs fs' ex ex':List Addr}{H H1 H2:Hp}{h h1 h2 h':Heap}{a x e:Addr}{o:HO}
def Un.any(u:Un fs ex H H1 h h1){b:Addr}{ob:Obj}(q:h.get? b=some ob)(n:H b=none)(hx:b∉ex):∃sl,h1.get? b=some {ob with slots:=sl}:=by
 by_cases hb:b∈fs
 ·exact u.slot b ob q n hb hx
 ·exact ⟨ob.slots,u.keep b ob q n hb hx⟩
def Un.kept(k:∀b u,h.get? b=some u->h'.get? b=some u):Un fs ex H H h h':=⟨λ b ob q _ _ _=>k b ob q,λ b ob q _ _ _=>⟨ob.slots,k b ob q⟩,λ _ _ _ n _=>n,λ b ob q _=>⟨ob,k b ob q⟩,λ _ _ q=>q,λ _ _ _ q=>q,λ _ ps q=>⟨#[],by rw[q];simp⟩⟩
def Un.refl:Un fs ex H H h h:=Un.kept λ _ _ q=>q
def Un.laid(k:∀b u,h.get? b=some u->h'.get? b=some u)(hp:h.objs.size<=a)(hn:H a=none):Un fs ex H (upd H a o) h h' where
 keep:=λ b u q _ _ _=>k b u q
 slot:=λ b u q _ _ _=>⟨u.slots,k b u q⟩
 free:=λ b u q n _=>by rw[aE (Nat.ne_of_lt (Nat.lt_of_lt_of_le (Heap.lt_size q) hp))];exact n
 there:=λ b u q _=>⟨u,k b u q⟩
 tups:=λ b xs q=>by rw[aE (fH q hn)];exact q
 xS:=λ b u xs q=>by rw[aE (fH q hn)];exact q
 yD:=λ b ps q=>⟨#[],by rw[aE (fH q hn),q];simp⟩
def Un.write(mu:Mut (H x))(he:e=x\/H e=some (.own x))(k:∀b u,b≠e->h.get? b=some u->h'.get? b=some u)(heo:∃u,h'.get? e=some u):Un fs ex H (upd H x o) h h':=by
 have hx:∀b,H b=none->b≠x:=λ b n z=>by subst z;rw[n] at mu;exact mu
 have hb:∀b,H b=none->b≠e:=λ b n z=>by
  subst z;rcases he with r|r
  ·exact hx b n r
  ·rw[n] at r;cases r
 have hm:∀b u,H b=some u->¬Mut (some u)->b≠x:=λ b u q nm z=>by subst z;rw[q] at mu;exact nm mu
 refine ⟨λ b u q n _ _=>k b u (hb b n) q,λ b u q n _ _=>⟨u.slots,k b u (hb b n) q⟩,λ b u q n _=>by rw[aE (hx b n)];exact n,λ b u q _=>?_,λ b xs q=>by rw[aE (hm b _ q λ z=>z)];exact q,λ b u xs q=>by rw[aE (hm b _ q λ z=>z)];exact q,λ b ps q=>⟨#[],by rw[aE (hm b _ q λ z=>z),q];simp⟩⟩;by_cases hbe:b=e
 ·subst hbe;exact heo
 ·exact ⟨u,k b u hbe q⟩
end
def trk(h:Heap)(H:Hp):List Addr:=(List.range h.objs.size).filter λ a=>(H a).isSome
def IP(h:Heap)(H:Hp):Heap:=W.hideAll h (trk h H)
def Xh(h:Heap)(H:Hp):(IP h H).objs.size=h.objs.size:=W.hideAll_size _ _
def aaT{h:Heap}{H:Hp}{b:Addr}{o:Obj}(e:h.get? b=some o)(n:H b=none):(IP h H).get? b=some o:=W.hideAll_get _ e λ hm=>by have q:(H b).isSome=true:=(List.mem_filter.mp hm).2;rw[n] at q;simp at q
def aez{h:Heap}{H:Hp}{b:Addr}{o:Obj}(e:(IP h H).get? b=some o):h.get? b=some o/\H b=none:=by
 have e':h.get? b=some o:=W.of_hideAll (trk h H) e;refine ⟨e',?_⟩;cases q:H b with
 |none=>rfl
 |some x=>have hm:b∈trk h H:=List.mem_filter.mpr ⟨List.mem_range.mpr (Heap.lt_size e'),by simp[q]⟩;have z:(IP h H).get? b=none:=W.hideAll_none (trk h H) hm;rw[z] at e;cases e
noncomputable def afP(g h:Heap)(L:Addr):List (Addr×Obj):=(List.range h.objs.size).filterMap λ a=>if a=L\/(g.get? a).isSome=true then none else (h.get? a).map λ o=>(a,o)
def rest(g h:Heap)(L d:Addr):List (Addr×Obj):=(afP g h L).filter λ p=>decide (p.1≠d)
structure Mod(K:W.Frag)(mg:Str->Option Value)(base:Heap):Prop where
 kin:K.In base
 glob:base.Ns mainGlobals mg
 blt:∃mb,base.Ns builtinsNs mb/\∀x:Str,x≠"__name__"->mb x=bootBuiltins x
 nolimit:base.NoLimit
structure Cx where
 prog:Program
 w:World
 K:W.Frag
 mg:Str->Option Value
 base:Heap
 A:Around
 N:List Str
 s₀:Shared
 H₀:Hp
 env:Env
 outer:List Env
 stack:List Env
 ex:List Addr
 fn:Str->Bool
 calm:Bool
 pn:List (Addr×Obj)
 xe:Value->Shared->Prop
noncomputable def frs(l:List Env):List Addr:=l.filterMap (·.frame)
abbrev Cx.fs(X:Cx):List Addr:=frs X.outer
noncomputable def Yj(sc:Scope)(x:Str):Prop:=sc.names.lookup x=some .local\/sc.names.lookup x=some .cell\/sc.names.lookup x=some .free
noncomputable def Loc(sc:Scope)(x:Str):Prop:=sc.names.lookup x=some .local\/sc.names.lookup x=some .cell
noncomputable def Look(env:Env)(h:Heap)(m:Str->Option Value)(x:Str)(u:Value):Prop:=(env.kindOf x=some .local/\m x=some u)\/((env.kindOf x=some .cell\/env.kindOf x=some .free)/\∃c,env.cells.lookup x=some c/\h.IsCell c (some u))
structure Cx.Ok(X:Cx):Prop where
 mod:Mod X.K X.mg X.base
 kind:X.env.scope.kind= .function
 glob:X.env.globals=mainGlobals
 blt:X.env.builtins=builtinsNs
 above:X.s₀.heap.objs.size<=X.env.locals
 inj:∀x y c,X.env.cells.lookup x=some c->X.env.cells.lookup y=some c->x=y
 has:∀x,(X.env.kindOf x=some .cell\/X.env.kindOf x=some .free)->∃c,X.env.cells.lookup x=some c
 cab:∀x c,X.fn x=true->X.env.cells.lookup x=some c->X.s₀.heap.objs.size<=c
 hd:X.calm=true->X.A.handled=none
 frames:X.A.frames=some X.stack
 stk:X.stack=X.outer\/(X.stack=X.env::X.outer/\X.env.frame=some X.env.locals)
 exf:∀b∈X.ex,b≠X.env.locals/\∀x c,X.env.cells.lookup x=some c->c≠b
 bs:∀b o,X.base.get? b=some o->X.s₀.heap.get? b=some o/\X.H₀ b=none
 bsz:X.base.objs.size<=X.s₀.heap.objs.size
 ZQ:∀b o,X.base.get? b=some o->b∉X.ex
 aa8:∀b∈X.ex,b∉X.fs
 AW:X.s₀.heap.FunFrames X.base X.outer
 frf:∀b∈X.fs,X.H₀ b=none
structure Inv(X:Cx)(pins:List (Addr×Obj))(σ:List (Option V))(H:Hp)(s:Shared):Prop where
 ok:X.Ok
 os:s.os=X.s₀.os
 bare:AllBare s.gens
 base:Un X.fs X.ex X.H₀ H X.s₀.heap s.heap
 loc:∃m,s.heap.Ns X.env.locals m/\∀(i:Nat) (x:Str) (v:V),X.N[i]? =some x->σ[i]? =some (some v)->Yj X.env.scope x->∃u,RelV v u/\Look X.env s.heap m x u
 cell:∀x c,X.env.cells.lookup x=some c->∃v,s.heap.IsCell c v
 free:H X.env.locals=none
 mT:∀x c,X.env.cells.lookup x=some c->H c=none
 pin:∀p∈X.pn++pins,s.heap.get? p.1=some p.2/\H p.1=none/\p.1≠X.env.locals/\p.1∉X.fs/\∀v,p.2.data≠.cell v
 hok:uE X.prog X.w H s.heap
 len:σ.length=X.N.length
section
variable{X:Cx}{pins:List (Addr×Obj)}{σ:List (Option V)}{H H':Hp}{s:Shared}{h':Heap}
def Cx.Ok.apV(ok:X.Ok){b:Addr}{o:Obj}(e:X.base.get? b=some o):b∉X.fs:=λ hb=>by have:=(ok.AW.mem hb).1;rw[e] at this;cases this
def Inv.bs(I:Inv X pins σ H s):∀b o,X.base.get? b=some o->s.heap.get? b=some o/\H b=none:=λ b o e=>⟨I.base.keep b o (I.ok.bs b o e).1 (I.ok.bs b o e).2 (I.ok.apV e) (I.ok.ZQ b o e),I.base.free b o (I.ok.bs b o e).1 (I.ok.bs b o e).2 (I.ok.ZQ b o e)⟩
def Inv.bk(I:Inv X pins σ H s):∀b o,X.base.get? b=some o->s.heap.get? b=some o:=λ b o e=>(I.bs b o e).1
def Inv.mod(I:Inv X pins σ H s):Mod X.K X.mg X.base:=I.ok.mod
def Inv.zZ(I:Inv X pins σ H s):X.K.In s.heap:=I.ok.mod.kin.keeps I.bk
def Inv.lt(I:Inv X pins σ H s):X.env.locals<s.heap.objs.size:=let ⟨_,hn,_⟩:=I.loc;hn.lt
def Inv.sz(I:Inv X pins σ H s):X.s₀.heap.objs.size<=s.heap.objs.size:=Nat.le_trans I.ok.above (Nat.le_of_lt I.lt)
def Inv.apU(I:Inv X pins σ H s){a:Addr}(h:s.heap.objs.size<=a):a∉X.fs:=λ hb=>by obtain ⟨_,o,ho,_⟩:=I.ok.AW.mem hb;exact absurd (Nat.lt_of_lt_of_le (Heap.lt_size ho) (Nat.le_trans I.sz h)) (Nat.lt_irrefl _)
def Inv.cne(I:Inv X pins σ H s):∀x c,X.env.cells.lookup x=some c->c≠X.env.locals:=λ x c e z=>by obtain ⟨v,o,ho,hd⟩:=I.cell x c e;obtain ⟨m,⟨o',es,ep,ho',hd',_⟩,_⟩:=I.loc;rw[z,ho'] at ho;cases ho;rw[hd'] at hd;cases hd
def Inv.AW(I:Inv X pins σ H s):s.heap.FunFrames X.base X.outer:=by
 have all:∀(l:List Env),(∀b∈frs l,b∈X.fs)->X.s₀.heap.FunFrames X.base l->s.heap.FunFrames X.base l:=by
  intro l;induction l with
  |nil=>intro _ _;trivial
  |cons env r ih=>intro hs hl;obtain ⟨hk,⟨L,o,hf,hn,ho,hd⟩,hr⟩:=hl;have hL:L∈X.fs:=hs L (by unfold frs;rw[List.filterMap_cons,hf];exact List.mem_cons_self);obtain ⟨sl,e⟩:=I.base.slot L o ho (I.ok.frf L hL) hL λ z=>I.ok.aa8 L z hL;exact ⟨hk,⟨L,_,hf,hn,e,hd⟩,ih (λ b hb=>hs b (by unfold frs;rw[List.filterMap_cons,hf];exact List.mem_cons_of_mem _ hb)) hr⟩
 exact all X.outer (λ _ hb=>hb) I.ok.AW
def Inv.stack(I:Inv X pins σ H s):s.heap.FunFrames X.base X.stack:=by
 rcases I.ok.stk with e|⟨e,hf⟩
 ·rw[e];exact I.AW
 ·rw[e];obtain ⟨m,hn,_⟩:=I.loc;refine .cons (by rw[I.ok.kind];decide) hf hn ?_ I.AW;exact Heap.get?_none_of_le (Nat.le_trans I.ok.bsz I.ok.above)
def Inv.Mi(I:Inv X pins σ H s):∀b∈frs X.stack,b∈X.env.locals::X.fs:=λ b hb=>by
 rcases I.ok.stk with e|⟨e,hf⟩
 ·rw[e] at hb;exact List.mem_cons_of_mem _ hb
 ·rw[e] at hb;unfold frs at hb;rw[List.filterMap_cons,hf] at hb;exact hb
def Inv.Bl(I:Inv X pins σ H s):∀b∈frs X.stack,H b=none:=λ b hb=>by
 rcases List.mem_cons.mp (I.Mi b hb) with e|hb
 ·rw[e];exact I.free
 ·obtain ⟨_,o,ho,_⟩:=I.ok.AW.mem hb;exact I.base.free b o ho (I.ok.frf b hb) λ z=>I.ok.aa8 b z hb
def Inv.step{g':Array GenState}{t':Nat}{d':Drawn}{ch:List Addr}(I:Inv X pins σ H s) (hch:∀b∈ch,(b∈X.ex\/X.s₀.heap.objs.size<=b)/\b≠X.env.locals/\(∀x c,X.env.cells.lookup x=some c->c≠b)/\∀p∈X.pn++pins,p.1≠b) (keep:∀b o,b≠X.env.locals->b∉X.fs->b∉ch->s.heap.get? b=some o->H b=none->h'.get? b=some o) (slot:∀b o,b≠X.env.locals->b∈X.fs->b∉ch->s.heap.get? b=some o->H b=none->∃sl,h'.get? b=some {o with slots:=sl}) (free:∀b o,b∉ch->s.heap.get? b=some o->H b=none->H' b=none) (there:∀b o,b∉ch->s.heap.get? b=some o->∃o',h'.get? b=some o') (tups:∀b xs,H b=some (.tup xs)->H' b=some (.tup xs)) (xS:∀b o u,H b=some (.EX o u)->H' b=some (.EX o u)) (yD:∀b ps,H b=some (.rK ps)->∃more,H' b=some (.rK (ps++more))) (ns:∀m,s.heap.Ns X.env.locals m->h'.Ns X.env.locals m) (hok:uE X.prog X.w H' h') (hg:AllBare g'):
  Inv X pins σ H' {s with heap:=h',gens:=g',drawn:=d',toks:=t'}:=by
 have neL:∀b o,X.s₀.heap.get? b=some o->b≠X.env.locals:=λ b o e=>Nat.ne_of_lt (Nat.lt_of_lt_of_le (Heap.lt_size e) I.ok.above);have neC:∀b o,X.s₀.heap.get? b=some o->b∉X.ex->b∉ch:=λ b o e hx hb=>by
  rcases (hch b hb).1 with z|z
  ·exact hx z
  ·exact absurd (Nat.lt_of_lt_of_le (Heap.lt_size e) z) (Nat.lt_irrefl _)
 have cellK:∀x c,X.env.cells.lookup x=some c->∀v,s.heap.IsCell c v->h'.IsCell c v:=λ x c e v ⟨o,ho,hd⟩=>by
  have nch:c∉ch:=λ z=>(hch c z).2.2.1 x c e rfl;by_cases hc:c∈X.fs
  ·obtain ⟨sl,q⟩:=slot c o (I.cne x c e) hc nch ho (I.mT x c e);exact ⟨_,q,hd⟩
  ·exact ⟨o,keep c o (I.cne x c e) hc nch ho (I.mT x c e),hd⟩
 refine ⟨I.ok,I.os,hg,⟨λ b o e n hb hx=>?_,λ b o e n hb hx=>?_,λ b o e n hx=>?_,λ b o e hx=>?_,λ b xs e=>tups b xs (I.base.tups b xs e),λ b o xs e=>xS b o xs (I.base.xS b o xs e),λ b ps e=>?_⟩,?_,λ x c e=>?_,?_,λ x c e=>?_,λ p hp=>?_,hok,I.len⟩
 ·exact keep b o (neL b o e) hb (neC b o e hx) (I.base.keep b o e n hb hx) (I.base.free b o e n hx)
 ·obtain ⟨sl,e1⟩:=I.base.slot b o e n hb hx;obtain ⟨sl',e2⟩:=slot b _ (neL b o e) hb (neC b o e hx) e1 (I.base.free b o e n hx);exact ⟨sl',e2⟩
 ·obtain ⟨o',e1⟩:=I.base.there b o e hx;exact free b o' (neC b o e hx) e1 (I.base.free b o e n hx)
 ·obtain ⟨o',e1⟩:=I.base.there b o e hx;exact there b o' (neC b o e hx) e1
 ·obtain ⟨m1,e1⟩:=I.base.yD b ps e;obtain ⟨m2,e2⟩:=yD b _ e1;exact ⟨m1++m2,by rw[e2,Array.append_assoc]⟩
 ·obtain ⟨m,hn,hl⟩:=I.loc;refine ⟨m,ns m hn,λ i x v e1 e2 e3=>?_⟩;obtain ⟨u,r,l⟩:=hl i x v e1 e2 e3;refine ⟨u,r,?_⟩;rcases l with l|⟨k,c,e,z⟩
  ·exact .inl l
  ·exact .inr ⟨k,c,e,cellK x c e _ z⟩
 ·obtain ⟨v,z⟩:=I.cell x c e;exact ⟨v,cellK x c e v z⟩
 ·obtain ⟨m,⟨o,_,_,ho,_⟩,_⟩:=I.loc;exact free _ o (λ z=>(hch _ z).2.1 rfl) ho I.free
 ·obtain ⟨v,o,ho,hd⟩:=I.cell x c e;exact free c o (λ z=>(hch c z).2.2.1 x c e rfl) ho (I.mT x c e)
 ·obtain ⟨e,n,ne,nf,d⟩:=I.pin p hp;have nch:p.1∉ch:=λ z=>(hch p.1 z).2.2.2 p hp rfl;exact ⟨keep p.1 p.2 ne nf nch e n,free p.1 p.2 nch e n,ne,nf,d⟩
def Inv.un{t':Nat}(I:Inv X pins σ H s)(u:Un X.fs [] H H' s.heap h')(hok:uE X.prog X.w H' h'):Inv X pins σ H' {s with heap:=h',toks:=t'}:=by obtain ⟨m,⟨o,es,ep,ho,r⟩,_⟩:=id I.loc;obtain ⟨sl,hL⟩:=u.any ho I.free (by simp);exact I.step (g':=s.gens) (d':=s.drawn) (ch:=[]) (λ _ z=>nomatch z) (λ b o _ hb _ e n=>u.keep b o e n hb (by simp)) (λ b o _ hb _ e n=>u.slot b o e n hb (by simp)) (λ b o _ e n=>u.free b o e n (by simp)) (λ b o _ e=>u.there b o e (by simp)) u.tups u.xS u.yD (λ m' hm=>by obtain ⟨o',es',ep',ho',r'⟩:=hm;rw[ho] at ho';cases ho';exact ⟨_,es',ep',hL,r'⟩) hok I.bare
def Inv.call{g':Array GenState}{t':Nat}{d':Drawn}{ch:List Addr}(I:Inv X pins σ H s)(u:Un (frs X.stack) ch H H' s.heap h')(hok:uE X.prog X.w H' h')(hg:AllBare g') (hch:∀b∈ch,(b∈X.ex\/X.s₀.heap.objs.size<=b)/\b≠X.env.locals/\(∀x c,X.env.cells.lookup x=some c->c≠b)/\∀p∈X.pn++pins,p.1≠b):
  Inv X pins σ H' {s with heap:=h',gens:=g',drawn:=d',toks:=t'}:=by
 obtain ⟨m,⟨o,es,ep,ho,r⟩,_⟩:=id I.loc;obtain ⟨sl,hL⟩:=u.any ho I.free λ z=>(hch _ z).2.1 rfl;exact I.step (ch:=ch) hch (λ b o hL hb hc e n=>u.keep b o e n (λ z=>(List.mem_cons.mp (I.Mi b z)).elim hL hb) hc) (λ b o _ _ hc e n=>u.any e n hc) (λ b o hc e n=>u.free b o e n hc) (λ b o hc e=>u.there b o e hc) u.tups u.xS u.yD (λ m' hm=>by obtain ⟨o',es',ep',ho',r'⟩:=hm;rw[ho] at ho';cases ho';exact ⟨_,es',ep',hL,r'⟩) hok hg
def Inv.turned{t':Nat}{it:Addr}(I:Inv X pins σ H s)(k:∀b o,b≠it->s.heap.get? b=some o->h'.get? b=some o)(hn:H it=none)(hL:it≠X.env.locals) (h1:it∈X.ex\/X.s₀.heap.objs.size<=it) (h2:∀x c,X.env.cells.lookup x=some c->c≠it) (h3:∀p∈X.pn++pins,p.1≠it):Inv X pins σ H {s with heap:=h',toks:=t'}:=by
 have nit:∀b u,H b=some u->b≠it:=λ b u e z=>by rw[z,hn] at e;cases e
 refine I.step (g':=s.gens) (d':=s.drawn) (ch:=[it]) (λ b hb=>?_) (λ b o _ _ hc e _=>k b o (λ z=>hc (by simp[z])) e) (λ b o _ _ hc e _=>⟨o.slots,k b o (λ z=>hc (by simp[z])) e⟩) (λ _ _ _ _ n=>n)
  (λ b o hc e=>⟨o,k b o (λ z=>hc (by simp[z])) e⟩) (λ _ _ e=>e) (λ _ _ _ e=>e) (λ b ps e=>⟨#[],by rw[e];simp⟩) (λ m hm=>?_) (λ b u e=>?_) I.bare
 ·have e:b=it:=by simpa using hb
  subst e;exact ⟨h1,hL,h2,h3⟩
 ·obtain ⟨o,es,ep,ho,r⟩:=hm;exact ⟨o,es,ep,k _ o (Ne.symm hL) ho,r⟩
 ·refine (I.hok b u e).stay (λ c v hc q=>k c v ?_ q) (λ _ q=>q) λ _ _ q=>q;rcases hc with z|z
  ·rw[z];exact nit b u e
  ·exact nit c _ z
def Inv.tok(I:Inv X pins σ H s)(t:Nat):Inv X pins σ H {s with toks:=t}:=I.un (h':=s.heap) (t':=t) Un.refl I.hok
def Inv.kept{t':Nat}(I:Inv X pins σ H s)(k:∀b u,s.heap.get? b=some u->h'.get? b=some u):Inv X pins σ H {s with heap:=h',toks:=t'}:=I.un (Un.kept k) (I.hok.kept k)
def Inv.laid{a:Addr}{o:HO}{t':Nat}(I:Inv X pins σ H s)(k:∀b u,s.heap.get? b=some u->h'.get? b=some u)(hp:s.heap.objs.size<=a)(new:dM X.prog X.w (upd H a o) h' a o):
  Inv X pins σ (upd H a o) {s with heap:=h',toks:=t'}:=I.un (Un.laid k hp (I.hok.fresh hp)) (I.hok.laid k hp new)
def Inv.write{x e:Addr}{o:HO}{t':Nat}(I:Inv X pins σ H s)(mu:Mut (H x))(he:e=x\/H e=some (.own x))(k:∀b u,b≠e->s.heap.get? b=some u->h'.get? b=some u)(heo:∃u,h'.get? e=some u) (new:dM X.prog X.w (upd H x o) h' x o):Inv X pins σ (upd H x o) {s with heap:=h',toks:=t'}:=I.un (Un.write mu he k heo) (I.hok.write mu he k heo new)
def Inv.Uv{Uw:List (Addr×Obj)}(I:Inv X pins σ H s)(h:∀p∈Uw,s.heap.get? p.1=some p.2/\H p.1=none/\p.1≠X.env.locals/\p.1∉X.fs/\∀v,p.2.data≠.cell v):Inv X Uw σ H s:=⟨I.ok,I.os,I.bare,I.base,I.loc,I.cell,I.free,I.mT,λ p hp=>(List.mem_append.mp hp).elim (λ z=>I.pin p (List.mem_append_left _ z)) (h p),I.hok,I.len⟩
def Cr{N:List Str}(hN:N.Nodup){i j:Nat}{x:Str}(a:N[i]? =some x)(b:N[j]? =some x):i=j:=by obtain ⟨h1,e1⟩:=List.getElem?_eq_some_iff.mp a;obtain ⟨h2,e2⟩:=List.getElem?_eq_some_iff.mp b;exact (List.getElem_inj hN).mp (e1.trans e2.symm)
def F0{M:Model}{A:Around}{E:Value->Shared->Prop}{i:Nat}{x:Str}{v:V}{u:Value}{Q:Unit->Shared->Prop}(I:Inv X pins σ H s)(hN:X.N.Nodup)(hi:X.N[i]? =some x)(hx:Loc X.env.scope x)(r:RelV v u)
  (h:∀s',Inv X pins (σ.set i (some v)) H s'->(∃a,Heap.SameBut a s.heap s'.heap/\(a=X.env.locals\/X.env.cells.lookup x=some a))->Q () s') (hf:X.fn x=true\/X.env.scope.names.lookup x=some .local:=by first|exact .inl rfl|exact .inr rfl|assumption):wpAny M A (storeName X.env x u) Q E s:=by
 obtain ⟨m,hn,hl⟩:=id I.loc
 have hcls:(X.env.scope.kind== .class||(X.env.scope.kind== .module&&X.env.locals !=X.env.globals))=false:=by rw[I.ok.kind];rfl
 have hiσ:i<σ.length:=by rw[I.len];exact (List.getElem?_eq_some_iff.mp hi).1
 have cne:=I.cne
 have tracked:∀{a:Addr} {h':Heap},(∃o,s.heap.get? a=some o/\H a=none)->Heap.SameBut a s.heap h'->uE X.prog X.w H h':=λ{a h'} ha hs b ob e=>by
  obtain ⟨_,_,hfree⟩:=ha
  refine (I.hok b ob e).stay (λ c w' hc q=>(hs.2 c ?_).trans q) (λ _ q=>q) λ _ _ q=>q
  rintro rfl
  rcases hc with rfl|hc
  ·rw[hfree] at e;cases e
  ·rw[hfree] at hc;cases hc
 rcases hx with hk|hk
 ·refine wpAny_storeName_local hk hn (λ h' hn' hs=>?_) hcls
  obtain ⟨oL,_,_,hoL,_⟩:=id hn
  refine h _ ⟨I.ok,I.os,I.bare,⟨λ b o e n hb hx=>?_,λ b o e n hb hx=>?_,I.base.free,λ b o e hx=>?_,I.base.tups,I.base.xS,I.base.yD⟩,⟨_,hn',λ j y v' e1 e2 e3=>?_⟩,λ y c e=>?_,I.free,I.mT,λ p hp=>?_,tracked ⟨oL,hoL,I.free⟩ hs,by simpa using I.len⟩ ⟨_,hs,.inl rfl⟩
  ·exact (hs.2 b (Nat.ne_of_lt (Nat.lt_of_lt_of_le (Heap.lt_size e) I.ok.above))).trans (I.base.keep b o e n hb hx)
  ·obtain ⟨sl,e1⟩:=I.base.slot b o e n hb hx
   exact ⟨sl,(hs.2 b (Nat.ne_of_lt (Nat.lt_of_lt_of_le (Heap.lt_size e) I.ok.above))).trans e1⟩
  ·obtain ⟨o',e1⟩:=I.base.there b o e hx
   exact ⟨o',(hs.2 b (Nat.ne_of_lt (Nat.lt_of_lt_of_le (Heap.lt_size e) I.ok.above))).trans e1⟩
  ·by_cases hj:j=i
   ·subst hj
    rw[hi] at e1;cases e1
    rw[List.getElem?_set_self hiσ] at e2
    cases e2
    exact ⟨u,r,.inl ⟨hk,by simp⟩⟩
   ·rw[List.getElem?_set_ne (Ne.symm hj)] at e2
    obtain ⟨u',r',q⟩:=hl j y v' e1 e2 e3
    refine ⟨u',r',?_⟩
    rcases q with ⟨k,e⟩|⟨k,c,e,z⟩
    ·refine .inl ⟨k,?_⟩
     have:y≠x:=λ e=>hj (Cr hN e1 (e▸hi))
     simp[this,e]
    ·exact .inr ⟨k,c,e,z.sameBut hs (cne y c e)⟩
  ·obtain ⟨w',z⟩:=I.cell y c e
   exact ⟨w',z.sameBut hs (cne y c e)⟩
  ·obtain ⟨e,n,ne,nf,d⟩:=I.pin p hp
   exact ⟨(hs.2 p.1 ne).trans e,n,ne,nf,d⟩
 ·have hfn:X.fn x=true:=by
   rcases hf with z|z
   ·exact z
   ·rw[z] at hk;cases hk
  obtain ⟨c,hc⟩:=I.ok.has x (.inl hk)
  obtain ⟨w',z⟩:=I.cell x c hc
  refine wpAny_storeName_cell I.ok.kind hk hc z (λ h' hc' hs=>?_)
  obtain ⟨oc,hoc,aqk⟩:=id z
  refine h {s with heap:=h'} ⟨I.ok,I.os,I.bare,⟨λ b o e n hb hx=>?_,λ b o e n hb hx=>?_,I.base.free,λ b o e hx=>?_,I.base.tups,I.base.xS,I.base.yD⟩,⟨m,hn.sameBut hs (Ne.symm (cne x c hc)),λ j y v' e1 e2 e3=>?_⟩,λ y c' e=>?_,I.free,I.mT,λ p hp=>?_,tracked ⟨oc,hoc,I.mT x c hc⟩ hs,by simpa using I.len⟩ ⟨c,hs,.inr hc⟩
  ·exact (hs.2 b (Nat.ne_of_lt (Nat.lt_of_lt_of_le (Heap.lt_size e) (I.ok.cab x c hfn hc)))).trans (I.base.keep b o e n hb hx)
  ·obtain ⟨sl,e1⟩:=I.base.slot b o e n hb hx
   exact ⟨sl,(hs.2 b (Nat.ne_of_lt (Nat.lt_of_lt_of_le (Heap.lt_size e) (I.ok.cab x c hfn hc)))).trans e1⟩
  ·obtain ⟨o',e1⟩:=I.base.there b o e hx
   exact ⟨o',(hs.2 b (Nat.ne_of_lt (Nat.lt_of_lt_of_le (Heap.lt_size e) (I.ok.cab x c hfn hc)))).trans e1⟩
  ·by_cases hj:j=i
   ·subst hj
    rw[hi] at e1;cases e1
    rw[List.getElem?_set_self hiσ] at e2
    cases e2
    exact ⟨u,r,.inr ⟨.inl hk,c,hc,hc'⟩⟩
   ·rw[List.getElem?_set_ne (Ne.symm hj)] at e2
    obtain ⟨u',r',q⟩:=hl j y v' e1 e2 e3
    refine ⟨u',r',?_⟩
    rcases q with q|⟨k,c',e,z'⟩
    ·exact .inl q
    ·refine .inr ⟨k,c',e,z'.sameBut hs ?_⟩
     rintro rfl
     exact hj (Cr hN e1 (I.ok.inj _ _ _ e hc▸hi))
  ·by_cases hcc:c'=c
   ·subst hcc;exact ⟨_,hc'⟩
   ·obtain ⟨w2,z2⟩:=I.cell y c' e
    exact ⟨w2,z2.sameBut hs hcc⟩
  ·obtain ⟨e,n,ne,nf,d⟩:=I.pin p hp
   refine ⟨(hs.2 p.1 ?_).trans e,n,ne,nf,d⟩
   intro q
   rw[q,hoc] at e
   have q':oc=p.2:=Option.some.inj e
   exact d w' (by rw[<-q'];exact aqk)
def BQ{M:Model}{A:Around}{E:Value->Shared->Prop}{i:Nat}{x:Str}{v:V}{u:Value}{Q:Unit->Shared->Prop}(I:Inv X pins σ H s)(hN:X.N.Nodup)(hi:X.N[i]? =some x)(hx:Loc X.env.scope x)(r:RelV v u) (h:∀s',Inv X pins (σ.set i (some v)) H s'->Q () s') (hf:X.fn x=true\/X.env.scope.names.lookup x=some .local:=by first|exact .inl rfl|exact .inr rfl|assumption):wpAny M A (storeName X.env x u) Q E s:=F0 I hN hi hx r (λ s' I' _=>h s' I') hf
def Inv.Vd{s':Shared}{ch:List Addr}(I:Inv X pins σ H s)(ho:s'.os=s.os)(u:Un (frs X.stack) ch H H' s.heap s'.heap)(hok:uE X.prog X.w H' s'.heap)(hg:AllBare s'.gens) (hch:∀b∈ch,(b∈X.ex\/X.s₀.heap.objs.size<=b)/\b≠X.env.locals/\(∀x c,X.env.cells.lookup x=some c->c≠b)/\∀p∈X.pn++pins,p.1≠b):Inv X pins σ H' s':=by obtain ⟨h',g',d',t',o'⟩:=s';have e:o'=s.os:=ho;subst e;exact I.call (g':=g') (t':=t') (d':=d') u hok hg hch
end
abbrev XK:=Value->Option Addr->Hp->Prop
noncomputable abbrev St:=List (Option V)
abbrev VK:=V->Hp->Prop
abbrev TE:=St->Hp->VK->Prop
abbrev TT:=St->Hp->(Bool->Hp->Prop)->Prop
abbrev TA:=St->Hp->(List V->Hp->Prop)->Prop
structure Ends where
 nx:St->Hp->Prop
 rt:VK
 bk:St->Hp->Prop:=λ _ _=>False
 ct:St->Hp->Prop:=λ _ _=>False
abbrev TS:=Ends->St->Hp->Prop
def EP(X:Cx)(pins:List (Addr×Obj))(σ:St)(Q:VK)(u:Value)(s':Shared):Prop:=∃v H',Inv X pins σ H' s'/\RelV v u/\Q v H'
def TP(X:Cx)(pins:List (Addr×Obj))(σ:St)(Q:Bool->Hp->Prop)(b:Bool)(s':Shared):Prop:=∃H',Inv X pins σ H' s'/\Q b H'
def AP(X:Cx)(pins:List (Addr×Obj))(σ:St)(Q:List V->Hp->Prop)(us:List Value)(s':Shared):Prop:=∃vs H',Inv X pins σ H' s'/\Vals vs us/\Q vs H'
def SP(X:Cx)(pins:List (Addr×Obj))(D:Ends)(f:Flow)(s':Shared):Prop:=match f with
 | .next=>∃σ' H',Inv X pins σ' H' s'/\D.nx σ' H'
 | .brk=>∃σ' H',Inv X pins σ' H' s'/\D.bk σ' H'
 | .cont=>∃σ' H',Inv X pins σ' H' s'/\D.ct σ' H'
 | .ret u=>∃v σ' H',Inv X pins σ' H' s'/\RelV v u/\D.rt v H'
def PE(X:Cx)(e:Expr)(t:TE):Prop:=∀(pins:List (Addr×Obj)) (s:Shared) (σ:St) (H:Hp) (Q:VK),Inv X pins σ H s->t σ H Q->wpAny (model X.prog X.w) X.A (eval e X.env) (EP X pins σ Q) X.xe s
def PT(X:Cx)(e:Expr)(t:TT):Prop:=∀(pins:List (Addr×Obj)) (s:Shared) (σ:St) (H:Hp) (Q:Bool->Hp->Prop),Inv X pins σ H s->t σ H Q->wpAny (model X.prog X.w) X.A (isTrue e X.env (eval e X.env)) (TP X pins σ Q) X.xe s
def PW(X:Cx)(e:Expr)(t:TT):Prop:=∀(whole:Sem Value) (pins:List (Addr×Obj)) (s:Shared) (σ:St) (H:Hp) (Q:Bool->Hp->Prop),Inv X pins σ H s->t σ H Q->wpAny (model X.prog X.w) X.A (isTrue e X.env whole) (TP X pins σ Q) X.xe s
def PW.pt{X:Cx}{e:Expr}{t:TT}(h:PW X e t):PT X e t:=h _
def PA(X:Cx)(es:List Expr)(t:TA):Prop:=∀(pos:Pos) (pins:List (Addr×Obj)) (s:Shared) (σ:St) (H:Hp) (Q:List V->Hp->Prop),Inv X pins σ H s->t σ H Q->wpAny (model X.prog X.w) X.A (spliced (backTo pos (starEach es X.env))) (AP X pins σ Q) X.xe s
def PS(X:Cx)(st:Stmt)(t:TS):Prop:=∀(pins:List (Addr×Obj)) (s:Shared) (σ:St) (H:Hp) (D:Ends),Inv X pins σ H s->t D σ H->wpAny (model X.prog X.w) X.A (exec st X.env) (SP X pins D) X.xe s
def TQ(X:Cx)(st:List Stmt)(t:TS):Prop:=∀(pins:List (Addr×Obj)) (s:Shared) (σ:St) (H:Hp) (D:Ends),Inv X pins σ H s->t D σ H->wpAny (model X.prog X.w) X.A (execs st X.env) (SP X pins D) X.xe s
def gC{α:Type}{t:Sem α}{Q Q':α->Shared->Prop}{M:Model}{A:Around}{E:Value->Shared->Prop}{s:Shared}(h:wpAny M A t Q E s)(hQ:∀a s,Q a s->Q' a s):wpAny M A t Q' E s:=wpAny_mono h hQ λ _ _ x=>x
section
variable{X:Cx}
def apk(i:Nat):TE:=λ σ H Q=>∃v,σ[i]? =some (some v)/\Q v H
def tC(v:V):TE:=λ _ H Q=>Q v H
def HG{i:Nat}{x:Str}{pos:Pos}(hN:X.N[i]? =some x)(hv:Yj X.env.scope x)(hd:(x==("__debug__":Str))=false:=by decide)(hcd:(x==("__classdict__":Str))=false:=by decide):PE X (.Name x pos) (apk i):=by
 intro pins s σ H Q I h;obtain ⟨v,e,h⟩:=h;obtain ⟨m,hn,hl⟩:=I.loc;obtain ⟨u,r,l⟩:=hl i x v hN e hv;have fin:EP X pins σ Q u s:=⟨v,H,I,r,h⟩;rcases l with ⟨hk,hm⟩|⟨hk,c,hc,hcell⟩
 ·exact wpAny_Name (wpAny_loadName_local I.ok.kind hk hn hm fin) hd
 ·rcases hk with hk|hk
  ·exact wpAny_Name (wpAny_loadName_cell I.ok.kind hk hc hcell fin) hd
  ·exact wpAny_Name (wpAny_loadName_free I.ok.kind hk hc hcell fin hcd) hd
def ah6{i j pos}:PE X (.Constant (.int i) j pos) (tC (.int i)):=λ _ _ _ H _ I h=>wpAny_Constant_int ⟨.int i,H,I.tok _,⟨_,rfl⟩,h⟩
def alE{b j pos}:PE X (.Constant (.bool b) j pos) (tC (.bl b)):=λ _ _ _ H _ I h=>Constant_bool ⟨.bl b,H,I,rfl,h⟩
def ah4{j pos}:PE X (.Constant .none j pos) (tC .fE):=λ _ _ _ H _ I h=>Constant_none ⟨.fE,H,I,rfl,h⟩
def ah1{x j pos}:PE X (.Constant (.str x) j pos) (tC (.str x)):=λ _ _ _ H _ I h=>Calls.Constant_str ⟨.str x,H,I.tok _,⟨_,rfl⟩,h⟩
noncomputable def Gl(X:Cx)(x:Str):Prop:=X.env.kindOf x=some .globalImplicit
def xB{E:Value->Shared->Prop}{pins:List (Addr×Obj)}{s:Shared}{σ:St}{H:Hp}{x:Str}{u:Value}{pos:Pos}{Q:Value->Shared->Prop}(I:Inv X pins σ H s)(hg:Gl X x)(hm:X.mg x=some u)(h:Q u s) (hd:(x==("__debug__":Str))=false:=by decide):wpAny (model X.prog X.w) X.A (eval (.Name x pos) X.env) Q E s:=Calls.Name_function_global I.ok.kind hg (Calls.loadGlobal_global (by rw[I.ok.glob];exact I.mod.glob.keeps I.bk) hm h) hd
def zm{E:Value->Shared->Prop}{pins:List (Addr×Obj)}{s:Shared}{σ:St}{H:Hp}{x:Str}{u:Value}{pos:Pos}{Q:Value->Shared->Prop}(I:Inv X pins σ H s)(hg:Gl X x)(hm:X.mg x=none)(hv:bootBuiltins x=some u)(h:Q u s) (hn:x≠"__name__":=by decide) (hd:(x==("__debug__":Str))=false:=by decide):wpAny (model X.prog X.w) X.A (eval (.Name x pos) X.env) Q E s:=by obtain ⟨mb,h1,h2⟩:=I.mod.blt;exact Calls.Name_function_global I.ok.kind hg (Calls.loadGlobal_builtin (by rw[I.ok.glob];exact I.mod.glob.keeps I.bk) hm (by rw[I.ok.blt];exact h1.keeps I.bk) ((h2 x hn).trans hv) h) hd
def Ux{x:Str}{v:V}{u:Value}{pos:Pos}(hg:Gl X x)(hm:X.mg x=some u)(r:RelV v u)(hd:(x==("__debug__":Str))=false:=by decide):PE X (.Name x pos) (tC v):=λ _ _ _ H _ I h=>xB I hg hm ⟨v,H,I,r,h⟩ hd
def aer{x:Str}{v:V}{u:Value}{pos:Pos}(hg:Gl X x)(hm:X.mg x=none)(hv:bootBuiltins x=some u)(r:RelV v u)(hn:x≠"__name__":=by decide)(hd:(x==("__debug__":Str))=false:=by decide):PE X (.Name x pos) (tC v):=λ _ _ _ H _ I h=>zm I hg hm hv ⟨v,H,I,r,h⟩ hn hd
variable{a b:Expr}{ta tb:TE}{pos:Pos}
def tB(t:TE):TT:=λ σ H Q=>t σ H λ x H1=>∃c,x= .bl c/\Q c H1
def ahU{e:Expr}{t:TE}(h:PE X e t)(he:∀whole,isTrue e X.env whole=(do let v <-whole;standAt e.pos;holding [v] (truthy v)):=by intro _;rfl):PT X e (tB t):=by
 intro pins s σ H Q I hw
 refine isTrue_plain (gC (h pins s σ H _ I hw) λ v s1 ⟨x,H1,I1,r1,q1⟩=>?_) (he _)
 obtain ⟨d,rfl,q⟩:=q1
 cases r1
 exact wpAny_truthy_bool ⟨H1,I1,q⟩
variable{tA tB':TT}{rest:List Expr}
def tOr(t u:TT):TT:=λ σ H Q=>t σ H λ c H1=>if c=true then Q true H1 else u σ H1 Q
def apq(t:TT):TT:=λ σ H Q=>t σ H λ c H1=>Q (!c) H1
def ahT(ha:PT X a tA):PW X (.BoolOp .Or [a] pos) tA:=by
 intro wh pins s σ H Q I h;refine isTrue_or (gC (ha pins s σ H Q I h) λ c s1 e=>?_);cases c with
 |false=>exact isTrue_or_nil e
 |true=>exact e
def alw(ha:PT X a tA)(hb:PW X (.BoolOp .Or (b::rest) pos) tB'):PW X (.BoolOp .Or (a::b::rest) pos) (tOr tA tB'):=by
 intro wh pins s σ H Q I h;refine isTrue_or (gC (ha pins s σ H _ I h) λ c s1 ⟨H1,I1,q1⟩=>?_);cases c with
 |true=>exact ⟨H1,I1,q1⟩
 |false=>exact hb wh pins s1 σ H1 Q I1 q1
def ahV(ha:PT X a tA):PT X (.UnaryOp .Not a pos) (apq tA):=by intro pins s σ H Q I h;exact isTrue_not (ha pins s σ H (λ c H1=>Q (!c) H1) I h)
def ak7(ta tb:TE):TE:=λ σ H Q=>ta σ H λ x H1=>∃c,x= .bl c/\if c=true then tb σ H1 Q else Q (.bl false) H1
def apo(ta tb:TE):TE:=λ σ H Q=>ta σ H λ x H1=>∃c,x= .bl c/\if c=true then Q (.bl true) H1 else tb σ H1 Q
def ak2(ta:TE):TE:=λ σ H Q=>ta σ H λ x H1=>∃c,x= .bl c/\Q (.bl (!c)) H1
def ah2{op}{t:TE}(h:PE X a t):PE X (.BoolOp op [a] pos) t:=λ pins s σ H Q I hw=>BoolOp_one (h pins s σ H Q I hw)
def ah9(ha:PE X a ta)(hb:PE X (.BoolOp .And (b::rest) pos) tb):PE X (.BoolOp .And (a::b::rest) pos) (ak7 ta tb):=by
 intro pins s σ H Q I h;refine BoolOp_and (gC (ha pins s σ H _ I h) λ v s1 ⟨x,H1,I1,r1,q1⟩=>?_);obtain ⟨c,rfl,q1⟩:=q1;cases r1;refine wpAny_truthy_bool ?_;cases c with
 |true=>exact hb pins s1 σ H1 Q I1 q1
 |false=>exact ⟨.bl false,H1,I1,rfl,q1⟩
def alD(ha:PE X a ta)(hb:PE X (.BoolOp .Or (b::rest) pos) tb):PE X (.BoolOp .Or (a::b::rest) pos) (apo ta tb):=by
 intro pins s σ H Q I h;refine BoolOp_or (gC (ha pins s σ H _ I h) λ v s1 ⟨x,H1,I1,r1,q1⟩=>?_);obtain ⟨c,rfl,q1⟩:=q1;cases r1;refine wpAny_truthy_bool ?_;cases c with
 |false=>exact hb pins s1 σ H1 Q I1 q1
 |true=>exact ⟨.bl true,H1,I1,rfl,q1⟩
def ah3(ha:PE X a ta):PE X (.UnaryOp .Not a pos) (ak2 ta):=by intro pins s σ H Q I h;refine UnaryOp_ (gC (ha pins s σ H _ I h) λ v s1 ⟨x,H1,I1,r1,q1⟩=>?_);obtain ⟨c,rfl,q1⟩:=q1;cases r1;exact not_of (wpAny_truthy_bool ⟨.bl (!c),H1,I1,rfl,q1⟩)
end
def rJ(K:W.Frag)(H:Hp)(a:Addr)(xs:List V):Prop:=Rd H a (.lst xs)\/∃(o:Obj) (its:Array Value) (n:Nat),K.lookup a=some o/\o.cls= .type "list"/\o.dict=none/\o.data= .seq its n/\its.size<=sizeLine/\Vals xs its.toList
def yx(K:W.Frag)(H:Hp)(a:Addr)(xs:List V):Prop:=Rd H a (.tup xs)\/∃(o:Obj) (its:Array Value) (n:Nat),K.lookup a=some o/\o.cls= .type "tuple"/\o.data= .seq its n/\its.size<=sizeLine/\Vals xs its.toList
noncomputable def aqT:Value->Option V
 | .none=>some .fE
 | .bool b=>some (.bl b)
 | .int i _=>some (.int i)
 | .str x _=>some (.str x)
 | .bytes b _=>some (.byt b)
 | .float b _=>some (.flt b)
 | .ref a=>some (.ref a)
 | .type n=>some (.ty n)
 |_=>none
def RelV.abs{x:V}{u:Value}(r:RelV x u):aqT u=some x:=by
 cases x with
 |fE=>cases r;rfl
 |bl _=>cases r;rfl
 |int _=>obtain ⟨t,rfl⟩:=r;rfl
 |str _=>obtain ⟨t,rfl⟩:=r;rfl
 |byt _=>obtain ⟨t,rfl⟩:=r;rfl
 |flt _=>obtain ⟨t,rfl⟩:=r;rfl
 |ref _=>cases r;rfl
 |ty _=>cases r;rfl
def RelV.inj{x y:V}{u:Value}(r:RelV x u)(q:RelV y u):x=y:=Option.some.inj (r.abs.symm.trans q.abs)
def Vals.inj:∀{xs ys:List V} {us:List Value},Vals xs us->Vals ys us->xs=ys
 |_,_,_,.nil,.nil=>rfl
 |_,_,_,.cons r t,.cons r' t'=>by rw[r.inj r',Vals.inj t t']
section
variable{X:Cx}{pins:List (Addr×Obj)}{σ:St}{H:Hp}{s:Shared}{a:Addr}{xs ys:List V}
def rJ.of{K:W.Frag}(h:H a=some (.lst xs)):rJ K H a xs:= .inl (.inl h)
def Inv.list(I:Inv X pins σ H s)(h:rJ X.K H a xs):∃its:List Value,Vals xs its/\PlainL s.heap a its.toArray/\xs.length<=sizeLine:=by
 rcases h with h|⟨o,its,n,hk,hc,hd,hs,hz,r⟩
 ·obtain ⟨z,its,n,r,e⟩:=h.ok I.hok;exact ⟨its,r,⟨_,n,e,rfl,rfl,rfl⟩,z⟩
 ·refine ⟨its.toList,r,⟨o,n,I.zZ a o hk,hc,hd,by simpa using hs⟩,?_⟩;have e:=r.length;simp only[Array.length_toList] at e;omega
def Inv.tuple(I:Inv X pins σ H s)(h:yx X.K H a xs):∃its:List Value,Vals xs its/\IsTup s.heap a its.toArray/\xs.length<=sizeLine:=by
 rcases h with h|⟨o,its,n,hk,hc,hs,hz,r⟩
 ·obtain ⟨z,its,r,p⟩:=h.ok I.hok;exact ⟨its,r,p,z⟩
 ·refine ⟨its.toList,r,⟨o,I.zZ a o hk,hc,n,by simpa using hs⟩,?_⟩;have e:=r.length;simp only[Array.length_toList] at e;omega
def Inv.Z8(I:Inv X pins σ H s)(h:rJ X.K H a xs)(h':rJ X.K H a ys):xs=ys:=by
 obtain ⟨its,r,⟨o,n,e,_,_,d⟩,_⟩:=I.list h;obtain ⟨its',r',⟨o',n',e',_,_,d'⟩,_⟩:=I.list h';rw[e] at e';cases e';rw[d] at d';injection d' with d1 _;have:its=its':=by simpa using congrArg Array.toList d1
 subst this;exact r.inj r'
def Inv.FQ(I:Inv X pins σ H s)(h:yx X.K H a xs)(h':yx X.K H a ys):xs=ys:=by
 obtain ⟨its,r,⟨o,e,_,n,d⟩,_⟩:=I.tuple h;obtain ⟨its',r',⟨o',e',_,n',d'⟩,_⟩:=I.tuple h';rw[e] at e';cases e';rw[d] at d';injection d' with d1 _;have:its=its':=by simpa using congrArg Array.toList d1
 subst this;exact r.inj r'
end
section
variable{X:Cx}{pins:List (Addr×Obj)}{σ:St}{H:Hp}{s:Shared}{E:Value->Shared->Prop}
end
section
variable{X:Cx}{st:Stmt}{rest:List Stmt}{t u:TS}{e:Expr}{te:TE}{pos:Pos}
def ak4:TS:=λ D σ H=>D.nx σ H
def apm(t u:TS):TS:=λ D σ H=>t {D with nx:=u D} σ H
def aec:TQ X [] ak4:=λ _ _ σ H _ I h=>wpAny_execs_nil ⟨σ,H,I,h⟩
def Za(h1:PS X st t)(h2:TQ X rest u):TQ X (st::rest) (apm t u):=by
 intro pins s σ H D I h;refine wpAny_execs_cons (gC (h1 pins s σ H {D with nx:=u D} I h) λ f s1 q=>?_);cases f with
 |next=>obtain ⟨σ',H',I',q⟩:=q;exact h2 pins s1 σ' H' D I' q
 |ret v=>exact q
 |brk=>exact q
 |cont=>exact q
def aeb(h1:PS X st t):TQ X [st] t:=by
 intro pins s σ H D I h;refine wpAny_execs_cons (gC (h1 pins s σ H D I h) λ f s1 q=>?_);cases f with
 |next=>exact wpAny_execs_nil q
 |ret v=>exact q
 |brk=>exact q
 |cont=>exact q
def Inv.quiet{pins:List (Addr×Obj)}{σ:St}{H:Hp}{s:Shared}(I:Inv X pins σ H s):interactive X.env=false:=by simp[interactive,I.ok.kind]
def ak5(te:TE):TS:=λ D σ H=>te σ H λ _ H1=>D.nx σ H1
def wU(he:PE X e te)(hs:swapsWith e none pos.line X.env=pure false:=by rfl):PS X (.Expr e pos) (ak5 te):=by intro pins s σ H D I h;exact wpAny_Expr_any (gC (he pins s σ H _ I h) λ v s1 ⟨x,H1,I1,r1,q1⟩=>⟨σ,H1,I1,q1⟩) I.quiet hs
def apn(te:TE):TS:=λ D σ H=>te σ H D.rt
def Hy(he:PE X e te):PS X (.Return (some e) pos) (apn te):=by intro pins s σ H D I h;exact wpAny_Return_some (gC (he pins s σ H _ I h) λ v s1 ⟨x,H1,I1,r1,q1⟩=>⟨x,σ,H1,I1,r1,q1⟩)
def aps(c:TT)(t u:TS):TS:=λ D σ H=>c σ H λ b H1=>if b=true then t D σ H1 else u D σ H1
def alz{c:Expr}{a b:List Stmt}{tc:TT}(hc:PT X c tc)(ha:TQ X a t)(hb:TQ X b u):PS X (.If c a b pos) (aps tc t u):=by
 intro pins s σ H D I h;refine wpAny_If (gC (hc pins s σ H _ I h) λ d s1 ⟨H1,I1,q1⟩=>?_);cases d with
 |true=>exact ha pins s1 σ H1 D I1 q1
 |false=>exact hb pins s1 σ H1 D I1 q1
end
abbrev TG:=V->St->Hp->(St->Hp->Prop)->Prop
abbrev TGs:=List V->St->Hp->(St->Hp->Prop)->Prop
def PG(X:Cx)(target:Expr)(t:TG):Prop:=∀(pins:List (Addr×Obj)) (s:Shared) (σ:St) (H:Hp) (v:V) (u:Value) (Q:St->Hp->Prop),Inv X pins σ H s->RelV v u->t v σ H Q->wpAny (model X.prog X.w) X.A (assign target X.env u) (λ _ s'=>∃σ' H',Inv X pins σ' H' s'/\Q σ' H') X.xe s
def PGs(X:Cx)(ts:List Expr)(t:TGs):Prop:=∀(pins:List (Addr×Obj)) (s:Shared) (σ:St) (H:Hp) (vs:List V) (us:List Value) (Q:St->Hp->Prop),Inv X pins σ H s->Vals vs us->t vs σ H Q->wpAny (model X.prog X.w) X.A (assignInOrder ((assignEach ts X.env).map (·.2)) us) (λ _ s'=>∃σ' H',Inv X pins σ' H' s'/\Q σ' H') X.xe s
abbrev ajH:=V->V->V->Hp->(Hp->Prop)->Prop
def anv(X:Cx)(t:ajH):Prop:=∀(pins:List (Addr×Obj)) (s:Shared) (σ:St) (H:Hp) (o i v:V) (ov iv u:Value) (Q:Hp->Prop),Inv X pins σ H s->RelV o ov->RelV i iv->RelV v u->t o i v H Q->wpAny (model X.prog X.w) X.A (setItem ov iv u) (λ _ s'=>∃H',Inv X pins σ H' s'/\Q H') X.xe s
section
variable{X:Cx}{pos:Pos}
def agt(i:Nat):TG:=λ v σ H Q=>Q (σ.set i (some v)) H
def aeo{i:Nat}{x:Str}(hN:X.N.Nodup)(hi:X.N[i]? =some x)(hx:Loc X.env.scope x)(hf:X.fn x=true\/X.env.scope.names.lookup x=some .local:=by first|exact .inl rfl|exact .inr rfl|assumption):PG X (.Name x pos) (agt i):=by intro pins s σ H v u Q I r h;exact wpAny_assign_Name (BQ I hN hi hx r (λ s' I'=>⟨_,H,I',h⟩) hf)
def aqz:TGs:=λ vs σ H Q=>vs=[]/\Q σ H
def amm(t:TG)(u:TGs):TGs:=λ vs σ H Q=>∃v r,vs=v::r/\t v σ H λ σ' H'=>u r σ' H' Q
def aen:PGs X [] aqz:=by intro pins s σ H vs us Q I r h;obtain ⟨e,h⟩:=h;subst e;cases r;exact assignInOrder_nil ⟨σ,H,I,h⟩
def Zn{e:Expr}{es:List Expr}{t:TG}{u:TGs}(h1:PG X e t)(h2:PGs X es u) (hs:(assignEach (e::es) X.env).map (·.2)=assign e X.env::(assignEach es X.env).map (·.2):=by rfl):PGs X (e::es) (amm t u):=by
 intro pins s σ H vs us Q I r h;obtain ⟨v,vr,e1,h⟩:=h;subst e1;cases r with
 |cons r rr=>rw[hs];refine assignInOrder_cons (gC (h1 pins s σ H _ _ _ I r h) λ _ s1 ⟨σ1,H1,I1,q1⟩=>?_);exact h2 pins s1 σ1 H1 _ _ Q I1 rr q1
def aqx(K:W.Frag)(n:Nat)(t:TGs):TG:=λ v σ H Q=>∃a xs,v= .ref a/\yx K H a xs/\xs.length=n/\t xs σ H Q
def ahZ{es:List Expr}{k:Nat}{t:TGs}{n:Nat}(hc:X.calm=true)(h:PGs X es t) (hn:(assignEach es X.env).length=n:=by rfl) (hst:(assignEach es X.env).findIdx? (·.1)=none:=by rfl):PG X (.Tuple es k pos) (aqx X.K n t):=by intro pins s σ H v u Q I r hw;obtain ⟨a,xs,e1,hq,hl,hw⟩:=hw;subst e1;cases r;obtain ⟨its,rv,ht,hz⟩:=I.tuple hq;refine assign_Tuple_tuple (I.ok.hd hc) ht (by simp[hn, <-hl,rv.length]) hst λ h' hx=>?_;have I1:Inv X pins σ H {s with heap:=h'}:=I.kept (t':=s.toks) λ b o e=>hx b o (Nat.ne_of_lt (Heap.lt_size e)) e;exact h pins _ σ H xs _ Q I1 (by simpa using rv) hw
def aqy(to ti:TE)(t:ajH):TG:=λ v σ H Q=>to σ H λ o H1=>ti σ H1 λ i H2=>t o i v H2 λ H3=>Q σ H3
def ah0{o i:Expr}{to ti:TE}{t:ajH}(ho:PE X o to)(hi:PE X i ti)(hs:anv X t)
  (ha:∀v,assign (.Subscript o i pos) X.env v=(do
   let ov <-holding [v] (eval o X.env)
   let iv <-holding [v,ov] (eval i X.env)
   standAt pos
   holding [v,ov,iv] (setItem ov iv v)
   release [v,ov,iv] []):=by intro _;rfl):PG X (.Subscript o i pos) (aqy to ti t):=by
 intro pins s σ H v u Q I r h
 rw[ha]
 refine wpAny_bind (wpAny_holding (gC (ho pins s σ H _ I h) λ ov s1 ⟨x,H1,I1,r1,q1⟩=>?_))
 refine wpAny_bind (wpAny_holding (gC (hi pins s1 σ H1 _ I1 q1) λ iv s2 ⟨y,H2,I2,r2,q2⟩=>?_))
 refine wpAny_bind (wpAny_standAt (wpAny_bind (wpAny_holding (gC (hs pins s2 σ H2 x y v ov iv u _ I2 r1 r2 r q2) λ _ s3 ⟨H3,I3,q3⟩=>?_))))
 exact wpAny_release ⟨σ,H3,I3,q3⟩
def ak6(te:TE)(g:TG):TS:=λ D σ H=>te σ H λ x H1=>g x σ H1 D.nx
def Zc{tg e:Expr}{te:TE}{g:TG}(he:PE X e te)(hg:PG X tg g)(hs:swapsWithSole [tg] e pos.line X.env=pure false:=by rfl)(hw:swappedStores [tg] e X.env=pure none:=by rfl) (h1:(assignEach [tg] X.env).map (·.2)=[assign tg X.env]:=by rfl):PS X (.Assign [tg] e pos) (ak6 te g):=by intro pins s σ H D I h;refine wpAny_Assign_stores (gC (he pins s σ H _ I h) λ v s1 ⟨x,H1,I1,r1,q1⟩=>?_) hs hw;rw[h1];exact gC (hg pins s1 σ H1 x v _ I1 r1 q1) λ _ s2 q=>q
def Zb{i:Nat}{x:Str}{e:Expr}{te:TE}{pos':Pos}(hN:X.N.Nodup)(hi:X.N[i]? =some x)(hx:Loc X.env.scope x)(he:PE X e te)(hs:swapsWith e (some (.Name x pos')) pos.line X.env=pure false:=by rfl)(hf:X.fn x=true\/X.env.scope.names.lookup x=some .local:=by first|exact .inl rfl|exact .inr rfl|assumption):
  PS X (.Assign [.Name x pos'] e pos) (ak6 te (agt i)):=by
 intro pins s σ H D I h;refine wpAny_Assign_Name (gC (he pins s σ H _ I h) λ v s1 ⟨y,H1,I1,r1,q1⟩=>?_) hs;exact BQ I1 hN hi hx r1 (λ s2 I2=>⟨_,H1,I2,q1⟩) hf
end
structure It where
 go:Nat->Hp->Prop
 yld:Nat->Hp->V->Hp->Prop
 stop:Nat->Hp->Prop
def FE(X:Cx)(pins:List (Addr×Obj))(H:Hp)(b:Addr):Prop:=H b=none/\b≠X.env.locals/\b∉X.fs/\(b∈X.ex\/X.s₀.heap.objs.size<=b)/\(∀x c,X.env.cells.lookup x=some c->c≠b)/\∀p∈X.pn++pins,p.1≠b
def Inv.Xp{X:Cx}{pins:List (Addr×Obj)}{σ:St}{H H':Hp}{s:Shared}{b:Addr}(I:Inv X pins σ H s)(hb:s.heap.objs.size<=b)(hn:H' b=none):FE X pins H' b:=by
 refine ⟨hn,Nat.ne_of_gt (Nat.lt_of_lt_of_le I.lt hb),I.apU hb,.inr (Nat.le_trans I.sz hb),λ x c e z=>?_,λ p hp z=>?_⟩
 ·obtain ⟨v,q⟩:=I.cell x c e;exact absurd (Nat.lt_of_lt_of_le q.lt (by rw[z];exact hb)) (Nat.lt_irrefl _)
 ·exact absurd (Nat.lt_of_lt_of_le (Heap.lt_size (I.pin p hp).1) (by rw[z];exact hb)) (Nat.lt_irrefl _)
structure Turn(P:Program)(w:World)(K:W.Frag)(tg:Expr)(J:It)(fp:List Addr)(it:Addr)(tn:Nat->Heap->Prop):Prop where
 mem:it∈fp
 obj:∀i h,tn i h->∀b∈fp,∃o,h.get? b=some o/\∀v,o.data≠.cell v
 keep:∀i h h',tn i h->(∀b∈fp,∀o,h.get? b=some o->h'.get? b=some o)->tn i h'
 item:∀(X:Cx),X.prog=P->X.w=w->X.K=K->X.calm=true->∀(i:Nat) (pins:List (Addr×Obj)) (s:Shared) (σ:St) (H:Hp) (E:Value->Shared->Prop),Inv X pins σ H s->(∀b∈fp,FE X pins H b)->tn i s.heap->J.go i H->
  wpAny (model P w) X.A (pyNext (.ref it)) (λ r s1=>∃u,r=some u/\
   wpAny (model P w) X.A (letOwnedTupleGo tg (.ref it) u) (λ _ s2=>∃x H',Inv X pins σ H' s2/\RelV x u/\J.yld i H x H'/\tn (i+1) s2.heap/\∀b∈fp,H' b=none) E s1) E s
 done:∀(X:Cx),X.prog=P->X.w=w->X.K=K->X.calm=true->∀(i:Nat) (pins:List (Addr×Obj)) (s:Shared) (σ:St) (H:Hp) (E:Value->Shared->Prop),Inv X pins σ H s->(∀b∈fp,FE X pins H b)->tn i s.heap->J.stop i H->
  wpAny (model P w) X.A (pyNext (.ref it)) (λ r s1=>r=none/\Inv X pins σ H s1) E s
 self:∀(A:Around) (i:Nat) (s:Shared) (Q:Value->Shared->Prop) (E:Value->Shared->Prop),tn i s.heap->Q (.ref it) s->wpAny (model P w) A (pyIter (.ref it)) Q E s
abbrev TI:=St->Hp->(It->Hp->Prop)->Prop
def PIE(X:Cx)(pins:List (Addr×Obj))(σ:St)(tg:Expr)(R:It->Hp->Prop)(itv:Value)(s2:Shared):Prop:=∃(it:Addr) (fp:List Addr) (tn:Nat->Heap->Prop) (J:It) (H':Hp),itv= .ref it/\Inv X pins σ H' s2/\Turn X.prog X.w X.K tg J fp it tn/\tn 0 s2.heap/\(∀b∈fp,FE X pins H' b)/\R J H'
def PI(X:Cx)(tg iter:Expr)(wi:TI):Prop:=∀(pins:List (Addr×Obj)) (s:Shared) (σ:St) (H:Hp) (R:It->Hp->Prop),Inv X pins σ H s->wi σ H R->wpAny (model X.prog X.w) X.A (eval iter X.env) (λ v s1=>wpAny (model X.prog X.w) X.A (pyIter v) (PIE X pins σ tg R) X.xe s1) X.xe s
def aaW{M:Model}{A:Around}{E:Value->Shared->Prop}{s:Shared}{tg:Expr}{it:Addr}{u:Value}{o:Obj}{n:String}{vs:Array Value}{Q:Unit->Shared->Prop}(ho:s.heap.get? it=some o)(hc:o.cls= .type n)(hd:o.data= .fields vs) (hn:["enumerate","zip","dict_itemiterator","dict_reverseitemiterator","odict_iterator","itertools.zip_longest","itertools.pairwise"].contains n=false) (hQ:Q () s):wpAny M A (letOwnedTupleGo tg (.ref it) u) Q E s:=by
 unfold letOwnedTupleGo;cases tg<;>first
  |exact wpAny_pure hQ
  |(cases u<;>first
    |exact wpAny_pure hQ
    |(refine wpAny_bind (wpAny_load ho ?_)
      rw[hc,hd]
      show wpAny M A (if (["enumerate","zip","dict_itemiterator","dict_reverseitemiterator","odict_iterator","itertools.zip_longest","itertools.pairwise"].contains n&&vs[0]? ==some (rawInt _))=true then _ else _) Q E s
      rw[if_neg (by intro h;rw[hn,Bool.false_and] at h;cases h)]
      exact wpAny_pure hQ))
def Itl(K:W.Frag)(a:Addr):It:=⟨λ i H=>∃xs x,rJ K H a xs/\xs[i]? =some x,λ i H x H'=>H'=H/\∀xs,rJ K H a xs->xs[i]? =some x,λ i H=>∃xs,rJ K H a xs/\xs.length<=i⟩
def Itt(K:W.Frag)(a:Addr):It:=⟨λ i H=>∃xs x,yx K H a xs/\xs[i]? =some x,λ i H x H'=>H'=H/\∀xs,yx K H a xs->xs[i]? =some x,λ i H=>∃xs,yx K H a xs/\xs.length<=i⟩
def Itr(lo:Int)(n:Nat):It:=⟨λ i _=>i<n,λ i H x H'=>H'=H/\x= .int (lo+i),λ i _=>n<=i⟩
def VD{P:Program}{w:World}{K:W.Frag}{tg:Expr}(a it:Addr):Turn P w K tg (Itl K a) [it] it (λ i h=>h.IsListIter it a i) where
 mem:=by simp
 obj:=λ i h st b hb=>by
  have e:b=it:=by simpa using hb
  subst e
  obtain ⟨o,e,c,d⟩:=st
  exact ⟨o,e,λ v z=>by rw[d] at z;cases z⟩
 keep:=λ i h h' st k=>st.at λ o e=>k it (by simp) o e
 item:=by
  intro X hP hw hK hc i pins s σ H E I hf st hg
  subst hP hw hK
  obtain ⟨xs,x,hq,hx⟩:=hg
  obtain ⟨its,rv,p,hz⟩:=I.list hq
  obtain ⟨u,hu,ru⟩:=rv.get hx
  obtain ⟨f0,f1,f2,f3,f4,f5⟩:=hf it (by simp)
  refine wpAny_pyNext_list_item st p.isList (x:=u) (by simpa using hu) λ h' st' sb=>?_
  have I1:Inv X pins σ H {s with heap:=h'}:=I.turned (t':=s.toks) (λ b o hb e=>(sb.2 b hb).trans e) f0 f1 f3 f4 f5
  obtain ⟨o,e,c,d⟩:=id st'
  exact ⟨u,rfl,aaW (s:={s with heap:=h'}) e c d (by decide) ⟨x,H,I1,ru,⟨rfl,λ ys hy=>by rw[I.Z8 hy hq];exact hx⟩,st',λ b hb=>(hf b hb).1⟩⟩
 done:=by
  intro X hP hw hK hc i pins s σ H E I hf st hg
  subst hP hw hK
  obtain ⟨xs,hq,hx⟩:=hg
  obtain ⟨its,rv,p,hz⟩:=I.list hq
  obtain ⟨f0,f1,f2,f3,f4,f5⟩:=hf it (by simp)
  have hl:=rv.length
  exact wpAny_pyNext_list_end (I.ok.hd hc) st p.isList (by simp;omega) λ h' eb=>⟨rfl,I.turned (t':=s.toks) (λ b o hb e=>eb b o hb e) f0 f1 f3 f4 f5⟩
 self:=λ _ _ _ _ _ st h=>wpAny_pyIter_listiter st h
def L7{P:Program}{w:World}{K:W.Frag}{tg:Expr}(a it:Addr):Turn P w K tg (Itt K a) [it] it (λ i h=>h.IsTupleIter it a i) where
 mem:=by simp
 obj:=λ i h st b hb=>by
  have e:b=it:=by simpa using hb
  subst e
  obtain ⟨o,e,c,d⟩:=st
  exact ⟨o,e,λ v z=>by rw[d] at z;cases z⟩
 keep:=λ i h h' st k=>st.at λ o e=>k it (by simp) o e
 item:=by
  intro X hP hw hK hc i pins s σ H E I hf st hg
  subst hP hw hK
  obtain ⟨xs,x,hq,hx⟩:=hg
  obtain ⟨its,rv,p,hz⟩:=I.tuple hq
  obtain ⟨u,hu,ru⟩:=rv.get hx
  obtain ⟨f0,f1,f2,f3,f4,f5⟩:=hf it (by simp)
  refine wpAny_pyNext_tuple_item st (show s.heap.IsTuple a its.toArray from p) (x:=u) (by simpa using hu) λ h' st' sb=>?_
  have I1:Inv X pins σ H {s with heap:=h'}:=I.turned (t':=s.toks) (λ b o hb e=>(sb.2 b hb).trans e) f0 f1 f3 f4 f5
  obtain ⟨o,e,c,d⟩:=id st'
  exact ⟨u,rfl,aaW (s:={s with heap:=h'}) e c d (by decide) ⟨x,H,I1,ru,⟨rfl,λ ys hy=>by rw[I.FQ hy hq];exact hx⟩,st',λ b hb=>(hf b hb).1⟩⟩
 done:=by
  intro X hP hw hK hc i pins s σ H E I hf st hg
  subst hP hw hK
  obtain ⟨xs,hq,hx⟩:=hg
  obtain ⟨its,rv,p,hz⟩:=I.tuple hq
  obtain ⟨f0,f1,f2,f3,f4,f5⟩:=hf it (by simp)
  have hl:=rv.length
  exact wpAny_pyNext_tuple_end (I.ok.hd hc) st (show s.heap.IsTuple a its.toArray from p) (by simp;omega) λ h' eb=>⟨rfl,I.turned (t':=s.toks) (λ b o hb e=>eb b o hb e) f0 f1 f3 f4 f5⟩
 self:=λ _ _ _ _ _ st h=>wpAny_pyIter_tupleiter st h
def L8{P:Program}{w:World}{K:PySem.W.Frag}{tg:Expr}(it:Addr)(lo:Int)(n:Nat):Turn P w K tg (Itr lo n) [it] it (λ i h=>IsRangeIter h it (lo+(i:Nat)*1) ((n:Int) -(i:Nat)) 1) where
 mem:=by simp
 obj:=λ i h st b hb=>by
  have e:b=it:=by simpa using hb
  subst e
  exact ⟨_,st,λ v z=>by
   have z':Data.fields _=Data.cell v:=z
   cases z'⟩
 keep:=λ i h h' st k=>k it (by simp) _ st
 item:=by
  intro X hP hw hK hc i pins s σ H E I hf st hg
  subst hP hw hK
  obtain ⟨f0,f1,f2,f3,f4,f5⟩:=hf it (by simp)
  have W:=Walks.range (prog:=X.prog) (w:=X.w) (I.ok.hd hc) it lo 1 n
  refine W.item i s _ _ hg st λ v h' tk hv st' kk=>?_
  obtain ⟨t,rfl⟩:=hv
  have I1:Inv X pins σ H {s with heap:=h',toks:=tk}:=I.turned (λ b o hb e=>kk b o (by simpa using hb) e) f0 f1 f3 f4 f5
  refine ⟨_,rfl,aaW (s:={s with heap:=h',toks:=tk}) (n:="range_iterator") st' rfl rfl (by decide) ⟨.int (lo+i),H,I1,⟨t,?_⟩,⟨rfl,rfl⟩,st',λ b hb=>(hf b hb).1⟩⟩
  rw[Int.mul_one]
 done:=by
  intro X hP hw hK hc i pins s σ H E I hf st hg
  subst hP hw hK
  obtain ⟨f0,f1,f2,f3,f4,f5⟩:=hf it (by simp)
  exact wpAny_pyNext_range_end (I.ok.hd hc) st (by have:n<=i:=hg;omega) λ h' eb=>⟨rfl,I.turned (t':=s.toks) (λ b o hb e=>eb b o hb e) f0 f1 f3 f4 f5⟩
 self:=λ _ _ _ _ _ st h=>wpAny_pyIter_rangeiter st h
section
variable{X:Cx}{tg:Expr}
def amc(K:W.Frag)(tl:TE):TI:=λ σ H R=>tl σ H λ x H1=>∃a,x= .ref a/\(∃xs,rJ K H1 a xs)/\R (Itl K a) H1
def aqc(K:W.Frag)(tl:TE):TI:=λ σ H R=>tl σ H λ x H1=>∃a,x= .ref a/\(∃xs,yx K H1 a xs)/\R (Itt K a) H1
def HE{l:Expr}{tl:TE}(hl:PE X l tl):PI X tg l (amc X.K tl):=by
 intro pins s σ H R I h;refine gC (hl pins s σ H _ I h) λ v s1 ⟨x,H1,I1,r1,q1⟩=>?_;obtain ⟨a,e,⟨xs,hq⟩,q⟩:=q1;subst e;cases r1;obtain ⟨its,rv,p,hz⟩:=I1.list hq;refine wpAny_pyIter_list p.isList ?_;refine ⟨s1.heap.objs.size,[s1.heap.objs.size],_,_,H1,rfl,I1.kept (t':=s1.toks) λ b o e=>Heap.get?_push_of_some _ e,VD a _,⟨_,Heap.get?_push_size _ rfl,rfl,rfl⟩,λ b hb=>?_,q⟩;have e:b=s1.heap.objs.size:=by simpa using hb
 subst e;exact I1.Xp (Nat.le_refl _) (I1.hok.fresh (Nat.le_refl _))
def Zm{l:Expr}{tl:TE}(hl:PE X l tl):PI X tg l (aqc X.K tl):=by
 intro pins s σ H R I h;refine gC (hl pins s σ H _ I h) λ v s1 ⟨x,H1,I1,r1,q1⟩=>?_;obtain ⟨a,e,⟨xs,hq⟩,q⟩:=q1;subst e;cases r1;obtain ⟨its,rv,p,hz⟩:=I1.tuple hq;refine wpAny_pyIter_tuple (show s1.heap.IsTuple a its.toArray from p) ?_;refine ⟨s1.heap.objs.size,[s1.heap.objs.size],_,_,H1,rfl,I1.kept (t':=s1.toks) λ b o e=>Heap.get?_push_of_some _ e,L7 a _,⟨_,Heap.get?_push_size _ rfl,rfl,rfl⟩,λ b hb=>?_,q⟩;have e:b=s1.heap.objs.size:=by simpa using hb
 subst e;exact I1.Xp (Nat.le_refl _) (I1.hok.fresh (Nat.le_refl _))
def J4{pins:List (Addr×Obj)}{σ:St}{H:Hp}{s:Shared}{R:It->Hp->Prop}{E:Value->Shared->Prop}{lo hi:Int}{t u v:Tok}{tk:Nat}(I:Inv X pins σ H s)(h1: -(2^62)<=lo)(h2:lo<2^62)(h3: -(2^62)<=hi)(h4:hi<2^62) (q:R (Itr lo (hi- lo).toNat) H):wpAny (model X.prog X.w) X.A (pyIter (.ref s.heap.objs.size)) (PIE X pins σ tg R) E {s with heap:=s.heap.push {cls:= .type "range",data:= .fields #[.int lo t,.int hi u,.int 1 v]},toks:=tk}:=by
 refine wpAny_pyIter_range (IsRange.new ..) (small_one h1 h2 h3 h4) ?_;have I1:Inv X pins σ H {s with heap:=s.heap.push {cls:= .type "range",data:= .fields #[.int lo t,.int hi u,.int 1 v]},toks:=tk}:=I.kept λ b o e=>Heap.get?_push_of_some _ e;refine ⟨(s.heap.push {cls:= .type "range",data:= .fields #[.int lo t,.int hi u,.int 1 v]}).objs.size,[(s.heap.push {cls:= .type "range",data:= .fields #[.int lo t,.int hi u,.int 1 v]}).objs.size],_,_,H,rfl,
  I1.kept (t':=tk) λ b o e=>Heap.get?_push_of_some _ e,L8 _ lo (hi- lo).toNat,?_,λ b hb=>?_,q⟩
 ·have e1:lo+((0:Nat):Int)*1=lo:=by simp
  have e2:(((hi- lo).toNat:Nat):Int) -((0:Nat):Int)=Builtin.Range.rangeSize lo hi 1:=by rw[rangeSize_one];split<;>omega
  show IsRangeIter _ _ (lo+((0:Nat):Int)*1) ((((hi- lo).toNat:Nat):Int) -((0:Nat):Int)) 1;rw[e1,e2];exact Heap.get?_push_size _ rfl
 ·have e:b=(s.heap.push {cls:= .type "range",data:= .fields #[.int lo t,.int hi u,.int 1 v]}).objs.size:=by simpa using hb
  subst e;exact I1.Xp (Nat.le_refl _) (I1.hok.fresh (Nat.le_refl _))
def iK(ta:TA):TI:=λ σ H R=>ta σ H λ vs H1=>∃j:Int,vs=[.int j]/\ -(2^62)<=j/\j<2^62/\R (Itr 0 j.toNat) H1
def xQ(ta:TA):TI:=λ σ H R=>ta σ H λ vs H1=>∃i j:Int,vs=[.int i,.int j]/\(-(2^62)<=i/\i<2^62/\ -(2^62)<=j/\j<2^62)/\R (Itr i (j- i).toNat) H1
def V1{a:Expr}{ta:TA}{p pos:Pos}(hg:Gl X "range")(hm:X.mg "range"=none)(ha:PA X [a] ta)(hs:starEach [a] X.env=[(false,eval a X.env)]:=by rfl):PI X tg (.Call (.Name "range" p) [a] [] pos) (iK ta):=by
 intro pins s σ H R I h;refine Call_ (zm I hg hm boot_range (PyProof.Rows.callWith_type1 (gC (ha pos pins s σ H _ I h) λ us s1 ⟨vs,H1,I1,r1,q1⟩=>?_) hs rfl));obtain ⟨j,e,q1,q2,q⟩:=q1;subst e;cases r1 with
 |cons r rr=>cases rr;obtain ⟨t,rfl⟩:=r;exact call_range_1 (J4 I1 (by omega) (by omega) q1 q2 (by simpa using q))
def V0{a b:Expr}{ta:TA}{p pos:Pos}(hg:Gl X "range")(hm:X.mg "range"=none)(ha:PA X [a,b] ta)(hs:starEach [a,b] X.env=[(false,eval a X.env),(false,eval b X.env)]:=by rfl)(hs2:starEach [b] X.env=[(false,eval b X.env)]:=by rfl):
  PI X tg (.Call (.Name "range" p) [a,b] [] pos) (xQ ta):=by
 intro pins s σ H R I h;refine Call_ (zm I hg hm boot_range (PyProof.Rows.callWith_type1 (gC (ha pos pins s σ H _ I h) λ us s1 ⟨vs,H1,I1,r1,q1⟩=>?_) (by rw[hs,hs2]) (by rw[hs2];rfl)));obtain ⟨i,j,e,⟨q1,q2,q3,q4⟩,q⟩:=q1;subst e;cases r1 with
 |cons r rr=>
  cases rr with
  |cons r' rr=>cases rr;obtain ⟨t,rfl⟩:=r;obtain ⟨t',rfl⟩:=r';exact call_range_2 (J4 I1 q1 q2 q3 q4 q)
def apt(wi:TI)(g:TG)(tb:TS):TS:=λ D σ H=>wi σ H λ J H1=>∃W:Nat->Nat->St->Hp->Prop,(∃m,W 0 m σ H1)/\∀i m σ H,W i m σ H->(J.stop i H/\D.nx σ H)\/(J.go i H/\∃N:St->Hp->Prop,(∀σ' H',N σ' H'->∃m',m'<m/\W (i+1) m' σ' H')/\∀x H',J.yld i H x H'->g x σ H' λ σ2 H2=>tb {D with nx:=N,ct:=N,bk:=D.nx} σ2 H2)
noncomputable def B6(fp:List Addr)(h:Heap):List (Addr×Obj):=fp.filterMap λ b=>(h.get? b).map λ o=>(b,o)
def qC{fp:List Addr}{h:Heap}{b:Addr}{o:Obj}(hb:b∈fp)(e:h.get? b=some o):(b,o)∈B6 fp h:=List.mem_filterMap.mpr ⟨b,hb,by rw[e];rfl⟩
def V6{fp:List Addr}{h:Heap}{p:Addr×Obj}(hp:p∈B6 fp h):p.1∈fp/\h.get? p.1=some p.2:=by
 obtain ⟨b,hb,e⟩:=List.mem_filterMap.mp hp;cases q:h.get? b with
 |none=>rw[q] at e;cases e
 |some o=>rw[q] at e;have e':(b,o)=p:=Option.some.inj e;subst e';exact ⟨hb,q⟩
def Inv.pinned{pins:List (Addr×Obj)}{σ:St}{H:Hp}{s:Shared}{fp:List Addr}(I:Inv X pins σ H s)(hf:∀b∈fp,FE X pins H b)(ho:∀b∈fp,∃o,s.heap.get? b=some o/\∀v,o.data≠.cell v):Inv X (pins++B6 fp s.heap) σ H s:=I.Uv λ p hp=>(List.mem_append.mp hp).elim (λ z=>I.pin p (List.mem_append_right _ z)) λ z=>by obtain ⟨hb,e⟩:=V6 z;obtain ⟨f0,f1,f2,_⟩:=hf p.1 hb;obtain ⟨o,e',d⟩:=ho p.1 hb;rw[e] at e';cases e';exact ⟨e,f0,f1,f2,d⟩
def Inv.rS{pins pl:List (Addr×Obj)}{σ:St}{H:Hp}{s:Shared}(I:Inv X (pins++pl) σ H s):Inv X pins σ H s:=I.Uv λ p hp=>I.pin p (List.mem_append_right _ (List.mem_append_left _ hp))
def ahW{iter:Expr}{body:List Stmt}{wi:TI}{g:TG}{tb:TS}{pos:Pos}(hp:PassesOwn (model X.prog X.w) X.A X.env X.xe)(hc:X.calm=true)(hi:PI X tg iter wi)(hg:PG X tg g)(hb:TQ X body tb) (hs:∀x,foldedSetIterable iter X.env x=pure x:=by intro _;rfl):PS X (.For tg iter body [] pos) (apt wi g tb):=by
 intro pins s σ H D I h;refine wpAny_For (gC (hi pins s σ H _ I h) λ v s1 h1=>gC h1 λ itv s2 h2=>?_) hs;obtain ⟨it,fp,tn,J,H2,e,I2,T,st2,f2,W,⟨m0,w0⟩,turn⟩:=h2;subst e
 -- what stays true of FW aiU objects through FW loop
 have ahF:∀{H':Hp},(∀b∈fp,H' b=none)->∀b∈fp,FE X pins H' b:=λ hn b hb=>⟨hn b hb,(f2 b hb).2⟩;refine codeAny_forLoop_any (λ n s'=>∃i σ' H',Inv X pins σ' H' s'/\tn i s'.heap/\(∀b∈fp,H' b=none)/\W i n σ' H') ?_ m0 ⟨0,σ,H2,I2,st2,λ b hb=>(f2 b hb).1,w0⟩
 rintro n s3 ⟨i,σ3,H3,I3,st3,fr3,w3⟩
 rcases turn i n σ3 H3 w3 with ⟨stop,qn⟩|⟨go,N,hN,step⟩
 ·refine wpAny_passesOwn hp (gC (T.done X rfl rfl rfl hc i pins s3 σ3 H3 X.xe I3 (ahF fr3) st3 stop) λ r s4 ⟨hr,I4⟩=>?_);subst hr;exact wpAny_execs_nil ⟨σ3,H3,I4,qn⟩
 ·refine wpAny_passesOwn hp (gC (T.item X rfl rfl rfl hc i pins s3 σ3 H3 X.xe I3 (ahF fr3) st3 go) λ r s4 ⟨u,hr,h4⟩=>?_);subst hr;refine wpAny_passesOwn hp (gC h4 λ _ s5 ⟨x,H5,I5,r5,y5,st5,fr5⟩=>?_);have I5':=I5.pinned (ahF fr5) (T.obj _ _ st5);refine wpAny_passesOwn hp (gC (hg _ s5 σ3 H5 x u _ I5' r5 (step x H5 y5)) λ _ s6 ⟨σ6,H6,I6,q6⟩=>?_);refine wpAny_passesOwn hp (gC (hb _ s6 σ6 H6 _ I6 q6) λ f s7 q7=>?_);have again:∀{σ7:St} {H7:Hp},Inv X (pins++B6 fp s5.heap) σ7 H7 s7->N σ7 H7->∃m,m<n/\∃i σ' H',Inv X pins σ' H' s7/\tn i s7.heap/\(∀b∈fp,H' b=none)/\W i m σ' H':=λ{σ7 H7} I7 n7=>by obtain ⟨m',hm,w7⟩:=hN σ7 H7 n7;refine ⟨m',hm,i+1,σ7,H7,I7.rS,T.keep _ _ _ st5 λ b hb o e=>(I7.pin (b,o) (List.mem_append_right _ (List.mem_append_right _ (qC hb e)))).1,λ b hb=>?_,w7⟩;obtain ⟨o,e,d⟩:=T.obj _ _ st5 b hb;exact (I7.pin (b,o) (List.mem_append_right _ (List.mem_append_right _ (qC hb e)))).2.1
  cases f with
  |next=>obtain ⟨σ7,H7,I7,n7⟩:=q7;exact again I7 n7
  |cont=>obtain ⟨σ7,H7,I7,n7⟩:=q7;exact again I7 n7
  |brk=>obtain ⟨σ7,H7,I7,q7⟩:=q7;exact ⟨σ7,H7,I7.rS,q7⟩
  |ret v=>obtain ⟨x7,σ7,H7,I7,r7,q7⟩:=q7;exact ⟨x7,σ7,H7,I7.rS,r7,q7⟩
end
abbrev R2:=V->V->Hp->VK->Prop
def qp(X:Cx)(f:Value->Value->Sem Value)(r:R2):Prop:=∀(pins:List (Addr×Obj)) (s:Shared) (σ:St) (H:Hp) (x y:V) (v u:Value) (Q:VK),Inv X pins σ H s->RelV x v->RelV y u->r x y H Q->wpAny (model X.prog X.w) X.A (f v u) (EP X pins σ Q) X.xe s
def UnR(X:Cx)(f:Value->Sem Value)(r:V->Hp->VK->Prop):Prop:=∀(pins:List (Addr×Obj)) (s:Shared) (σ:St) (H:Hp) (x:V) (v:Value) (Q:VK),Inv X pins σ H s->RelV x v->r x H Q->wpAny (model X.prog X.w) X.A (f v) (EP X pins σ Q) X.xe s
def yr(X:Cx)(f:Value)(r:List V->Hp->VK->Prop):Prop:=∀(pins:List (Addr×Obj)) (s:Shared) (σ:St) (H:Hp) (xs:List V) (us:List Value) (Q:VK),Inv X pins σ H s->Vals xs us->r xs H Q->wpAny (model X.prog X.w) X.A (call f us) (EP X pins σ Q) X.xe s
def tOp(r:R2)(ta tb:TE):TE:=λ σ H Q=>ta σ H λ x H1=>tb σ H1 λ y H2=>r x y H2 Q
def tUn(r:V->Hp->VK->Prop)(ta:TE):TE:=λ σ H Q=>ta σ H λ x H1=>r x H1 Q
def rI(C:Int->Int->Prop)(g:Int->Int->V):R2:=λ x y H Q=>∃i j,x= .int i/\y= .int j/\C i j/\Q (g i j) H
def rI0(g:Int->Int->V):R2:=λ x y H Q=>∃i j,x= .int i/\y= .int j/\Q (g i j) H
def rU(g:Int->V):V->Hp->VK->Prop:=λ x H Q=>∃i,x= .int i/\Q (g i) H
section
variable{X:Cx}{a b c:Expr}{ta tb tc:TE}{pos:Pos}
def ajr(ha:PE X a ta)(hb:PE X b tb){pins:List (Addr×Obj)}{s:Shared}{σ:St}{H:Hp}{R:V->V->Hp->Prop}(I:Inv X pins σ H s) (h:ta σ H λ x H1=>tb σ H1 λ y H2=>R x y H2) {Q:Value->Shared->Prop} {f:Value->Value->Sem Value} (hf:∀v u s2 x y H2,Inv X pins σ H2 s2->RelV x v->RelV y u->R x y H2->wpAny (model X.prog X.w) X.A (f v u) Q X.xe s2):
  wpAny (model X.prog X.w) X.A (eval a X.env) (λ v s₁=>wpAny (model X.prog X.w) X.A (eval b X.env) (λ u s₂=>wpAny (model X.prog X.w) X.A (f v u) Q X.xe s₂) X.xe s₁) X.xe s:=by
 refine gC (ha pins s σ H _ I h) λ v s1 ⟨x,H1,I1,r1,q1⟩=>?_;refine gC (hb pins s1 σ H1 _ I1 q1) λ u s2 ⟨y,H2,I2,r2,q2⟩=>?_;exact hf v u s2 x y H2 I2 r1 r2 q2
def age{op:Operator}{r:R2}(ho:qp X (binaryOp op) r)(ha:PE X a ta)(hb:PE X b tb):PE X (.BinOp a op b pos) (tOp r ta tb):=by intro pins s σ H Q I h;exact wpAny_BinOp (ajr ha hb I h λ v u s2 x y H2 I2 rx ry q=>ho pins s2 σ H2 x y v u Q I2 rx ry q)
def alC{op:UnaryOp}{r:V->Hp->VK->Prop}(ho:UnR X (unaryOp op) r)(ha:PE X a ta):PE X (.UnaryOp op a pos) (tUn r ta):=by intro pins s σ H Q I h;exact UnaryOp_ (gC (ha pins s σ H _ I h) λ v s1 ⟨x,H1,I1,r1,q1⟩=>ho pins s1 σ H1 x v Q I1 r1 q1)
def opI{f:Value->Value->Sem Value}{C:Int->Int->Prop}{g:Int->Int->Int} (rule:∀(i j:Int) (t u:Tok) (s:Shared) (Q:Value->Shared->Prop) (E:Value->Shared->Prop),C i j->Q (.int (g i j) s.toks) {s with toks:=s.toks+1}->wpAny (model X.prog X.w) X.A (f (.int i t) (.int j u)) Q E s):
  qp X f (rI C λ i j=> .int (g i j)):=by
 intro pins s σ H x y v u Q I rx ry h;obtain ⟨i,j,rfl,rfl,hc,q⟩:=h;obtain ⟨t,rfl⟩:=rx;obtain ⟨t',rfl⟩:=ry;exact rule i j t t' s _ _ hc ⟨.int (g i j),H,I.tok _,⟨_,rfl⟩,q⟩
def aii{f:Value->Value->Sem Value}{g:Int->Int->Int} (rule:∀(i j:Int) (t u:Tok) (s:Shared) (Q:Value->Shared->Prop) (E:Value->Shared->Prop),Q (.int (g i j) s.toks) {s with toks:=s.toks+1}->wpAny (model X.prog X.w) X.A (f (.int i t) (.int j u)) Q E s):
  qp X f (rI0 λ i j=> .int (g i j)):=by
 intro pins s σ H x y v u Q I rx ry h;obtain ⟨i,j,rfl,rfl,q⟩:=h;obtain ⟨t,rfl⟩:=rx;obtain ⟨t',rfl⟩:=ry;exact rule i j t t' s _ _ ⟨.int (g i j),H,I.tok _,⟨_,rfl⟩,q⟩
def aij{f:Value->Value->Sem Value}{g:Int->Int->Bool} (rule:∀(i j:Int) (t u:Tok) (s:Shared) (Q:Value->Shared->Prop) (E:Value->Shared->Prop),Q (.bool (g i j)) s->wpAny (model X.prog X.w) X.A (f (.int i t) (.int j u)) Q E s):
  qp X f (rI0 λ i j=> .bl (g i j)):=by
 intro pins s σ H x y v u Q I rx ry h;obtain ⟨i,j,rfl,rfl,q⟩:=h;obtain ⟨t,rfl⟩:=rx;obtain ⟨t',rfl⟩:=ry;exact rule i j t t' s _ _ ⟨.bl (g i j),H,I,rfl,q⟩
noncomputable def aq9(i j:Int):Prop:=0<=j/\j<=1000000/\i.natAbs<2^64
def aih:qp X (binaryOp .Add) (rI0 λ i j=> .int (i+j)):=aii λ _ _ _ _ _ _ _ q=>add_int q
def aic:qp X (binaryOp .Sub) (rI0 λ i j=> .int (i- j)):=aii λ _ _ _ _ _ _ _ q=>sub_int q
def aeu:qp X (binaryOp .Mod) (rI (λ _ j=>j≠0) λ i j=> .int (i.fmod j)):=opI λ _ _ _ _ _ _ _ hc q=>mod_int' hc q
def aid:qp X (binaryOp .Pow) (rI aq9 λ i j=> .int (i^j.toNat)):=opI λ _ _ _ _ _ _ _ hc q=>pow_int_small hc.1 hc.2.1 hc.2.2 q
def aib:qp X (binaryOp .BitXor) (rI0 λ i j=> .int (Builtin.bitXor i j)):=aii λ _ _ _ _ _ _ _ q=>xor_int q
def unI{f:Value->Sem Value}{g:Int->Int} (rule:∀(i:Int) (t:Tok) (s:Shared) (Q:Value->Shared->Prop) (E:Value->Shared->Prop),Q (.int (g i) s.toks) {s with toks:=s.toks+1}->wpAny (model X.prog X.w) X.A (f (.int i t)) Q E s):
  UnR X f (rU λ i=> .int (g i)):=by
 intro pins s σ H x v Q I rx h;obtain ⟨i,rfl,q⟩:=h;obtain ⟨t,rfl⟩:=rx;exact rule i t s _ _ ⟨.int (g i),H,I.tok _,⟨_,rfl⟩,q⟩
def ahv:UnR X (unaryOp .USub) (rU λ i=> .int (-i)):=unI λ _ _ _ _ _ q=>neg_int q
def Kc:qp X (compareOp .Lt) (rI0 λ i j=> .bl (decide (i<j))):=aij λ _ _ _ _ _ _ _ q=>lt_int q
def zR:qp X (compareOp .LtE) (rI0 λ i j=> .bl (decide (i<=j))):=aij λ _ _ _ _ _ _ _ q=>le_int q
def alJ:qp X (compareOp .Gt) (rI0 λ i j=> .bl (decide (j<i))):=aij λ _ _ _ _ _ _ _ q=>gt_int q
def qp.or{f:Value->Value->Sem Value}{r r':R2}(h:qp X f r)(h':qp X f r'):qp X f (λ x y H Q=>r x y H Q\/r' x y H Q):=by
 intro pins s σ H x y v u Q I rx ry q;rcases q with q|q
 ·exact h pins s σ H x y v u Q I rx ry q
 ·exact h' pins s σ H x y v u Q I rx ry q
def zd(b:Expr){op:CmpOp}(h:op≠.In:=by decide)(h2:op≠.NotIn:=by decide):behindInMarks op b=false:=by
 have e1:(op==CmpOp.In)=false:=by cases op<;>first|rfl|exact absurd rfl h
 have e2:(op==CmpOp.NotIn)=false:=by cases op<;>first|rfl|exact absurd rfl h2
 cases b<;>simp[behindInMarks,e1,e2]
def aeq{op:CmpOp}{r:R2}(ho:qp X (compareOp op) r)(ha:PE X a ta)(hb:PE X b tb)(hm:behindInMarks op b=false):PE X (.Compare a [op] [b] pos) (tOp r ta tb):=by intro pins s σ H Q I h;exact wpAny_Compare1 (ajr ha hb I h λ v u s2 x y H2 I2 rx ry q=>ho pins s2 σ H2 x y v u Q I2 rx ry q) hm
def YS(t:TE):TT:=λ σ H Q=>t σ H λ x H'=>∃k,x= .bl k/\Q k H'
def aea{op:CmpOp}{r:R2}(ho:qp X (compareOp op) r)(ha:PE X a ta)(hb:PE X b tb)(hm:behindInMarks op b=false):PT X (.Compare a [op] [b] pos) (YS (tOp r ta tb)):=by intro pins s σ H Q I h;refine wpAny_isTrue_Compare1 (gC (ha pins s σ H _ I h) λ v s1 ⟨x,H1,I1,r1,q1⟩=>gC (hb pins s1 σ H1 _ I1 q1) λ u s2 ⟨y,H2,I2,r2,q2⟩=>gC (ho pins s2 σ H2 x y v u _ I2 r1 r2 q2) λ c s3 ⟨z,H3,I3,r3,k,e,q3⟩=>?_) hm;subst e;cases r3;exact wpAny_truthy_bool ⟨H3,I3,q3⟩
def Mh(r r':R2)(ta tb tc:TE):TE:=λ σ H Q=>ta σ H λ x H1=>tb σ H1 λ y H2=>r x y H2 λ z H3=>∃k,z= .bl k/\(if k=true then tc σ H3 λ w' H4=>r' y w' H4 Q else Q (.bl false) H3)
def Zw{op op':CmpOp}{r r':R2}(ho:qp X (compareOp op) r)(ho':qp X (compareOp op') r')(ha:PE X a ta)(hb:PE X b tb)(hc:PE X c tc) (hm:lastMarks [op,op'] [b,c]=false:=by with_unfolding_all rfl):PE X (.Compare a [op,op'] [b,c] pos) (Mh r r' ta tb tc):=by
 intro pins s σ H Q I h;refine Compare_chain (gC (ha pins s σ H _ I h) λ v s1 ⟨x,H1,I1,r1,q1⟩=>chain_link (gC (hb pins s1 σ H1 _ I1 q1) λ u s2 ⟨y,H2,I2,r2,q2⟩=>gC (ho pins s2 σ H2 x y v u _ I2 r1 r2 q2) λ d s3 ⟨z,H3,I3,r3,k,e,q3⟩=>?_)) hm;subst e;cases r3;refine wpAny_truthy_bool ?_;cases k with
 |false=>exact ite_ff ⟨.bl false,H3,I3,rfl,q3⟩
 |true=>exact ite_tt (chain_last (gC (hc pins s3 σ H3 _ I3 q3) λ w' s4 ⟨z',H4,I4,r4,q4⟩=>ho' pins s4 σ H4 y z' u w' Q I4 r2 r4 q4))
def Y9{op op':CmpOp}{r r':R2}(ho:qp X (compareOp op) r)(ho':qp X (compareOp op') r')(ha:PE X a ta)(hb:PE X b tb)(hc:PE X c tc) (hm:lastMarks [op,op'] [b,c]=false:=by with_unfolding_all rfl):PT X (.Compare a [op,op'] [b,c] pos) (YS (Mh r r' ta tb tc)):=by
 intro pins s σ H Q I h;refine isTrue_chain (gC (ha pins s σ H _ I h) λ v s1 ⟨x,H1,I1,r1,q1⟩=>test_link (gC (hb pins s1 σ H1 _ I1 q1) λ u s2 ⟨y,H2,I2,r2,q2⟩=>gC (ho pins s2 σ H2 x y v u _ I2 r1 r2 q2) λ d s3 ⟨z,H3,I3,r3,k,e,q3⟩=>?_)) hm;subst e;cases r3;refine wpAny_truthy_bool ?_;cases k with
 |false=>obtain ⟨k',e',q'⟩:=q3;cases e';exact ite_ff ⟨H3,I3,q'⟩
 |true=>refine ite_tt (test_last (gC (hc pins s3 σ H3 _ I3 q3) λ w' s4 ⟨z',H4,I4,r4,q4⟩=>gC (ho' pins s4 σ H4 y z' u w' _ I4 r2 r4 q4) λ d' s5 ⟨z2,H5,I5,r5,k2,e2,q5⟩=>?_));subst e2;cases r5;exact wpAny_truthy_bool ⟨H5,I5,q5⟩
def CN:(sizeLine:Nat)<2^63:=by rw[sizeLine_eq];decide
def MN:qp X (binaryOp .Add) (λ x y H Q=>∃i j,x= .str i/\y= .str j/\i.length+j.length<=sizeLine/\Q (.str (i++j)) H):=by intro pins s σ H x y v u Q I rx ry h;obtain ⟨i,j,rfl,rfl,hz,q⟩:=h;obtain ⟨t,rfl⟩:=rx;obtain ⟨t',rfl⟩:=ry;exact add_str (λ t' tk=>⟨.str (i++j),H,I.tok _,⟨_,rfl⟩,q⟩) hz
def vals1{x:V}{us:List Value}(r:Vals [x] us):∃u,us=[u]/\RelV x u:=by
 cases r with
 |cons r1 r2=>cases r2;exact ⟨_,rfl,r1⟩
def aq3(K:W.Frag)(x:V)(H:Hp)(n:Nat):Prop:=match x with
 | .str y=>y.length<=sizeLine/\n=y.length
 | .byt y=>y.size<=sizeLine/\n=y.size
 | .ref p=>(∃xs,rJ K H p xs/\n=xs.length)\/∃xs,yx K H p xs/\n=xs.length
 |_=>False
def abA:yr X (.builtin "len") (λ xs H Q=>∃x n,xs=[x]/\aq3 X.K x H n/\Q (.int n) H):=by
 intro pins s σ H xs us Q I r h;obtain ⟨x,n,rfl,e,q⟩:=h;obtain ⟨u,rfl,rx⟩:=vals1 r;have hl:=CN;have hs:sizeLine=16777216:=sizeLine_eq;cases x with
 |str y=>obtain ⟨t,rfl⟩:=rx;obtain ⟨hy,e'⟩:y.length<=sizeLine/\n=y.length:=e;subst e';exact len_str (by omega) ⟨.int _,H,I.tok _,⟨_,rfl⟩,q⟩
 |byt y=>obtain ⟨t,rfl⟩:=rx;obtain ⟨hy,e'⟩:y.size<=sizeLine/\n=y.size:=e;subst e';exact W.len_bytes (by omega) ⟨.int _,H,I.tok _,⟨_,rfl⟩,q⟩
 |ref p=>
  cases rx;have e':(∃xs,rJ X.K H p xs/\n=xs.length)\/∃xs,yx X.K H p xs/\n=xs.length:=e;rcases e' with ⟨xs,hx,e'⟩|⟨xs,hx,e'⟩
  ·subst e';obtain ⟨its,r',pl,hz⟩:=I.list hx;have hlen:=r'.length;exact Calls.call_len_list pl.isList (by simp only[List.size_toArray];omega) ⟨.int xs.length,H,I.tok _,⟨_,by simp only[List.size_toArray];rw[hlen]⟩,q⟩
  ·subst e';obtain ⟨its,r',pl,hz⟩:=I.tuple hx;have hlen:=r'.length;exact len_tuple pl (by simp only[List.size_toArray];omega) ⟨.int xs.length,H,I.tok _,⟨_,by simp only[List.size_toArray];rw[hlen]⟩,q⟩
 |_=>exact (show False from e).elim
end
structure TR(h:Heap)(x dx C:Addr)(mA:Str->Option Value):Prop where
 obj:h.get? x=some (W.instObj C dx)
 ns:h.Ns1 dx mA
 ne:dx≠x
def Wz{h:Heap}{dx:Addr}{mA:Str->Option Value}(n:h.Ns1 dx mA):∃od,h.get? dx=some od/\∀name,W.lookIn name od=some (mA name):=by
 obtain ⟨o,es,ep,ho,hd,hk,_,hm⟩:=n;refine ⟨o,ho,λ name=>?_⟩;have e:=hm name;unfold nsFind findBy at e;rw[<-Array.find?_toList] at e;unfold W.lookIn;rw[hd];dsimp only;split
 ·rename_i y q;rw[q] at e;exact congrArg some e
 ·rename_i q;rw[q] at e;have a:es.toList.any (·.refKey)=false:=by rw[List.any_eq_false];intro y hy;obtain ⟨z,t,hkey⟩:=hk y (Array.mem_toList_iff.mp hy);simp[DictEntry.refKey,hkey]
  have a':¬es.toList.any (·.refKey)=true:=by rw[a];exact Bool.false_ne_true
  rw[if_neg a'];exact congrArg some e
def TR.look{h:Heap}{x dx C:Addr}{mA:Str->Option Value}(I:TR h x dx C mA):∃od,W.InstAt h x (W.instObj C dx) C (some od)/\∀name,W.lookIn name od=some (mA name):=let ⟨od,ho,hl⟩:=Wz I.ns
 ⟨od,⟨I.obj,rfl,rfl,ho⟩,hl⟩
section
variable{prog:Program}{w:World}{A:Around}{E:Value->Shared->Prop}{s:Shared}{K:W.Frag}{x dx C f:Addr}{mA:Str->Option Value}{name:Str}{v:Value}
def get_map{expr:Bool}{Q:Value->Shared->Prop}(X:K.In s.heap)(I:TR s.heap x dx C mA)(hg:W.plainGet K C name=true)(hh:W.hasDictIn K C=true) (ha:W.findIn K (.ref C) name=some none) (hv:mA name=some v) (hv':W.handedIn v=true) (h:Q v {s with toks:=s.toks+1}):
  wpAny (model prog w) A (getAttr (.ref x) name expr) Q E s:=by
 obtain ⟨od,J,hl⟩:=I.look;exact W.get_value X J (W.plainGet_of hg).1 (W.findObj_own hh ha rfl (by rw[hl,hv])) hv' h
def aaX{pl:Sem Bool}{Q:Value×List Value->Shared->Prop}(X:K.In s.heap)(I:TR s.heap x dx C mA)(hg:W.plainGet K C name=true) (hf:W.findIn K (.ref C) name=some (some (.ref f))) (ht:W.isFn K (.ref f)=true) (hv:mA name=none) (h:Q (.ref f,[.ref x]) s):
  wpAny (model prog w) A (getMethod (.ref x) name pl) Q E s:=by
 obtain ⟨od,J,hl⟩:=I.look;exact W.method_fn X J (W.plainGet_of hg).1 (W.plainGet_of hg).2 hf (beq_iff_eq.mp ht) (by show (W.lookIn name od).map (·.isSome)=some false;rw[hl,hv];rfl) h
def adY{ns:List Str}{Q:Unit->Shared->Prop}(X:K.In s.heap)(I:TR s.heap x dx C mA) (hs:W.findIn K (.ref C) "__setattr__"=some (some (.builtin "object.__setattr__"))) (hp:W.plainOver K C=true) (ht:W.takerIn K C name=some none) (hh:W.hasDictIn K C=true) (hw:PySem.Within mA ns) (hsz:ns.length<=sizeLine) (h:∀h',TR h' x dx C (λ y=>if y=name then some v else mA y)->Heap.SameBut dx s.heap h'->Q () {s with heap:=h',toks:=s.toks+2}):
  wpAny (model prog w) A (setAttr (.ref x) name v) Q E s:=by
 obtain ⟨od,J,hl⟩:=I.look;refine W.set_plain X J hs (W.osa_open (s:={s with toks:=s.toks+1}) (r:=none) X J hp ht λ b=>?_);obtain ⟨cd,hc,hd'⟩:=W.any_some hh;have hx:s.heap.get? x=some ⟨.ref C,some dx,.plain, #[]⟩:=I.obj;refine wpAny_bind (wpAny_pure (wpAny_bind (wpAny_bind (wpAny_loadPart hx (wpAny_bind (W.Looks.here (s:={s with toks:=s.toks+1}) (W.looks_clsIn X hc) ?_))))));rw[hd'];refine wpAny_pure (a:=some dx) (wpAny_bind (wpAny_pure (wpAny_bind ?_)));refine wpAny_nsSet1 (s:={s with toks:=s.toks+1}) I.ns λ h' hn2 hs2=>?_;obtain ⟨oD,esD,epD,hoD,hdD,hcD⟩:=hn2.count (PySem.Within.cons name v hw);refine wpAny_bind (wpAny_lookBehind hoD (by rw[hdD];exact pastItsLine_dict (Nat.le_trans hcD (by rw[List.length_cons];omega))) ?_);exact wpAny_pure (h _ ⟨(hs2.2 _ (Ne.symm I.ne)).trans I.obj,hn2,I.ne⟩ hs2)
def Z3{R:Result->Shared->Prop}{vs:List Value}{kw:List (Str×Value)}(X:K.In s.heap)(hm:W.makesIn K C=true) (hi:W.findIn K (.ref C) "__init__"=some (some (.ref f))) (hf:W.typeIn K (.ref f)=some (.type "function")) (h:codeAny (model prog w) (A.under (.builtin "type.__call__" ⟨.ref C::vs,kw⟩)) (.call (.ref f) ⟨.ref (s.heap.objs.size+1)::vs,kw⟩) (W.InitBack (s.heap.objs.size+1) R) {s with heap:=(s.heap.push W.emptyDict).push (W.instObj C s.heap.objs.size)}):
  codeAny (model prog w) A (.call (.ref C) ⟨vs,kw⟩) R s:=by
 obtain ⟨hh,g,d,t,os⟩:=s;exact W.make_core (W.makes_of X hm) (W.looks_findIn X hi) (λ self=>W.bind_fn X self hf) (.inl rfl) h
end
def qx(f:Str)(v:V):List (Str×V)->List (Str×V)
 |[]=>[(f,v)]
 |(g,x)::r=>if g=f then (g,v)::r else (g,x)::qx f v r
def zW(f g:Str)(v:V):∀fs:List (Str×V),(qx f v fs).lookup g=if g=f then some v else fs.lookup g
 |[]=>by
  show List.lookup g [(f,v)]=_;by_cases h:g=f
  ·have hb:(g==f)=true:=beq_iff_eq.mpr h;simp only[List.lookup,hb,if_pos h]
  ·have hb:(g==f)=false:=beq_eq_false_iff_ne.mpr h;simp only[List.lookup,hb,if_neg h]
 |(k,x)::r=>by
  have ih:=zW f g v r;rw[show qx f v ((k,x)::r)=(if k=f then (k,v)::r else (k,x)::qx f v r) from rfl];by_cases hk:k=f
  ·rw[if_pos hk];by_cases h:g=k
   ·have hb:(g==k)=true:=beq_iff_eq.mpr h;simp only[List.lookup,hb,if_pos (h.trans hk)]
   ·have hb:(g==k)=false:=beq_eq_false_iff_ne.mpr h;simp only[List.lookup,hb,if_neg (λ e:g=f=>h (e.trans hk.symm))]
  ·rw[if_neg hk];by_cases h:g=k
   ·have hb:(g==k)=true:=beq_iff_eq.mpr h;simp only[List.lookup,hb,if_neg (λ e:g=f=>hk (h.symm.trans e))]
   ·have hb:(g==k)=false:=beq_eq_false_iff_ne.mpr h;simp only[List.lookup,hb];exact ih
def zu(f:Str)(v:V):∀fs:List (Str×V),f∈(qx f v fs).map (·.1)/\∀g,g∈fs.map (·.1)->g∈(qx f v fs).map (·.1)
 |[]=>⟨by simp[qx],λ g h=>by simp at h⟩
 |(k,x)::r=>by
  obtain ⟨i1,i2⟩:=zu f v r;rw[show qx f v ((k,x)::r)=(if k=f then (k,v)::r else (k,x)::qx f v r) from rfl];by_cases hk:k=f
  ·rw[if_pos hk];subst hk;exact ⟨by simp,λ g h=>by simpa using h⟩
  ·rw[if_neg hk];refine ⟨?_,λ g h=>?_⟩
   ·rw[List.map_cons];exact List.mem_cons_of_mem _ i1
   ·rw[List.map_cons] at h ⊢;rcases List.mem_cons.mp h with e|e
    ·exact List.mem_cons.mpr (.inl e)
    ·exact List.mem_cons_of_mem _ (i2 g e)
def zY(f:Str)(v:V):∀fs:List (Str×V),(qx f v fs).length<=fs.length+1
 |[]=>by simp[qx]
 |(k,x)::r=>by
  have ih:=zY f v r;rw[show qx f v ((k,x)::r)=(if k=f then (k,v)::r else (k,x)::qx f v r) from rfl];by_cases hk:k=f
  ·rw[if_pos hk,List.length_cons,List.length_cons];omega
  ·rw[if_neg hk,List.length_cons,List.length_cons];omega
def uD.some_of{v:V}{o:Option Value}(r:uD (some v) o):∃u,o=some u/\RelV v u:=by
 cases o with
 |none=>exact (show False from r).elim
 |some u=>exact ⟨u,rfl,r⟩
def uD.none_of{o:Option Value}(r:uD none o):o=none:=by
 cases o with
 |none=>rfl
 |some u=>exact (show False from r).elim
def Xj{v:V}{u:Value}(r:RelV v u):W.handedIn u=true:=by
 cases v with
 |fE=>cases (show u=Value.none from r);rfl
 |bl b=>cases (show u=Value.bool b from r);rfl
 |int i=>obtain ⟨t,e⟩:=(show ∃t,u=Value.int i t from r);cases e;rfl
 |str x=>obtain ⟨t,e⟩:=(show ∃t,u=Value.str x t from r);cases e;rfl
 |byt b=>obtain ⟨t,e⟩:=(show ∃t,u=Value.bytes b t from r);cases e;rfl
 |flt b=>obtain ⟨t,e⟩:=(show ∃t,u=Value.float b t from r);cases e;rfl
 |ref a=>cases (show u=Value.ref a from r);rfl
 |ty n=>cases (show u=Value.type n from r);rfl
section
variable{P:Program}{w:World}{H H':Hp}{h h':Heap}{a C dx:Addr}{fs fs':List (Str×V)}
def Bw(hok:uE P w H h)(e:H a=some (.ins C dx fs)):∃mA,TR h a dx C mA/\(∀f,uD (fs.lookup f) (mA f))/\PySem.Within mA (fs.map (·.1))/\fs.length<=1000/\H dx=some (.own a):=by obtain ⟨d,z,ne,ob,mA,n,r,q⟩:=(show dM P w H h a (.ins C dx fs) from hok a _ e);exact ⟨mA,⟨ob,n,ne⟩,r,q,z,d⟩
end
structure FF(K:W.Frag)(C:Addr):Prop where
 pg:W.plainGet K C Str.empty=true
 hd:W.hasDictIn K C=true
 po:W.plainOver K C=true
 sa:W.findIn K (.ref C) "__setattr__"=some (some (.builtin "object.__setattr__"))
def FF.get{K:W.Frag}{C:Addr}(c:FF K C)(f:Str):W.plainGet K C f=true:=c.pg
noncomputable def tG(K:W.Frag)(C:Addr)(f:Str):Prop:=W.findIn K (.ref C) f=some none
def tG.akZ{K:W.Frag}{C:Addr}{f:Str}(n:tG K C f):W.takerIn K C f=some none:=by unfold W.takerIn;rw[show W.findIn K (.ref C) f=some none from n];rfl
structure Con(K:W.Frag)(C:Addr)(f:Str)(v:V)(u:Value):Prop where
 at_:W.findIn K (.ref C) f=some (some u)
 rel:RelV v u
 get:W.specialIn K u "__get__"=some none
 cp:W.copiedNames.contains f=false
structure Meth(K:W.Frag)(C:Addr)(m:Str)(f:Addr):Prop where
 at_:W.findIn K (.ref C) m=some (some (.ref f))
 fn:W.isFn K (.ref f)=true
 kp:W.keepIn K (.ref f)=true
section
variable{X:Cx}{pins:List (Addr×Obj)}{σ:St}{H:Hp}{s:Shared}{a C dx:Addr}{fs:List (Str×V)}{f:Str}{v:V}{A:Around}{E:Value->Shared->Prop}
def N2{b:Bool}{Q:Value->Shared->Prop}(I:Inv X pins σ H s)(e:H a=some (.ins C dx fs))(c:FF X.K C)(n:tG X.K C f)(l:fs.lookup f=some v) (h:∀u s',Inv X pins σ H s'->RelV v u->Q u s'):wpAny (model X.prog X.w) A (getAttr (.ref a) f b) Q E s:=by obtain ⟨mA,O,r,_,_,_⟩:=Bw I.hok e;obtain ⟨u,hu,ru⟩:=uD.some_of (v:=v) (o:=mA f) (by rw[<-l];exact r f);exact get_map I.zZ O (c.get f) c.hd n hu (Xj ru) (h u _ (I.tok _) ru)
def C7{m:Str}{g:Addr}{pl:Sem Bool}{Q:Value×List Value->Shared->Prop}(I:Inv X pins σ H s)(e:H a=some (.ins C dx fs))(c:FF X.K C)(k:Meth X.K C m g)(l:fs.lookup m=none) (h:Q (.ref g,[.ref a]) s):wpAny (model X.prog X.w) A (getMethod (.ref a) m pl) Q E s:=by obtain ⟨mA,O,r,_,_,_⟩:=Bw I.hok e;have hn:mA m=none:=uD.none_of (by rw[<-l];exact r m);exact aaX I.zZ O (c.get m) k.at_ k.fn hn h
def My{y:V}{u:Value}{Q:Unit->Shared->Prop}(I:Inv X pins σ H s)(e:H a=some (.ins C dx fs))(c:FF X.K C)(n:tG X.K C f)(hl:fs.length<1000)(ry:RelV y u) (h:∀s',Inv X pins σ (upd H a (.ins C dx (qx f y fs))) s'->Q () s'):wpAny (model X.prog X.w) A (setAttr (.ref a) f u) Q E s:=by
 obtain ⟨mA,O,r,wi,_,ho⟩:=Bw I.hok e;have hz:(fs.map (·.1)).length<=sizeLine:=by rw[List.length_map,sizeLine_eq];omega
 refine adY I.zZ O c.sa c.po n.akZ c.hd wi hz λ h' O' sb=>h _ ?_;have hd:∃o,h'.get? dx=some o:=let ⟨o,_,_,e',_⟩:=O'.ns;⟨o,e'⟩
 refine I.write (x:=a) (e:=dx) (by rw[e];exact True.intro) (.inr ho) (λ b q hb z=>(sb.2 b hb).trans z) hd ?_;refine ⟨by rw[aE O.ne];exact ho,?_,O.ne,O'.obj,_,O'.ns,λ g=>?_,λ g hg=>?_⟩
 ·have:=zY f y fs;omega
 ·show uD ((qx f y fs).lookup g) (if g=f then some u else mA g);rw[zW];by_cases q:g=f
  ·rw[if_pos q,if_pos q];exact ry
  ·rw[if_neg q,if_neg q];exact r g
 ·by_cases q:g=f
  ·rw[q];exact (zu f y fs).1
  ·refine (zu f y fs).2 g (wi g λ z=>hg ?_);show (if g=f then some u else mA g)=none;rw[if_neg q];exact z
def Inv.made(I:Inv X pins σ H s):Inv X pins σ (upd (upd H s.heap.objs.size (.own (s.heap.objs.size+1))) (s.heap.objs.size+1) (.ins C s.heap.objs.size [])) {s with heap:=(s.heap.push W.emptyDict).push (W.instObj C s.heap.objs.size)}:=by
 have e1:(s.heap.push W.emptyDict).get? s.heap.objs.size=some W.emptyDict:=Heap.get?_push_size s.heap rfl;have e2:((s.heap.push W.emptyDict).push (W.instObj C s.heap.objs.size)).get? (s.heap.objs.size+1)=some (W.instObj C s.heap.objs.size):=by have:=Heap.get?_push_size (s.heap.push W.emptyDict) (o:=W.instObj C s.heap.objs.size) rfl;rwa [Heap.size_push] at this
 have e3:(s.heap.push W.emptyDict).Ns s.heap.objs.size (λ _=>none):=⟨W.emptyDict, #[],_,e1,rfl,(λ e he=>absurd he (by simp)),λ _=>rfl⟩;have I1:=I.laid (a:=s.heap.objs.size) (o:= .own (s.heap.objs.size+1)) (h':=s.heap.push W.emptyDict) (t':=s.toks) (λ b u q=>Heap.get?_push_of_some _ q) (Nat.le_refl _) ⟨_,e1⟩;refine I1.laid (a:=s.heap.objs.size+1) (o:= .ins C s.heap.objs.size []) (t':=s.toks) (λ b u q=>Heap.get?_push_of_some _ q) (Nat.le_of_eq (Heap.size_push _ _)) ?_;have ne:s.heap.objs.size≠s.heap.objs.size+1:=Nat.ne_of_lt (Nat.lt_succ_self _);refine ⟨by rw[aE ne,aG],Nat.zero_le _,ne,e2,λ _=>none,(Heap.Ns1.of_empty e3).at λ o q=>Heap.get?_push_of_some _ q,λ _=>True.intro,λ y hy=>absurd rfl hy⟩
def afL{prog:Program}{w:World}{env:Env}{e:Expr}{f:Str}{pos:Pos}{s:Shared}{Q:Value->Shared->Prop}(hb:attributeBase e f env (eval e env)=eval e env) (h:wpAny (model prog w) A (eval e env) (λ o s₁=>wpAny (model prog w) A (getAttr o f true) Q E s₁) E s):wpAny (model prog w) A (eval (.Attribute e f pos) env) Q E s:=Attribute_any_ h (by rw[arm_eval_Attribute,hb])
end
def apu(K:W.Frag)(ta:TE)(f:Str):TE:=λ σ H Q=>ta σ H λ x H1=>∃a C dx fs v,x= .ref a/\H1 a=some (.ins C dx fs)/\FF K C/\tG K C f/\fs.lookup f=some v/\Q v H1
def apz(K:W.Frag)(ta tv:TE)(f:Str):TS:=λ D σ H=>tv σ H λ y H1=>ta σ H1 λ x H2=>∃a C dx fs,x= .ref a/\H2 a=some (.ins C dx fs)/\FF K C/\tG K C f/\fs.length<1000/\D.nx σ (upd H2 a (.ins C dx (qx f y fs)))
section
variable{X:Cx}{o e value:Expr}{f:Str}{pos pos' tpos:Pos}{ta tv:TE}
def ah7(he:PE X e ta)(hb:attributeBase e f X.env (eval e X.env)=eval e X.env):PE X (.Attribute e f pos) (apu X.K ta f):=by intro pins s σ H Q I h;refine afL hb (gC (he pins s σ H _ I h) λ u s1 ⟨x,H1,I1,rx,a,C,dx,fs,v,ex,ea,c,n,l,q⟩=>?_);subst ex;obtain rfl:u=Value.ref a:=rx;exact N2 I1 ea c n l λ u' s2 I2 ru=>⟨v,H1,I2,ru,q⟩
def ahX(ha:PE X o ta)(hv:PE X value tv)(hs:swapsWith value (some (.Attribute o f pos')) pos.line X.env=pure false):PS X (.Assign [.Attribute o f pos'] value pos) (apz X.K ta tv f):=by intro pins s σ H D I h;refine plainObj_wpAny_Assign_Attribute (gC (hv pins s σ H _ I h) λ u s1 ⟨y,H1,I1,ry,q⟩=>gC (ha pins s1 σ H1 _ I1 q) λ ov s2 ⟨x,H2,I2,rx,a,C,dx,fs,ex,ea,c,n,l,q2⟩=>?_) hs;subst ex;obtain rfl:ov=Value.ref a:=rx;exact My I2 ea c n l ry λ s3 I3=>⟨σ,_,I3,q2⟩
end
section
variable{X:Cx}{pins:List (Addr×Obj)}{σ:St}{H:Hp}{s:Shared}{A:Around}{E:Value->Shared->Prop}{Q:Value->Shared->Prop}{c:Value}{b:Bool}
inductive DN(K:W.Frag)(H:Hp):V->Value->Prop where
 |fE:DN K H .fE (.type "NoneType")
 |bl (x:Bool):DN K H (.bl x) (.type "bool")
 |int (i:Int):DN K H (.int i) (.type "int")
 |str (x:Str):DN K H (.str x) (.type "str")
 |flt (x:UInt64):DN K H (.flt x) (.type "float")
 |lst {a:Addr} {xs:List V} (e:H a=some (.lst xs)):DN K H (.ref a) (.type "list")
 |EX {a:Addr} {o:Obj} {xs:List V} (e:H a=some (.EX o (.lst xs))):DN K H (.ref a) (.type "list")
 |tup {a:Addr} {xs:List V} (e:H a=some (.tup xs)):DN K H (.ref a) (.type "tuple")
 |dK {a:Addr} {kvs:List (Key×V)} (e:H a=some (.dK kvs)):DN K H (.ref a) (.type "dict")
 |dT {a:Addr} {kvs:List (List Key×V)} (e:H a=some (.dT kvs)):DN K H (.ref a) (.type "dict")
 |ins {a C dx:Addr} {fs:List (Str×V)} (e:H a=some (.ins C dx fs)) (cl:FF K C) (ha:W.findIn K (.ref C) "__class__"=some (some (.builtin "object.__class__")))
   (hn:W.specialIn K (.builtin "object.__class__") "__get__"=some (some (.builtin "getset_descriptor.__get__"))) (htk:W.takesIn K (.builtin "object.__class__")=some true)
   (hm:W.mroIn K C (.type "object")=some true):DN K H (.ref a) (.ref C)
end
structure fD(k:Nat)(A:Around):Prop where
 hd:A.handled=none
 dp:A.depth+3*k+5<recursionLimit
 un:A.units+16*k+200<cLine
def fD.mono{j k:Nat}{A:Around}(r:fD k A)(h:j<=k):fD j A:=⟨r.hd,by have:=r.dp;omega,by have:=r.un;omega⟩
def fD.deeper{k:Nat}{A:Around}(r:fD (k+1) A)(env:Env):fD k (A.deeper env):=⟨r.hd,by have:=r.dp;show A.depth+1+3*k+5<_;omega,by have:=r.un;show A.units+3+16*k+200<_;omega⟩
def Nz{A:Around}{C:Addr}{us:List Value}{kw:List (Str×Value)}:(A.under (.builtin "type.__call__" ⟨.ref C::us,kw⟩)).depth=A.depth+1:=by first|rfl|simp[Around.under,Code.weight,Code.isCreation,Code.isGuard,Code.isCaller,Code.frames,Code.isFrame,guardIds]
def Ny{A:Around}{C:Addr}{us:List Value}{kw:List (Str×Value)}:(A.under (.builtin "type.__call__" ⟨.ref C::us,kw⟩)).units=A.units+1:=by first|rfl|simp[Around.under,Code.cUnits,Code.frames,Code.isFrame]
def fD.make{k:Nat}{A:Around}(r:fD (k+1) A)(C:Addr)(us:List Value)(kw:List (Str×Value)):fD k (A.under (.builtin "type.__call__" ⟨.ref C::us,kw⟩)):=⟨r.hd,by have:=r.dp;rw[Nz];omega,by have:=r.un;rw[Ny];omega⟩
def fD.depth{k:Nat}{A:Around}(r:fD k A):A.depth<recursionLimit:=by have:=r.dp;omega
def fD.units{k:Nat}{A:Around}(r:fD k A):A.units+64<cLine:=by have:=r.un;omega
def ak3:TA:=λ _ H Q=>Q [] H
def af2(ta:TE)(tr:TA):TA:=λ σ H Q=>ta σ H λ x H1=>tr σ H1 λ xs H2=>Q (x::xs) H2
section
variable{X:Cx}{e:Expr}{es:List Expr}{te:TE}{t:TA}{pos:Pos}
def yN:PA X [] ak3:=λ _ _ _ _ H Q I h=>Calls.spliced_nil ⟨[],H,I,.nil,h⟩
def oK(ha:PE X e te)(hr:PA X es t)(hs:starEach (e::es) X.env=(false,eval e X.env)::starEach es X.env:=by rfl):PA X (e::es) (af2 te t):=by intro pos pins s σ H Q I h;rw[hs];show wpAny _ _ (spliced ((false,eval e X.env)::backTo pos (starEach es X.env))) _ _ s;refine Calls.spliced_cons (gC (ha pins s σ H _ I h) λ u s1 ⟨x,H1,I1,r1,q1⟩=>?_);exact gC (hr pos pins s1 σ H1 _ I1 q1) λ us s2 ⟨xs,H2,I2,r2,q2⟩=>⟨x::xs,H2,I2,.cons r1 r2,q2⟩
def apl(t:TA):TE:=λ σ H Q=>t σ H λ xs H1=>xs.length<=sizeLine/\∀p,H1 p=none->Q (.ref p) (upd H1 p (.tup xs))
def apr(t:TA):TE:=λ σ H Q=>t σ H λ xs H1=>xs.length<=sizeLine/\∀p,H1 p=none->Q (.ref p) (upd H1 p (.lst xs))
def Zq{x1}(h:PA X es t):PE X (.Tuple es x1 pos) (apl t):=by intro pins s σ H Q I hq;refine wpAny_Tuple_spliced (gC (h pos pins s σ H _ I hq) λ us s1 ⟨xs,H1,I1,r,z,q⟩=>⟨by rw[<-r.length];exact z,?_⟩);have hf:H1 s1.heap.objs.size=none:=I1.hok.fresh (Nat.le_refl _);refine ⟨.ref s1.heap.objs.size,upd H1 s1.heap.objs.size (.tup xs),I1.laid (t':=s1.toks) (λ b u e=>Heap.get?_push_of_some _ e) (Nat.le_refl _) ?_,rfl,q _ hf⟩;exact ⟨z,us,r,⟨_,Heap.get?_push_size _ rfl,rfl,_,rfl⟩⟩
def ah5(h:PA X es t):PE X (.List es pos) (apr t):=by intro pins s σ H Q I hq;refine wpAny_List_spliced (gC (h pos pins s σ H _ I hq) λ us s1 ⟨xs,H1,I1,r,z,q⟩=>⟨by rw[<-r.length];exact z,?_⟩);have hf:H1 s1.heap.objs.size=none:=I1.hok.fresh (Nat.le_refl _);refine ⟨.ref s1.heap.objs.size,upd H1 s1.heap.objs.size (.lst xs),I1.laid (t':=s1.toks) (λ b u e=>Heap.get?_push_of_some _ e) (Nat.le_refl _) ?_,rfl,q _ hf⟩;exact ⟨z,us,0,r,Heap.get?_push_size _ rfl⟩
end
abbrev Sp:=List V->Hp->VK->XK->Prop
abbrev CXT:=List Env->Hp->Shared->XK->Value->Shared->Prop
structure TX(P:Program)(w:World)(K:W.Frag)(mg:Str->Option Value)(base:Heap)(A:Around)(outer:List Env)(s:Shared)(H:Hp):Prop where
 frames:A.frames=some outer
 mod:Mod K mg base
 bs:∀b o,base.get? b=some o->s.heap.get? b=some o/\H b=none
 bsz:base.objs.size<=s.heap.objs.size
 AW:s.heap.FunFrames base outer
 frf:∀b∈frs outer,H b=none
 hok:uE P w H s.heap
 bare:AllBare s.gens
def CE(outer:List Env)(P:Program)(w:World)(H:Hp)(s:Shared)(Q:VK)(u:Value)(s':Shared):Prop:=∃v H',s'.os=s.os/\AllBare s'.gens/\Un (frs outer) [] H H' s.heap s'.heap/\uE P w H' s'.heap/\RelV v u/\Q v H'
def CR(CX:CXT)(outer:List Env)(P:Program)(w:World)(H:Hp)(s:Shared)(Q:VK)(E:XK)(r:Result)(s':Shared):Prop:=match r with
 | .ok (.ret u)=>CE outer P w H s Q u s'
 | .ok _=>False
 | .error e=>CX outer H s E e s'
structure TV(P:Program)(w:World)(K:W.Frag)(mg:Str->Option Value)(base:Heap)(CX:CXT)(k:Nat)(f:Addr)(fd:FuncData)(ps:List Str)(sp:Sp):Prop where
 len:∀vs H Q E,sp vs H Q E->vs.length=ps.length
 run:∀(A:Around) (outer:List Env) (s:Shared) (H:Hp) (args:Args) (us:List Value) (vs:List V) (Q:VK) (E:XK),fD k A->TX P w K mg base A outer s H->BindsTo s fd args (ps.zip us)->Vals vs us->sp vs H Q E->
  codeAny (model P w) A (.call (.ref f) args) (CR CX outer P w H s Q E) s
def TV.imp{P:Program}{w:World}{K:W.Frag}{mg:Str->Option Value}{base:Heap}{CX:CXT}{k:Nat}{f:Addr}{fd:FuncData}{ps:List Str}{sp sp':Sp}(F:TV P w K mg base CX k f fd ps sp) (h:∀vs H Q E,sp' vs H Q E->sp vs H Q E):TV P w K mg base CX k f fd ps sp':=⟨λ vs H Q E q=>F.len vs H Q E (h _ _ _ _ q),λ A outer s H args us vs Q E hr he hb hv hs=>F.run A outer s H args us vs Q E hr he hb hv (h _ _ _ _ hs)⟩
def TX.make{P:Program}{w:World}{K:W.Frag}{mg:Str->Option Value}{base:Heap}{A:Around}{outer:List Env}{s:Shared}{H:Hp}(e:TX P w K mg base A outer s H)(C:Addr)(us:List Value)(kw:List (Str×Value)):
  TX P w K mg base (A.under (.builtin "type.__call__" ⟨.ref C::us,kw⟩)) outer s H:=⟨by first|exact e.frames|(simpa[Around.under,Code.envs,Code.isFrame,pushEnvs] using e.frames),e.mod,e.bs,e.bsz,e.AW,e.frf,e.hok,e.bare⟩
section
variable{X:Cx}{pins:List (Addr×Obj)}{σ:St}{H:Hp}{s s':Shared}
def Inv.amt(I:Inv X pins σ H s):TX X.prog X.w X.K X.mg X.base X.A X.stack s H:=⟨I.ok.frames,I.ok.mod,I.bs,Nat.le_trans I.ok.bsz I.sz,I.stack,I.Bl,I.hok,I.bare⟩
def Inv.after{Q:VK}{u:Value}(I:Inv X pins σ H s)(h:CE X.stack X.prog X.w H s Q u s'):EP X pins σ Q u s':=by obtain ⟨v,H',os,bare,un,hok,r,q⟩:=h;obtain ⟨hh,g,d,t,os'⟩:=s';obtain rfl:os'=s.os:=os;exact ⟨v,H',I.call (h':=hh) (g':=g) (d':=d) (t':=t) (ch:=[]) un hok bare (λ b z=>absurd z (by simp)),r,q⟩
end
def Binds(K:W.Frag)(fd:FuncData)(ps:List Str)(ds:List Value):Prop:=∀(s:Shared) (us:List Value),K.In s.heap->(us++ds).length=ps.length->BindsTo s fd ⟨us,[]⟩ (ps.zip (us++ds))
def Binds.all{K:W.Frag}{fd:FuncData}{ps:List Str}(h:∀us:List Value,us.length=ps.length->bindArgs fd ⟨us,[]⟩=pure (ps.zip us)):Binds K fd ps []:=λ s us _ hl=>by rw[List.append_nil] at hl ⊢;exact .of_eq (h us hl)
section
variable{X:Cx}{CX:CXT}{k:Nat}{f C:Addr}{fd:FuncData}{ps:List Str}{sp:Sp}{dvs:List V}{ds:List Value}{E:XK}{x m:Str}{p pos apos:Pos}{e o:Expr}{es:List Expr}{ta:TE}{t:TA}
structure Mk(K:W.Frag)(C f:Addr):Prop where
 makes:W.makesIn K C=true
 init:W.findIn K (.ref C) "__init__"=some (some (.ref f))
 fn:W.isFn K (.ref f)=true
 kp:W.keepIn K (.ref C)=true
end
section
variable{X:Cx}{CX:CXT}{k:Nat}{f C:Addr}{fd:FuncData}{ps ks:List Str}{sp:Sp}{E:XK}{x m:Str}{p pos apos kpos:Pos}{e o:Expr}{es:List Expr}{kws:List Keyword}{te ta:TE}{t tk:TA}{nm:Option Str}
structure aq4(K:W.Frag)(fd:FuncData)(ps ks:List Str)(g:List Value->List Value->List Value)(gV:List V->List V->List V):Prop where
 to:∀(s:Shared) (us ws:List Value),K.In s.heap->(g us ws).length=ps.length->BindsTo s fd ⟨us,ks.zip ws⟩ (ps.zip (g us ws))
 rel:∀{vs:List V} {us:List Value} {zs:List V} {ws:List Value},Vals vs us->Vals zs ws->Vals (gV vs zs) (g us ws)
variable{g:List Value->List Value->List Value}{gV:List V->List V->List V}
end
structure oY(N P:List Str)(sc:Scope):Prop where
 kind:sc.kind= .function
 co:sc.isCoroutine=false
 gen:sc.isGenerator=false
 nd:N.Nodup
 pre:N.take P.length=P
 par:∀x∈P,sc.names.lookup x=some .local\/sc.names.lookup x=some .cell
 ait:∀y∈sc.names,y.2≠.free
def GR{kindOf:Str->Option NameKind}{x:Str}:∀{binds:List (Str×Value)} {m:Str->Option Value},(∀v,(x,v)∉binds)->bindL kindOf binds m x=m x
 |[],_,_=>rfl
 |(n,v)::r,m,h=>by
  unfold bindL;rw[GR λ w hw=>h w (List.mem_cons_of_mem _ hw)];split
  ·have:x≠n:=by rintro rfl;exact h v List.mem_cons_self
   simp[this]
  ·rfl
def GU{kindOf:Str->Option NameKind}{x:Str}:∀{binds:List (Str×Value)} {m:Str->Option Value},(∀v,(x,v)∉binds)->bindC kindOf binds m x=m x
 |[],_,_=>rfl
 |(n,v)::r,m,h=>by
  unfold bindC;rw[GU λ w hw=>h w (List.mem_cons_of_mem _ hw)];split
  ·rfl
  ·have:x≠n:=by rintro rfl;exact h v List.mem_cons_self
   simp[this]
def GS{kindOf:Str->Option NameKind}{x:Str}{v:Value}:∀{P:List Str} {vs:List Value} {i:Nat} {m:Str->Option Value},P.Nodup->P[i]? =some x->vs[i]? =some v->kindOf x=some .local->bindL kindOf (P.zip vs) m x=some v
 |[],_,_,_,_,h,_,_=>by simp at h
 |_::_,[],_,_,_,_,h,_=>by simp at h
 |p::P,w::vs,0,m,nd,h1,h2,hk=>by simp at h1 h2;subst h1;subst h2;show bindL kindOf ((p,w)::P.zip vs) m p=_;unfold bindL;rw[GR λ v hv=>(List.nodup_cons.mp nd).1 (List.of_mem_zip hv).1,if_pos hk];simp
 |p::P,w::vs,i+1,m,nd,h1,h2,hk=>by show bindL kindOf ((p,w)::P.zip vs) m x=_;unfold bindL;exact GS (i:=i) (List.nodup_cons.mp nd).2 (by simpa using h1) (by simpa using h2) hk
def GV{kindOf:Str->Option NameKind}{x:Str}{v:Value}:∀{P:List Str} {vs:List Value} {i:Nat} {m:Str->Option Value},P.Nodup->P[i]? =some x->vs[i]? =some v->kindOf x≠some .local->bindC kindOf (P.zip vs) m x=some v
 |[],_,_,_,_,h,_,_=>by simp at h
 |_::_,[],_,_,_,_,h,_=>by simp at h
 |p::P,w::vs,0,m,nd,h1,h2,hk=>by simp at h1 h2;subst h1;subst h2;show bindC kindOf ((p,w)::P.zip vs) m p=_;unfold bindC;rw[GU λ v hv=>(List.nodup_cons.mp nd).1 (List.of_mem_zip hv).1,if_neg hk];simp
 |p::P,w::vs,i+1,m,nd,h1,h2,hk=>by show bindC kindOf ((p,w)::P.zip vs) m x=_;unfold bindC;exact GV (i:=i) (List.nodup_cons.mp nd).2 (by simpa using h1) (by simpa using h2) hk
def start(N:List Str)(vs:List V):St:=vs.map some++List.replicate (N.length- vs.length) none
def pD(CX:CXT)(P:Program)(w:World)(K:W.Frag)(mg:Str->Option Value)(base:Heap)(N:List Str)(qual:Str)(scope:Scope)(f:Addr)(cd:Value)(A:Around)(outer:List Env)(s:Shared)(H:Hp)(E:XK):Cx where
 prog:=P
 w:=w
 K:=K
 mg:=mg
 base:=base
 A:=A.deeper (envOfC qual scope s.heap.objs.size f cd)
 N:=N
 s₀:=s
 H₀:=H
 env:=envOfC qual scope s.heap.objs.size f cd
 outer:=outer
 stack:=envOfC qual scope s.heap.objs.size f cd::outer
 ex:=[]
 calm:=true
 fn:=λ _=>true
 pn:=[]
 xe:=λ e s'=>wpAny (model P w) (A.deeper (envOfC qual scope s.heap.objs.size f cd)) (leaving (envOfC qual scope s.heap.objs.size f cd) e) (λ _ s''=>CX outer H s E e s'') (λ e' s''=>CX outer H s E e' s'') s'
def Lu{sc:Scope}{n:Nat}{x:Str}(h:sc.names.lookup x=some .cell):∃c,(cellsFrom n sc.names []).lookup x=some c:=by have q:=W.cellsFrom_some sc.names n [] (.inl h);exact Option.isSome_iff_exists.mp q
def W7{CX:CXT}{P:Program}{w:World}{K:W.Frag}{mg:Str->Option Value}{base:Heap}{N ps:List Str}{qual:Str}{scope:Scope}{f:Addr}{cd:Value}{A:Around}{outer:List Env}{s s1:Shared}{H:Hp}{E:XK}{us:List Value}{vs:List V} (S:oY N ps scope) (hd:A.handled=none) (e0:TX P w K mg base A outer s H) (hl:vs.length=ps.length) (r:Vals vs us) (x:InCallC s s.heap.objs.size (bindL (envOfC qual scope s.heap.objs.size f cd).kindOf (ps.zip us) λ _=>none) (cellsFrom (s.heap.objs.size+1) scope.names []) (bindC (envOfC qual scope s.heap.objs.size f cd).kindOf (ps.zip us) λ _=>none) s1):
  Inv (pD CX P w K mg base N qual scope f cd A outer s H E) [] (start N vs) H s1:=by
 have hpl:ps.length<=N.length:=by have:=congrArg List.length S.pre;rw[List.length_take] at this;omega
 obtain ⟨h1,tk,rfl,hk⟩:=x.done;have noA:∀b:Addr,b∉(pD CX P w K mg base N qual scope f cd A outer s H E).ex:=λ b z=>absurd (show b∈([]:List Addr) from z) (by simp);refine ⟨⟨e0.mod,S.kind,rfl,rfl,Nat.le_refl _,λ y z c h1 h2=>?_,λ y hy=>?_,λ y c _ h=>?_,λ _=>hd,Around.frames_deeper e0.frames,.inr ⟨rfl,rfl⟩,λ b z=>absurd z (noA b),e0.bs,e0.bsz,λ b _ _=>noA b,λ b z=>absurd z (noA b),e0.AW,e0.frf⟩,
  rfl,e0.bare,Un.kept hk,⟨_,x.toInCall.ns,λ i y v h1 h2 h3=>?_⟩,λ y c h=>⟨_,x.cell y c h⟩,e0.hok.fresh (Nat.le_refl _),λ y c h=>?_,λ p hp=>absurd (show p∈([]:List (Addr×Obj)) from hp) (by simp),e0.hok.kept hk,?_⟩
 ·exact name_of_addr x.apart (PySem.mem_of_lookup h1) (PySem.mem_of_lookup h2)
 ·have hy:scope.names.lookup y=some .cell\/scope.names.lookup y=some .free:=hy;rcases hy with hy|hy
  ·exact Lu hy
  ·exact absurd rfl (S.ait _ (PySem.mem_of_lookup hy))
 ·exact Nat.le_of_lt (x.above y c (PySem.mem_of_lookup h))
 ·have hi:i<vs.length:=by
   unfold start at h2;by_cases hi:i<vs.length
   ·exact hi
   ·rw[List.getElem?_append_right (by simpa using hi)] at h2;rw[List.getElem?_replicate] at h2;split at h2<;>cases h2
  have ha:vs[i]? =some v:=by
   unfold start at h2;rw[List.getElem?_append_left (by simpa using hi),List.getElem?_map] at h2;cases e:vs[i]? with
   |none=>rw[e] at h2;cases h2
   |some a=>rw[e] at h2;cases h2;rfl
  obtain ⟨u,hu,rv⟩:=r.get ha;have hp:ps[i]? =some y:=by rw[<-S.pre,List.getElem?_take_of_lt (by omega)];exact h1
  have ndP:ps.Nodup:=by rw[<-S.pre];exact S.nd.sublist (List.take_sublist _ _)
  refine ⟨u,rv,?_⟩;rcases S.par y (List.mem_of_getElem? hp) with k|k
  ·exact .inl ⟨k,GS ndP hp hu k⟩
  ·obtain ⟨c,e⟩:=Lu (n:=s.heap.objs.size+1) k;refine .inr ⟨.inl k,c,e,?_⟩;have q:=x.cell y c e;rw[GV ndP hp hu (by show scope.names.lookup y≠_;rw[k];decide)] at q;exact q
 ·exact e0.hok.fresh (Nat.le_of_lt (x.above y c (PySem.mem_of_lookup h)))
 ·unfold start;show _=N.length;rw[List.length_append,List.length_map,List.length_replicate];omega
def agu{CX:CXT}{P:Program}{w:World}{K:W.Frag}{mg:Str->Option Value}{base:Heap}{k:Nat}{f:Addr}{name qual:Str}{params:Arguments}{body:List Stmt}{scope:Scope}{dV kV doc pm cdv ct oc:Value}{an od:Option Addr} {osl:Array (Option Value)} {N ps:List Str} {sp:Sp} (lk:K.lookup f=some ⟨oc,od,.func (W.fnOf name qual params body scope dV kV doc pm an cdv ct),osl⟩) (hcd:W.codeIn K cdv qual=true) (S:oY N ps scope) (len:∀vs H Q E,sp vs H Q E->vs.length=ps.length) (hbody:∀(A:Around) (outer:List Env) (s:Shared) (H:Hp) (vs:List V) (Q:VK) (E:XK),fD k (A.deeper (envOfC qual scope s.heap.objs.size f cdv))->sp vs H Q E->∃t,TQ (pD CX P w K mg base N qual scope f cdv A outer s H E) body t/\t {nx:=λ _ H'=>Q .fE H',rt:=Q} (start N vs) H):
  TV P w K mg base CX (k+1) f (W.fnOf name qual params body scope dV kV doc pm an cdv ct) ps sp:=by
 refine ⟨len,λ A outer s H args us vs Q E hr e0 hb r LJ=>?_⟩;have hl:=len _ _ _ _ LJ;have KX:K.In s.heap:=e0.mod.kin.keeps λ b o e=>(e0.bs b o e).1;have lim:s.heap.NoLimit:=e0.mod.nolimit.keeps λ b o e=>(e0.bs b o e).1;have hkind:∀y∈ps.zip us,scope.names.lookup y.1=some .local\/(scope.names.lookup y.1=some .cell/\((cellsFrom (s.heap.objs.size+1) scope.names []).lookup y.1).isSome=true):=λ⟨n,v⟩ hy=>by
  rcases S.par n (List.of_mem_zip hy).1 with q|q
  ·exact .inl q
  ·exact .inr ⟨q,W.cellsFrom_some _ _ _ (.inl q)⟩
 refine codeAny_call_function hr.depth (KX _ _ lk) rfl S.co S.gen rfl (W.codeRec_of KX hcd) (hb _ _ _ _ ?_);refine wpAny_newFunctionEnv_cells S.kind hkind λ env he s1 x=>?_;subst he;refine ⟨lim.keeps x.toInCall.keep,codeAny_func ?_⟩;obtain ⟨t,ht,hq⟩:=hbody A outer s H vs Q E (hr.deeper _) LJ;have I:Inv (pD CX P w K mg base N qual scope f cdv A outer s H E) [] (start N vs) H s1:=W7 S hr.hd e0 hl r x;refine wpAny_mono (ht [] s1 (start N vs) H _ I hq) (λ fl s' hs=>?_) λ e s' hs=>hs;have fin:∀{σ':St} {H':Hp} {v:V} {u:Value},Inv (pD CX P w K mg base N qual scope f cdv A outer s H E) [] σ' H' s'->RelV v u->Q v H'->CE outer P w H s Q u s':=
  λ{σ' H' v u} J rv q=>⟨v,H',J.os,J.bare,J.base,J.hok,rv,q⟩
 cases fl with
 |ret u=>obtain ⟨v,σ',H',J,rv,q⟩:=hs;exact fin J rv q
 |next=>obtain ⟨σ',H',J,q⟩:=hs;exact fin (v:=V.fE) (u:=Value.none) J rfl q
 |brk=>obtain ⟨_,_,_,q⟩:=hs;exact False.elim q
 |cont=>obtain ⟨_,_,_,q⟩:=hs;exact False.elim q
section
variable{X:Cx}{x:Str}{p pos:Pos}{e:Expr}{es:List Expr}{t:TA}{id T:String}{r:List V->Hp->VK->Prop}
def tCB(r:List V->Hp->VK->Prop)(t:TA):TE:=λ σ H Q=>t σ H λ vs H1=>r vs H1 Q
def pU(hc:yr X (.builtin id) r)(hg:Gl X x)(hm:X.mg x=none)(hv:bootBuiltins x=some (.builtin id))(ha:PA X (e::es) t)(hn:x≠"__name__":=by decide)(hdb:(x==("__debug__":Str))=false:=by decide) (he:starEach (e::es) X.env=(false,eval e X.env)::starEach es X.env:=by rfl) (hpl:(backTo pos (starEach es X.env)).any (·.1)=false:=by rfl):PE X (.Call (.Name x p) (e::es) [] pos) (tCB r t):=by intro pins s σ H Q I h;refine wpAny_Call_Name_kw (zm I hg hm hv ?_ hn hdb);exact PyProof.Rows.callWith_builtin1 (gC (ha pos pins s σ H _ I h) λ us s1 ⟨vs,H1,I1,r1,q1⟩=>hc pins s1 σ H1 vs us Q I1 r1 q1) he hpl
def V3(hc:yr X (.type T) r)(hg:Gl X x)(hm:X.mg x=none)(hv:bootBuiltins x=some (.type T))(ha:PA X (e::es) t)(hn:x≠"__name__":=by decide)(hdb:(x==("__debug__":Str))=false:=by decide) (he:starEach (e::es) X.env=(false,eval e X.env)::starEach es X.env:=by rfl) (hpl:(backTo pos (starEach es X.env)).any (·.1)=false:=by rfl):PE X (.Call (.Name x p) (e::es) [] pos) (tCB r t):=by intro pins s σ H Q I h;refine wpAny_Call_Name_kw (zm I hg hm hv ?_ hn hdb);exact PyProof.Rows.callWith_type1 (gC (ha pos pins s σ H _ I h) λ us s1 ⟨vs,H1,I1,r1,q1⟩=>hc pins s1 σ H1 vs us Q I1 r1 q1) he hpl
end
end L2
namespace HT
open PySem PyProof.Rows
def lexLt:List Int->List Int->Bool
 |[],[]=>false
 |[],_::_=>true
 |_::_,[]=>false
 |x::xs,y::ys=>if x=y then lexLt xs ys else decide (x<y)
def aiD(x y:Int)(xs ys:List Int):lexLt (x::xs) (y::ys)=if x=y then lexLt xs ys else decide (x<y):=rfl
def adm:lexLt [] []=false:=rfl
def aaa(y:Int)(ys:List Int):lexLt [] (y::ys)=true:=rfl
def aab(x:Int)(xs:List Int):lexLt (x::xs) []=false:=rfl
section
open PySem.SeqAt
open PySem.AutoSeq1 (wpAny_loadPart')
open PySem.MeetsSeq PySem.MeetsSeq2 PySem.MeetsSeq3
end
section
variable{prog:Program}{w:World}{A:Around}{E:Value->Shared->Prop}{s:Shared}
def F2(n d:Nat):Option Int->Nat
 |none=>d
 |some v=>if v<0 then (v+(n:Int)).toNat else min v.toNat n
def alj(n d:Nat):F2 n d none=d:=rfl
end
end HT
namespace L2
open PySem PySem.Spec PyProof.Rows
abbrev TO:=St->Hp->(Option Int->Hp->Prop)->Prop
def PO(X:Cx)(e:Option Expr)(t:TO):Prop:=∀(pins:List (Addr×Obj)) (s:Shared) (σ:St) (H:Hp) (Q:Option Int->Hp->Prop),Inv X pins σ H s->t σ H Q->wpAny (model X.prog X.w) X.A (evalPart e X.env) (λ u s'=>∃o H',Inv X pins σ H' s'/\IsPart u o/\Q o H') X.xe s
def adT:TO:=λ _ H Q=>Q none H
def ak0(t:TE):TO:=λ σ H Q=>t σ H λ x H1=>∃i,x= .int i/\Q (some i) H1
def intsAre_of{ns:List Int}:∀{us:List Value},Vals (ns.map V.int) us->IntsAre us ns:=by
 induction ns with
 |nil=>intro us r;rw[List.map_nil] at r;cases r;exact .nil
 |cons n ns ih=>
  intro us r;rw[List.map_cons] at r;cases r with
  |cons r1 r2=>obtain ⟨t,e⟩:=r1;subst e;exact .cons n t (ih r2)
section
variable{X:Cx}{e:Expr}{te:TE}{lo hi:Option Expr}{tl th:TO}{pos p2:Pos}
def aef:PO X none adT:=by intro pins s σ H Q I h;rw[evalPart_none];exact wpAny_pure ⟨none,H,I,.none,h⟩
def aee(h:PE X e te):PO X (some e) (ak0 te):=by intro pins s σ H Q I hw;rw[evalPart_some];refine gC (h pins s σ H _ I hw) λ u s1 ⟨x,H1,I1,r1,q1⟩=>?_;obtain ⟨i,rfl,q⟩:=q1;obtain ⟨t,rfl⟩:=r1;exact ⟨some i,H1,I1,.int i t,q⟩
def SlR(X:Cx)(r:V->Option Int->Option Int->Hp->VK->Prop):Prop:=∀(pins:List (Addr×Obj)) (s:Shared) (σ:St) (H:Hp) (x:V) (v vl vu:Value) (lo hi:Option Int) (sl:Addr) (Q:VK),Inv X pins σ H s->RelV x v->s.heap.IsSliceOf sl vl vu .none->IsPart vl lo->IsPart vu hi->r x lo hi H Q->∃T id,typeLookup (.type T) "__getitem__"=pure (some (.builtin id))/\s.TypeIs v T/\wpAny (model X.prog X.w) X.A (getItem v (.ref sl)) (EP X pins σ Q) X.xe s
def tSl(r:V->Option Int->Option Int->Hp->VK->Prop)(te:TE)(tl th:TO):TE:=λ σ H Q=>te σ H λ x H1=>tl σ H1 λ l H2=>th σ H2 λ u H3=>r x l u H3 Q
def Zr{r:V->Option Int->Option Int->Hp->VK->Prop}(hr:SlR X r)(he:PE X e te)(hl:PO X lo tl)(hu:PO X hi th):PE X (.Subscript e (.Slice lo hi none p2) pos) (tSl r te tl th):=by intro pins s σ H Q I h;refine Subscript_ (gC (he pins s σ H _ I h) λ v s1 ⟨x,H1,I1,r1,q1⟩=>?_);refine wpAny_Slice (gC (hl pins s1 σ H1 _ I1 q1) λ vl s2 ⟨l,H2,I2,pl,q2⟩=>gC (hu pins s2 σ H2 _ I2 q2) λ vu s3 ⟨u,H3,I3,pu,q3⟩=>?_);rw[evalPart_none];refine wpAny_pure ?_;have I4:Inv X pins σ H3 {s3 with heap:=s3.heap.push {cls:= .type "slice",data:= .fields #[vl,vu,.none]}}:=I3.kept (t':=s3.toks) λ b ob q=>Heap.get?_push_of_some _ q;obtain ⟨T,id,hT,ht,hg⟩:=hr pins {s3 with heap:=s3.heap.push {cls:= .type "slice",data:= .fields #[vl,vu,.none]}} σ H3 x v vl vu l u s3.heap.objs.size Q I4 r1 (Heap.IsSliceOf.new ..) pl pu q3;show wpAny (model X.prog X.w) X.A (subscriptTail e (.Slice lo hi none p2) v (.ref s3.heap.objs.size)) (EP X pins σ Q) X.xe {s3 with heap:=s3.heap.push {cls:= .type "slice",data:= .fields #[vl,vu,.none]}};exact tail_any (ops:=[.ref s3.heap.objs.size,v]) ht hT hg (by with_unfolding_all rfl)
def Oi(xs:List V)(lo hi:Option Int):List V:=(xs.drop (HT.F2 xs.length 0 lo)).take (HT.F2 xs.length xs.length hi- HT.F2 xs.length 0 lo)
def Lm(xs:List V)(lo hi:Option Int):(Oi xs lo hi).length<=xs.length:=by unfold Oi;rw[List.length_take,List.length_drop];omega
end
noncomputable def qJ(n:Nat)(i:Int):Option Nat:=if 0<=i then (if i<n then some i.toNat else none) else if -(n:Int)<=i then some (i+n).toNat else none
def rM{α:Type}(xs:List α)(i:Int):Option α:=(qJ xs.length i).bind λ j=>xs[j]?
def US{n:Nat}{i:Int}{j:Nat}(h:qJ n i=some j):seqIndex? i n=some j/\j<n/\ -(n:Int)<=i/\i<n:=by
 unfold qJ at h;by_cases h0:0<=i
 ·rw[if_pos h0] at h;by_cases h1:i<n
  ·rw[if_pos h1] at h;have e:i.toNat=j:=Option.some.inj h;exact ⟨by rw[seqIndex_of h0 h1,e],by omega,by omega,h1⟩
  ·rw[if_neg h1] at h;cases h
 ·rw[if_neg h0] at h;by_cases h1: -(n:Int)<=i
  ·rw[if_pos h1] at h;have e:(i+n).toNat=j:=Option.some.inj h;exact ⟨by rw[seqIndex_neg (by omega) h1,e],by omega,h1,by omega⟩
  ·rw[if_neg h1] at h;cases h
def Jt{α:Type}{xs:List α}{i:Int}{v:α}(h:rM xs i=some v):∃j,seqIndex? i xs.length=some j/\xs[j]? =some v/\j<xs.length/\ -(xs.length:Int)<=i/\i<xs.length:=by
 unfold rM at h;cases e:qJ xs.length i with
 |none=>rw[e] at h;cases h
 |some j=>rw[e] at h;obtain ⟨h1,h2,h3,h4⟩:=US e;exact ⟨j,h1,h,h2,h3,h4⟩
noncomputable def JC(b:Expr):Prop:=∀o i,subscripted b false o i=operate [o,i] (getItem o i)
def IxR(X:Cx)(r:R2):Prop:=∀(value slice:Expr) (pins:List (Addr×Obj)) (s:Shared) (σ:St) (H:Hp) (x y:V) (v u:Value) (Q:VK),Inv X pins σ H s->RelV x v->RelV y u->r x y H Q->subscripted slice false v u=operate [v,u] (getItem v u)->wpAny (model X.prog X.w) X.A (subscriptTail value slice v u) (EP X pins σ Q) X.xe s
def MtR(X:Cx)(id:String)(r:V->List V->Hp->VK->Prop):Prop:=∀(pins:List (Addr×Obj)) (s:Shared) (σ:St) (H:Hp) (x:V) (xs:List V) (v:Value) (us:List Value) (Q:VK),Inv X pins σ H s->RelV x v->Vals xs us->r x xs H Q->wpAny (model X.prog X.w) X.A (call (.builtin id) (v::us)) (EP X pins σ Q) X.xe s
section
variable{X:Cx}{a b:Expr}{ta tb:TE}{pos:Pos}
def IxR.or{r r':R2}(h:IxR X r)(h':IxR X r'):IxR X (λ x y H Q=>r x y H Q\/r' x y H Q):=by
 intro value slice pins s σ H x y v u Q I rx ry q hs;rcases q with q|q
 ·exact h value slice pins s σ H x y v u Q I rx ry q hs
 ·exact h' value slice pins s σ H x y v u Q I rx ry q hs
def agf{r:R2}(hr:IxR X r)(ha:PE X a ta)(hb:PE X b tb)(hs:JC b):PE X (.Subscript a b pos) (tOp r ta tb):=by intro pins s σ H Q I h;exact Subscript_ (ajr ha hb I h λ v u s2 x y H2 I2 rx ry q=>hr a b pins s2 σ H2 x y v u Q I2 rx ry q (hs _ _))
def alu(K:W.Frag):R2:=λ x y H Q=>∃p xs i v,x= .ref p/\y= .int i/\rJ K H p xs/\rM xs i=some v/\Q v H
def alr(K:W.Frag):R2:=λ x y H Q=>∃p xs i v,x= .ref p/\y= .int i/\yx K H p xs/\rM xs i=some v/\Q v H
def als:R2:=λ x y H Q=>∃z i c,x= .str z/\y= .int i/\z.length<=sizeLine/\rM z.cps.toList i=some c/\Q (.str ⟨#[c]⟩) H
def ae7:IxR X (alu X.K):=by
 intro value slice pins s σ H x y v u Q I rx ry h hs;obtain ⟨p,xs,i,z,rfl,rfl,hq,he,q⟩:=h;cases rx;obtain ⟨t,rfl⟩:=ry;obtain ⟨its,r,pl,hz⟩:=I.list hq;obtain ⟨j,h1,h2,h3,h4,h5⟩:=Jt he;obtain ⟨w,ew,rw'⟩:=r.get h2;have hl:=r.length;have hn:=CN;have fin:EP X pins σ Q w s:=⟨z,H,I,rw',q⟩;by_cases h0:0<=i
 ·have hj:i.toNat=j:=by rw[seqIndex_of h0 h5] at h1;exact Option.some.inj h1
  exact item_listR pl.isList h0 (by omega) (by rw[hj];simpa using ew) fin hs
 ·have hj:(i+(its.toArray.size:Int)).toNat=j:=by rw[seqIndex_neg (by omega) h4] at h1;rw[List.size_toArray, <-hl];exact Option.some.inj h1
  exact subscriptTail_builtinR (x:=w) pl.isList.typeIs slot_list_getitem.lookup
   (wpAny_getItem_list_neg (Q:=λ r s'=>r=w/\EP X pins σ Q r s') pl.isList (by omega) (by rw[List.size_toArray]<;>omega) (by omega) (by rw[hj];simpa using ew) ⟨rfl,fin⟩) hs
def aiS:IxR X (alr X.K):=by
 intro value slice pins s σ H x y v u Q I rx ry h hs;obtain ⟨p,xs,i,z,rfl,rfl,hq,he,q⟩:=h;cases rx;obtain ⟨t,rfl⟩:=ry;obtain ⟨its,r,pl,hz⟩:=I.tuple hq;obtain ⟨j,h1,h2,h3,h4,h5⟩:=Jt he;obtain ⟨w,ew,rw'⟩:=r.get h2;have hl:=r.length;have hn:=CN;have fin:EP X pins σ Q w s:=⟨z,H,I,rw',q⟩;exact subscriptTail_builtinR (x:=w) pl.typeIs slot_tuple_getitem.lookup
  (getItem_tuple (j:=j) (Q:=λ r s'=>r=w/\EP X pins σ Q r s') pl (by omega) (by omega) (by rw[List.size_toArray, <-hl];exact h1) (by simpa using ew) ⟨rfl,fin⟩) hs
def aiT:IxR X als:=by
 intro value slice pins s σ H x y v u Q I rx ry h hs;obtain ⟨z,i,c,rfl,rfl,hz,he,q⟩:=h;obtain ⟨t,rfl⟩:=rx;obtain ⟨t',rfl⟩:=ry;obtain ⟨j,h1,h2,h3,h4,h5⟩:=Jt he;have hl:z.cps.toList.length=z.length:=by simp[Str.length]
 rw[hl] at h1 h4 h5;have hn:=CN;exact tail_any (typeIs_str s z t) slot_str_getitem.lookup (getItem_str (c:=c) (by have e1:decide (i< -(2^63:Int))=false:=decide_eq_false (by omega);have e2:decide (i>=2^63)=false:=decide_eq_false (by omega);rw[e1,e2,Bool.or_false]) (by rw[h1];simpa using h2) ⟨.str ⟨#[c]⟩,H,I.tok _,⟨_,rfl⟩,q⟩) hs
def rIx(K:W.Frag):R2:=λ x y H Q=>alu K x y H Q\/alr K x y H Q\/als x y H Q
def aaA:IxR X (rIx X.K):=ae7.or (aiS.or aiT)
def Nx(its:List Value)(n j:Nat)(u:Value):Obj.mapSeq (·.setIfInBounds j u) {cls:= .type "list",data:= .seq its.toArray n}={cls:= .type "list",data:= .seq (its.set j u).toArray n}:=by simp[Obj.mapSeq]
def Inv.lst{pins:List (Addr×Obj)}{σ:St}{H:Hp}{s:Shared}{p:Addr}{xs:List V}(I:Inv X pins σ H s)(h:H p=some (.lst xs)):
  ∃(its:List Value) (n:Nat),Vals xs its/\s.heap.get? p=some {cls:= .type "list",data:= .seq its.toArray n}/\xs.length<=sizeLine:=by
 obtain ⟨z,its,n,r,e⟩:=I.hok p _ h;exact ⟨its,n,r,e,z⟩
def Inv.aiB{pins:List (Addr×Obj)}{σ:St}{H:Hp}{s:Shared}{p:Addr}{xs ys:List V}{its its':List Value}{n n':Nat}{f:Obj->Obj}(I:Inv X pins σ H s)(h:H p=some (.lst xs)) (ho:s.heap.get? p=some {cls:= .type "list",data:= .seq its.toArray n}) (hf:f {cls:= .type "list",data:= .seq its.toArray n}={cls:= .type "list",data:= .seq its'.toArray n'}) (r:Vals ys its') (hz:ys.length<=sizeLine) (t:Nat):
  Inv X pins σ (upd H p (.lst ys)) {s with heap:=s.heap.update p f,toks:=t}:=by
 have e:(s.heap.update p f).get? p=some {cls:= .type "list",data:= .seq its'.toArray n'}:=by rw[Heap.get?_update_self f ho (by rw[hf]<;>rfl),hf]
 refine I.write (x:=p) (e:=p) (by rw[h];trivial) (.inl rfl) (λ b u hb q=>(Heap.get?_update_other _ _ (Ne.symm hb)).trans q) ⟨_,e⟩ ?_;exact ⟨hz,its',n',r,e⟩
def alq:V->V->V->Hp->(Hp->Prop)->Prop:=λ o i v H Q=>∃p xs k j,o= .ref p/\i= .int k/\H p=some (.lst xs)/\qJ xs.length k=some j/\Q (upd H p (.lst (xs.set j v)))
def set_list:anv X alq:=by
 intro pins s σ H o i v ov iv u Q I ro ri rv h;obtain ⟨p,xs,k,j,rfl,rfl,hp,hj,q⟩:=h;cases ro;obtain ⟨t,rfl⟩:=ri;obtain ⟨its,n,r,ho,hz⟩:=I.lst hp;obtain ⟨h1,h2,h3,h4⟩:=US hj;have hl:=r.length;have hn:=CN;have I':Inv X pins σ (upd H p (.lst (xs.set j v))) {s with heap:=s.heap.update p (Obj.mapSeq (·.setIfInBounds j u))}:=
  I.aiB hp ho (Nx its n j u) (r.set rv j) (by rw[List.length_set];exact hz) s.toks
 by_cases h0:0<=k
 ·have hk:k.toNat=j:=by rw[seqIndex_of h0 h4] at h1;exact Option.some.inj h1
  exact W.ki_setAt ho h0 (by omega) (by rw[List.size_toArray, <-hl];exact h4) (by rw[hk];exact ⟨_,I',q⟩)
 ·have hk:(k+(its.toArray.size:Int)).toNat=j:=by rw[seqIndex_neg (by omega) h3] at h1;rw[List.size_toArray, <-hl];exact Option.some.inj h1
  exact W.ki_setBack ho (by omega) (by rw[List.size_toArray, <-hl];exact h3) (by omega) (by rw[hk];exact ⟨_,I',q⟩)
def Hf(lo hi:Option Int)(n:Nat):(sliceBounds lo hi none n).1=((HT.F2 n 0 lo:Nat):Int)/\(sliceBounds lo hi none n).2.1=((HT.F2 n n hi:Nat):Int)/\(sliceBounds lo hi none n).2.2=1:=by
 refine ⟨?_,?_,rfl⟩
 ·cases lo with
  |none=>simp[sliceBounds,HT.F2]
  |some i=>
   simp only[sliceBounds,HT.F2,Option.getD_none,show (1:Int)>0 by decide,if_true];by_cases h:i<0
   ·simp only[h,if_true]<;>omega
   ·simp only[h,if_false]<;>omega
 ·cases hi with
  |none=>simp[sliceBounds,HT.F2]
  |some i=>
   simp only[sliceBounds,HT.F2,Option.getD_none,show (1:Int)>0 by decide,if_true];by_cases h:i<0
   ·simp only[h,if_true]<;>omega
   ·simp only[h,if_false]<;>omega
def DZ(its:List Value)(lo hi:Option Int):slicePick its.toArray lo hi none=((its.drop (HT.F2 its.length 0 lo)).take (HT.F2 its.length its.length hi- HT.F2 its.length 0 lo)).toArray:=by obtain ⟨h1,h2,h3⟩:=Hf lo hi its.toArray.size;unfold slicePick;rw[h1,h2,h3];simp only[sliceRange_one,pick_run,List.size_toArray]<;>rfl
def apD(K:W.Frag):V->Option Int->Option Int->Hp->VK->Prop:=λ x lo hi H Q=>∃a xs,x= .ref a/\rJ K H a xs/\∀p,H p=none->Q (.ref p) (upd H p (.lst (Oi xs lo hi)))
def adU:SlR X (apD X.K):=by intro pins s σ H x v vl vu lo hi sl Q I rx hs pl pu h;obtain ⟨a,xs,rfl,hx,q⟩:=h;cases rx;obtain ⟨its,r,ht,hz⟩:=I.list hx;have hlen:=r.length;refine ⟨"list",_,slot_list_getitem.lookup,ht.isList.typeIs,?_⟩;refine wpAny_getItem_list_slice ht.isList hs pl pu .none (by simp) ?_ (by rw[List.size_toArray]<;>omega);rw[DZ, <-hlen];refine ⟨.ref s.heap.objs.size,_,I.laid (t':=s.toks) (o:= .lst (Oi xs lo hi)) (λ b ob q=>Heap.get?_push_of_some _ q) (Nat.le_refl _) ?_,rfl,q _ (I.hok.fresh (Nat.le_refl _))⟩;exact ⟨Nat.le_trans (Lm xs lo hi) hz,_,0,(r.drop (HT.F2 xs.length 0 lo)).take (HT.F2 xs.length xs.length hi- HT.F2 xs.length 0 lo),Heap.get?_push_size _ rfl⟩
noncomputable def uL:V->Bool
 | .fE=>true
 | .bl _=>true
 | .int _=>true
 | .str _=>true
 |_=>false
noncomputable def eqV:V->V->Bool
 | .fE,.fE=>true
 | .bl a,.bl b=>a==b
 | .bl a,.int b=>(if a then 1 else 0)==b
 | .int a,.bl b=>a==(if b then 1 else 0)
 | .int a,.int b=>a==b
 | .str a,.str b=>a==b
 |_,_=>false
def ai8{A:Around}{s:Shared}{y x:V}{u v:Value}(ry:RelV y u)(rx:RelV x v)(fy:uL y=true)(fx:uL x=true):SeqAt.EqAt A s u v (eqV y x):=by
 cases y with
 |fE=>
  cases ry;cases x with
  |fE=>cases rx;exact SeqAt.EqAt.same _
  |bl b=>cases rx;exact SeqAt.EqAt.none_bool b
  |int b=>obtain ⟨t,rfl⟩:=rx;exact SeqAt.EqAt.none_int b t
  |str b=>obtain ⟨t,rfl⟩:=rx;exact SeqAt.EqAt.none_str b t
  |_=>exact absurd (show false=true from fx) Bool.false_ne_true
 |bl a=>
  cases ry;cases x with
  |fE=>cases rx;exact SeqAt.EqAt.bool_none a
  |bl b=>cases rx;exact SeqAt.EqAt.bool_bool a b
  |int b=>obtain ⟨t,rfl⟩:=rx;exact SeqAt.EqAt.bool_int a b t
  |str b=>obtain ⟨t,rfl⟩:=rx;exact SeqAt.EqAt.bool_str a b t
  |_=>exact absurd (show false=true from fx) Bool.false_ne_true
 |int a=>
  obtain ⟨t',rfl⟩:=ry;cases x with
  |fE=>cases rx;exact SeqAt.EqAt.int_none a t'
  |bl b=>cases rx;exact SeqAt.EqAt.int_bool a t' b
  |int b=>obtain ⟨t,rfl⟩:=rx;exact SeqAt.EqAt.int_int a t' b t
  |str b=>obtain ⟨t,rfl⟩:=rx;exact SeqAt.EqAt.int_str a t' b t
  |_=>exact absurd (show false=true from fx) Bool.false_ne_true
 |str a=>
  obtain ⟨t',rfl⟩:=ry;cases x with
  |fE=>cases rx;exact SeqAt.EqAt.str_none a t'
  |bl b=>cases rx;exact SeqAt.EqAt.str_bool a t' b
  |int b=>obtain ⟨t,rfl⟩:=rx;exact SeqAt.EqAt.str_int a t' b t
  |str b=>obtain ⟨t,rfl⟩:=rx;exact SeqAt.EqAt.str_str a t' b t
  |_=>exact absurd (show false=true from fx) Bool.false_ne_true
 |_=>exact absurd (show false=true from fy) Bool.false_ne_true
def eqU(x:V)(u:Value):Bool:=match u with
 | .none=>eqV .fE x
 | .bool b=>eqV (.bl b) x
 | .int i _=>eqV (.int i) x
 | .str z _=>eqV (.str z) x
 |_=>false
def aba{x y:V}{u:Value}(r:RelV y u)(f:uL y=true):eqU x u=eqV y x:=by
 cases y with
 |fE=>cases r;rfl
 |bl b=>cases r;rfl
 |int i=>obtain ⟨t,rfl⟩:=r;rfl
 |str z=>obtain ⟨t,rfl⟩:=r;rfl
 |_=>exact absurd (show false=true from f) Bool.false_ne_true
def Ju{x:V}:∀{xs:List V} {us:List Value},Vals xs us->xs.all uL=true->us.any (eqU x)=xs.any λ y=>eqV y x
 |_,_,.nil,_=>rfl
 |y::xs,u::us,.cons r t,f=>by rw[List.all_cons,Bool.and_eq_true] at f;rw[List.any_cons,List.any_cons,aba r f.1,Ju t f.2]
def CH{A:Around}{s:Shared}{x:V}{v:Value}(rx:RelV x v)(fx:uL x=true):∀{xs:List V} {us:List Value},Vals xs us->xs.all uL=true->∀u∈us,SeqAt.EqAt A s u v (eqU x u)
 |_,_,.nil,_=>λ u hu=>by cases hu
 |y::xs,u::us,.cons r t,f=>λ u' hu=>by
  rw[List.all_cons,Bool.and_eq_true] at f;rcases List.mem_cons.mp hu with rfl|hu
  ·rw[aba r f.1];exact ai8 r rx f.1 fx
  ·exact CH rx fx t f.2 u' hu
def inV(x:V)(xs:List V):Bool:=xs.any λ y=>eqV y x
def rIn(K:W.Frag)(neg:Bool):R2:=λ x y H Q=>∃p xs,y= .ref p/\(rJ K H p xs\/yx K H p xs)/\uL x=true/\xs.all uL=true/\Q (.bl (if neg then !inV x xs else inV x xs)) H
def HK:qp X (compareOp .NotIn) (rIn X.K true):=by
 intro pins s σ H x y v u Q I rx ry h;obtain ⟨p,xs,rfl,hq,fx,fs,q⟩:=h;cases ry;rcases hq with hq|hq
 ·obtain ⟨its,r,pl,hz⟩:=I.list hq;refine SeqAt.notIn_listAt (eqU x) pl.isList (λ w hw=>CH rx fx r fs w (by simpa using hw)) ⟨.bl _,H,I,rfl,?_⟩;rw[show its.toArray.any (eqU x)=its.any (eqU x) by simp,Ju r fs];exact q
 ·obtain ⟨its,r,pl,hz⟩:=I.tuple hq;refine SeqAt.notIn_tupleAt (eqU x) pl (λ w hw=>CH rx fx r fs w (by simpa using hw)) ⟨.bl _,H,I,rfl,?_⟩;rw[show its.toArray.any (eqU x)=its.any (eqU x) by simp,Ju r fs];exact q
def Fi:yr X (.type "tuple") (λ xs H Q=>∃p ys,xs=[.ref p]/\((rJ X.K H p ys/\∀l,H l=none->Q (.ref l) (upd H l (.tup ys)))\/(yx X.K H p ys/\Q (.ref p) H))):=by
 intro pins s σ H xs us Q I r h;obtain ⟨p,ys,rfl,h⟩:=h;obtain ⟨u,rfl,rx⟩:=vals1 r;cases rx;rcases h with ⟨hq,q⟩|⟨hq,q⟩
 ·obtain ⟨its,r',pl,hz⟩:=I.list hq;have hlen:=r'.length;refine call_tuple_list pl.isList (λ h' kp=>?_) (by simp only[List.size_toArray]<;>omega);have I1:Inv X pins σ H {s with heap:=h'}:=I.kept (t':=s.toks) kp;have I2:Inv X pins σ (upd H h'.objs.size (.tup ys)) {s with heap:=h'.push {cls:= .type "tuple",data:= .seq its.toArray}}:=
   I1.laid (t':=s.toks) (λ b o e=>Heap.get?_push_of_some _ e) (Nat.le_refl _) (show dM X.prog X.w _ _ _ (.tup ys) from ⟨hz,its,r',IsTup.new _ _⟩)
  exact ⟨.ref h'.objs.size,_,I2,rfl,q _ (I1.hok.fresh (Nat.le_refl _))⟩
 ·obtain ⟨its,r',pl,hz⟩:=I.tuple hq;exact call_tuple_same pl ⟨.ref p,H,I,rfl,q⟩
def tyV(K:W.Frag)(T:String)(x:V)(H:Hp):Prop:=match x with
 | .str _=>T="str"
 | .int _=>T="int"
 | .ref p=>(T="list"/\∃xs,rJ K H p xs)\/(T="tuple"/\∃o,K.lookup p=some o/\o.cls= .type "tuple"/\o.dict=none)\/(T="dict"/\((∃kvs,H p=some (.dK kvs))\/∃kvs,H p=some (.dT kvs)))\/(T="set"/\∃S n,H p=some (.set S n))
 |_=>False
def YJ{pins:List (Addr×Obj)}{σ:St}{H:Hp}{s:Shared}{T:String}{x:V}{v:Value}(I:Inv X pins σ H s)(r:RelV x v)(ty:tyV X.K T x H):
  s.TypeIs v T/\∀a,v= .ref a->∃ob,s.heap.get? a=some ob/\ob.dict=none:=by
 cases x with
 |str z=>obtain ⟨t,rfl⟩:=r;cases (show T="str" from ty);exact ⟨typeIs_str s z t,λ _ e=>nomatch e⟩
 |int i=>obtain ⟨t,rfl⟩:=r;cases (show T="int" from ty);exact ⟨typeIs_int s i t,λ _ e=>nomatch e⟩
 |ref p=>
  cases r;rcases ty with ⟨rfl,xs,hq⟩|⟨rfl,o,hk,hc,hd⟩|⟨rfl,hk⟩|⟨rfl,S,n,hk⟩
  ·obtain ⟨its,_,pl,_⟩:=I.list hq;refine ⟨pl.isList.typeIs,λ a e=>?_⟩;cases e;obtain ⟨o,n,e,c,hd,_⟩:=pl;exact ⟨o,e,hd⟩
  ·refine ⟨⟨o,I.zZ p o hk,hc⟩,λ a e=>?_⟩;cases e;exact ⟨o,I.zZ _ o hk,hd⟩
  ·have z:∃o,s.heap.get? p=some o/\o.ExactDict:=by
    rcases hk with ⟨kvs,hk⟩|⟨kvs,hk⟩
    ·obtain ⟨_,_,_,_,o,_,_,e,ex,_⟩:=I.hok p _ hk;exact ⟨o,e,ex⟩
    ·obtain ⟨_,_,_,_,o,_,_,e,ex,_⟩:=I.hok p _ hk;exact ⟨o,e,ex⟩
   obtain ⟨o,e,ex⟩:=z;refine ⟨⟨o,e,ex.1⟩,λ a e2=>?_⟩;cases e2;exact ⟨o,e,ex.2.1⟩
  ·obtain ⟨o,_,_,_,e,ex,_⟩:=I.hok p _ hk;refine ⟨⟨o,e,ex.1⟩,λ a e2=>?_⟩;cases e2;exact ⟨o,e,ex.2.1⟩
 |_=>exact False.elim ty
def apw(K:W.Frag)(T:String)(r:V->List V->Hp->VK->Prop)(to:TE):TE:=λ σ H Q=>to σ H λ x H1=>tyV K T x H1/\r x [] H1 Q
def tBM(K:W.Frag)(T:String)(r:V->List V->Hp->VK->Prop)(to:TE)(t:TA):TE:=λ σ H Q=>to σ H λ x H1=>tyV K T x H1/\t σ H1 λ xs H2=>r x xs H2 Q
variable{o e:Expr}{es:List Expr}{to:TE}{t:TA}{name:Str}{apos cpos:Pos}{T id:String}{r:V->List V->Hp->VK->Prop}
def ah8(pa:PlainAttrs T)(slot:Slot T name id)(hty:typeOf (.builtin id)=pure (.type "method_descriptor"))(hm:MtR X id r)(ho:PE X o to) (hbase:attributeBase o name X.env (eval o X.env)=eval o X.env:=by rfl) (hline:(apos.endLine==cpos.line)=true:=by rfl):PE X (.Call (.Attribute o name apos) [] [] cpos) (apw X.K T r to):=by intro pins s σ H Q I h;refine wpAny_Call_method0_late hbase hline (gC (ho pins s σ H _ I h) λ v s1 ⟨x,H1,I1,r1,ty,q1⟩=>?_);obtain ⟨h1,h2⟩:=YJ I1 r1 ty;exact ⟨T,id,pa,slot,hty,h1,h2,Calls.callWith_builtin rfl (PySem.evalArgs_none (hm pins s1 σ H1 x [] v [] Q I1 r1 .nil q1))⟩
def agg(pa:PlainAttrs T)(slot:Slot T name id)(hty:typeOf (.builtin id)=pure (.type "method_descriptor"))(hm:MtR X id r)(ho:PE X o to)(ha:PA X (e::es) t) (hbase:attributeBase o name X.env (eval o X.env)=eval o X.env:=by rfl) (hfew:((backTo cpos (starEach (e::es) X.env)).all (λ x=>!x.1)&&(backToKw cpos (keywordEach [] X.env)).all (λ x=>x.1.isSome)
   &&decide ((e::es).length+([]:List Keyword).length+(if ([]:List Keyword).isEmpty then 0 else 1)<30))=true:=by rfl)
  (hline:(apos.endLine==cpos.line)=true:=by rfl) (hs:starEach (e::es) X.env=(false,eval e X.env)::starEach es X.env:=by rfl) (hplain:(backTo cpos (starEach es X.env)).any (·.1)=false:=by rfl):
  PE X (.Call (.Attribute o name apos) (e::es) [] cpos) (tBM X.K T r to t):=by
 intro pins s σ H Q I h;refine wpAny_Call_method_late hbase hfew hline rfl (gC (ho pins s σ H _ I h) λ v s1 ⟨x,H1,I1,r1,ty,q1⟩=>?_);obtain ⟨h1,h2⟩:=YJ I1 r1 ty;refine ⟨T,id,pa,slot,hty,h1,h2,?_⟩;have hA:=ha cpos pins s1 σ H1 _ I1 q1;rw[hs] at hA ⊢;refine Calls.callWith_builtin (by show (false||(backTo cpos (starEach es X.env)).any (·.1))=false;rw[hplain]<;>rfl) (Calls.evalArgs_plain ?_);exact gC hA λ us s2 ⟨vs,H2,I2,r2,q2⟩=>hm pins s2 σ H2 x vs v us Q I2 r1 r2 q2
end
def MtM(X:Cx)(id:String)(r:V->List V->Hp->VK->Prop):Prop:=∀(pins:List (Addr×Obj)) (s:Shared) (σ:St) (H:Hp) (x:V) (xs:List V) (v:Value) (us:List Value) (Q:VK),Inv X pins σ H s->RelV x v->Vals xs us->r x xs H Q->wpAny (model X.prog X.w) X.A (call (.builtin id) (v::us)) (EP X pins σ Q) X.xe s
def Vals.one:∀{x:V} {us:List Value},Vals [x] us->∃u,us=[u]/\RelV x u
 |_,_,.cons r .nil=>⟨_,rfl,r⟩
def Vals.zero:∀{us:List Value},Vals [] us->us=[]
 |_,.nil=>rfl
section
variable{X:Cx}{pins:List (Addr×Obj)}{σ:St}{H:Hp}{s:Shared}{l b:Addr}{xs ys zs:List V}
def Inv.aiC{its its':List Value}{n:Nat}{f:Array Value->Array Value}{t':Nat}(I:Inv X pins σ H s)(hH:H l=some (.lst xs)) (e:s.heap.get? l=some {cls:= .type "list",data:= .seq its.toArray n}) (hf:f its.toArray=its'.toArray) (hv:Vals ys its') (hz:ys.length<=sizeLine):
  Inv X pins σ (upd H l (.lst ys)) {s with heap:=s.heap.update l (Obj.mapSeq f),toks:=t'}:=by
 have q:=PySem.IsL.update e f;rw[hf] at q;refine I.write (x:=l) (e:=l) (by rw[hH];exact trivial) (.inl rfl) (λ b' u hb hu=>(Heap.get?_update_other s.heap (Obj.mapSeq f) (Ne.symm hb)).trans hu) ⟨_,q⟩ ?_;exact ⟨hz,its',_,hv,q⟩
def Inv.ap0{its:List Value}{t':Nat}(I:Inv X pins σ H s)(hv:Vals ys its)(hz:ys.length<=sizeLine):
  Inv X pins σ (upd H s.heap.objs.size (.lst ys)) {s with heap:=s.heap.push {cls:= .type "list",data:= .seq its.toArray},toks:=t'}:=
 I.laid (λ _ _ q=>Heap.get?_push_of_some _ q) (Nat.le_refl _) ⟨hz,its,0,hv,Heap.get?_push_size _ rfl⟩
def Inv.fresh(I:Inv X pins σ H s):H s.heap.objs.size=none:=I.hok.fresh (Nat.le_refl _)
def Inv.aeR(I:Inv X pins σ H s)(hH:H l=some (.lst xs)):xs.length<=sizeLine/\∃(its:List Value) (n:Nat),Vals xs its/\xs.length=its.length/\s.heap.get? l=some {cls:= .type "list",data:= .seq its.toArray n}:=by obtain ⟨z,its,n,r,e⟩:=I.hok l _ hH;exact ⟨z,its,n,r,r.length,e⟩
def ZP{n:Nat}(h:n<=sizeLine):Builtin.List.listTooLong n=false:=by unfold Builtin.List.listTooLong;exact decide_eq_false (by omega)
end
section
variable{X:Cx}
def ad9:V->List V->Hp->VK->Prop:=λ x vs H Q=>∃l xs y,x= .ref l/\vs=[y]/\H l=some (.lst xs)/\xs.length<sizeLine/\Q .fE (upd H l (.lst (xs++[y])))
def Gh:MtM X "list.append" ad9:=by intro pins s σ H x vs v us Q I rx rv h;obtain ⟨l,xs,y,rfl,rfl,hH,hz,q⟩:=h;cases rx;obtain ⟨u,rfl,ru⟩:=rv.one;obtain ⟨z,its,n,r,hl,e⟩:=I.aeR hH;refine call_meets F.slot_list_append ⟨_,e,rfl⟩ F.entry_list_append (F.args_list_append_2 _ _) (PySem.list_append l its.toArray n u (by rw[List.size_toArray];omega)) ⟨e,?_⟩;refine ⟨.fE,_,I.aiC (its':=its++[u]) hH e (by simp) (r.append (.cons ru .nil)) ?_,rfl,q⟩;rw[List.length_append,List.length_singleton];omega
def ad7:V->List V->Hp->VK->Prop:=λ x vs H Q=>∃l b xs zs,x= .ref l/\vs=[.ref b]/\H l=some (.lst xs)/\H b=some (.lst zs)/\xs.length+zs.length<=sizeLine/\Q .fE (upd H l (.lst (xs++zs)))
def Wr:MtM X "list.extend" ad7:=by
 intro pins s σ H x vs v us Q I rx rv h;obtain ⟨l,b,xs,zs,rfl,rfl,hH,hB,hz,q⟩:=h;cases rx;obtain ⟨u,rfl,ru⟩:=rv.one;cases ru;obtain ⟨z,its,n,r,hl,e⟩:=I.aeR hH;obtain ⟨z2,its2,n2,r2,hl2,e2⟩:=I.aeR hB;have hsz:its.toArray.size+its2.toArray.size<=sizeLine:=by rw[List.size_toArray,List.size_toArray];omega
 have ame:¬(!its.toArray.isEmpty&&Builtin.List.listTooLong (its.toArray.size+its2.toArray.size))=true:=by rw[ZP hsz,Bool.and_false];exact Bool.false_ne_true
 refine call_meets F.slot_list_extend ⟨_,e,rfl⟩ F.entry_list_extend (F.args_list_extend_2 _ _)
  (AutoSeq1.list_extend_list_list_0 l its.toArray n b its2.toArray n2 ame (by rw[List.size_toArray];omega) (by omega)) ⟨e,e2,?_⟩
 refine ⟨.fE,_,I.aiC (its':=its++its2) hH e (by simp) (r.append r2) ?_,rfl,q⟩;rw[List.length_append];omega
def ahS:V->List V->Hp->VK->Prop:=λ x vs H Q=>∃l xs,x= .ref l/\vs=[]/\H l=some (.lst xs)/\Q .fE (upd H l (.lst []))
def ZZ:MtM X "list.clear" ahS:=by intro pins s σ H x vs v us Q I rx rv h;obtain ⟨l,xs,rfl,rfl,hH,q⟩:=h;cases rx;have hus:=rv.zero;subst hus;obtain ⟨z,its,n,r,hl,e⟩:=I.aeR hH;refine call_meets F.slot_list_clear ⟨_,e,rfl⟩ F.entry_list_clear (F.args_list_clear_1 _) (AutoSeq1.list_clear_list_0 l its.toArray n (by rw[List.size_toArray];omega)) ⟨e,?_⟩;exact ⟨.fE,_,I.aiC (its':=[]) (ys:=[]) hH e rfl .nil (Nat.zero_le _),rfl,q⟩
end
section
variable{prog:Program}{w:World}{A:Around}{E:Value->Shared->Prop}{s:Shared}
end
section
variable{X:Cx}
end
section
variable{κ:Type} [DecidableEq κ]
noncomputable def rR(kvs:List (κ×V))(k:κ):Option V:=(kvs.find? λ kv=>decide (kv.1=k)).map (·.2)
def putK(kvs:List (κ×V))(k:κ)(v:V):List (κ×V):=if (kvs.any λ kv=>decide (kv.1=k))=true then kvs.map (λ kv=>if kv.1=k then (kv.1,v) else kv) else kvs++[(k,v)]
def akU{k:κ}:rR ([]:List (κ×V)) k=none:=rfl
def BK{p:κ×V}{r:List (κ×V)}{k:κ}(e:p.1=k):rR (p::r) k=some p.2:=by simp[rR,List.find?_cons,e]
def BL{p:κ×V}{r:List (κ×V)}{k:κ}(e:¬p.1=k):rR (p::r) k=rR r k:=by simp[rR,List.find?_cons,e]
def JQ(k:κ):∀kvs:List (κ×V),(kvs.any λ kv=>decide (kv.1=k))=(rR kvs k).isSome
 |[]=>rfl
 |p::r=>by
  rw[List.any_cons];by_cases e:p.1=k
  ·simp only[BK e,decide_eq_true e,Bool.true_or,Option.isSome_some]
  ·rw[BL e,decide_eq_false e,Bool.false_or];exact JQ k r
def zX(kvs:List (κ×V))(k:κ)(v:V):(putK kvs k v).length<=kvs.length+1:=by
 unfold putK;split
 ·rw[List.length_map];omega
 ·rw[List.length_append,List.length_cons,List.length_nil];omega
def uD.W5{o:Option V}{u:Option Value}(r:uD o u):o.isSome=u.isSome:=by
 cases o with
 |none=>cases u with
  |none=>rfl
  |some _=>exact (show False from r).elim
 |some _=>cases u with
  |none=>exact (show False from r).elim
  |some _=>rfl
def uD.getD{o:Option V}{u:Option Value}{d:V}{d':Value}(r:uD o u)(rd:RelV d d'):RelV (o.getD d) (u.getD d'):=by
 cases o with
 |none=>cases u with
  |none=>exact rd
  |some _=>exact (show False from r).elim
 |some _=>cases u with
  |none=>exact (show False from r).elim
  |some _=>exact r
def KV.val{kvs:List (κ×V)}{vs:List (κ×Value)}(r:KV kvs vs)(k:κ):uD (rR kvs k) (valueAt vs k):=by
 unfold KV at r;induction r with
 |nil=>exact True.intro
 | @cons p q ps qs h t ih=>
  obtain ⟨h1,h2⟩:=h;by_cases e:p.1=k
  ·have e':q.1=k:=h1.symm.trans e;have b:valueAt (q::qs) k=some q.2:=by simp[valueAt,List.find?_cons,e']
   rw[BK e,b];exact h2
  ·have e':¬q.1=k:=λ z=>e (h1.trans z);have b:valueAt (q::qs) k=valueAt qs k:=by simp[valueAt,List.find?_cons,e']
   rw[BL e,b];exact ih
def KV.any{kvs:List (κ×V)}{vs:List (κ×Value)}(r:KV kvs vs)(k:κ):(kvs.any λ kv=>decide (kv.1=k))=vs.any λ kv=>decide (kv.1=k):=by
 unfold KV at r;induction r with
 |nil=>rfl
 |cons h t ih=>rw[List.any_cons,List.any_cons,ih,h.1]
def KV.repl{kvs:List (κ×V)}{vs:List (κ×Value)}(r:KV kvs vs)(k:κ){y:V}{u:Value}(ry:RelV y u):
  KV (kvs.map λ kv=>if kv.1=k then (kv.1,y) else kv) (vs.map λ kv=>if kv.1=k then (kv.1,u) else kv):=by
 unfold KV at r ⊢;induction r with
 |nil=>exact .nil
 | @cons p q ps qs h t ih=>
  rw[List.map_cons,List.map_cons];refine .cons ?_ ih;obtain ⟨h1,h2⟩:=h;by_cases e:p.1=k
  ·rw[if_pos e,if_pos (h1.symm.trans e)];exact ⟨h1,ry⟩
  ·rw[if_neg e,if_neg (λ z=>e (h1.trans z))];exact ⟨h1,h2⟩
def KV.put{kvs:List (κ×V)}{vs:List (κ×Value)}(r:KV kvs vs)(k:κ){y:V}{u:Value}(ry:RelV y u):KV (putK kvs k y) (stored vs k u):=by
 unfold putK stored;rw[r.any k];by_cases e:(vs.any λ kv=>decide (kv.1=k))=true
 ·rw[if_pos e,if_pos e];exact r.repl k ry
 ·rw[if_neg e,if_neg e];exact Paired.snoc r ⟨rfl,ry⟩
def KV.length{kvs:List (κ×V)}{vs:List (κ×Value)}(r:KV kvs vs):kvs.length=vs.length:=Paired.length r
end
def aay{P:Program}{w:World}{k:Key}{u:Value}(r:RelV (kV k) u):(ff P w).is k u=true:=by
 cases k with
 |inl i=>obtain ⟨t,e⟩:=(show ∃t,u=Value.int i t from r);subst e;exact KI P w i t
 |inr x=>obtain ⟨t,e⟩:=(show ∃t,u=Value.str x t from r);subst e;exact KH P w x t
def Gu{P:Program}{w:World}:∀{ks:List Key} {us:List Value},Vals (ks.map kV) us->ItemsAre (ff P w) ks us
 |[],_,r=>by rw[List.map_nil] at r;cases r;exact .nil
 |k::ks,_,r=>by
  rw[List.map_cons] at r;cases r with
  |cons h t=>exact .cons (aay h) (Gu t)
abbrev KT(H:Hp):List (List Key×V)->List (List Key×Addr×Value)->Prop:=Paired λ p q=>p.1=q.1/\H q.2.1=some (.tup (p.1.map kV))/\RelV p.2 q.2.2
def KT.val{H:Hp}{kvs:List (List Key×V)}{xs:List (List Key×Addr×Value)}(r:KT H kvs xs)(k:List Key):uD (rR kvs k) ((atKey xs k).map (·.2)):=by
 induction r with
 |nil=>exact True.intro
 | @cons p q ps qs h t ih=>
  obtain ⟨h1,_,h2⟩:=h;by_cases e:p.1=k
  ·have e':q.1=k:=h1.symm.trans e;have b:atKey (q::qs) k=some q.2:=by simp[atKey,List.find?_cons,e']
   rw[BK e,b];exact h2
  ·have e':¬q.1=k:=λ z=>e (h1.trans z);have b:atKey (q::qs) k=atKey qs k:=by simp[atKey,List.find?_cons,e']
   rw[BL e,b];exact ih
def KT.repl{H:Hp}{kvs:List (List Key×V)}{xs:List (List Key×Addr×Value)}(r:KT H kvs xs)(k:List Key){y:V}{u:Value}(ry:RelV y u):
  KT H (kvs.map λ kv=>if kv.1=k then (kv.1,y) else kv) (xs.map (putAt k u)):=by
 induction r with
 |nil=>exact .nil
 | @cons p q ps qs h t ih=>
  rw[List.map_cons,List.map_cons];refine .cons ?_ ih;obtain ⟨h1,h2,h3⟩:=h;unfold putAt;by_cases e:p.1=k
  ·rw[if_pos e,if_pos (h1.symm.trans e)];exact ⟨h1,h2,ry⟩
  ·rw[if_neg e,if_neg (λ z=>e (h1.trans z))];exact ⟨h1,h2,h3⟩
def KT.put{H:Hp}{kvs:List (List Key×V)}{xs:List (List Key×Addr×Value)}(r:KT H kvs xs)(k:List Key){b:Addr}{y:V}{u:Value}(hb:H b=some (.tup (k.map kV)))(ry:RelV y u):
  KT H (putK kvs k y) (storedH xs k b u):=by
 have e:(kvs.any λ kv=>decide (kv.1=k))=(atKey xs k).isSome:=by rw[JQ,(r.val k).W5,Option.isSome_map]
 unfold putK storedH;rw[e];by_cases q:(atKey xs k).isSome=true
 ·rw[if_pos q,if_pos q];exact r.repl k ry
 ·rw[if_neg q,if_neg q];exact Paired.snoc r ⟨rfl,hb,ry⟩
def KT.keeps{H H':Hp}{kvs:List (List Key×V)}{xs:List (List Key×Addr×Value)}(r:KT H kvs xs)(ht:∀b ys,H b=some (.tup ys)->H' b=some (.tup ys)):KT H' kvs xs:=Paired.aeP r λ _ _ z=>⟨z.1,ht _ _ z.2.1,z.2.2⟩
section
variable{P:Program}{w:World}{H:Hp}{h:Heap}{a:Addr}
def aga{u:HO}(ok:uE P w H h)(e:Rd H a u):dM P w H h a u:=e.ok ok
def abh{kvs:List (Key×V)}(ok:uE P w H h)(e:Rd H a (.dK kvs)):kvs.length<=sizeLine/\(a==sysModules)=false/\∃vs,KV kvs vs/\h.DictOf (ff P w) a vs:=show dM P w H h a (.dK kvs) from aga ok e
def amA{kvs:List (Key×V)}(ok:uE P w H h)(e:H a=some (.dK kvs)):kvs.length<=sizeLine/\(a==sysModules)=false/\∃vs,KV kvs vs/\h.DictOf (ff P w) a vs:=abh ok (.inl e)
def NK{ks:List Key}(ok:uE P w H h)(e:H a=some (.tup (ks.map kV))):(tupleKind (ff P w)).is h ks a:=by obtain ⟨_,its,r,o,h1,h2,n,h3⟩:=(show dM P w H h a (.tup (ks.map kV)) from ok a _ e);exact ⟨o,its.toArray,n,h1,h2,h3,by simpa using Gu r⟩
def abd{kvs:List (List Key×V)}(ok:uE P w H h)(e:Rd H a (.dT kvs)):kvs.length<=sizeLine/\(a==sysModules)=false/\∃xs,KT H kvs xs/\h.DictOfH (tupleKind (ff P w)) a xs:=by
 obtain ⟨z,y,xs,r,o,es,ep,h1,h2,h3,h4,h5⟩:=(show dM P w H h a (.dT kvs) from aga ok e);refine ⟨z,y,xs,r,o,es,ep,h1,h2,h3,h4,λ x hx=>?_,h5⟩;have all:∀{l:List (List Key×V)} {m:List (List Key×Addr×Value)},KT H l m->∀x∈m,(tupleKind (ff P w)).is h x.1 x.2.1:=by
  intro l m q;induction q with
  |nil=>intro x hx;exact nomatch hx
  | @cons p q ps qs hq t ih=>
   intro x hx;rcases List.mem_cons.mp hx with e|hx
   ·subst e;exact NK ok (by rw[<-hq.1];exact hq.2.1)
   ·exact ih x hx
 exact all r x hx
def amy{kvs:List (List Key×V)}(ok:uE P w H h)(e:H a=some (.dT kvs)):kvs.length<=sizeLine/\(a==sysModules)=false/\∃xs,KT H kvs xs/\h.DictOfH (tupleKind (ff P w)) a xs:=abd ok (.inl e)
end
def anK(H:Hp)(a:Addr)(y:V)(r:Option V):Prop:=(∃kvs k,Rd H a (.dK kvs)/\y=kV k/\r=rR kvs k)\/∃kvs k b,Rd H a (.dT kvs)/\y= .ref b/\H b=some (.tup (k.map kV))/\r=rR kvs k
def anJ(H:Hp)(a:Addr)(y v:V)(H':Hp):Prop:=(∃kvs k,H a=some (.dK kvs)/\y=kV k/\kvs.length<sizeLine/\H'=upd H a (.dK (putK kvs k v)))\/∃kvs k b,H a=some (.dT kvs)/\y= .ref b/\H b=some (.tup (k.map kV))/\kvs.length<sizeLine/\H'=upd H a (.dT (putK kvs k v))
section
variable{X:Cx}{pins:List (Addr×Obj)}{σ:St}{H:Hp}{s:Shared}{a:Addr}{y v:V}{u r:Value}{o:Option V}{A:Around}{E:Value->Shared->Prop}
def Inv.big(I:Inv X pins σ H s):sysModules<s.heap.objs.size:=by have h:mainGlobals<s.heap.objs.size:=(I.mod.glob.keeps I.bk).lt;exact Nat.lt_trans (by decide) h
def Va{h':Heap}{t':Nat}{ob:HO}(I:Inv X pins σ H s)(mu:Mut (H a))(hs:Heap.SameBut a s.heap h')(he:∃q,h'.get? a=some q)(new:dM X.prog X.w (upd H a ob) h' a ob):
  Inv X pins σ (upd H a ob) {s with heap:=h',toks:=t'}:=
 I.write (x:=a) (e:=a) mu (.inl rfl) (λ b q hb z=>(hs.2 b hb).trans z) he new
def ajc{P:Program}{w:World}{H':Hp}{h':Heap}{kvs:List (Key×V)}{vs:List (Key×Value)}(z:kvs.length<=sizeLine)(hd:(a==sysModules)=false)(rel:KV kvs vs)(dd:h'.DictOf (ff P w) a vs):
  dM P w H' h' a (.dK kvs):=⟨z,hd,vs,rel,dd⟩
def Xz{H':Hp}{Q:Unit->Shared->Prop}(hu:A.units+1<cLine)(I:Inv X pins σ H s)(g:anJ H a y v H')(ry:RelV y u)(rv:RelV v r)(h:∀s',Inv X pins σ H' s'->Q () s'):
  wpAny (model X.prog X.w) A (setItem (.ref a) u r) Q E s:=by
 rcases g with ⟨kvs,k,e,ey,l,eH⟩|⟨kvs,k,b,e,ey,eb,l,eH⟩
 ·subst ey eH;obtain ⟨z,hd,vs,rel,dd⟩:=amA I.hok e;have hz:vs.length<=sizeLine:=by rw[<-rel.length];exact z
  have hl:(putK kvs k v).length<=sizeLine:=by have:=zX kvs k v;omega
  refine wpAny_setItem_pairs (hsz:=hz) (aay ry) dd λ h' dd' hs=>h _ ?_;have he:∃q,h'.get? a=some q:=let ⟨q,_,_,hq,_⟩:=dd';⟨q,hq⟩
  exact Va I (by rw[e];exact True.intro) hs he (ajc hl hd (rel.put k rv) dd')
 ·subst ey eH;cases (show u=Value.ref b from ry);obtain ⟨z,hd,xs,rel,dd⟩:=amy I.hok e;have hz:xs.length<=sizeLine:=by rw[<-Paired.length rel];exact z
  have hl:(putK kvs k v).length<=sizeLine:=by have:=zX kvs k v;omega
  refine wpAny_setItem_heap (hsz:=hz) (tupleKind_room_in1 hu) (NK I.hok eb) dd λ h' dd' hs=>h _ ?_;obtain ⟨q,es,ep,hq,h2,h3,h4,_,h5⟩:=dd';refine Va I (by rw[e];exact True.intro) hs ⟨q,hq⟩ ⟨hl,hd,_,(rel.put k eb rv).keeps λ c ys ec=>?_,q,es,ep,hq,h2,h3,h4,h5⟩;rw[aE (alW ec e (λ z=>nomatch z))];exact ec
end
section
variable{X:Cx}{pins:List (Addr×Obj)}{σ:St}{H:Hp}{s:Shared}{a:Addr}{kvs:List (Key×V)}{k:Key}{u:Value}{A:Around}{E:Value->Shared->Prop}
end
def alk(td ty tv:TE):TS:=λ D σ H=>tv σ H λ v H1=>td σ H1 λ x H2=>ty σ H2 λ y H3=>∃a H4,x= .ref a/\anJ H3 a y v H4/\D.nx σ H4
section
variable{X:Cx}{o i e value:Expr}{pos pos' tpos:Pos}{td ty tv:TE}
def aed(hu:X.A.units+1<cLine)(ho:PE X o td)(hi:PE X i ty)(hv:PE X value tv)(hs:swapsWith value (some (.Subscript o i pos')) pos.line X.env=pure false):
  PS X (.Assign [.Subscript o i pos'] value pos) (alk td ty tv):=by
 intro pins s σ H D I h;refine wpAny_Assign_Subscript (gC (hv pins s σ H _ I h) λ r s1 ⟨v,H1,I1,rv,q1⟩=>gC (ho pins s1 σ H1 _ I1 q1) λ u s2 ⟨x,H2,I2,rx,q2⟩=>gC (hi pins s2 σ H2 _ I2 q2) λ iv s3 ⟨y,H3,I3,ry,a,H4,ex,g,q3⟩=>?_) hs;subst ex;obtain rfl:u=Value.ref a:=rx;exact Xz hu I3 g ry rv λ s4 I4=>⟨σ,H4,I4,q3⟩
end
def abe{P:Program}{w:World}{H:Hp}(h:Heap)(hb:sysModules<h.objs.size):dM P w H (h.push {cls:= .type "dict",data:= .dict #[]}) h.objs.size (.dT []):=⟨Nat.zero_le _,beq_eq_false_iff_ne.mpr (Ne.symm (Nat.ne_of_lt hb)),[],.nil,_, #[],0,Heap.get?_push_size _ rfl,⟨rfl,rfl,rfl⟩,rfl,rfl,List.nodup_nil⟩
def ahC:TE:=λ _ H Q=>∀p,H p=none->Q (.ref p) (upd H p (.dT []))
section
variable{X:Cx}{pos:Pos}
def Zt:PE X (.Dict [] [] pos) ahC:=λ pins s σ H Q I h=>wpAny_Dict_empty ⟨.ref s.heap.objs.size,_,I.laid (a:=s.heap.objs.size) (o:= .dT []) (t':=s.toks) (λ _ _ q=>Heap.get?_push_of_some _ q) (Nat.le_refl _) (abe s.heap I.big),rfl,h _ (I.hok.fresh (Nat.le_refl _))⟩
end
structure M1(X:Cx)(o:Expr)(m:Str)(apos:Pos)(e:Expr)(cpos:Pos):Prop where
 base:attributeBase o m X.env (eval o X.env)=eval o X.env
 few:((backTo cpos (starEach [e] X.env)).all (λ x=>!x.1)&&(backToKw cpos (keywordEach [] X.env)).all (λ x=>x.1.isSome)
  &&decide (([e]:List Expr).length+([]:List Keyword).length+(if ([]:List Keyword).isEmpty then 0 else 1)<30))=true
 line:(apos.endLine==cpos.line)=true
 trees:backTo cpos (starEach [e] X.env)=[(false,eval e X.env)]
structure M2(X:Cx)(o:Expr)(m:Str)(apos:Pos)(e f:Expr)(cpos:Pos):Prop where
 base:attributeBase o m X.env (eval o X.env)=eval o X.env
 few:((backTo cpos (starEach [e,f] X.env)).all (λ x=>!x.1)&&(backToKw cpos (keywordEach [] X.env)).all (λ x=>x.1.isSome)
  &&decide (([e,f]:List Expr).length+([]:List Keyword).length+(if ([]:List Keyword).isEmpty then 0 else 1)<30))=true
 line:(apos.endLine==cpos.line)=true
 trees:backTo cpos (starEach [e,f] X.env)=[(false,eval e X.env),(false,eval f X.env)]
def IsD(H:Hp)(a:Addr):Prop:=(∃kvs,Rd H a (.dK kvs))\/∃kvs,Rd H a (.dT kvs)
def aaH{X:Cx}{pins:List (Addr×Obj)}{σ:St}{H:Hp}{s:Shared}{a:Addr}(I:Inv X pins σ H s)(d:IsD H a):
  s.TypeIs (.ref a) "dict"/\(∀b,Value.ref a= .ref b->∃ob,s.heap.get? b=some ob/\ob.dict=none)/\(a==sysModules)=false:=by
 rcases d with ⟨kvs,e⟩|⟨kvs,e⟩
 ·obtain ⟨_,hd,vs,_,dd⟩:=abh I.hok e;refine ⟨dd.typeIs,λ b q=>?_,hd⟩;cases q;obtain ⟨ob,_,_,h1,h2,_⟩:=dd;exact ⟨ob,h1,h2.2.1⟩
 ·obtain ⟨_,hd,xs,_,dd⟩:=abd I.hok e;refine ⟨dd.typeIs,λ b q=>?_,hd⟩;cases q;obtain ⟨ob,_,_,h1,h2,_⟩:=dd;exact ⟨ob,h1,h2.2.1⟩
section
variable{X:Cx}{pins:List (Addr×Obj)}{σ:St}{H:Hp}{s:Shared}{a:Addr}{y d:V}{u r:Value}{o:Option V}{A:Around}{E:Value->Shared->Prop}
def aje{Q:Value->Shared->Prop}(hu:A.units+1<cLine)(I:Inv X pins σ H s)(g:anK H a y o)(ry:RelV y u)(h:∀w' s',Inv X pins σ H s'->RelV (o.getD .fE) w'->Q w' s'):
  wpAny (model X.prog X.w) A (call (.builtin "dict.get") [.ref a,u]) Q E s:=by
 rcases g with ⟨kvs,k,e,ey,l⟩|⟨kvs,k,b,e,ey,eb,l⟩
 ·subst ey;obtain ⟨z,hd,vs,rel,dd⟩:=abh I.hok e;refine call_meetsIn PySem.F.slot_dict_get dd.typeIs PySem.F.entry_dict_get (PySem.F.args_dict_get_2 _ _) (meets_dict_get (ff X.prog X.w) a (aay ry) hd) ⟨_,dd.mapOf,h _ _ (I.tok _) ?_⟩;rw[l];exact (rel.val k).getD rfl
 ·subst ey;cases (show u=Value.ref b from ry);obtain ⟨z,hd,xs,rel,dd⟩:=abd I.hok e;refine call_meetsIn PySem.F.slot_dict_get dd.typeIs PySem.F.entry_dict_get (PySem.F.args_dict_get_2 _ _) (meetsH_dict_get (tupleKind (ff X.prog X.w)) a b hd) ⟨tupleKind_room_in1 hu,k,xs,NK I.hok eb,dd,h _ _ (I.tok _) ?_⟩;rw[l];exact (rel.val k).getD rfl
end
def ahD(td ty:TE):TE:=λ σ H Q=>td σ H λ x H1=>∃a,x= .ref a/\IsD H1 a/\ty σ H1 λ y H2=>∃o,anK H2 a y o/\Q (o.getD .fE) H2
section
variable{X:Cx}{o e f:Expr}{apos cpos:Pos}{td ty tx:TE}
def Zu(hu:X.A.units+1<cLine)(ho:PE X o td)(he:PE X e ty)(m:M1 X o "get" apos e cpos):PE X (.Call (.Attribute o "get" apos) [e] [] cpos) (ahD td ty):=by intro pins s σ H Q I h;refine wpAny_Call_method m.base m.few m.line PySem.F.plainAttrs_dict PySem.F.slot_dict_get PySem.F.type_dict_get (gC (ho pins s σ H _ I h) λ u s1 ⟨x,H1,I1,rx,a,ex,d,q1⟩=>?_);subst ex;obtain rfl:u=Value.ref a:=rx;obtain ⟨t1,t2,_⟩:=aaH I1 d;refine ⟨t1,t2,?_⟩;rw[m.trees];refine Calls.callWith_builtin rfl (Calls.evalArgs_plain (Calls.spliced_cons (gC (he pins s1 σ H1 _ I1 q1) λ iv s2 ⟨y,H2,I2,ry,ov,g,q2⟩=>Calls.spliced_nil ?_)));exact aje hu I2 g ry λ w' s3 I3 rw'=>⟨_,H2,I3,rw',q2⟩
end
section
variable{X:Cx}{pins:List (Addr×Obj)}{σ:St}{H:Hp}{s:Shared}{a:Addr}{kvs:List (Key×V)}{A:Around}{E:Value->Shared->Prop}
end
section
variable{X:Cx}{pins:List (Addr×Obj)}{σ:St}{H:Hp}{s:Shared}{a:Addr}{y:V}{u:Value}{A:Around}{E:Value->Shared->Prop}
end
end L2
namespace Att
open PySem PySem.W PySem.Calls PyProof.Rows
def AU{P:Params}{h:Heap}:∀(ns:List Int) (vs:List Value),WellAll P h vs (ns.map WData.int)->IntsAre vs ns:=by
 intro ns;induction ns with
 |nil=>intro vs w;rw[List.map_nil] at w;cases w;exact .nil
 |cons n ns ih=>
  intro vs w;rw[List.map_cons] at w;cases w with
  |cons a b=>cases a;exact .cons _ _ (ih _ b)
def VN{l:OpenLaw}{n:Nat}(hn:l.most=some n){P:Params}{h:Heap}{args:List WData}{vals:List Value} (hpre:l.row.toRowW.claim.pre args=true) (hwl:WellAll P h vals args):
  ∃a vs ns,vals=[Value.ref a]/\args=[WData.list (ns.map WData.int)]/\h.get? a=some {cls:= .type "list",data:= .seq vs.toArray}/\IntsAre vs ns/\ns.length<=n:=by
 have hsh:WShape.hasAll [] args [.list .int]=true:=(pre_splitW hpre).1;have hc:l.pre.holds [] {args:=args}=true:=(pre_splitW hpre).2;obtain ⟨d,r,rfl,h1,h2⟩:=hasAllW_cons hsh;obtain rfl:=hasAllW_nil h2;obtain ⟨xs,rfl,h3⟩:=hasW_list h1;obtain ⟨ns,rfl⟩:=items_int h3;have hlen:ns.length<=n:=by
  unfold OpenLaw.pre at hc;have h4:(WTm.not (.lt (.lit (.int (n:Int))) (.len (.arg 0)))).holds [] {args:=[.list (ns.map .int)]}=true:=by have h4:=(holds_andW hc).1;rw[hn] at h4;exact h4
  have h5:=condW_of h4 (w_not (w_lt w_lit (w_len_list (w_arg rfl))));rw[List.length_map] at h5;refine Nat.le_of_not_lt λ q=>?_;have q':(n:Int)<((ns.length:Nat):Int):=by omega
  first
   |(rw[decide_eq_true q'] at h5;exact absurd h5 (by decide))
   |(simp at h5;omega)
 cases hwl with
 |cons w1 w2=>
  cases w2;cases w1 with
  |list ho hall=>exact ⟨_,_,ns,rfl,rfl,ho,AU ns _ hall,hlen⟩
def VU(l:OpenLaw)(args:List WData):l.row.toRowW.claim.post args (.bool true) args=true:=postW_of (r:=l.row.toRowW) (X:=(true==true))
  (show WShape.has [] (.bool true) .bool=true by first|rfl|decide|simp[WShape.has,WShape.arms,WShape.armsAll])
  (show (WTm.eq .res (.lit (.bool true))).value [] {args:=args,res:=some (.bool true),after:=args}=some (.bool (true==true)) from w_eq_bool (w_res rfl) w_lit) rfl
def LB{l:OpenLaw}{n:Nat}{q:Program}{loose:List Str}{XP:(Str->Option Value)->Heap->Prop}{YP:World->Heap->Prop}{d:DefRec} (hn:l.most=some n) (hdf:d.params.defaults=[]) (call:∀(w:World) (s₀ s₁:Shared) (mg mb:Str->Option Value) (fa:Addr) (o:Obj) (pm cd doc:Value) (a:Addr) (vs:List Value) (ns:List Int),Ground q loose [] XP w s₀ mg mb s₁.heap->YP w s₁.heap->s₁.heap.get? fa=some o->o.data= .func (docDef d.name d.params d.body d.scope pm cd doc)->s₁.heap.CodeRec cd d.name->mg d.name=some (.ref fa)->s₁.heap.get? a=some {cls:= .type "list",data:= .seq vs.toArray}->IntsAre vs ns->ns.length<=n->s₁.gens= #[]->codeAny (model l.prog w) callerA (.call (.ref fa) ⟨[.ref a],[]⟩) (λ r s'=>r= .ok (.ret (.bool true))/\OldK s₁.heap s'.heap/\s'.os=s₁.os/\AllBare s'.gens) s₁):
  WalkO q loose XP YP l.row.toRowW d [] (λ f vs=>PySem.call f vs):=by
 intro w s₀ s₁ mg mb G Y fa o pm cd doc dV kV ho hd hcd hD hmg hg args vals as hpre hlay hrd hwl hlo;obtain rfl:dV= .none:=Dflts.none hD hdf;obtain rfl:kV= .none:=Dflts.noKw hD;obtain ⟨a,vs,ns,rfl,rfl,hobj,hints,hlen⟩:=VN hn hpre hwl;refine enter_call (codeAny_mono (call w s₀ s₁ mg mb fa o pm cd doc a vs ns G Y ho (fd_plain hd) hcd hmg hobj hints hlen hg) λ r s' hq=>?_);obtain ⟨rfl,h2,h3,h4⟩:=hq;exact ⟨.inl ⟨.bool true,.bool true,[],rfl,λ _=>rfl,.bool true,VU l _,λ _=>⟨List.Pairwise.nil,λ _ hm=>(nomatch hm)⟩⟩,h2,h3,h4⟩
section
variable{prog:Program}{w:World}{A:Around}{E:Value->Shared->Prop}{s:Shared}{K:Frag}
end
end Att
namespace L2
open PySem PySem.Spec PyProof.Rows
def FO:∀{vs:List Value} {ns:List Int},IntsAre vs ns->Vals (ns.map V.int) vs
 |_,_,.nil=> .nil
 |_,_,.cons n t h=> .cons ⟨t,rfl⟩ (FO h)
def ajJ(H:Hp):Prop:=∀b,H b=none\/∃o xs,H b=some (.EX o (.lst xs))
def aai{P:Program}{w:World}{K:W.Frag}{mg mb:Str->Option Value}{CX:CXT}{k:Nat}{fa a:Addr}{fd:FuncData}{x:Str}{sp:Sp}{s₁:Shared}{vs:List Value}{ns:List Int} (KX:K.In s₁.heap) (hns:s₁.heap.Ns mainGlobals mg) (hb:s₁.heap.Ns builtinsNs mb) (hbb:∀x:Str,x≠"__name__"->mb x=bootBuiltins x) (hlim:s₁.heap.NoLimit) (hg:s₁.gens= #[]) (ha:s₁.heap.get? a=some {cls:= .type "list",data:= .seq vs.toArray}) (hi:IntsAre vs ns) (hl:ns.length<=sizeLine) (hr:fD k callerA) (F:∀base:Heap,K.In base->base.Ns mainGlobals mg->TV P w K mg base CX k fa fd [x] sp) (hbind:∀(s:Shared) (u:Value),BindsTo s fd ⟨[u],[]⟩ [(x,u)]) (LJ:∀H:Hp,ajJ H->rJ K H a (ns.map V.int)->sp [.ref a] H (λ v _=>v= .bl true) λ _ _ _=>False) (hCX:∀H e s',CX [] H s₁ (λ _ _ _=>False) e s'->False):
  codeAny (model P w) callerA (.call (.ref fa) ⟨[.ref a],[]⟩) (λ r s'=>r= .ok (.ret (.bool true))/\OldK s₁.heap s'.heap/\s'.os=s₁.os/\AllBare s'.gens) s₁:=by
 have rv:=FO hi;have ap4:=hi.length
 -- from an abstract heap in which nothing but FW script may be tracked
 have core:∀H:Hp,ajJ H->rJ K H a (ns.map V.int)->uE P w H s₁.heap->(∀b,H b≠none->b=a)->(H a≠none->K.lookup a=none)->codeAny (model P w) callerA (.call (.ref fa) ⟨[.ref a],[]⟩) (λ r s'=>r= .ok (.ret (.bool true))/\OldK s₁.heap s'.heap/\s'.os=s₁.os/\AllBare s'.gens) s₁:=by
  intro H hO hS hok hA hK;have Vh:∀{b:Addr} {o:Obj},s₁.heap.get? b=some o->H b=none->(IP s₁.heap H).get? b=some o:=λ e n=>aaT e n;have noA:∀{b:Addr} {o:Obj} {es:Array DictEntry} {ep:Nat},s₁.heap.get? b=some o->o.data= .dict es ep->H b=none:=λ{b o es ep} e d=>by
   cases q:H b with
   |none=>rfl
   |some u=>have e':b=a:=hA b (by rw[q];simp);subst e';rw[ha] at e;cases e;have d':Data.seq vs.toArray _=Data.dict es ep:=d;cases d'
  have nsK:∀{b:Addr} {m:Str->Option Value},s₁.heap.Ns b m->(IP s₁.heap H).Ns b m:=λ{b m} ⟨o,es,ep,e,d,r⟩=>⟨o,es,ep,Vh e (noA e d),d,r⟩;have hKb:K.In (IP s₁.heap H):=λ b o e=>Vh (KX b o e) (by
   cases q:H b with
   |none=>rfl
   |some u=>have e':b=a:=hA b (by rw[q];simp);subst e';rw[hK (by rw[q];simp)] at e;cases e)
  have hM:Mod K mg (IP s₁.heap H):=⟨hKb,nsK hns,⟨mb,nsK hb,hbb⟩,let ⟨mc,h1,h2⟩:=hlim;⟨mc,nsK h1,h2⟩⟩;have e0:TX P w K mg (IP s₁.heap H) callerA [] s₁ H:=⟨rfl,hM,λ b o e=>aez e,Nat.le_of_eq (Xh _ _),trivial,λ b hb=>absurd (show b∈([]:List Addr) from hb) (by simp),hok,.of_eq hg⟩;refine codeAny_mono ((F _ hKb (nsK hns)).run callerA [] s₁ H ⟨[.ref a],[]⟩ [.ref a] [.ref a] _ _ hr e0 (hbind s₁ (.ref a)) (.cons rfl .nil) (LJ H hO hS)) λ r s' h=>?_;cases r with
  |error e=>exact (hCX H e s' h).elim
  |ok fl=>
   cases fl with
   |next=>exact False.elim h
   |brk=>exact False.elim h
   |cont=>exact False.elim h
   |ret u=>
    obtain ⟨v,H',os,bare,un,aqj,r',q⟩:=h;have q':v= .bl true:=q;subst q';obtain rfl:u=Value.bool true:=r';refine ⟨rfl,OldK.of_keep λ b o e=>?_,os,bare⟩;cases q:H b with
    |none=>exact un.keep b o e q (by intro z;exact absurd (show b∈([]:List Addr) from z) (by simp)) (by simp)
    |some u=>
     rcases hO b with z|⟨ob,xs,z⟩
     ·rw[q] at z;cases z
     ·have z2:=un.xS b ob _ z;obtain ⟨e1,_⟩:=hok b _ z;obtain ⟨e2,_⟩:=aqj b _ z2;rw[e] at e1;cases e1;exact e2
 cases hk:K.lookup a with
 |some o=>
  -- FW script is one of FW al2 own objects
  have e:=KX a o hk;rw[ha] at e;cases e;refine core (λ _=>none) (λ _=> .inl rfl) (.inr ⟨_,vs.toArray,_,hk,rfl,rfl,rfl,by rw[List.size_toArray,ap4];exact hl,by simpa using rv⟩) (λ b u z=>by have z':(none:Option HO)=some u:=z;cases z') (λ b z=>absurd rfl z) λ z=>absurd rfl z
 |none=>
  refine core (λ b=>if b=a then some (.EX {cls:= .type "list",data:= .seq vs.toArray} (.lst (ns.map V.int))) else none) (λ b=>?_) (.inl (.inr ⟨{cls:= .type "list",data:= .seq vs.toArray},if_pos rfl⟩)) (λ b u z=>?_) (λ b z=>?_) λ _=>hk
  ·by_cases hb:b=a
   ·exact .inr ⟨_,_,if_pos hb⟩
   ·exact .inl (if_neg hb)
  ·by_cases hb:b=a
   ·have z':=(if_pos hb).symm.trans z;cases z';subst hb;exact ⟨ha,by rw[List.length_map];exact hl,vs,_,rv,ha⟩
   ·have z':=(if_neg hb).symm.trans z;cases z'
  ·by_cases hb:b=a
   ·exact hb
   ·exact absurd (if_neg hb) z
def adJ{l:W.OpenLaw}{n k:Nat}{q:Program}{loose:List Str}{XP:(Str->Option Value)->Heap->Prop}{YP:World->Heap->Prop}{d:DefRec}{K:Params->W.Frag}{CX:World->CXT}{sp:World->Sp}{x:Str} (hn:l.most=some n) (hn2:n<=sizeLine) (hdf:d.params.defaults=[]) (hr:fD k callerA) (hY:∀(w:World) (h:Heap),YP w h->(K w.params).In h) (F:∀(w:World) (mg:Str->Option Value) (fa:Addr) (h:Heap),(K w.params).In h->h.Ns mainGlobals mg->mg d.name=some (.ref fa)->∃fd:FuncData,(∀(s:Shared) (u:Value),BindsTo s fd ⟨[u],[]⟩ [(x,u)])/\∀base:Heap,(K w.params).In base->base.Ns mainGlobals mg->TV l.prog w (K w.params) mg base (CX w) k fa fd [x] (sp w)) (LJ:∀(w:World) (H:Hp) (a:Addr) (ns:List Int),ns.length<=n->ajJ H->rJ (K w.params) H a (ns.map V.int)->sp w [.ref a] H (λ v _=>v= .bl true) λ _ _ _=>False) (hCX:∀(w:World) (H:Hp) (s:Shared) (e:Value) (s':Shared),CX w [] H s (λ _ _ _=>False) e s'->False):
  W.WalkO q loose XP YP l.row.toRowW d [] (λ f vs=>PySem.call f vs):=by
 refine Att.LB hn hdf λ w s₀ s₁ mg mb fa o pm cd doc a vs ns G Y ho hd hcd hmg hobj hints hlen hg=>?_;have KX:=hY w _ Y;obtain ⟨fd,hb,hF⟩:=F w mg fa _ KX G.T.g hmg;exact aai KX G.T.g G.T.b G.T.builtins G.T.nolimit hg hobj hints (Nat.le_trans hlen hn2) hr hF hb (λ H hO hS=>LJ w H a ns hlen hO hS) λ H e s'=>hCX w H s₁ e s'
def aH(s:Stmt):Arguments:=match s with
 | .FunctionDef _ a _ _ _ _ _ _ _ _=>a
 |_=>{posonlyargs:=[],args:=[],vararg:=none,kwonlyargs:=[],kw_defaults:=[],kwarg:=none,defaults:=[]}
def aF(s:Stmt):List Stmt:=match s with
 | .FunctionDef _ _ b _ _ _ _ _ _ _=>b
 |_=>[]
def ay(s:Stmt):Scope:=match s with
 | .FunctionDef _ _ _ _ _ _ sc _ _ _=>sc
 |_=>{kind:= .function,names:=[],isGenerator:=false,isCoroutine:=false}
structure mH(K:W.Frag)(x qual:Str)(st:Stmt)(f:Addr)(fd:FuncData):Prop where
 ex:∃(oc:Value) (od:Option Addr) (kV doc pm:Value) (an:Option Addr) (cdv ct:Value) (osl:Array (Option Value)),
  fd=W.fnOf x qual (aH st) (aF st) (ay st) .none kV doc pm an cdv ct/\K.lookup f=some ⟨oc,od,.func fd,osl⟩/\W.codeIn K cdv qual=true
 kp:W.keepIn K (.ref f)=true
section
variable{P:Program}{w:World}{K:W.Frag}{mg:Str->Option Value}{base:Heap}
def mH.binds{x qual:Str}{st:Stmt}{f:Addr}{fd:FuncData}{ps:List Str}(F:mH K x qual st f fd) (h:∀(kV doc pm:Value) (an:Option Addr) (cdv ct:Value) (us:List Value),us.length=ps.length->bindArgs (W.fnOf x qual (aH st) (aF st) (ay st) .none kV doc pm an cdv ct) ⟨us,[]⟩=pure (ps.zip us)):Binds K fd ps []:=by obtain ⟨oc,od,kV,doc,pm,an,cdv,ct,osl,rfl,lk,hcd⟩:=F.ex;exact .all (h kV doc pm an cdv ct)
def aO{x qual:Str}{st:Stmt}{f:Addr}{oc:Value}{od an:Option Addr}{osl:Array (Option Value)}{kV doc pm cdv ct:Value}(l:K.lookup f=some ⟨oc,od,.func (W.fnOf x qual (aH st) (aF st) (ay st) .none kV doc pm an cdv ct),osl⟩) (c:W.codeIn K cdv qual=true) (k:W.keepIn K (.ref f)=true):mH K x qual st f (W.fnOf x qual (aH st) (aF st) (ay st) .none kV doc pm an cdv ct):=⟨⟨oc,od,kV,doc,pm,an,cdv,ct,osl,rfl,l,c⟩,k⟩
end
def tR{n:Nat}(h:n<=1000):n<sizeLine:=Nat.lt_of_le_of_lt h (by decide)
section
variable{X:Cx}
end
def aaC{A B:Prop}(h:B):if false=true then A else B:=by rw[if_neg Bool.false_ne_true];exact h
def aaB{A B:Prop}(h:A):if true=true then A else B:=by rw[if_pos rfl];exact h
def az(H H':Hp):Prop:=∀b o,H b=some o->H' b=some o
def az.refl(H:Hp):az H H:=λ _ _ h=>h
def az.trans{H H1 H2:Hp}(a:az H H1)(b:az H1 H2):az H H2:=λ c o h=>b c o (a c o h)
def az.free{H H':Hp}(e:az H H'){l:Addr}(h:H' l=Option.none):H l=Option.none:=by
 cases q:H l with
 |none=>rfl
 |some o=>rw[e l o q] at h;cases h
section
variable{κ:Type} [DecidableEq κ]
end
end L2
end
section
namespace L4
open PySem
def qJ(n:Nat)(i:Int):Option Nat:=if 0<=i then (if i<n then some i.toNat else none) else if -(n:Int)<=i then some (i+n).toNat else none
def rM{α:Type}(xs:List α)(i:Int):Option α:=(qJ xs.length i).bind λ j=>xs[j]?
def F2(n d:Nat):Option Int->Nat
 |none=>d
 |some v=>if v<0 then (v+(n:Int)).toNat else min v.toNat n
inductive Ks where
 |s (ks:List (Sum Int Str))|t (ks:List (List (Sum Int Str)))
def Ks.len:Ks->Nat
 | .s ks=>ks.length
 | .t ks=>ks.length
inductive D where
 |fE|bl (b:Bool)|int (i:Int)|str (x:Str)|tup (xs:List D)|lst (xs:List D)
 /-- a tuple JU is a constant of FW module -/
 |gt (xs:List D)
 /-- an instance JU aiu changes any more;an exception -/
 |obj (c:String) (ns:List Str) (xs:List D)|exc (c:String)
 /-- a list JU anS p8:for this expression (true),for this call (false) -/
 |bor (t:Bool) (xs:List D)
 /-- a dict JU aiu changes;a lent one -/
 |uA (ks:Ks) (xs:List D)|yw (t:Bool) (ks:Ks) (xs:List D)
 /-- a lent instance JU may change -/
 |yu (t:Bool) (c:String) (ns:List Str) (xs:List D)
inductive M where
 |d (x:D)|l (xs:List D)|n (ms:List M)|t (ms:List M)|k (ks:Ks) (xs:List D)
 /-- an instance JU may change -/
 |o (c:String) (ns:List Str) (xs:List D)
mutual
/-- lent for an expression -/
noncomputable def lend:M->D
 | .d x=>x
 | .l xs=> .bor true xs
 | .n ms=> .bor true (p8 ms)
 | .t ms=> .tup (p8 ms)
 | .k ks xs=> .yw true ks xs
 | .o c ns xs=> .yu true c ns xs
noncomputable def p8:List M->List D
 |[]=>[]
 |m::ms=>lend m::p8 ms
end
mutual
/-- changed no more -/
noncomputable def N7:M->D
 | .d x=>x
 | .l xs=> .lst xs
 | .n ms=> .lst (EW ms)
 | .t ms=> .tup (EW ms)
 | .k ks xs=> .uA ks xs
 | .o _ _ _=> .fE
noncomputable def EW:List M->List D
 |[]=>[]
 |m::ms=>N7 m::EW ms
end
mutual
/-- no instance JU may change is in it -/
noncomputable def EV:M->Bool
 | .n ms=>Gy ms
 | .t ms=>Gy ms
 | .o _ _ _=>false
 |_=>true
noncomputable def Gy:List M->Bool
 |[]=>true
 |m::ms=>EV m&&Gy ms
end
mutual
/-- nothing lent for FW expression alone is in it -/
noncomputable def nt:D->Bool
 | .tup xs=>m6 xs
 | .gt xs=>m6 xs
 | .lst xs=>m6 xs
 | .obj _ _ xs=>m6 xs
 | .uA _ xs=>m6 xs
 | .bor t xs=>!t&&m6 xs
 | .yw t _ xs=>!t&&m6 xs
 | .yu t _ _ xs=>!t&&m6 xs
 |_=>true
noncomputable def m6:List D->Bool
 |[]=>true
 |d::ds=>nt d&&m6 ds
end
mutual
/-- nothing lent is in it -/
noncomputable def nb:D->Bool
 | .tup xs=>AG xs
 | .gt xs=>AG xs
 | .lst xs=>AG xs
 | .obj _ _ xs=>AG xs
 | .uA _ xs=>AG xs
 | .bor _ _=>false
 | .yw _ _ _=>false
 | .yu _ _ _ _=>false
 |_=>true
noncomputable def AG:List D->Bool
 |[]=>true
 |d::ds=>nb d&&AG ds
end
mutual
/-- lent on to a def JU is called -/
noncomputable def dn:D->D
 | .tup xs=> .tup (wu xs)
 | .gt xs=> .gt (wu xs)
 | .lst xs=> .lst (wu xs)
 | .obj c ns xs=> .obj c ns (wu xs)
 | .uA ks xs=> .uA ks (wu xs)
 | .bor _ xs=> .bor false (wu xs)
 | .yw _ ks xs=> .yw false ks (wu xs)
 | .yu _ c ns xs=> .yu false c ns (wu xs)
 |d=>d
noncomputable def wu:List D->List D
 |[]=>[]
 |d::ds=>dn d::wu ds
end
mutual
def Ni:M->Bool
 | .d x=>nb x
 | .l xs=>AG xs
 | .n ms=>ZS ms
 | .t ms=>ZS ms
 | .k _ xs=>AG xs
 | .o _ _ xs=>AG xs
def ZS:List M->Bool
 |[]=>true
 |m::ms=>Ni m&&ZS ms
end
mutual
def Bp:M->Bool
 | .d x=>nt x
 | .l xs=>m6 xs
 | .n ms=>Ko ms
 | .t ms=>Ko ms
 | .k _ xs=>m6 xs
 | .o _ _ xs=>m6 xs
def Ko:List M->Bool
 |[]=>true
 |m::ms=>Bp m&&Ko ms
end
inductive Res(α:Type) where
 |ok (a:α)|err (c:String)|bad
def Res.bnd{α β:Type}(r:Res α)(f:α->Res β):Res β:=match r with
 | .ok a=>f a
 | .err c=> .err c
 | .bad=> .bad
@[simp] theorem Res.bw{α β:Type}(a:α)(f:α->Res β):(Res.ok a).bnd f=f a:=(rfl)
@[simp] theorem Res.Jr{α β:Type}(c:String)(f:α->Res β):(Res.err c:Res α).bnd f= .err c:=(rfl)
@[simp] theorem Res.Js{α β:Type}(f:α->Res β):(Res.bad:Res α).bnd f= .bad:=(rfl)
inductive Slot where
 |no|val (d:D)|own (m:M)|par (m:M)
noncomputable abbrev Sg:=List Slot
inductive Out where
 |nx (Γ:Sg)|bk (Γ:Sg)|ct (Γ:Sg)|rt (d:D)|Mz (m:M)|rtG (d:D) (Γ:Sg)|Hu (m:M) (Γ:Sg)|err (c:String) (Γ:Sg)|bad
def aj(i:Nat):Sg->Res D:=λ Γ=>match Γ[i]? with
 |some (.val d)=> .ok d
 |_=> .bad
def xY(i:Nat):Sg->Res D:=λ Γ=>match Γ[i]? with
 |some (.val d)=> .ok d
 |some (.own m)=> .ok (lend m)
 |some (.par m)=> .ok (lend m)
 |_=> .bad
def dC(d:D):Sg->Res D:=λ _=> .ok d
def bu(r:D->D->Res D)(f g:Sg->Res D):Sg->Res D:=λ Γ=>(f Γ).bnd λ x=>(g Γ).bnd λ y=>r x y
noncomputable def tst:D->Res Bool
 | .bl b=> .ok b
 |_=> .bad
def dT(f:Sg->Res D):Sg->Res Bool:=λ Γ=>(f Γ).bnd tst
def cOr(f g:Sg->Res Bool):Sg->Res Bool:=λ Γ=>(f Γ).bnd λ c=>if c=true then .ok true else g Γ
def uC(f:Sg->Res Bool):Sg->Res Bool:=λ Γ=>(f Γ).bnd λ c=> .ok (!c)
def A5(f g:Sg->Res D):Sg->Res D:=λ Γ=>(f Γ).bnd λ x=>(tst x).bnd λ c=>if c=true then g Γ else .ok (.bl false)
def dOr(f g:Sg->Res D):Sg->Res D:=λ Γ=>(f Γ).bnd λ x=>(tst x).bnd λ c=>if c=true then .ok (.bl true) else g Γ
def XA(f:Sg->Res D):Sg->Res D:=λ Γ=>(f Γ).bnd λ x=>(tst x).bnd λ c=> .ok (.bl (!c))
def aB:Sg->Res (List D):=λ _=> .ok []
def ai(f:Sg->Res D)(r:Sg->Res (List D)):Sg->Res (List D):=λ Γ=>(f Γ).bnd λ x=>(r Γ).bnd λ xs=> .ok (x::xs)
def kh(r:Sg->Res (List D)):Sg->Res D:=λ Γ=>(r Γ).bnd λ xs=>if xs.length<=1000 then .ok (.tup xs) else .bad
def sW(r:Sg->Res (List D)):Sg->Res (List D):=λ Γ=>(r Γ).bnd λ xs=>if xs.length<=1000 then .ok xs else .bad
def uM(f:Sg->Res (List D)):Sg->Res D:=λ Γ=>(f Γ).bnd λ ds=> .ok (.lst ds)
def oE{α:Type}(r:Res α)(Γ:Sg)(k:α->Out):Out:=match r with
 | .ok d=>k d
 | .err c=> .err c Γ
 | .bad=> .bad
@[simp] theorem pX{α:Type}(d:α)(Γ:Sg)(k:α->Out):oE (.ok d) Γ k=k d:=(rfl)
@[simp] theorem apP{α:Type}(c:String)(Γ:Sg)(k:α->Out):oE (.err c) Γ k= .err c Γ:=(rfl)
def gh:Sg->Out:=λ Γ=> .nx Γ
def bN(F G:Sg->Out):Sg->Out:=λ Γ=>match F Γ with
 | .nx Γ'=>G Γ'
 |o=>o
def rm(f:Sg->Res D):Sg->Out:=λ Γ=>oE (f Γ) Γ λ _=> .nx Γ
def fG(f:Sg->Res D):Sg->Out:=λ Γ=>oE (f Γ) Γ λ d=> .rt d
def Y4(f:Sg->Res D):Sg->Out:=λ Γ=>oE (f Γ) Γ λ d=>if nt d=true then .rt d else .bad
def uF(f:Sg->Res M):Sg->Out:=λ Γ=>oE (f Γ) Γ λ m=>if Bp m=true then .Mz m else .bad
def zQ(i:Nat):Sg->Out:=λ Γ=>match Γ[i]? with
 |some (.own m)=> .Mz m
 |some (.val d)=> .rt d
 |_=> .bad
def yK(p:Sg->Res Bool)(F G:Sg->Out):Sg->Out:=λ Γ=>oE (p Γ) Γ λ c=>if c=true then F Γ else G Γ
def oA(i:Nat)(f:Sg->Res D):Sg->Out:=λ Γ=>oE (f Γ) Γ λ d=> .nx (Γ.set i (.val d))
def rj(i:Nat)(f:Sg->Res M):Sg->Out:=λ Γ=>oE (f Γ) Γ λ m=>if Bp m=true then .nx (Γ.set i (.own m)) else .bad
def mL(f:Sg->Res (List D)):Sg->Res M:=λ Γ=>(f Γ).bnd λ ds=> .ok (.l ds)
def mD(f:Sg->Res D):Sg->Res M:=λ Γ=>(f Γ).bnd λ d=> .ok (.d d)
def fzR(m:M):Res D:=if EV m=true then .ok (N7 m) else .bad
def mK(f:Sg->Res M):Sg->Res D:=λ Γ=>(f Γ).bnd fzR
abbrev Tg:=D->Sg->Option Sg
abbrev Vj:=List D->Sg->Option Sg
def aD(i:Nat):Tg:=λ d Γ=>some (Γ.set i (.val d))
def kD:Vj:=λ ds Γ=>match ds with
 |[]=>some Γ
 |_=>none
def bg(t:Tg)(u:Vj):Vj:=λ ds Γ=>match ds with
 |d::r=>(t d Γ).bind λ Γ'=>u r Γ'
 |[]=>none
def jy(n:Nat)(t:Vj):Tg:=λ d Γ=>match d with
 | .tup ds=>if ds.length=n then t ds Γ else none
 |_=>none
def VR(f:Sg->Res D)(t:Tg):Sg->Out:=λ Γ=>oE (f Γ) Γ λ d=>match t d Γ with
 |some Γ'=> .nx Γ'
 |none=> .bad
def asO(i k:Nat)(r:Sg->Res (List D)):Sg->Out:=λ Γ=>oE (r Γ) Γ λ ds=>match ds with
 |[x,y]=> .nx ((Γ.set i (.val x)).set k (.val y))
 |_=> .bad
def gn(t:Tg)(B:Sg->Out):List D->Sg->Out
 |[],Γ=> .nx Γ
 |x::xs,Γ=>match t x Γ with
  |none=> .bad
  |some Γ1=>match B Γ1 with
   | .nx Γ'=>gn t B xs Γ'
   | .ct Γ'=>gn t B xs Γ'
   | .bk Γ'=> .nx Γ'
   |o=>o
def drop_one{α:Type}{xs:List α}{i:Nat}{d:α}(h:xs[i]? =some d):xs.drop i=d::xs.drop (i+1):=by obtain ⟨hi,e⟩:=List.getElem?_eq_some_iff.mp h;rw[List.drop_eq_getElem_cons hi,e]
def mS(lo:Int)(n:Nat):List D:=(List.range n).map λ(k:Nat)=>D.int (lo+k)
def W8{lo:Int}{n i:Nat}(h:i<n):(mS lo n)[i]? =some (.int (lo+i)):=by unfold mS;rw[List.getElem?_map,List.getElem?_range h];rfl
def nG{lo:Int}{n:Nat}:(mS lo n).length=n:=by simp[mS]
def Hv(ds:List D):Res (List D):=match ds with
 |[.int j]=>if -(2^62)<=j/\j<2^62 then .ok (mS 0 j.toNat) else .bad
 |_=> .bad
def ad3{ds:List D}{xs:List D}(h:Hv ds= .ok xs):∃j,ds=[.int j]/\ -(2^62)<=j/\j<2^62/\xs=mS 0 j.toNat:=by
 unfold Hv at h;split at h
 ·split at h
  ·rename_i j hj;cases h;exact ⟨j,rfl,hj.1,hj.2,rfl⟩
  ·cases h
 ·cases h
def ad4(ds:List D)(c:String):Hv ds≠.err c:=by
 unfold Hv;split
 ·split<;>exact λ z=>nomatch z
 ·exact λ z=>nomatch z
def J1(ds:List D):Res (List D):=match ds with
 |[.int i,.int j]=>if -(2^62)<=i/\i<2^62/\ -(2^62)<=j/\j<2^62 then .ok (mS i (j- i).toNat) else .bad
 |_=> .bad
def ad1{ds:List D}{xs:List D}(h:J1 ds= .ok xs):∃i j,ds=[.int i,.int j]/\(-(2^62)<=i/\i<2^62/\ -(2^62)<=j/\j<2^62)/\xs=mS i (j- i).toNat:=by
 unfold J1 at h;split at h
 ·split at h
  ·rename_i i j hj;cases h;exact ⟨i,j,rfl,hj,rfl⟩
  ·cases h
 ·cases h
def ad2(ds:List D)(c:String):J1 ds≠.err c:=by
 unfold J1;split
 ·split<;>exact λ z=>nomatch z
 ·exact λ z=>nomatch z
inductive cO where
 |ok (d:D)|new (m:M)|okG (d:D) (os:List (Nat×M))|Ng (m:M) (os:List (Nat×M))|err (c:String)|bad
def iM:Nat->Sg->List (Nat×M)
 |_,[]=>[]
 |i,.par m::r=>(i,m)::iM (i+1) r
 |i,_::r=>iM (i+1) r
def mU:Out->cO
 | .nx _=> .ok .fE
 | .rt d=> .ok d
 | .Mz m=> .new m
 | .rtG d Γ=> .okG d (iM 0 Γ)
 | .Hu m Γ=> .Ng m (iM 0 Γ)
 | .err c _=> .err c
 |_=> .bad
def abO:Out->cO
 | .nx Γ=> .okG .fE (iM 0 Γ)
 |o=>mU o
def A4:cO->Res D
 | .ok d=> .ok d
 | .new m=>fzR m
 | .err c=> .err c
 |_=> .bad
noncomputable def rG:cO->Res M
 | .ok d=> .ok (.d d)
 | .new m=> .ok m
 | .err c=> .err c
 |_=> .bad
def aR(n:Nat)(F:List Slot->cO)(fa:Sg->Res (List D)):Sg->Res D:=λ Γ=>(fa Γ).bnd λ ds=>if ds.length=n then A4 (F (ds.map Slot.val)) else .bad
def Z5(n:Nat)(F:List Slot->cO)(fa:Sg->Res (List D)):Sg->Res M:=λ Γ=>(fa Γ).bnd λ ds=>if ds.length=n then rG (F (ds.map Slot.val)) else .bad
def cV(n:Nat)(F:List Slot->cO)(fa:Sg->Res (List D)):Sg->Res D:=λ Γ=>(fa Γ).bnd λ ds=>if ds.length=n/\m6 ds=true then A4 (F (ds.map Slot.val)) else .bad
def sQ(n:Nat)(F:List Slot->cO)(fa:Sg->Res (List D)):Sg->Res M:=λ Γ=>(fa Γ).bnd λ ds=>if ds.length=n/\m6 ds=true then rG (F (ds.map Slot.val)) else .bad
def nbA:cO->cO
 | .ok d=>if nb d=true then .ok d else .bad
 | .new m=>if Ni m=true then .new m else .bad
 | .err c=> .err c
 |_=> .bad
def sX(n:Nat)(F:List Slot->cO)(fa:Sg->Res (List D)):Sg->Res D:=λ Γ=>(fa Γ).bnd λ ds=>if ds.length=n then A4 (nbA (F ((wu ds).map Slot.val))) else .bad
def NB(n:Nat)(F:List Slot->cO)(fa:Sg->Res (List D)):Sg->Res M:=λ Γ=>(fa Γ).bnd λ ds=>if ds.length=n then rG (nbA (F ((wu ds).map Slot.val))) else .bad
def ck(N:List Str)(as:List Slot):Sg:=as++List.replicate (N.length- as.length) Slot.no
noncomputable def intD(C:Int->Int->Bool)(g:Int->Int->D):D->D->Res D
 | .int i,.int j=>if C i j=true then .ok (g i j) else .bad
 |_,_=> .bad
@[simp] theorem aaI(C:Int->Int->Bool)(g:Int->Int->D)(i j:Int):intD C g (.int i) (.int j)=if C i j=true then .ok (g i j) else .bad:=(rfl)
noncomputable abbrev yes:Int->Int->Bool:=λ _ _=>true
def Ah:D->D->Res D:=intD yes λ i j=> .int (i- j)
noncomputable def CC(i j:Int):Bool:=decide (Builtin.Int.intBits i<=64)||decide (Builtin.Int.intBits j<=64)||(decide (Builtin.Int.intBits i<=2^20)&&decide (Builtin.Int.intBits j<=2^20))
def ZX:D->D->Res D:=intD CC λ i j=> .int (i*j)
noncomputable def GI(_ j:Int):Bool:=decide (j≠0)&&decide (j.natAbs.log2<9000)
def oO:D->D->Res D:=intD GI λ i j=> .int (i.fdiv j)
def m7:D->D->Res D:=intD (λ _ j=>decide (j≠0)) λ i j=> .int (i.fmod j)
noncomputable def Ut(i j:Int):Bool:=decide (0<=j)&&decide (j<=1000000)&&decide (i.natAbs<2^64)
def VT:D->D->Res D:=intD Ut λ i j=> .int (i^j.toNat)
def ahd:D->D->Res D:=intD yes λ i j=> .int (Builtin.bitXor i j)
def ltI:D->D->Res D:=intD yes λ i j=> .bl (decide (i<j))
def Yi:D->D->Res D:=intD yes λ i j=> .bl (decide (i<=j))
def gtI:D->D->Res D:=intD yes λ i j=> .bl (decide (j<i))
noncomputable def Ie:D->Res D
 | .int i=> .ok (.int (-i))
 |_=> .bad
def dUn(r:D->Res D)(f:Sg->Res D):Sg->Res D:=λ Γ=>(f Γ).bnd r
def E9(r:List D->Res D)(fa:Sg->Res (List D)):Sg->Res D:=λ Γ=>(fa Γ).bnd r
noncomputable def oB:List D->Res D
 |[.lst ds]=> .ok (.int ds.length)
 |[.tup ds]=> .ok (.int ds.length)
 |[.gt ds]=> .ok (.int ds.length)
 |[.bor _ ds]=> .ok (.int ds.length)
 |[.str x]=>if x.length<=sizeLine then .ok (.int x.length) else .bad
 |_=> .bad
mutual
noncomputable def py:D->PyData
 | .fE=> .none
 | .bl b=> .bool b
 | .int i=> .int i
 | .str x=> .str x
 | .tup ds=> .tuple (F3 ds)
 | .gt ds=> .tuple (F3 ds)
 | .lst ds=> .list (F3 ds)
 | .bor _ ds=> .list (F3 ds)
 | .obj _ _ _=> .none
 | .exc _=> .none
 | .uA _ _=> .none
 | .yw _ _ _=> .none
 | .yu _ _ _ _=> .none
noncomputable def F3:List D->List PyData
 |[]=>[]
 |d::ds=>py d::F3 ds
end
noncomputable def jz:Nat->D->Bool
 |_,.fE=>true
 |_,.bl _=>true
 |_,.int _=>true
 |_,.str x=>PyData.strOk x
 |n+1,.tup ds=>ds.all (jz n)
 |n+1,.gt ds=>ds.all (jz n)
 |n+1,.lst ds=>ds.all (jz n)
 |n+1,.bor _ ds=>ds.all (jz n)
 |_,_=>false
def deq(x y:D):Bool:=(py x).eqv (py y)
def LK(x y:D):Res D:=if jz 12 x=true/\jz 12 y=true then .ok (.bl (deq x y)) else .bad
def ZR(x y:D):Res D:=if jz 12 x=true/\jz 12 y=true then .ok (.bl (!deq x y)) else .bad
def Vg(i j:Int):(i==j)=decide (i=j):=by
 by_cases h:i=j
 ·subst h;simp
 ·simp[h]
@[simp] theorem lS(i j:Int):LK (.int i) (.int j)= .ok (.bl (decide (i=j))):=by simp[LK,jz,deq,py,PyData.eqv,Vg]
@[simp] theorem aeJ(i j:Int):ZR (.int i) (.int j)= .ok (.bl (!decide (i=j))):=by simp[ZR,jz,deq,py,PyData.eqv,Vg]
def dO:D->D->Res D
 | .lst ds,.int i=>match rM ds i with
  |some d=> .ok d
  |none=> .bad
 | .bor _ ds,.int i=>match rM ds i with
  |some d=> .ok d
  |none=> .bad
 | .tup ds,.int i=>match rM ds i with
  |some d=> .ok d
  |none=> .bad
 | .gt ds,.int i=>match rM ds i with
  |some d=> .ok d
  |none=> .bad
 | .str x,.int i=>if x.length<=sizeLine then (match rM x.cps.toList i with
  |some c=> .ok (.str ⟨#[c]⟩)
  |none=> .bad) else .bad
 |_,_=> .bad
def wj:D->D->Res D
 | .int i,.int j=> .ok (.int (i+j))
 | .str x,.str y=>if x.length+y.length<=sizeLine then .ok (.str (x++y)) else .bad
 |_,_=> .bad
@[simp] theorem amY(i j:Int):wj (.int i) (.int j)= .ok (.int (i+j)):=(rfl)
noncomputable def asL:D->Option (List D)
 | .lst xs=>some xs
 | .bor _ xs=>some xs
 |_=>none
@[simp] theorem aox(xs:List D):asL (.lst xs)=some xs:=(rfl)
def Jg(x y:D):Res (List D):=match asL x,asL y with
 |some xs,some ys=>if xs.length+ys.length<=sizeLine then .ok (xs++ys) else .bad
 |_,_=> .bad
def lOp(r:D->D->Res (List D))(f g:Sg->Res D):Sg->Res (List D):=λ Γ=>(f Γ).bnd λ x=>(g Γ).bnd λ y=>r x y
def Ln{α:Type}(xs:List α)(lo hi:Option Int):List α:=(xs.drop (F2 xs.length 0 lo)).take (F2 xs.length xs.length hi- F2 xs.length 0 lo)
def abm:Sg->Res (Option Int):=λ _=> .ok none
def dP(f:Sg->Res D):Sg->Res (Option Int):=λ Γ=>(f Γ).bnd λ d=>match d with
 | .int i=> .ok (some i)
 |_=> .bad
def K1(f:Sg->Res D)(l u:Sg->Res (Option Int)):Sg->Res (List D):=λ Γ=>(f Γ).bnd λ d=>(l Γ).bnd λ lo=>(u Γ).bnd λ hi=>match asL d with
 |some xs=> .ok (Ln xs lo hi)
 |none=> .bad
noncomputable def tE:M->List Nat->Option M
 |m,[]=>some m
 | .n ms,k::ks=>(ms[k]?).bind λ m=>tE m ks
 | .t ms,k::ks=>(ms[k]?).bind λ m=>tE m ks
 |_,_::_=>none
noncomputable def qw:M->List Nat->M->M
 |_,[],m'=>m'
 | .n ms,k::ks,m'=> .n (match ms[k]? with
  |some m=>ms.set k (qw m ks m')
  |none=>ms)
 | .t ms,k::ks,m'=> .t (match ms[k]? with
  |some m=>ms.set k (qw m ks m')
  |none=>ms)
 |m,_::_,_=>m
noncomputable def KR:M->Option Nat
 | .n ms=>some ms.length
 | .t ms=>some ms.length
 |_=>none
noncomputable def slM:Slot->Option M
 | .own m=>some m
 | .par m=>some m
 |_=>none
def sr(i:Nat):Sg->Res (List Nat):=λ Γ=>match (Γ[i]?).bind slM with
 |some _=> .ok []
 |none=> .bad
def pIx(i:Nat)(g:Sg->Res (List Nat))(f:Sg->Res D):Sg->Res (List Nat):=λ Γ=>(g Γ).bnd λ ks=>(f Γ).bnd λ d=>match d,(((Γ[i]?).bind slM).bind λ m=>(tE m ks).bind KR) with
 | .int z,some n=>(match qJ n z with
  |some k=> .ok (ks++[k])
  |none=> .bad)
 |_,_=> .bad
def reS:Slot->M->Slot
 | .own _,m=> .own m
 | .par _,m=> .par m
 |s,_=>s
def DW(i:Nat)(ks:List Nat)(f:M->Option M)(Γ:Sg):Option Sg:=(Γ[i]?).bind λ s=>(slM s).bind λ m=>(tE m ks).bind λ m'=>(f m').map λ jm=>Γ.set i (reS s (qw m ks jm))
def oUp:Option Sg->Out
 |some Γ=> .nx Γ
 |none=> .bad
def X4(d:D):M->Option M
 | .l xs=>if xs.length<1000000/\nt d=true then some (.l (xs++[d])) else none
 | .n ms=>if ms.length<1000000/\nt d=true then some (.n (ms++[.d d])) else none
 |_=>none
def setM(z:Int)(d:D):M->Option M
 | .l xs=>if nt d=true then (qJ xs.length z).map λ j=> .l (xs.set j d) else none
 | .n ms=>if nt d=true then (qJ ms.length z).map λ j=> .n (ms.set j (.d d)) else none
 |_=>none
noncomputable def W6:Option M->Bool
 |some (.l _)=>true
 |some (.n _)=>true
 |_=>false
def zT(i:Nat)(ks:List Nat)(Γ:Sg):Option M:=((Γ[i]?).bind slM).bind λ m=>tE m ks
def Hs(i:Nat)(g:Sg->Res (List Nat))(f:Sg->Res D):Sg->Out:=λ Γ=>oE (g Γ) Γ λ ks=>if W6 (zT i ks Γ)=true then oE (f Γ) Γ λ d=>oUp (DW i ks (X4 d) Γ) else .bad
def BZ(i:Nat)(g:Sg->Res (List Nat))(fk f:Sg->Res D):Sg->Out:=λ Γ=>oE (f Γ) Γ λ d=>oE (g Γ) Γ λ ks=>oE (fk Γ) Γ λ z=>match z with
 | .int z=>oUp (DW i ks (setM z d) Γ)
 |_=> .bad
def gE(fi:Sg->Res (List D))(t:Tg)(B:Sg->Out):Sg->Out:=λ Γ=>oE (fi Γ) Γ λ xs=>gn t B xs Γ
def iK(r:Sg->Res (List D)):Sg->Res (List D):=λ Γ=>(r Γ).bnd Hv
def xQ(r:Sg->Res (List D)):Sg->Res (List D):=λ Γ=>(r Γ).bnd J1
def ajp(tm:Bool):Slot->Slot
 | .val d=> .val d
 | .own m=>if tm=true then .val (lend m) else .no
 | .par m=>if tm=true then .val (lend m) else .no
 | .no=> .no
def rH(tm:Bool)(k:Nat)(caps:List Nat)(Γ:Sg):Sg:=List.replicate k .no++caps.map λ i=>ajp tm ((Γ[i]?).getD .no)
def Vf{tm:Bool}{k:Nat}{caps:List Nat}{Γ:Sg}{i:Nat}{sl:Slot}(h:(rH tm k caps Γ)[i]? =some sl):sl= .no\/∃c sc,caps[i- k]? =some c/\k<=i/\Γ[c]? =some sc/\sl=ajp tm sc:=by
 unfold rH at h;by_cases hi:i<k
 ·rw[List.getElem?_append_left (by simpa using hi),List.getElem?_replicate,if_pos hi] at h;cases h;exact .inl rfl
 ·rw[List.getElem?_append_right (by simpa using hi),List.length_replicate,List.getElem?_map] at h;cases q:caps[i- k]? with
  |none=>rw[q] at h;cases h
  |some c=>
   rw[q] at h;simp only[Option.map_some,Option.some.injEq] at h;subst h;cases q2:Γ[c]? with
   |none=>exact .inl rfl
   |some sl=>exact .inr ⟨c,sl,rfl,Nat.le_of_not_lt hi,q2,rfl⟩
def N9(t:Tg)(p:Sg->Res Bool)(fe:Sg->Res D)(Γ0:Sg)(x:D):Res (Option D):=match t x Γ0 with
 |none=> .bad
 |some Γ1=>match p Γ1 with
  | .ok true=>(match fe Γ1 with
   | .ok d=> .ok (some d)
   |_=> .bad)
  | .ok false=> .ok none
  |_=> .bad
def oV(e:D->Res (Option D)):List D->Res (List D)
 |[]=> .ok []
 |x::xs=>(e x).bnd λ o=>(oV e xs).bnd λ r=> .ok (match o with
  |some d=>d::r
  |none=>r)
def cA(tm:Bool)(fi:Sg->Res (List D))(k:Nat)(caps:List Nat)(t:Tg)(p:Sg->Res Bool)(fe:Sg->Res D):Sg->Res (List D):=λ Γ=>(fi Γ).bnd λ xs=>if xs.length<1000000 then oV (N9 t p fe (rH tm k caps Γ)) xs else .bad
def Xs(t:Tg)(p:Sg->Res Bool)(fe:Sg->Res M)(Γ0:Sg)(x:D):Res (Option M):=match t x Γ0 with
 |none=> .bad
 |some Γ1=>match p Γ1 with
  | .ok true=>(match fe Γ1 with
   | .ok d=> .ok (some d)
   |_=> .bad)
  | .ok false=> .ok none
  |_=> .bad
def mF(e:D->Res (Option M)):List D->Res (List M)
 |[]=> .ok []
 |x::xs=>(e x).bnd λ o=>(mF e xs).bnd λ r=> .ok (match o with
  |some d=>d::r
  |none=>r)
def rz(tm:Bool)(fi:Sg->Res (List D))(k:Nat)(caps:List Nat)(t:Tg)(p:Sg->Res Bool)(fe:Sg->Res M):Sg->Res (List M):=λ Γ=>(fi Γ).bnd λ xs=>if xs.length<1000000 then mF (Xs t p fe (rH tm k caps Γ)) xs else .bad
def mN(f:Sg->Res (List M)):Sg->Res M:=λ Γ=>(f Γ).bnd λ ms=> .ok (.n ms)
def aja{t:Tg}{p:Sg->Res Bool}{fe:Sg->Res M}{Γ0:Sg}{x:D}{c:String}:Xs t p fe Γ0 x≠.err c:=by
 unfold Xs;split
 ·exact λ z=>nomatch z
 ·split
  ·split<;>exact λ z=>nomatch z
  ·exact λ z=>nomatch z
  ·exact λ z=>nomatch z
def Lr{e:D->Res (Option M)}(he:∀x c,e x≠.err c):∀xs c,mF e xs≠.err c
 |[],c=>λ z=>nomatch z
 |x::xs,c=>by
  simp only[mF];cases q:e x with
  |ok o=>
   cases q2:mF e xs with
   |ok r=>exact λ z=>nomatch z
   |err c'=>exact absurd q2 (Lr he xs c')
   |bad=>exact λ z=>nomatch z
  |err c'=>exact absurd q (he x c')
  |bad=>exact λ z=>nomatch z
def OA{e:D->Res (Option M)}{x:D}{xs:List D}{r:List M}(h:mF e (x::xs)= .ok r):∃o r',e x= .ok o/\mF e xs= .ok r'/\r=(match o with|some d=>d::r'|none=>r'):=by
 simp only[mF] at h;cases q:e x with
 |ok o=>
  cases q2:mF e xs with
  |ok r'=>rw[q,q2] at h;cases h;exact ⟨o,r',rfl,rfl,rfl⟩
  |err c'=>rw[q,q2] at h;cases h
  |bad=>rw[q,q2] at h;cases h
 |err c'=>rw[q] at h;cases h
 |bad=>rw[q] at h;cases h
def afv{t:Tg}{p:Sg->Res Bool}{fe:Sg->Res D}{Γ0:Sg}{x:D}:Xs t p (mD fe) Γ0 x=(N9 t p fe Γ0 x).bnd λ o=> .ok (o.map M.d):=by
 unfold Xs N9 mD;cases t x Γ0 with
 |none=>rfl
 |some Γ1=>
  dsimp only;cases p Γ1 with
  |ok b=>
   cases b with
   |false=>rfl
   |true=>dsimp only;cases fe Γ1<;>rfl
  |err c=>rfl
  |bad=>rfl
def Ab{t:Tg}{p:Sg->Res Bool}{fe:Sg->Res D}{Γ0:Sg}:∀(xs:List D),mF (Xs t p (mD fe) Γ0) xs=(oV (N9 t p fe Γ0) xs).bnd λ ds=> .ok (ds.map M.d)
 |[]=>rfl
 |x::xs=>by
  simp only[mF,oV,Ab xs,afv];cases N9 t p fe Γ0 x with
  |ok o=>
   simp only[Res.bw];cases oV (N9 t p fe Γ0) xs with
   |ok r=>cases o<;>rfl
   |err c=>rfl
   |bad=>rfl
  |err c=>rfl
  |bad=>rfl
def i7:Sg->Res Bool:=λ _=> .ok true
def alT(Γ:Sg):Prop:=∀(i:Nat) (m:M),Γ[i]?≠some (.own m)/\Γ[i]?≠some (.par m)
def rZ(c:String)(fa:Sg->Res (List D)):Sg->Out:=λ Γ=>oE (fa Γ) Γ λ ds=>if ds.length<=1000 then .err c Γ else .bad
def tryD(hit:String->Option Bool)(F:Sg->Out)(G:String->Sg->Out):Sg->Out:=λ Γ=>match F Γ with
 | .err c Γ1=>(match hit c with
  |some true=>G c Γ1
  |_=> .bad)
 |o=>o
def aey(i:Nat):Out->Out
 | .nx Γ=> .nx (Γ.set i .no)
 | .bk Γ=> .bk (Γ.set i .no)
 | .ct Γ=> .ct (Γ.set i .no)
 | .err _ _=> .bad
 |o=>o
def z5(mt:List (String×List String))(T:String):String->Option Bool:=λ c=>(mt.lookup c).map (·.contains T)
def Hq(i:Nat)(hit:String->Option Bool)(F G:Sg->Out):Sg->Out:=tryD hit F λ c Γ1=>aey i (G (Γ1.set i (.val (.exc c))))
def kinds(mt:List (String×List String)):D->Option (List String)
 | .fE=>some ["NoneType"]
 | .bl _=>some ["bool","int"]
 | .int _=>some ["int"]
 | .str _=>some ["str"]
 | .tup _=>some ["tuple"]
 | .gt _=>some ["tuple"]
 | .lst _=>some ["list"]
 | .bor _ _=>some ["list"]
 | .obj c _ _=>mt.lookup c
 | .exc c=>mt.lookup c
 | .uA _ _=>some ["dict"]
 | .yw _ _ _=>some ["dict"]
 | .yu _ _ _ _=>none
def ur(mt:List (String×List String))(cs:List String)(d:D):Res D:=match kinds mt d with
 |some ks=> .ok (.bl (cs.any λ c=>ks.contains c))
 |none=> .bad
def A3(mt:List (String×List String))(cs:List String)(f:Sg->Res D):Sg->Res D:=λ Γ=>(f Γ).bnd (ur mt cs)
def bools:List D->Option (List Bool)
 |[]=>some []
 | .bl b::r=>(bools r).map (b:: ·)
 |_::_=>none
def Yb:List D->Res D
 |[x]=>match asL x with
  |some ds=>(match bools ds with
   |some bs=> .ok (.bl (bs.all id))
   |none=> .bad)
  |none=> .bad
 |_=> .bad
noncomputable def E2(f:Str):D->Res D
 | .obj _ ns xs=>match (ns.zip xs).lookup f with
  |some d=> .ok d
  |none=> .bad
 | .yu _ _ ns xs=>match (ns.zip xs).lookup f with
  |some d=> .ok d
  |none=> .bad
 |_=> .bad
def Dk(f:Str)(g:Sg->Res D):Sg->Res D:=λ Γ=>(g Γ).bnd (E2 f)
noncomputable def p6(rK:List (String×(List Slot->cO))):D->Option (List Slot->cO)
 | .obj c _ _=>rK.lookup c
 |_=>none
def kE(n:Nat)(rK:List (String×(List Slot->cO)))(fo:Sg->Res D)(fa:Sg->Res (List D)):Sg->Res M:=λ Γ=>(fo Γ).bnd λ o=>match p6 rK o with
 |some F=>(fa Γ).bnd λ ds=>if ds.length=n then rG (F ((o::ds).map Slot.val)) else .bad
 |none=> .bad
noncomputable def zV(c:String)(ns:List Str):cO->Res D
 | .okG .fE [(0,.o c' ns' xs)]=>if c'=c/\ns'=ns then .ok (.obj c ns xs) else .bad
 | .err x=> .err x
 |_=> .bad
def nbX(c:String)(ns:List Str):Res D->Res D
 | .ok d=>if nb d=true then .ok d else .bad
 |r=>r
def Di(n:Nat)(c:String)(ns:List Str)(F:List Slot->cO)(fa:Sg->Res (List D)):Sg->Res D:=λ Γ=>(fa Γ).bnd λ ds=>if ds.length=n/\m6 ds=true then zV c ns (F (.par (.o c [] [])::ds.map Slot.val)) else .bad
def Dh(n:Nat)(c:String)(ns:List Str)(F:List Slot->cO)(fa:Sg->Res (List D)):Sg->Res D:=λ Γ=>(fa Γ).bnd λ ds=>if ds.length=n then nbX c ns (zV c ns (F (.par (.o c [] [])::(wu ds).map Slot.val))) else .bad
def MA(ft:List (String×List Str))(f:Str)(d:D):M->Option M
 | .o c ns xs=>(ft.lookup c).bind λ full=>if nt d=true/\ns.length<full.length/\ns.length<900/\f∉ns then some (.o c (ns++[f]) (xs++[d])) else none
 |_=>none
def zP(i:Nat)(ft:List (String×List Str))(f:Str)(g:Sg->Res D):Sg->Out:=λ Γ=>oE (g Γ) Γ λ d=>oE (sr i Γ) Γ λ ks=>oUp (DW i ks (MA ft f d) Γ)
noncomputable def xU:D->Bool
 | .fE=>true
 | .bl _=>true
 | .int _=>true
 | .str _=>true
 |_=>false
noncomputable def eqF:D->D->Bool
 | .fE,.fE=>true
 | .bl a,.bl b=>a==b
 | .bl a,.int b=>(if a then 1 else 0)==b
 | .int a,.bl b=>a==(if b then 1 else 0)
 | .int a,.int b=>a==b
 | .str a,.str b=>a==b
 |_,_=>false
def inF(x:D)(xs:List D):Bool:=xs.any λ y=>eqF y x
noncomputable def JZ:D->Option (List D)
 | .lst xs=>some xs
 | .bor _ xs=>some xs
 | .tup xs=>some xs
 | .gt xs=>some xs
 |_=>none
def sG(x y:D):Res D:=match JZ y with
 |some xs=>if xU x=true/\xs.all xU=true then .ok (.bl (!inF x xs)) else .bad
 |none=> .bad
noncomputable def ltT:D->D->Option Bool
 | .tup (.int i::_),.tup (.int j::_)=>if i=j then none else some (decide (i<j))
 |_,_=>none
def yG:List D->Res (List D)
 |[x]=>match asL x with
  |some []=> .ok []
  |some [a]=> .ok [a]
  |some [a,b]=>(match ltT b a with
   |some true=> .ok [b,a]
   |some false=> .ok [a,b]
   |none=> .bad)
  |_=> .bad
 |_=> .bad
def lCB(r:List D->Res (List D))(fa:Sg->Res (List D)):Sg->Res (List D):=λ Γ=>(fa Γ).bnd r
def qu:List D->Res D
 |[x]=>match JZ x with
  |some xs=> .ok (match x with
   | .gt ys=> .gt ys
   |_=> .tup xs)
  |none=> .bad
 |_=> .bad
noncomputable def aiP:D->Option (Sum Int Str)
 | .int i=>some (.inl i)
 | .str x=>some (.inr x)
 |_=>none
def dcO:D->Option (List (Sum Int Str)×List D)
 | .uA (.s ks) xs=>some (ks,xs)
 | .yw _ (.s ks) xs=>some (ks,xs)
 |_=>none
noncomputable def aqr(ks:List (Sum Int Str))(xs:List D)(k:Sum Int Str):Option D:=((ks.zip xs).find? λ kv=>decide (kv.1=k)).map (·.2)
def getD(o y:D):Res D:=match dcO o with
 |some (ks,xs)=>(match aiP y with
  |some k=>(match aqr ks xs k with
   |some d=> .ok d
   |none=> .bad)
  |none=> .bad)
 |none=>dO o y
def kW(r r':D->D->Res D)(f g h:Sg->Res D):Sg->Res D:=λ Γ=>(f Γ).bnd λ x=>(g Γ).bnd λ y=>(r x y).bnd λ z=>match z with
 | .bl true=>(h Γ).bnd λ w=>r' y w
 | .bl false=> .ok (.bl false)
 |_=> .bad
noncomputable def isI:D->D->Res D
 |x,.fE=> .ok (.bl (match x with
  | .fE=>true
  |_=>false))
 |x,.bl b=> .ok (.bl (match x with
  | .bl c=>c==b
  |_=>false))
 |_,_=> .bad
def ZN(o:Out)(G:Sg->Out):Out:=match o with
 | .nx Γ'=>G Γ'
 |o=>o
def aeF(i:Nat)(h:String->Option Bool)(o:Out)(G:Sg->Out):Out:=match o with
 | .err c Γ1=>(match h c with
  |some true=>aey i (G (Γ1.set i (.val (.exc c))))
  |_=> .bad)
 |o=>o
def aiq(r:Res Bool)(F G:Sg->Out)(Γ:Sg):Out:=oE r Γ λ c=>if c=true then F Γ else G Γ
def rOr(r:Res Bool)(q:Sg->Res Bool)(Γ:Sg):Res Bool:=r.bnd λ c=>if c=true then .ok true else q Γ
def adK(r:Res Bool)(q:Sg->Res D)(Γ:Sg):Res D:=r.bnd λ c=>if c=true then q Γ else .ok (.bl false)
def vOr(r:Res Bool)(q:Sg->Res D)(Γ:Sg):Res D:=r.bnd λ c=>if c=true then .ok (.bl true) else q Γ
section
variable(Γ:Sg)(f g:Sg->Res D)(p q:Sg->Res Bool)(F G:Sg->Out)(fa:Sg->Res (List D))
@[simp] theorem mw:bN F G Γ=ZN (F Γ) G:=(rfl)
@[simp] theorem oN:ZN (.nx Γ) G=G Γ:=(rfl)
@[simp] theorem an5(d:D):ZN (.rt d) G= .rt d:=(rfl)
@[simp] theorem alO(d:M):ZN (.Mz d) G= .Mz d:=(rfl)
@[simp] theorem alP(c:String):ZN (.err c Γ) G= .err c Γ:=(rfl)
@[simp] theorem aki:gh Γ= .nx Γ:=(rfl)
@[simp] theorem anW:yK p F G Γ=aiq (p Γ) F G Γ:=(rfl)
@[simp] theorem an6:aiq (.ok true) F G Γ=F Γ:=(rfl)
@[simp] theorem an7:aiq (.ok false) F G Γ=G Γ:=(rfl)
@[simp] theorem apE:rOr (.ok true) q Γ= .ok true:=(rfl)
@[simp] theorem apF:rOr (.ok false) q Γ=q Γ:=(rfl)
@[simp] theorem anP:adK (.ok true) f Γ=f Γ:=(rfl)
@[simp] theorem anQ:adK (.ok false) f Γ= .ok (.bl false):=(rfl)
@[simp] theorem apc:vOr (.ok true) f Γ= .ok (.bl true):=(rfl)
@[simp] theorem apd:vOr (.ok false) f Γ=f Γ:=(rfl)
@[simp] theorem ali:fG f Γ=oE (f Γ) Γ λ d=> .rt d:=(rfl)
@[simp] theorem yJ(fm:Sg->Res M):uF fm Γ=oE (fm Γ) Γ λ m=>if Bp m=true then .Mz m else .bad:=(rfl)
@[simp] theorem VQ:Y4 f Γ=oE (f Γ) Γ λ d=>if nt d=true then .rt d else .bad:=(rfl)
@[simp] theorem akj:rm f Γ=oE (f Γ) Γ λ _=> .nx Γ:=(rfl)
@[simp] theorem alh(i:Nat):oA i f Γ=oE (f Γ) Γ λ d=> .nx (Γ.set i (.val d)):=(rfl)
@[simp] theorem VP(i:Nat)(fm:Sg->Res M):rj i fm Γ=oE (fm Γ) Γ λ m=>if Bp m=true then .nx (Γ.set i (.own m)) else .bad:=(rfl)
@[simp] theorem Iq:mL fa Γ=(fa Γ).bnd λ ds=> .ok (.l ds):=(rfl)
@[simp] theorem amG(fm:Sg->Res M):mK fm Γ=(fm Γ).bnd fzR:=(rfl)
@[simp] theorem amH(n:Str):Dk n f Γ=(f Γ).bnd (E2 n):=(rfl)
@[simp] theorem akA(i:Nat):xY i Γ=match Γ[i]? with
 |some (.val d)=> .ok d
 |some (.own m)=> .ok (lend m)
 |some (.par m)=> .ok (lend m)
 |_=> .bad:=(rfl)
@[simp] theorem xF(r:List D->Res (List D)):lCB r fa Γ=(fa Γ).bnd r:=(rfl)
@[simp] theorem alm(t:Tg):VR f t Γ=oE (f Γ) Γ λ d=>match t d Γ with
 |some Γ'=> .nx Γ'
 |none=> .bad:=(rfl)
@[simp] theorem ahN(c:String):rZ c fa Γ=oE (fa Γ) Γ λ ds=>if ds.length<=1000 then .err c Γ else .bad:=(rfl)
@[simp] theorem ahM(i:Nat)(h:String->Option Bool):Hq i h F G Γ=aeF i h (F Γ) G:=(rfl)
@[simp] theorem an4(i:Nat)(h:String->Option Bool):aeF i h (.nx Γ) G= .nx Γ:=(rfl)
def Kn(i:Nat)(h:String->Option Bool)(c:String)(e:h c=some true):aeF i h (.err c Γ) G=aey i (G (Γ.set i (.val (.exc c)))):=by simp only[aeF,e]
@[simp] theorem an2(i:Nat):aey i (.nx Γ)= .nx (Γ.set i .no):=(rfl)
@[simp] theorem abl(i:Nat):aj i Γ=match Γ[i]? with
 |some (.val d)=> .ok d
 |_=> .bad:=(rfl)
@[simp] theorem ajh(d:D):dC d Γ= .ok d:=(rfl)
@[simp] theorem aos(r:D->D->Res D):bu r f g Γ=(f Γ).bnd λ x=>(g Γ).bnd λ y=>r x y:=(rfl)
@[simp] theorem aog(r:D->D->Res (List D)):lOp r f g Γ=(f Γ).bnd λ x=>(g Γ).bnd λ y=>r x y:=(rfl)
@[simp] theorem aqL:dT f Γ=(f Γ).bnd tst:=(rfl)
@[simp] theorem api(b:Bool):tst (.bl b)= .ok b:=(rfl)
@[simp] theorem aov:cOr p q Γ=rOr (p Γ) q Γ:=(rfl)
@[simp] theorem amT:uC p Γ=(p Γ).bnd λ c=> .ok (!c):=(rfl)
@[simp] theorem amK:A5 f g Γ=adK ((f Γ).bnd tst) g Γ:=by cases h:f Γ<;>simp only[A5,adK,h,Res.bw,Res.Jr,Res.Js]
@[simp] theorem aoq:dOr f g Γ=vOr ((f Γ).bnd tst) g Γ:=by cases h:f Γ<;>simp only[dOr,vOr,h,Res.bw,Res.Jr,Res.Js]
@[simp] theorem amC:XA f Γ=(f Γ).bnd λ x=>(tst x).bnd λ c=> .ok (.bl (!c)):=(rfl)
@[simp] theorem xZ:aB Γ= .ok []:=(rfl)
@[simp] theorem kU:ai f fa Γ=(f Γ).bnd λ x=>(fa Γ).bnd λ xs=> .ok (x::xs):=(rfl)
@[simp] theorem amB:kh fa Γ=(fa Γ).bnd λ xs=>if xs.length<=1000 then .ok (.tup xs) else .bad:=(rfl)
@[simp] theorem amE:sW fa Γ=(fa Γ).bnd λ xs=>if xs.length<=1000 then .ok xs else .bad:=(rfl)
@[simp] theorem ue:uM fa Γ=(fa Γ).bnd λ ds=> .ok (.lst ds):=(rfl)
@[simp] theorem aop(r:D->Res D):dUn r f Γ=(f Γ).bnd r:=(rfl)
@[simp] theorem alV(i:Int):Ie (.int i)= .ok (.int (-i)):=(rfl)
@[simp] theorem afD(r:List D->Res D):E9 r fa Γ=(fa Γ).bnd r:=(rfl)
@[simp] theorem akB(n:Nat)(K:List Slot->cO):aR n K fa Γ=(fa Γ).bnd λ ds=>if ds.length=n then A4 (K (ds.map Slot.val)) else .bad:=(rfl)
@[simp] theorem ajg(n:Nat)(K:List Slot->cO):cV n K fa Γ=(fa Γ).bnd λ ds=>if ds.length=n/\m6 ds=true then A4 (K (ds.map Slot.val)) else .bad:=(rfl)
@[simp] theorem ajf(n:Nat)(K:List Slot->cO):sX n K fa Γ=(fa Γ).bnd λ ds=>if ds.length=n then A4 (nbA (K ((wu ds).map Slot.val))) else .bad:=(rfl)
@[simp] theorem aiA(n:Nat)(K:List Slot->cO):sQ n K fa Γ=(fa Γ).bnd λ ds=>if ds.length=n/\m6 ds=true then rG (K (ds.map Slot.val)) else .bad:=(rfl)
@[simp] theorem amF(mt:List (String×List String))(cs:List String):A3 mt cs f Γ=(f Γ).bnd (ur mt cs):=(rfl)
@[simp] theorem amD:abm Γ= .ok none:=(rfl)
@[simp] theorem aqM:dP f Γ=(f Γ).bnd λ d=>match d with
 | .int i=> .ok (some i)
 |_=> .bad:=(rfl)
@[simp] theorem abH:i7 Γ= .ok true:=(rfl)
@[simp] theorem cK(i:Nat)(d:D):aD i d Γ=some (Γ.set i (.val d)):=(rfl)
@[simp] theorem akf:kD [] Γ=some Γ:=(rfl)
@[simp] theorem ahA(t:Tg)(u:Vj)(d:D)(r:List D):bg t u (d::r) Γ=(t d Γ).bind λ Γ'=>u r Γ':=(rfl)
@[simp] theorem ake(n:Nat)(t:Vj)(ds:List D):jy n t (.tup ds) Γ=if ds.length=n then t ds Γ else none:=(rfl)
end
@[simp] theorem aot(d:D):A4 (.ok d)= .ok d:=(rfl)
@[simp] theorem amI(m:M):A4 (.new m)=fzR m:=(rfl)
@[simp] theorem amJ(c:String):A4 (.err c)= .err c:=(rfl)
@[simp] theorem aod(d:D):rG (.ok d)= .ok (.d d):=(rfl)
@[simp] theorem al6(m:M):rG (.new m)= .ok m:=(rfl)
@[simp] theorem ar3(d:D):fzR (.d d)= .ok d:=(rfl)
@[simp] theorem ar2(xs:List D):fzR (.l xs)= .ok (.lst xs):=(rfl)
@[simp] theorem UC(xs:List D):Bp (.l xs)=m6 xs:=by simp[Bp]
@[simp] theorem apS(i:Int):nt (.int i)=true:=by simp[nt]
@[simp] theorem ais(xs:List D):nt (.tup xs)=m6 xs:=by simp[nt]
@[simp] theorem an8:m6 []=true:=by simp[m6]
@[simp] theorem alQ(d:D)(ds:List D):m6 (d::ds)=(nt d&&m6 ds):=by simp[m6]
def Bo{α:Type}(f:α->D)(h:∀x,nt (f x)=true):∀xs:List α,m6 (xs.map f)=true
 |[]=>by simp
 |x::xs=>by simp[h x,Bo f h xs]
@[simp] theorem akp:p8 []=[]:=by simp[p8]
@[simp] theorem aiE(m:M)(ms:List M):p8 (m::ms)=lend m::p8 ms:=by simp[p8]
@[simp] theorem ap3(xs:List D):lend (.l xs)= .bor true xs:=by simp[lend]
@[simp] theorem aow(m:M):tE m []=some m:=by cases m<;>rfl
@[simp] theorem aly(m m':M):qw m [] m'=m':=by cases m<;>rfl
@[simp] theorem anU(m:M):slM (.own m)=some m:=(rfl)
@[simp] theorem anT(m:M):slM (.par m)=some m:=(rfl)
@[simp] theorem an0(m m':M):reS (.own m) m'= .own m':=(rfl)
@[simp] theorem anZ(m m':M):reS (.par m) m'= .par m':=(rfl)
@[simp] theorem alN(Γ:Sg):oUp (some Γ)= .nx Γ:=(rfl)
@[simp] theorem aqQ(Γ:Sg):mU (.nx Γ)= .ok .fE:=(rfl)
@[simp] theorem aqP(d:D):mU (.rt d)= .ok d:=(rfl)
@[simp] theorem aoy(m:M):mU (.Mz m)= .new m:=(rfl)
@[simp] theorem aoz(c:String)(Γ:Sg):mU (.err c Γ)= .err c:=(rfl)
@[simp] theorem ak8(i j:Int):Ah (.int i) (.int j)= .ok (.int (i- j)):=(rfl)
@[simp] theorem aoe(i j:Int):ltI (.int i) (.int j)= .ok (.bl (decide (i<j))):=(rfl)
@[simp] theorem aof(i j:Int):Yi (.int i) (.int j)= .ok (.bl (decide (i<=j))):=(rfl)
def ZW(i j:Int)(h:CC i j=true):ZX (.int i) (.int j)= .ok (.int (i*j)):=by simp[ZX,h]
def Xr(i j:Int)(h:GI i j=true):oO (.int i) (.int j)= .ok (.int (i.fdiv j)):=by simp[oO,h]
def pZ(i j:Int)(h:j≠0):m7 (.int i) (.int j)= .ok (.int (i.fmod j)):=by simp[m7,h]
@[simp] theorem akq(mt:List (String×List String))(c:String):kinds mt (.exc c)=mt.lookup c:=(rfl)
def bits_le{i:Int}{n:Nat}(h:i.natAbs<2^n):Builtin.Int.intBits i<=n:=by
 unfold Builtin.Int.intBits;split
 ·exact Nat.zero_le _
 ·rename_i hz;have:i.natAbs≠0:=by simpa using hz
  exact Nat.succ_le_of_lt ((Nat.log2_lt this).mpr h)
def Ky{i j:Int}(h:j.natAbs<2^64):CC i j=true:=by simp[CC,bits_le h]
def abi{i j:Int}(h0:j≠0)(h:j.natAbs<2^9000):GI i j=true:=by
 have:j.natAbs≠0:=by simpa using h0
 simp only[GI,Bool.and_eq_true,decide_eq_true_eq];exact ⟨h0,(Nat.log2_lt this).mpr h⟩
@[simp] theorem al3(i j:Int)(h:j≠0):m7 (.int i) (.int j)= .ok (.int (i.fmod j)):=pZ i j h
@[simp] theorem al1(i j:Int)(h:j.natAbs<18446744073709551616):ZX (.int i) (.int j)= .ok (.int (i*j)):=ZW i j (Ky h)
@[simp] theorem akz(i j:Int)(h:j≠0)(h2:j.natAbs<18446744073709551616):oO (.int i) (.int j)= .ok (.int (i.fdiv j)):=Xr i j (abi h (Nat.lt_of_lt_of_le h2 (show 2^64<=2^9000 from Nat.pow_le_pow_right (by decide) (by decide))))
@[simp] theorem Zd(i j:Int)(h0:0<=j)(h1:j<=1000000)(h2:i.natAbs<18446744073709551616):VT (.int i) (.int j)= .ok (.int (i^j.toNat)):=by
 have:Ut i j=true:=by simp[Ut,h0,h1];omega
 simp[VT,this]
section
variable(f:Sg->Res D)(r:Sg->Res (List D))(t:Tg)(B:Sg->Out)(Γ:Sg)(xs:List D)
end
@[simp] theorem amo(t:Tg)(B:Sg->Out)(Γ:Sg):gn t B [] Γ= .nx Γ:=(rfl)
section
variable(Γ:Sg)(f g h:Sg->Res D)(fa:Sg->Res (List D))(t:Tg)(B:Sg->Out)
def mQ(n:Nat)(rK:List (String×(List Slot->cO)))(o:D)(r:Res (List D)):Res M:=match p6 rK o with
 |some F=>r.bnd λ ds=>if ds.length=n then rG (F ((o::ds).map Slot.val)) else .bad
 |none=> .bad
@[simp] theorem ako(n:Nat)(rK:List (String×(List Slot->cO))):kE n rK f fa Γ=(f Γ).bnd λ o=>mQ n rK o (fa Γ):=(rfl)
@[simp] theorem apR(c:String)(ns:List Str)(xs:List D):nt (.obj c ns xs)=m6 xs:=by simp[nt]
@[simp] theorem af7(i:Nat)(p:Sg->Res (List Nat)):Hs i p f Γ=oE (p Γ) Γ λ ks=>if W6 (zT i ks Γ)=true then oE (f Γ) Γ λ d=>oUp (DW i ks (X4 d) Γ) else .bad:=(rfl)
@[simp] theorem gw(tm:Bool)(k:Nat)(caps:List Nat)(p:Sg->Res Bool):cA tm fa k caps t p f Γ=(fa Γ).bnd λ xs=>if xs.length<1000000 then oV (N9 t p f (rH tm k caps Γ)) xs else .bad:=(rfl)
end
end L4
end
section
namespace L4
open PySem PySem.Spec PyProof.Rows L2
abbrev St:=L2.St
structure Cb where
 exc:String->Option Addr
 cls:String->Option (Addr×List Str)
 /-- all classes of instances -/
 ins:String->Option Addr
structure Cf where
 cb:Cb
 L:Hp
 io:Addr->Prop
 args:List V
structure Ct where
 f:Cf
 B:Hp
 tm:Bool
def Cf.z(c:Cf):Ct:=⟨c,λ _=>none,false⟩
def Cf.at'(c:Cf)(H:Hp):Ct:=⟨c,H,true⟩
noncomputable def qm(a C:Addr):Heap->Prop:=λ h=>∃o,h.get? a=some o/\o.cls= .ref C
def FzL(K:W.Frag)(H:Hp)(a:Addr)(vs:List V):Prop:=(∃o,H a=some (.EX o (.lst vs)))\/∃(o:Obj) (its:Array Value) (n:Nat),K.lookup a=some o/\o.cls= .type "list"/\o.dict=none/\o.data= .seq its n/\its.size<=sizeLine/\Vals vs its.toList
def FzL.sq{K:W.Frag}{H:Hp}{a:Addr}{vs:List V}(h:FzL K H a vs):rJ K H a vs:=by
 rcases h with ⟨o,h⟩|h
 ·exact .inl (.inr ⟨o,h⟩)
 ·exact .inr h
def Ct.lo(ct:Ct)(t:Bool):Hp:=if t=true then ct.B else ct.f.L
def SqK(K:W.Frag)(a:Addr)(xs:List V):Prop:=∃(o:Obj) (its:Array Value) (n:Nat),K.lookup a=some o/\o.cls= .type "tuple"/\o.data= .seq its n/\its.size<=sizeLine/\Vals xs its.toList
def SqK.sq{K:W.Frag}{H:Hp}{a:Addr}{xs:List V}(h:SqK K a xs):yx K H a xs:= .inr h
def pK{K:W.Frag}{H:Hp}{a:Addr}{xs:List V}(h:H a=some (.tup xs)):yx K H a xs:= .inl (.inl h)
def Ks.ho:Ks->List V->HO
 | .s ks,vs=> .dK (ks.zip vs)
 | .t ks,vs=> .dT (ks.zip vs)
mutual
def Tl(K:W.Frag)(ct:Ct)(H:Hp):D->V->Prop
 | .fE,v=>v= .fE
 | .bl b,v=>v= .bl b
 | .int i,v=>v= .int i
 | .str x,v=>v= .str x
 | .tup ds,v=>∃a vs,v= .ref a/\H a=some (.tup vs)/\aJ K ct H ds vs
 | .gt ds,v=>∃a vs,v= .ref a/\SqK K a vs/\aJ K ct H ds vs
 | .lst ds,v=>∃a vs,v= .ref a/\FzL K H a vs/\aJ K ct H ds vs
 | .obj c ns ds,v=>∃a C dx vs,v= .ref a/\ct.f.cb.cls c=some (C,ns)/\H a=some (.ins C dx (ns.zip vs))/\ns.length=vs.length/\aJ K ct H ds vs
 | .exc c,v=>∃a C,v= .ref a/\ct.f.cb.exc c=some C/\H a=some (.ext (qm a C))
 | .bor t ds,v=>∃a vs,v= .ref a/\ct.lo t a=some (.lst vs)/\aJ K ct H ds vs
 | .uA ks ds,v=>∃a vs,v= .ref a/\(∃o,H a=some (.EX o (ks.ho vs)))/\ks.len=vs.length/\aJ K ct H ds vs
 | .yw t ks ds,v=>∃a vs,v= .ref a/\ct.lo t a=some (ks.ho vs)/\ks.len=vs.length/\aJ K ct H ds vs
 | .yu t c ns ds,v=>∃a C dx vs,v= .ref a/\ct.f.cb.ins c=some C/\ct.lo t a=some (.ins C dx (ns.zip vs))/\ns.length=vs.length/\aJ K ct H ds vs
def aJ(K:W.Frag)(ct:Ct)(H:Hp):List D->List V->Prop
 |[],vs=>vs=[]
 |d::ds,vs=>∃v r,vs=v::r/\Tl K ct H d v/\aJ K ct H ds r
end
def ajI(cb:Cb):HO->Prop
 | .tup _=>True
 | .EX _ _=>True
 | .ins C _ fs=>∃c ns,cb.cls c=some (C,ns)/\fs.map (·.1)=ns
 | .ext _=>True
 |_=>False
def aZ(cb:Cb)(H H':Hp):Prop:=∀b o,H b=some o->ajI cb o->H' b=some o
def az.keep{cb:Cb}{H H':Hp}(e:az H H'):aZ cb H H':=λ b o h _=>e b o h
def aZ.refl{cb:Cb}(H:Hp):aZ cb H H:=λ _ _ h _=>h
def aZ.trans{cb:Cb}{H H1 H2:Hp}(a:aZ cb H H1)(b:aZ cb H1 H2):aZ cb H H2:=λ c o h s=>b c o (a c o h s) s
def aZ.lst{cb:Cb}{H:Hp}{a:Addr}{vs:List V}{o:HO}(h:H a=some (.lst vs)):aZ cb H (upd H a o):=λ b u hb st=>by
 have:b≠a:=by rintro rfl;rw[h] at hb;cases hb;exact st
 rw[aE this];exact hb
def aZ.dT{cb:Cb}{H:Hp}{a:Addr}{kvs:List (List Key×V)}{o:HO}(h:H a=some (.dT kvs)):aZ cb H (upd H a o):=λ b u hb st=>by
 have:b≠a:=by rintro rfl;rw[h] at hb;cases hb;exact st
 rw[aE this];exact hb
def Ks.ZO{cb:Cb}{ks:Ks}{vs:List V}:¬ajI cb (ks.ho vs):=by cases ks<;>exact λ q=>q
def aZ.sqT{cb:Cb}{K:W.Frag}{H H':Hp}{a:Addr}{xs:List V}(e:aZ cb H H')(h:yx K H a xs):yx K H' a xs:=by
 rcases h with (h|⟨o,h⟩)|h
 ·exact .inl (.inl (e _ _ h trivial))
 ·exact .inl (.inr ⟨o,e _ _ h trivial⟩)
 ·exact .inr h
def aZ.fzL{cb:Cb}{K:W.Frag}{H H':Hp}{a:Addr}{xs:List V}(e:aZ cb H H')(h:FzL K H a xs):FzL K H' a xs:=by
 rcases h with ⟨o,h⟩|h
 ·exact .inl ⟨o,e _ _ h trivial⟩
 ·exact .inr h
def BF{α β:Type}:∀{ns:List α} {vs:List β},ns.length=vs.length->(ns.zip vs).map (·.1)=ns
 |[],_,_=>by simp
 |n::ns,[],h=>by simp at h
 |n::ns,v::vs,h=>by simp only[List.zip_cons_cons,List.map_cons,List.cons.injEq,true_and];exact BF (by simpa using h)
mutual
def Tl.keep{K:W.Frag}{ct:Ct}{H H':Hp}(e:aZ ct.f.cb H H'):∀{d:D} {v:V},Tl K ct H d v->Tl K ct H' d v
 | .fE,_,h=>by simpa[Tl] using h
 | .bl b,_,h=>by simpa[Tl] using h
 | .int i,_,h=>by simpa[Tl] using h
 | .str x,_,h=>by simpa[Tl] using h
 | .tup ds,v,h=>by simp only[Tl] at h ⊢;obtain ⟨a,vs,h1,h2,h3⟩:=h;exact ⟨a,vs,h1,e _ _ h2 trivial,aJ.keep e h3⟩
 | .gt ds,v,h=>by simp only[Tl] at h ⊢;obtain ⟨a,vs,h1,h2,h3⟩:=h;exact ⟨a,vs,h1,h2,aJ.keep e h3⟩
 | .lst ds,v,h=>by simp only[Tl] at h ⊢;obtain ⟨a,vs,h1,h2,h3⟩:=h;exact ⟨a,vs,h1,e.fzL h2,aJ.keep e h3⟩
 | .obj c ns ds,v,h=>by simp only[Tl] at h ⊢;obtain ⟨a,C,dx,vs,h1,h2,h3,h4,h5⟩:=h;exact ⟨a,C,dx,vs,h1,h2,e _ _ h3 ⟨c,ns,h2,BF h4⟩,h4,aJ.keep e h5⟩
 | .exc c,v,h=>by simp only[Tl] at h ⊢;obtain ⟨a,C,h1,h2,h3⟩:=h;exact ⟨a,C,h1,h2,e _ _ h3 trivial⟩
 | .bor t ds,v,h=>by simp only[Tl] at h ⊢;obtain ⟨a,vs,h1,h2,h3⟩:=h;exact ⟨a,vs,h1,h2,aJ.keep e h3⟩
 | .uA ks ds,v,h=>by simp only[Tl] at h ⊢;obtain ⟨a,vs,h1,⟨o,h2⟩,h3,h4⟩:=h;exact ⟨a,vs,h1,⟨o,e _ _ h2 trivial⟩,h3,aJ.keep e h4⟩
 | .yw t ks ds,v,h=>by simp only[Tl] at h ⊢;obtain ⟨a,vs,h1,h2,h3,h4⟩:=h;exact ⟨a,vs,h1,h2,h3,aJ.keep e h4⟩
 | .yu t c ns ds,v,h=>by simp only[Tl] at h ⊢;obtain ⟨a,C,dx,vs,h1,h2,h3,h4,h5⟩:=h;exact ⟨a,C,dx,vs,h1,h2,h3,h4,aJ.keep e h5⟩
def aJ.keep{K:W.Frag}{ct:Ct}{H H':Hp}(e:aZ ct.f.cb H H'):∀{ds:List D} {vs:List V},aJ K ct H ds vs->aJ K ct H' ds vs
 |[],_,h=>by simpa[aJ] using h
 |d::ds,_,h=>by simp only[aJ] at h ⊢;obtain ⟨v,r,h1,h2,h3⟩:=h;exact ⟨v,r,h1,Tl.keep e h2,aJ.keep e h3⟩
end
structure adb(ct iZ:Ct)(p:Bool->Bool)(g:Bool->Bool):Prop where
 cb:iZ.f.cb=ct.f.cb
 at':∀t a o,p t=true->ct.lo t a=some o->iZ.lo (g t) a=some o
mutual
noncomputable def D8(g:Bool->Bool):D->D
 | .tup xs=> .tup (ug g xs)
 | .gt xs=> .gt (ug g xs)
 | .lst xs=> .lst (ug g xs)
 | .obj c ns xs=> .obj c ns (ug g xs)
 | .uA ks xs=> .uA ks (ug g xs)
 | .bor t xs=> .bor (g t) (ug g xs)
 | .yw t ks xs=> .yw (g t) ks (ug g xs)
 | .yu t c ns xs=> .yu (g t) c ns (ug g xs)
 | .fE=> .fE
 | .bl b=> .bl b
 | .int i=> .int i
 | .str x=> .str x
 | .exc c=> .exc c
noncomputable def ug(g:Bool->Bool):List D->List D
 |[]=>[]
 |d::ds=>D8 g d::ug g ds
end
mutual
noncomputable def Ga(p:Bool->Bool):D->Bool
 | .tup xs=>sC p xs
 | .gt xs=>sC p xs
 | .lst xs=>sC p xs
 | .obj _ _ xs=>sC p xs
 | .uA _ xs=>sC p xs
 | .bor t xs=>p t&&sC p xs
 | .yw t _ xs=>p t&&sC p xs
 | .yu t _ _ xs=>p t&&sC p xs
 |_=>true
noncomputable def sC(p:Bool->Bool):List D->Bool
 |[]=>true
 |d::ds=>Ga p d&&sC p ds
end
mutual
def Tl.re{K:W.Frag}{ct iZ:Ct}{H:Hp}{p g:Bool->Bool}(r:adb ct iZ p g):∀{d:D} {v:V},Ga p d=true->Tl K ct H d v->Tl K iZ H (D8 g d) v
 | .fE,_,_,h=>by simpa[Tl,D8] using h
 | .bl b,_,_,h=>by simpa[Tl,D8] using h
 | .int i,_,_,h=>by simpa[Tl,D8] using h
 | .str x,_,_,h=>by simpa[Tl,D8] using h
 | .exc c,v,_,h=>by simp only[Tl,D8] at h ⊢;rw[r.cb];exact h
 | .tup ds,v,q,h=>by simp only[Tl,D8,Ga] at h q ⊢;obtain ⟨a,vs,h1,h2,h3⟩:=h;exact ⟨a,vs,h1,h2,aJ.re r q h3⟩
 | .gt ds,v,q,h=>by simp only[Tl,D8,Ga] at h q ⊢;obtain ⟨a,vs,h1,h2,h3⟩:=h;exact ⟨a,vs,h1,h2,aJ.re r q h3⟩
 | .lst ds,v,q,h=>by simp only[Tl,D8,Ga] at h q ⊢;obtain ⟨a,vs,h1,h2,h3⟩:=h;exact ⟨a,vs,h1,h2,aJ.re r q h3⟩
 | .obj c ns ds,v,q,h=>by simp only[Tl,D8,Ga] at h q ⊢;obtain ⟨a,C,dx,vs,h1,h2,h3,h4,h5⟩:=h;exact ⟨a,C,dx,vs,h1,by rw[r.cb];exact h2,h3,h4,aJ.re r q h5⟩
 | .bor t ds,v,q,h=>by simp only[Tl,D8,Ga,Bool.and_eq_true] at h q ⊢;obtain ⟨a,vs,h1,h2,h3⟩:=h;exact ⟨a,vs,h1,r.at' t a _ q.1 h2,aJ.re r q.2 h3⟩
 | .uA ks ds,v,q,h=>by simp only[Tl,D8,Ga] at h q ⊢;obtain ⟨a,vs,h1,h2,h3,h4⟩:=h;exact ⟨a,vs,h1,h2,h3,aJ.re r q h4⟩
 | .yw t ks ds,v,q,h=>by simp only[Tl,D8,Ga,Bool.and_eq_true] at h q ⊢;obtain ⟨a,vs,h1,h2,h3,h4⟩:=h;exact ⟨a,vs,h1,r.at' t a _ q.1 h2,h3,aJ.re r q.2 h4⟩
 | .yu t c ns ds,v,q,h=>by simp only[Tl,D8,Ga,Bool.and_eq_true] at h q ⊢;obtain ⟨a,C,dx,vs,h1,h2,h3,h4,h5⟩:=h;exact ⟨a,C,dx,vs,h1,by rw[r.cb];exact h2,r.at' t a _ q.1 h3,h4,aJ.re r q.2 h5⟩
def aJ.re{K:W.Frag}{ct iZ:Ct}{H:Hp}{p g:Bool->Bool}(r:adb ct iZ p g):∀{ds:List D} {vs:List V},sC p ds=true->aJ K ct H ds vs->aJ K iZ H (ug g ds) vs
 |[],_,_,h=>by simpa[aJ,ug] using h
 |d::ds,_,q,h=>by simp only[aJ,ug,sC,Bool.and_eq_true] at h q ⊢;obtain ⟨v,w,h1,h2,h3⟩:=h;exact ⟨v,w,h1,Tl.re r q.1 h2,aJ.re r q.2 h3⟩
end
mutual
def B0:∀(d:D),D8 id d=d
 | .fE| .bl _| .int _| .str _| .exc _=>by simp[D8]
 | .tup ds| .gt ds| .lst ds| .obj _ _ ds| .uA _ ds| .bor _ ds| .yw _ _ ds| .yu _ _ _ ds=>by simp[D8,tS ds]
def tS:∀(ds:List D),ug id ds=ds
 |[]=>rfl
 |d::ds=>by simp[ug,B0 d,tS ds]
end
mutual
def ahR:∀(d:D),D8 (λ _=>false) d=dn d
 | .fE| .bl _| .int _| .str _| .exc _=>by simp[D8,dn]
 | .tup ds| .gt ds| .lst ds| .obj _ _ ds| .uA _ ds| .bor _ ds| .yw _ _ ds| .yu _ _ _ ds=>by simp[D8,dn,Hw ds]
def Hw:∀(ds:List D),ug (λ _=>false) ds=wu ds
 |[]=>rfl
 |d::ds=>by simp[ug,wu,ahR d,Hw ds]
end
mutual
def HP:∀(d:D),Ga (λ _=>true) d=true
 | .fE| .bl _| .int _| .str _| .exc _=>by simp[Ga]
 | .tup ds| .gt ds| .lst ds| .obj _ _ ds| .uA _ ds| .bor _ ds| .yw _ _ ds| .yu _ _ _ ds=>by simp[Ga,sA ds]
def sA:∀(ds:List D),sC (λ _=>true) ds=true
 |[]=>rfl
 |d::ds=>by simp[sC,HP d,sA ds]
end
mutual
def ZH:∀(d:D),Ga (λ t=>!t) d=nt d
 | .fE| .bl _| .int _| .str _| .exc _=>by simp[Ga,nt]
 | .tup ds| .gt ds| .lst ds| .obj _ _ ds| .uA _ ds| .bor _ ds| .yw _ _ ds| .yu _ _ _ ds=>by simp[Ga,nt,HM ds]
def HM:∀(ds:List D),sC (λ t=>!t) ds=m6 ds
 |[]=>rfl
 |d::ds=>by simp[sC,m6,ZH d,HM ds]
end
mutual
def ZI:∀(d:D),Ga (λ _=>false) d=nb d
 | .fE| .bl _| .int _| .str _| .exc _=>by simp[Ga,nb]
 | .tup ds| .gt ds| .lst ds| .obj _ _ ds| .uA _ ds=>by simp[Ga,nb,HN ds]
 | .bor _ ds| .yw _ _ ds| .yu _ _ _ ds=>by simp[Ga,nb]
def HN:∀(ds:List D),sC (λ _=>false) ds=AG ds
 |[]=>rfl
 |d::ds=>by simp[sC,AG,ZI d,HN ds]
end
def Tl.lift{K:W.Frag}{c:Cf}{B H:Hp}{d:D}{v:V}(h:Tl K c.z H d v):Tl K (c.at' B) H d v:=by
 have:=Tl.re (ct:=c.z) (iZ:=c.at' B) (p:=λ _=>true) (g:=id) ⟨rfl,λ t a o _ q=>by cases t with
  |true=>exact absurd q (by simp[Ct.lo,Cf.z])
  |false=>exact q⟩ (HP d) h
 rwa [B0] at this
def Tl.down{K:W.Frag}{c:Cf}{B H:Hp}{tm:Bool}{d:D}{v:V}(h:Tl K ⟨c,B,tm⟩ H d v)(n:nt d=true):Tl K c.z H d v:=by
 have:=Tl.re (ct:=⟨c,B,tm⟩) (iZ:=c.z) (p:=λ t=>!t) (g:=id) ⟨rfl,λ t a o p q=>by cases t with
  |true=>cases p
  |false=>exact q⟩ (by rw[ZH];exact n) h
 rwa [B0] at this
def Tl.bare{K:W.Frag}{ct iZ:Ct}{H:Hp}{d:D}{v:V}(e:iZ.f.cb=ct.f.cb)(h:Tl K ct H d v)(n:nb d=true):Tl K iZ H d v:=by have:=Tl.re (ct:=ct) (iZ:=iZ) (p:=λ _=>false) (g:=id) ⟨e,λ t a o p q=>nomatch p⟩ (by rw[ZI];exact n) h;rwa [B0] at this
def aJ.bare{K:W.Frag}{ct iZ:Ct}{H:Hp}{d:List D}{v:List V}(e:iZ.f.cb=ct.f.cb)(h:aJ K ct H d v)(n:AG d=true):aJ K iZ H d v:=by have:=aJ.re (ct:=ct) (iZ:=iZ) (p:=λ _=>false) (g:=id) ⟨e,λ t a o p q=>nomatch p⟩ (by rw[HN];exact n) h;rwa [tS] at this
def aJ.lift{K:W.Frag}{c:Cf}{B H:Hp}{d:List D}{v:List V}(h:aJ K c.z H d v):aJ K (c.at' B) H d v:=by
 have:=aJ.re (ct:=c.z) (iZ:=c.at' B) (p:=λ _=>true) (g:=id) ⟨rfl,λ t a o _ q=>by cases t with
  |true=>exact absurd q (by simp[Ct.lo,Cf.z])
  |false=>exact q⟩ (sA d) h
 rwa [tS] at this
def aJ.down{K:W.Frag}{c:Cf}{B H:Hp}{tm:Bool}{d:List D}{v:List V}(h:aJ K ⟨c,B,tm⟩ H d v)(n:m6 d=true):aJ K c.z H d v:=by
 have:=aJ.re (ct:=⟨c,B,tm⟩) (iZ:=c.z) (p:=λ t=>!t) (g:=id) ⟨rfl,λ t a o p q=>by cases t with
  |true=>cases p
  |false=>exact q⟩ (by rw[HM];exact n) h
 rwa [tS] at this
def aJ.lent{K:W.Frag}{ct:Ct}{c':Cf}{H:Hp}{d:List D}{v:List V}(e:c'.cb=ct.f.cb)(eL:c'.L=H)(l:az ct.f.L H)(b:az ct.B H)(h:aJ K ct H d v):aJ K c'.z H (wu d) v:=by
 have:=aJ.re (ct:=ct) (iZ:=c'.z) (p:=λ _=>true) (g:=λ _=>false) ⟨e,λ t a o _ q=>by
  show c'.L a=some o;rw[eL];cases t with
  |true=>exact b a o q
  |false=>exact l a o q⟩ (sA d) h
 rwa [Hw] at this
def aJ.length{K:W.Frag}{ct:Ct}{H:Hp}:∀{ds:List D} {vs:List V},aJ K ct H ds vs->ds.length=vs.length
 |[],_,h=>by simp only[aJ] at h;rw[h];rfl
 |d::ds,_,h=>by simp only[aJ] at h;obtain ⟨v,r,rfl,_,h⟩:=h;simp[aJ.length h]
def aJ.get{K:W.Frag}{ct:Ct}{H:Hp}:∀{ds:List D} {vs:List V} {i:Nat} {d:D},aJ K ct H ds vs->ds[i]? =some d->∃v,vs[i]? =some v/\Tl K ct H d v
 |[],_,_,_,_,e=>by simp at e
 |d::ds,_,i,d',h,e=>by
  simp only[aJ] at h;obtain ⟨v,r,rfl,h1,h2⟩:=h;cases i with
  |zero=>simp at e;subst e;exact ⟨v,rfl,h1⟩
  |succ i=>exact aJ.get (i:=i) h2 (by simpa using e)
def aJ.nil{K:W.Frag}{ct:Ct}{H:Hp}:aJ K ct H [] []:=by simp[aJ]
def aJ.cons{K:W.Frag}{ct:Ct}{H:Hp}{d:D}{v:V}{ds:List D}{vs:List V}(h:Tl K ct H d v)(t:aJ K ct H ds vs):aJ K ct H (d::ds) (v::vs):=by simp only[aJ];exact ⟨v,vs,rfl,h,t⟩
def aJ.append{K:W.Frag}{ct:Ct}{H:Hp}:∀{ds es:List D} {vs us:List V},aJ K ct H ds vs->aJ K ct H es us->aJ K ct H (ds++es) (vs++us)
 |[],_,_,_,h,t=>by simp only[aJ] at h;subst h;simpa using t
 |d::ds,_,_,_,h,t=>by simp only[aJ] at h;obtain ⟨v,r,rfl,h1,h2⟩:=h;exact aJ.cons h1 (aJ.append h2 t)
def aJ.take{K:W.Frag}{ct:Ct}{H:Hp}:∀{ds:List D} {vs:List V} (n:Nat),aJ K ct H ds vs->aJ K ct H (ds.take n) (vs.take n)
 |[],_,n,h=>by simp only[aJ] at h;subst h;simp[aJ]
 |d::ds,_,0,_=>by simp[aJ]
 |d::ds,_,n+1,h=>by simp only[aJ] at h;obtain ⟨v,r,rfl,h1,h2⟩:=h;exact aJ.cons h1 (aJ.take n h2)
def aJ.drop{K:W.Frag}{ct:Ct}{H:Hp}:∀{ds:List D} {vs:List V} (n:Nat),aJ K ct H ds vs->aJ K ct H (ds.drop n) (vs.drop n)
 |[],_,n,h=>by simp only[aJ] at h;subst h;simp[aJ]
 |d::ds,_,0,h=>h
 |d::ds,_,n+1,h=>by simp only[aJ] at h;obtain ⟨v,r,rfl,h1,h2⟩:=h;exact aJ.drop n h2
def aJ.set{K:W.Frag}{ct:Ct}{H:Hp}{d:D}{v:V}(q:Tl K ct H d v):∀{ds:List D} {vs:List V} (n:Nat),aJ K ct H ds vs->aJ K ct H (ds.set n d) (vs.set n v)
 |[],_,n,h=>by simp only[aJ] at h;subst h;simp[aJ]
 |_::ds,_,0,h=>by simp only[aJ] at h;obtain ⟨w,r,rfl,_,h2⟩:=h;exact aJ.cons q h2
 |_::ds,_,n+1,h=>by simp only[aJ] at h;obtain ⟨w,r,rfl,h1,h2⟩:=h;exact aJ.cons h1 (aJ.set q n h2)
noncomputable abbrev Fp:=Addr->Prop
mutual
def Ow(K:W.Frag)(ct:Ct)(H:Hp):M->V->Fp->Prop
 | .d x,v,_=>Tl K ct H x v
 | .l xs,v,S=>∃a vs,v= .ref a/\S a/\H a=some (.lst vs)/\aJ K ct H xs vs
 | .n ms,v,S=>∃a vs,v= .ref a/\S a/\H a=some (.lst vs)/\ez K ct H ms vs λ b=>S b/\b≠a
 | .t ms,v,S=>∃a vs,v= .ref a/\H a=some (.tup vs)/\ez K ct H ms vs S
 | .k ks xs,v,S=>∃a vs,v= .ref a/\S a/\H a=some (ks.ho vs)/\ks.len=vs.length/\aJ K ct H xs vs
 | .o c ns xs,v,S=>∃a C dx vs,v= .ref a/\S a/\ct.f.cb.ins c=some C/\H a=some (.ins C dx (ns.zip vs))/\ns.length=vs.length/\aJ K ct H xs vs
def ez(K:W.Frag)(ct:Ct)(H:Hp):List M->List V->Fp->Prop
 |[],vs,_=>vs=[]
 |m::ms,vs,S=>∃v r S1 S2,vs=v::r/\(∀b,S1 b->S b)/\(∀b,S2 b->S b)/\(∀b,S1 b->¬S2 b)/\Ow K ct H m v S1/\ez K ct H ms r S2
end
section
variable{K:W.Frag}{ct iZ:Ct}{H H':Hp}
mutual
/-- a arp place -/
def Ow.wide:∀{m:M} {v:V} {S T:Fp},(∀b,S b->T b)->Ow K ct H m v S->Ow K ct H m v T
 | .d x,v,S,T,_,h=>by simpa[Ow] using h
 | .l xs,v,S,T,k,h=>by simp only[Ow] at h ⊢;obtain ⟨a,vs,h1,h2,h3⟩:=h;exact ⟨a,vs,h1,k _ h2,h3⟩
 | .n ms,v,S,T,k,h=>by simp only[Ow] at h ⊢;obtain ⟨a,vs,h1,h2,h3,h4⟩:=h;exact ⟨a,vs,h1,k _ h2,h3,ez.wide (λ b z=>⟨k b z.1,z.2⟩) h4⟩
 | .t ms,v,S,T,k,h=>by simp only[Ow] at h ⊢;obtain ⟨a,vs,h1,h2,h3⟩:=h;exact ⟨a,vs,h1,h2,ez.wide k h3⟩
 | .k ks xs,v,S,T,k,h=>by simp only[Ow] at h ⊢;obtain ⟨a,vs,h1,h2,h3⟩:=h;exact ⟨a,vs,h1,k _ h2,h3⟩
 | .o c ns xs,v,S,T,k,h=>by simp only[Ow] at h ⊢;obtain ⟨a,C,dx,vs,h1,h2,h3⟩:=h;exact ⟨a,C,dx,vs,h1,k _ h2,h3⟩
def ez.wide:∀{ms:List M} {vs:List V} {S T:Fp},(∀b,S b->T b)->ez K ct H ms vs S->ez K ct H ms vs T
 |[],vs,S,T,_,h=>by simpa[ez] using h
 |m::ms,vs,S,T,k,h=>by simp only[ez] at h ⊢;obtain ⟨v,r,S1,S2,h1,h2,h3,h4,h5,h6⟩:=h;exact ⟨v,r,S1,S2,h1,λ b z=>k b (h2 b z),λ b z=>k b (h3 b z),h4,h5,h6⟩
end
mutual
/-- its places are untouched,FW data are kept -/
def Ow.frame(e:aZ ct.f.cb H H'):∀{m:M} {v:V} {S:Fp},(∀b o,S b->H b=some o->H' b=some o)->Ow K ct H m v S->Ow K ct H' m v S
 | .d x,v,S,_,h=>by simp only[Ow] at h ⊢;exact h.keep e
 | .l xs,v,S,k,h=>by simp only[Ow] at h ⊢;obtain ⟨a,vs,h1,h2,h3,h4⟩:=h;exact ⟨a,vs,h1,h2,k _ _ h2 h3,h4.keep e⟩
 | .n ms,v,S,k,h=>by simp only[Ow] at h ⊢;obtain ⟨a,vs,h1,h2,h3,h4⟩:=h;exact ⟨a,vs,h1,h2,k _ _ h2 h3,ez.frame e (λ b o z=>k b o z.1) h4⟩
 | .t ms,v,S,k,h=>by simp only[Ow] at h ⊢;obtain ⟨a,vs,h1,h2,h3⟩:=h;exact ⟨a,vs,h1,e _ _ h2 trivial,ez.frame e k h3⟩
 | .k ks xs,v,S,k,h=>by simp only[Ow] at h ⊢;obtain ⟨a,vs,h1,h2,h3,h4,h5⟩:=h;exact ⟨a,vs,h1,h2,k _ _ h2 h3,h4,h5.keep e⟩
 | .o c ns xs,v,S,k,h=>by simp only[Ow] at h ⊢;obtain ⟨a,C,dx,vs,h1,h2,h3,h4,h5,h6⟩:=h;exact ⟨a,C,dx,vs,h1,h2,h3,k _ _ h2 h4,h5,h6.keep e⟩
def ez.frame(e:aZ ct.f.cb H H'):∀{ms:List M} {vs:List V} {S:Fp},(∀b o,S b->H b=some o->H' b=some o)->ez K ct H ms vs S->ez K ct H' ms vs S
 |[],vs,S,_,h=>by simpa[ez] using h
 |m::ms,vs,S,k,h=>by simp only[ez] at h ⊢;obtain ⟨v,r,S1,S2,h1,h2,h3,h4,h5,h6⟩:=h;exact ⟨v,r,S1,S2,h1,h2,h3,h4,Ow.frame e (λ b o z=>k b o (h2 b z)) h5,ez.frame e (λ b o z=>k b o (h3 b z)) h6⟩
end
mutual
/-- lent for an expression -/
def Ow.lend:∀{m:M} {v:V} {S:Fp},(∀b,S b->ct.B b=H b)->Ow K ct H m v S->Tl K ct H (lend m) v
 | .d x,v,S,_,h=>by simpa only[Ow,L4.lend] using h
 | .l xs,v,S,k,h=>by simp only[Ow,L4.lend,Tl] at h ⊢;obtain ⟨a,vs,h1,h2,h3,h4⟩:=h;exact ⟨a,vs,h1,(k a h2).trans h3,h4⟩
 | .n ms,v,S,k,h=>by simp only[Ow,L4.lend,Tl] at h ⊢;obtain ⟨a,vs,h1,h2,h3,h4⟩:=h;exact ⟨a,vs,h1,(k a h2).trans h3,ez.lend (λ b z=>k b z.1) h4⟩
 | .t ms,v,S,k,h=>by simp only[Ow,L4.lend,Tl] at h ⊢;obtain ⟨a,vs,h1,h2,h3⟩:=h;exact ⟨a,vs,h1,h2,ez.lend k h3⟩
 | .k ks xs,v,S,k,h=>by simp only[Ow,L4.lend,Tl] at h ⊢;obtain ⟨a,vs,h1,h2,h3,h4,h5⟩:=h;exact ⟨a,vs,h1,(k a h2).trans h3,h4,h5⟩
 | .o c ns xs,v,S,k,h=>by simp only[Ow,L4.lend,Tl] at h ⊢;obtain ⟨a,C,dx,vs,h1,h2,h3,h4,h5,h6⟩:=h;exact ⟨a,C,dx,vs,h1,h3,(k a h2).trans h4,h5,h6⟩
def ez.lend:∀{ms:List M} {vs:List V} {S:Fp},(∀b,S b->ct.B b=H b)->ez K ct H ms vs S->aJ K ct H (p8 ms) vs
 |[],vs,S,_,h=>by simpa[ez,L4.p8,aJ] using h
 |m::ms,vs,S,k,h=>by simp only[ez,L4.p8,aJ] at h ⊢;obtain ⟨v,r,S1,S2,h1,h2,h3,h4,h5,h6⟩:=h;exact ⟨v,r,h1,Ow.lend (λ b z=>k b (h2 b z)) h5,ez.lend (λ b z=>k b (h3 b z)) h6⟩
end
mutual
/-- FW data in it told otherwise -/
def Ow.map{p:D->Bool}(ec:iZ.f.cb=ct.f.cb)(g:∀d v,p d=true->Tl K ct H d v->Tl K iZ H d v){q:List D->Bool}(gs:∀d v,q d=true->aJ K ct H d v->aJ K iZ H d v){pm:M->Bool}{Uu:List M->Bool} (e1:∀x,pm (.d x)=true->p x=true) (e2:∀x,pm (.l x)=true->q x=true) (e3:∀x,pm (.n x)=true->Uu x=true) (e4:∀x,pm (.t x)=true->Uu x=true) (e5:∀k x,pm (.k k x)=true->q x=true) (e7:∀c k x,pm (.o c k x)=true->q x=true) (e6:∀m ms,Uu (m::ms)=true->pm m=true/\Uu ms=true):∀{m:M} {v:V} {S:Fp},pm m=true->Ow K ct H m v S->Ow K iZ H m v S
 | .d x,v,S,z,h=>by simp only[Ow] at h ⊢;exact g _ _ (e1 _ z) h
 | .l xs,v,S,z,h=>by simp only[Ow] at h ⊢;obtain ⟨a,vs,h1,h2,h3,h4⟩:=h;exact ⟨a,vs,h1,h2,h3,gs _ _ (e2 _ z) h4⟩
 | .n ms,v,S,z,h=>by simp only[Ow] at h ⊢;obtain ⟨a,vs,h1,h2,h3,h4⟩:=h;exact ⟨a,vs,h1,h2,h3,ez.map ec g gs e1 e2 e3 e4 e5 e7 e6 (e3 _ z) h4⟩
 | .t ms,v,S,z,h=>by simp only[Ow] at h ⊢;obtain ⟨a,vs,h1,h2,h3⟩:=h;exact ⟨a,vs,h1,h2,ez.map ec g gs e1 e2 e3 e4 e5 e7 e6 (e4 _ z) h3⟩
 | .k ks xs,v,S,z,h=>by simp only[Ow] at h ⊢;obtain ⟨a,vs,h1,h2,h3,h4,h5⟩:=h;exact ⟨a,vs,h1,h2,h3,h4,gs _ _ (e5 _ _ z) h5⟩
 | .o c ns xs,v,S,z,h=>by simp only[Ow] at h ⊢;obtain ⟨a,C,dx,vs,h1,h2,h3,h4,h5,h6⟩:=h;exact ⟨a,C,dx,vs,h1,h2,by rw[ec];exact h3,h4,h5,gs _ _ (e7 _ _ _ z) h6⟩
def ez.map{p:D->Bool}(ec:iZ.f.cb=ct.f.cb)(g:∀d v,p d=true->Tl K ct H d v->Tl K iZ H d v){q:List D->Bool}(gs:∀d v,q d=true->aJ K ct H d v->aJ K iZ H d v){pm:M->Bool}{Uu:List M->Bool} (e1:∀x,pm (.d x)=true->p x=true) (e2:∀x,pm (.l x)=true->q x=true) (e3:∀x,pm (.n x)=true->Uu x=true) (e4:∀x,pm (.t x)=true->Uu x=true) (e5:∀k x,pm (.k k x)=true->q x=true) (e7:∀c k x,pm (.o c k x)=true->q x=true) (e6:∀m ms,Uu (m::ms)=true->pm m=true/\Uu ms=true):∀{ms:List M} {vs:List V} {S:Fp},Uu ms=true->ez K ct H ms vs S->ez K iZ H ms vs S
 |[],vs,S,_,h=>by simpa[ez] using h
 |m::ms,vs,S,z,h=>by simp only[ez] at h ⊢;obtain ⟨v,r,S1,S2,h1,h2,h3,h4,h5,h6⟩:=h;exact ⟨v,r,S1,S2,h1,h2,h3,h4,Ow.map ec g gs e1 e2 e3 e4 e5 e7 e6 (e6 _ _ z).1 h5,ez.map ec g gs e1 e2 e3 e4 e5 e7 e6 (e6 _ _ z).2 h6⟩
end
end
section
variable{K:W.Frag}{c:Cf}{B H:Hp}{m:M}{v:V}{S:Fp}
def Ow.lift(h:Ow K c.z H m v S):Ow K (c.at' B) H m v S:=Ow.map (ct:=c.z) (iZ:=c.at' B) (p:=λ _=>true) rfl (λ _ _ _=>Tl.lift) (q:=λ _=>true) (λ _ _ _=>aJ.lift) (pm:=λ _=>true) (Uu:=λ _=>true) (λ _ _=>rfl) (λ _ _=>rfl) (λ _ _=>rfl) (λ _ _=>rfl) (λ _ _ _=>rfl) (λ _ _ _ _=>rfl) (λ _ _ _=>⟨rfl,rfl⟩) rfl h
def Ow.down{tm:Bool}(h:Ow K ⟨c,B,tm⟩ H m v S)(n:Bp m=true):Ow K c.z H m v S:=Ow.map (ct:=⟨c,B,tm⟩) (iZ:=c.z) (p:=nt) rfl (λ _ _ n h=>h.down n) (q:=m6) (λ _ _ n h=>h.down n) (pm:=Bp) (Uu:=Ko) (λ _ z=>by simpa[Bp] using z) (λ _ z=>by simpa[Bp] using z) (λ _ z=>by simpa[Bp] using z) (λ _ z=>by simpa[Bp] using z) (λ _ _ z=>by simpa[Bp] using z) (λ _ _ _ z=>by simpa[Bp] using z)
  (λ _ _ z=>by simpa[Ko] using z) n h
def Ow.bare{ct iZ:Ct}(e:iZ.f.cb=ct.f.cb)(h:Ow K ct H m v S)(n:Ni m=true):Ow K iZ H m v S:=Ow.map (p:=nb) e (λ _ _ n h=>h.bare e n) (q:=AG) (λ _ _ n h=>h.bare e n) (pm:=Ni) (Uu:=ZS) (λ _ z=>by simpa[Ni] using z) (λ _ z=>by simpa[Ni] using z) (λ _ z=>by simpa[Ni] using z) (λ _ z=>by simpa[Ni] using z) (λ _ _ z=>by simpa[Ni] using z) (λ _ _ _ z=>by simpa[Ni] using z)
  (λ _ _ z=>by simpa[ZS] using z) n h
end
structure SOk(ct:Ct)(H₀ H:Hp)(S:Fp):Prop where
 new:∀b,S b->H₀ b=none\/ct.f.io b
 here:∀b,S b->H b≠none
 Nc:∀b,S b->ct.f.L b=none
 lent:∀b,S b->ct.tm=true->ct.B b=H b
def pF(K:W.Frag)(ct:Ct)(H₀ H:Hp)(i:Nat)(S:Fp):Slot->Option V->Prop
 | .no,_=>∀b,¬S b
 | .val d,ov=>(∃v,ov=some v/\Tl K ct H d v)/\∀b,¬S b
 | .own m,ov=>∃v,ov=some v/\Ow K ct H m v S/\SOk ct H₀ H S/\∀b,S b->H₀ b=none
 | .par m,ov=>∃v,ov=some v/\Ow K ct H m v S/\SOk ct H₀ H S/\ct.f.args[i]? =some v
structure J(K:W.Frag)(ct:Ct)(H₀:Hp)(Γ:Sg)(σ:St)(H:Hp):Prop where
 same:∀b o,H₀ b=some o->¬ct.f.io b->H b=some o
 free:∀b,H b=none->H₀ b=none
 lL:az ct.f.L H
 lB:az ct.B H
 len:Γ.length=σ.length
 sl:∃S:Nat->Fp,(∀i sl ov,Γ[i]? =some sl->σ[i]? =some ov->pF K ct H₀ H i (S i) sl ov)/\(∀i j b,i≠j->S i b->¬S j b)/\∀i b,S i b->H b≠none
section
variable{K:W.Frag}{ct:Ct}{H₀ H H':Hp}{Γ:Sg}{σ:St}{i:Nat}{S:Fp}{sl:Slot}{ov:Option V}
def SOk.same(h:SOk ct H₀ H S)(e:az H H'):SOk ct H₀ H' S:=⟨h.new,λ b z q=>h.here b z (by
  cases w:H b with
  |none=>rfl
  |some o=>rw[e b o w] at q;cases q),h.Nc,λ b z t=>by
 rw[h.lent b z t];cases w:H b with
 |none=>exact absurd w (h.here b z)
 |some o=>exact (e b o w).symm⟩
def pF.same(h:pF K ct H₀ H i S sl ov)(e:az H H'):pF K ct H₀ H' i S sl ov:=by
 cases sl with
 |no=>exact h
 |val d=>obtain ⟨⟨v,h1,h2⟩,h3⟩:=h;exact ⟨⟨v,h1,h2.keep (az.keep e)⟩,h3⟩
 |own m=>obtain ⟨v,h1,h2,h3,h4⟩:=h;exact ⟨v,h1,h2.frame (az.keep e) (λ b o _ q=>e b o q),h3.same e,h4⟩
 |par m=>obtain ⟨v,h1,h2,h3,h4⟩:=h;exact ⟨v,h1,h2.frame (az.keep e) (λ b o _ q=>e b o q),h3.same e,h4⟩
def J.mono(j:J K ct H₀ Γ σ H)(e:az H H'):J K ct H₀ Γ σ H':=by obtain ⟨S,h1,h2,h3⟩:=j.sl;exact ⟨λ b o q n=>e b o (j.same b o q n),λ b q=>j.free b (e.free q),j.lL.trans e,j.lB.trans e,j.len,S,λ i sl ov g1 g2=>(h1 i sl ov g1 g2).same e,h2,λ i b w q=>h3 i b w (e.free q)⟩
def J.get(j:J K ct H₀ Γ σ H)(h:Γ[i]? =some sl):∃ov S,σ[i]? =some ov/\pF K ct H₀ H i S sl ov:=by
 have hi:i<σ.length:=by rw[<-j.len];exact (List.getElem?_eq_some_iff.mp h).1
 obtain ⟨S,h1,h2⟩:=j.sl;exact ⟨σ[i],S i,List.getElem?_eq_getElem hi,h1 i sl _ h (List.getElem?_eq_getElem hi)⟩
def J.val{d:D}(j:J K ct H₀ Γ σ H)(h:Γ[i]? =some (.val d)):∃v,σ[i]? =some (some v)/\Tl K ct H d v:=by obtain ⟨ov,S,h1,⟨v,h2,h3⟩,_⟩:=j.get h;exact ⟨v,by rw[h1,h2],h3⟩
def J.own{m:M}(j:J K ct H₀ Γ σ H)(h:Γ[i]? =some (.own m)):∃v S,σ[i]? =some (some v)/\Ow K ct H m v S/\SOk ct H₀ H S/\∀b,S b->H₀ b=none:=by obtain ⟨ov,S,h1,v,h2,h3⟩:=j.get h;exact ⟨v,S,by rw[h1,h2],h3⟩
def J.par{m:M}(j:J K ct H₀ Γ σ H)(h:Γ[i]? =some (.par m)):∃v S,σ[i]? =some (some v)/\Ow K ct H m v S/\SOk ct H₀ H S/\ct.f.args[i]? =some v:=by obtain ⟨ov,S,h1,v,h2,h3⟩:=j.get h;exact ⟨v,S,by rw[h1,h2],h3⟩
def J.lift{c:Cf}(j:J K c.z H₀ Γ σ H):J K (c.at' H) H₀ Γ σ H:=by
 obtain ⟨S,h1,h2⟩:=j.sl;refine ⟨j.same,j.free,j.lL,az.refl H,j.len,S,λ i sl ov g1 g2=>?_,h2⟩;have h:=h1 i sl ov g1 g2;cases sl with
 |no=>exact h
 |val d=>obtain ⟨⟨v,h1,h2⟩,h3⟩:=h;exact ⟨⟨v,h1,h2.lift⟩,h3⟩
 |own m=>obtain ⟨v,h1,h2,h3,h4⟩:=h;exact ⟨v,h1,h2.lift,⟨h3.new,h3.here,h3.Nc,λ _ _ _=>rfl⟩,h4⟩
 |par m=>obtain ⟨v,h1,h2,h3,h4⟩:=h;exact ⟨v,h1,h2.lift,⟨h3.new,h3.here,h3.Nc,λ _ _ _=>rfl⟩,h4⟩
def J.chg(j:J K ct H₀ Γ σ H)(i:Nat):∃S:Fp,(∀sl ov,Γ[i]? =some sl->σ[i]? =some ov->pF K ct H₀ H i S sl ov)/\∀(H':Hp) (sl:Slot) (ov:Option V) (S':Fp),aZ ct.f.cb H H'->(∀b o,H b=some o->¬S b->H' b=some o)->(∀b,H' b=none->H b=none)->az ct.B H'->pF K ct H₀ H' i S' sl ov->(∀b,S' b->S b\/H b=none)->J K ct H₀ (Γ.set i sl) (σ.set i ov) H':=by
 obtain ⟨S,h1,h2,h3⟩:=j.sl;by_cases hi:i<Γ.length
 ·refine ⟨S i,λ sl ov g1 g2=>h1 i sl ov g1 g2,λ H' sl ov S' kp hs hf hB new hS'=>?_⟩;have hiσ:i<σ.length:=by rw[<-j.len];exact hi
  -- FW places of i,if it has some
  have q:=h1 i Γ[i] σ[i] (List.getElem?_eq_getElem hi) (List.getElem?_eq_getElem hiσ);have so:(∀b,S i b->H₀ b=none\/ct.f.io b)/\∀b,S i b->ct.f.L b=none:=by
   generalize Γ[i]=sl0 at q;cases sl0 with
   |no=>exact ⟨λ b z=>absurd z (q b),λ b z=>absurd z (q b)⟩
   |val d=>exact ⟨λ b z=>absurd z (q.2 b),λ b z=>absurd z (q.2 b)⟩
   |own m=>obtain ⟨v,_,_,h3,_⟩:=q;exact ⟨h3.new,h3.Nc⟩
   |par m=>obtain ⟨v,_,_,h3,_⟩:=q;exact ⟨h3.new,h3.Nc⟩
  refine ⟨λ b o e n=>?_,λ b e=>j.free b (hf b e),λ b o e=>?_,λ b o e=>?_,by simp[j.len],λ k=>if k=i then S' else S k,λ k sl' ov' g1 g2=>?_,λ k l b hkl=>?_,λ k b w=>?_⟩
  ·have:=j.same b o e n;refine hs b o this λ z=>?_;rcases so.1 b z with w|w
   ·rw[w] at e;cases e
   ·exact n w
  ·exact hs b o (j.lL b o e) λ z=>by rw[so.2 b z] at e;cases e
  ·exact hB b o e
  ·by_cases e:i=k
   ·subst e;rw[List.getElem?_set_self hi] at g1;rw[List.getElem?_set_self hiσ] at g2;cases g1;cases g2;simpa using new
   ·rw[List.getElem?_set_ne e] at g1 g2;have ek:¬k=i:=λ z=>e z.symm;simp only[ek,if_false];have z:=h1 k sl' ov' g1 g2;have un:∀b o,S k b->H b=some o->H' b=some o:=λ b o w q=>hs b o q λ w'=>h2 k i b ek w w';have sok:SOk ct H₀ H (S k)->SOk ct H₀ H' (S k):=λ s=>⟨s.new,λ b w q=>s.here b w (hf b q),s.Nc,λ b w t=>by
     rw[s.lent b w t];cases x:H b with
     |none=>exact absurd x (s.here b w)
     |some o=>exact (un b o w x).symm⟩
    cases sl' with
    |no=>exact z
    |val d=>obtain ⟨⟨v,z1,z2⟩,z3⟩:=z;exact ⟨⟨v,z1,z2.keep kp⟩,z3⟩
    |own m=>obtain ⟨v,z1,z2,z3,z4⟩:=z;exact ⟨v,z1,z2.frame kp un,sok z3,z4⟩
    |par m=>obtain ⟨v,z1,z2,z3,z4⟩:=z;exact ⟨v,z1,z2.frame kp un,sok z3,z4⟩
  ·-- apart
   have far:∀l b,¬l=i->S' b->¬S l b:=λ l b hl w w'=>by
    rcases hS' b w with u|u
    ·exact h2 l i b hl w' u
    ·exact h3 l b w' u
   by_cases e1:k=i
   ·subst e1;have e2:¬l=k:=λ z=>hkl z.symm;simp only[if_true,e2,if_false];exact far l b e2
   ·by_cases e2:l=i
    ·subst e2;simp only[e1,if_false,if_true];exact λ w w'=>far k b e1 w' w
    ·simp only[e1,e2,if_false];exact h2 k l b hkl
  ·by_cases e:k=i
   ·subst e;simp only[if_true] at w;cases sl with
    |no=>exact absurd w (new b)
    |val d=>exact absurd w (new.2 b)
    |own m=>obtain ⟨v,_,_,z,_⟩:=new;exact z.here b w
    |par m=>obtain ⟨v,_,_,z,_⟩:=new;exact z.here b w
   ·simp only[e,if_false] at w;exact λ q=>h3 k b w (hf b q)
 ·refine ⟨λ _=>False,λ sl ov g1 g2=>?_,λ H' sl ov S' kp hs hf hB new hS'=>?_⟩
  ·rw[List.getElem?_eq_none (Nat.le_of_not_lt hi)] at g1;cases g1
  ·rw[List.set_eq_of_length_le (Nat.le_of_not_lt hi),List.set_eq_of_length_le (by rw[<-j.len];exact Nat.le_of_not_lt hi)];exact j.mono λ b o q=>hs b o q λ z=>z
def J.set{d:D}{v:V}(j:J K ct H₀ Γ σ H)(h:Tl K ct H d v):J K ct H₀ (Γ.set i (.val d)) (σ.set i (some v)) H:=by obtain ⟨S,_,h2⟩:=j.chg i;exact h2 H _ _ (λ _=>False) (aZ.refl H) (λ _ _ q _=>q) (λ _ q=>q) j.lB ⟨⟨v,rfl,h⟩,λ _ z=>z⟩ λ _ z=>z.elim
def J.unset(j:J K ct H₀ Γ σ H):J K ct H₀ (Γ.set i .no) (σ.set i ov) H:=by obtain ⟨S,_,h2⟩:=j.chg i;exact h2 H _ _ (λ _=>False) (aZ.refl H) (λ _ _ q _=>q) (λ _ q=>q) j.lB (λ _ z=>z) λ _ z=>z.elim
def J.setM{m:M}{v:V}{S':Fp}(j:J K ct H₀ Γ σ H)(e:az H H')(tm:ct.tm=false)(h:Ow K ct H' m v S')(new:∀b,S' b->H b=none)(here:∀b,S' b->H' b≠none):J K ct H₀ (Γ.set i (.own m)) (σ.set i (some v)) H':=by
 obtain ⟨S,_,h2⟩:=j.chg i;refine h2 H' _ _ S' (az.keep e) (λ b o q _=>e b o q) (λ b q=>e.free q) (j.lB.trans e) ⟨v,rfl,h,⟨λ b z=> .inl (j.free b (new b z)),here,λ b z=>?_,λ b z t=>by rw[tm] at t;cases t⟩,λ b z=>j.free b (new b z)⟩ λ b z=> .inr (new b z);cases w:ct.f.L b with
 |none=>rfl
 |some o=>have:=j.lL b o w;rw[new b z] at this;cases this
def J.weak{Γ1:Sg}(j:J K ct H₀ Γ1 σ H)(hl:Γ1.length=Γ.length)(h:∀i:Nat,Γ[i]? =some .no\/Γ[i]? =Γ1[i]?):J K ct H₀ Γ σ H:=by
 obtain ⟨S,h1,h2,h3⟩:=j.sl;refine ⟨j.same,j.free,j.lL,j.lB,by rw[<-hl];exact j.len,λ i b=>S i b/\Γ[i]? =Γ1[i]?/\Γ[i]?≠some .no,λ i sl ov g1 g2=>?_,λ i k b e w w'=>h2 i k b e w.1 w'.1,λ i b w=>h3 i b w.1⟩;by_cases e:sl= .no
 ·subst e;exact λ b w=>w.2.2 g1
 ·have e1:Γ[i]? =Γ1[i]? :=by
   rcases h i with z|z
   ·rw[z] at g1;cases g1;exact absurd rfl e
   ·exact z
  have q:=h1 i sl ov (e1▸g1) g2;have eS:(λ b=>S i b/\Γ[i]? =Γ1[i]?/\Γ[i]?≠some .no)=S i:=funext λ b=>propext ⟨λ w=>w.1,λ w=>⟨w,e1,by rw[g1];exact λ z=>e (Option.some.inj z)⟩⟩;show pF K ct H₀ H i (λ b=>S i b/\Γ[i]? =Γ1[i]?/\Γ[i]?≠some .no) sl ov;rw[eS];exact q
def J.akX(j:J K ct H₀ Γ σ H)(n:alT Γ)(k:aZ ct.f.cb H H')(s:∀b o,H₀ b=some o->¬ct.f.io b->H' b=some o)(f:∀b,H' b=none->H₀ b=none)(l:az ct.f.L H')(b:az ct.B H'):J K ct H₀ Γ σ H':=by
 obtain ⟨S,h1,h2,h3⟩:=j.sl;refine ⟨s,f,l,b,j.len,λ _ _=>False,λ i sl ov g1 g2=>?_,λ _ _ _ _ z=>z.elim,λ _ _ z=>z.elim⟩;have q:=h1 i sl ov g1 g2;cases sl with
 |no=>exact λ _ z=>z
 |val d=>obtain ⟨⟨v,q1,q2⟩,_⟩:=q;exact ⟨⟨v,q1,q2.keep k⟩,λ _ z=>z⟩
 |own m=>exact absurd g1 (n i m).1
 |par m=>exact absurd g1 (n i m).2
def Tl.oz{d:D}{v:V}{ds:List D}(l:az ct.f.L H)(b:az ct.B H)(h:Tl K ct H d v)(e:asL d=some ds):∃a vs,v= .ref a/\rJ K H a vs/\aJ K ct H ds vs:=by
 cases d with
 |lst xs=>cases e;simp only[Tl] at h;obtain ⟨a,vs,h1,h2,h3⟩:=h;exact ⟨a,vs,h1,h2.sq,h3⟩
 |bor t xs=>
  cases e;simp only[Tl] at h;obtain ⟨a,vs,h1,h2,h3⟩:=h;refine ⟨a,vs,h1,.inl (.inl ?_),h3⟩;cases t with
  |true=>exact b a _ h2
  |false=>exact l a _ h2
 |_=>cases e
end
def JI(P:Program)(w:World):CXT:=λ outer H s E e s'=>∃(a C:Addr) (H':Hp) (B:Heap) (a0:Value),e= .ref a/\E (.ref C) none H'/\s'.os=s.os/\AllBare s'.gens/\Heap.FlyingW B outer a (.ref C) a0 s'.heap/\H' a=none/\s.heap.get? a=none/\∀h':Heap,B.StaysIn h'->s'.heap.UpToSlots h'->Un (frs outer) [] H H' s.heap h'/\uE P w H' h'
def ja(X:Cx)(cb:Cb)(σ:St)(H:Hp)(c:String)(e:Value)(s':Shared):Prop:=∃(pins:List (Addr×Obj)) (H1:Hp) (s1:Shared) (C:Addr),Inv X pins σ H1 s1/\az H H1/\cb.exc c=some C/\((∃(a:Addr) (args:List Value) (h':Heap),e= .ref a/\s'={s1 with heap:=h'}/\Heap.MadeExcOf s1.heap h' a (.ref C) args)\/JI X.prog X.w X.stack H1 s1 (λ cls od H'=>cls= .ref C/\od=none/\az H1 H') e s')
def ja.mono{X:Cx}{cb:Cb}{σ:St}{H H2:Hp}{c:String}{e:Value}{s':Shared}(s:az H H2)(h:ja X cb σ H2 c e s'):ja X cb σ H c e s':=by obtain ⟨pins,H1,s1,C,h1,h2,h3⟩:=h;exact ⟨pins,H1,s1,C,h1,s.trans h2,h3⟩
def Ok{α:Type}(X:Cx)(ct:Ct)(σ:St)(H:Hp)(r:Res α)(W:α->Prop):Prop:=match r with
 | .ok d=>W d
 | .err c=>∀e s',ja X ct.f.cb σ H c e s'->X.xe e s'
 | .bad=>False
def Ok.mono{α:Type}{X:Cx}{ct:Ct}{σ:St}{H H2:Hp}{r:Res α}{W W':α->Prop}(s:az H H2)(h:Ok X ct σ H r W)(k:∀d,W d->W' d):Ok X ct σ H2 r W':=by
 cases r with
 |ok d=>exact k d h
 |err c=>exact λ e s' q=>h e s' (q.mono s)
 |bad=>exact h
def Ok.bnd{α β:Type}{X:Cx}{ct:Ct}{σ:St}{H:Hp}{r:Res α}{f:α->Res β}{W:β->Prop}{W':α->Prop}(h:Ok X ct σ H (r.bnd f) W)(k:∀d,r= .ok d->Ok X ct σ H (f d) W->W' d):Ok X ct σ H r W':=by
 cases r with
 |ok d=>exact k d rfl h
 |err c=>exact h
 |bad=>exact h
def Wd(X:Cx)(ct:Ct)(H:Hp)(Q:VK)(d:D):Prop:=∀v H',az H H'->Tl X.K ct H' d v->Q v H'
def Wl(X:Cx)(ct:Ct)(H:Hp)(Q:VK)(ds:List D):Prop:=∀a vs H',az H H'->H a=none->H' a=some (.lst vs)->aJ X.K ct H' ds vs->Q (.ref a) H'
def Wm(X:Cx)(ct:Ct)(H:Hp)(Q:VK)(m:M):Prop:=∀v H' S,az H H'->Ow X.K ct H' m v S->(∀b,S b->H b=none)->(∀b,S b->H' b≠none)->Q v H'
def Wt(H:Hp)(Q:Bool->Hp->Prop)(b:Bool):Prop:=∀H',az H H'->Q b H'
def Wa(X:Cx)(ct:Ct)(H:Hp)(Q:List V->Hp->Prop)(ds:List D):Prop:=∀vs H',az H H'->aJ X.K ct H' ds vs->Q vs H'
abbrev Jx(X:Cx)(ct:Ct)(Γ:Sg)(σ:St)(H:Hp):Prop:=J X.K ct X.H₀ Γ σ H
def rL(X:Cx)(ct:Ct)(f:Sg->Res D):TE:=λ σ H Q=>∃Γ,Jx X ct Γ σ H/\Ok X ct σ H (f Γ) (Wd X ct H Q)
def lOf(X:Cx)(ct:Ct)(f:Sg->Res (List D)):TE:=λ σ H Q=>∃Γ,Jx X ct Γ σ H/\Ok X ct σ H (f Γ) (Wl X ct H Q)
def mOf(X:Cx)(ct:Ct)(f:Sg->Res M):TE:=λ σ H Q=>∃Γ,Jx X ct Γ σ H/\Ok X ct σ H (f Γ) (Wm X ct H Q)
def cOf(X:Cx)(ct:Ct)(f:Sg->Res Bool):TT:=λ σ H Q=>∃Γ,Jx X ct Γ σ H/\Ok X ct σ H (f Γ) (Wt H Q)
def OX(X:Cx)(ct:Ct)(f:Sg->Res (List D)):TA:=λ σ H Q=>∃Γ,Jx X ct Γ σ H/\Ok X ct σ H (f Γ) (Wa X ct H Q)
abbrev PD(X:Cx)(ct:Ct)(e:Expr)(f:Sg->Res D):Prop:=PE X e (rL X ct f)
abbrev PL(X:Cx)(ct:Ct)(e:Expr)(f:Sg->Res (List D)):Prop:=PE X e (lOf X ct f)
abbrev PM(X:Cx)(ct:Ct)(e:Expr)(f:Sg->Res M):Prop:=PE X e (mOf X ct f)
abbrev PDT(X:Cx)(ct:Ct)(e:Expr)(f:Sg->Res Bool):Prop:=PT X e (cOf X ct f)
abbrev PDW(X:Cx)(ct:Ct)(e:Expr)(f:Sg->Res Bool):Prop:=PW X e (cOf X ct f)
abbrev PDA(X:Cx)(ct:Ct)(es:List Expr)(f:Sg->Res (List D)):Prop:=PA X es (OX X ct f)
structure Bk(X:Cx)(c:Cf)(H':Hp):Prop where
 same:∀b o,X.H₀ b=some o->¬c.io b->H' b=some o
 free:∀b,H' b=none->X.H₀ b=none
def J.bk{X:Cx}{ct:Ct}{Γ:Sg}{σ:St}{H:Hp}(j:Jx X ct Γ σ H):Bk X ct.f H:=⟨j.same,j.free⟩
def Fn(X:Cx)(c:Cf)(H:Hp)(o:Out)(E:Ends):Prop:=match o with
 | .nx Γ=>∀σ' H',aZ c.cb H H'->Jx X c.z Γ σ' H'->E.nx σ' H'
 | .bk Γ=>∀σ' H',aZ c.cb H H'->Jx X c.z Γ σ' H'->E.bk σ' H'
 | .ct Γ=>∀σ' H',aZ c.cb H H'->Jx X c.z Γ σ' H'->E.ct σ' H'
 | .rt d=>∀v H',Bk X c H'->Tl X.K c.z H' d v->E.rt v H'
 | .Mz m=>∀v H' S,Bk X c H'->Ow X.K c.z H' m v S->(∀b,S b->X.H₀ b=none)->(∀b,S b->H' b≠none)->E.rt v H'
 | .rtG d Γ=>∀v σ' H',Jx X c.z Γ σ' H'->Tl X.K c.z H' d v->E.rt v H'
 | .Hu _ _=>False
 | .err x Γ=>∀σ' H' e s',aZ c.cb H H'->Jx X c.z Γ σ' H'->ja X c.cb σ' H' x e s'->X.xe e s'
 | .bad=>False
def Fn.mono{X:Cx}{c:Cf}{H H2:Hp}{o:Out}{E:Ends}(k:aZ c.cb H H2)(h:Fn X c H o E):Fn X c H2 o E:=by
 cases o with
 |nx Γ=>exact λ σ' H' e=>h σ' H' (k.trans e)
 |bk Γ=>exact λ σ' H' e=>h σ' H' (k.trans e)
 |ct Γ=>exact λ σ' H' e=>h σ' H' (k.trans e)
 |rt d=>exact h
 |Mz m=>exact h
 |rtG d Γ=>exact h
 |Hu m Γ=>exact h
 |err x Γ=>exact λ σ' H' e s' q=>h σ' H' e s' (k.trans q)
 |bad=>exact h
def sOf(X:Cx)(c:Cf)(F:Sg->Out):TS:=λ E σ H=>∃Γ,Jx X c.z Γ σ H/\Fn X c H (F Γ) E
abbrev PDS(X:Cx)(c:Cf)(st:Stmt)(F:Sg->Out):Prop:=PS X st (sOf X c F)
abbrev anw(X:Cx)(c:Cf)(sts:List Stmt)(F:Sg->Out):Prop:=TQ X sts (sOf X c F)
structure WE(X:Cx)(e:Expr)(t:TE):Prop where
 out:PE X e t
structure WT(X:Cx)(e:Expr)(t:TT):Prop where
 out:PT X e t
structure WW(X:Cx)(e:Expr)(t:TT):Prop where
 out:PW X e t
structure WA(X:Cx)(es:List Expr)(t:TA):Prop where
 out:PA X es t
structure WS(X:Cx)(st:Stmt)(t:TS):Prop where
 out:PS X st t
structure WSs(X:Cx)(st:List Stmt)(t:TS):Prop where
 out:TQ X st t
abbrev WD(X:Cx)(ct:Ct)(e:Expr)(f:Sg->Res D):Prop:=WE X e (rL X ct f)
abbrev WL(X:Cx)(ct:Ct)(e:Expr)(f:Sg->Res (List D)):Prop:=WE X e (lOf X ct f)
abbrev WM(X:Cx)(ct:Ct)(e:Expr)(f:Sg->Res M):Prop:=WE X e (mOf X ct f)
abbrev TN(X:Cx)(ct:Ct)(e:Expr)(f:Sg->Res Bool):Prop:=WT X e (cOf X ct f)
abbrev WDW(X:Cx)(ct:Ct)(e:Expr)(f:Sg->Res Bool):Prop:=WW X e (cOf X ct f)
abbrev GW(X:Cx)(ct:Ct)(es:List Expr)(f:Sg->Res (List D)):Prop:=WA X es (OX X ct f)
abbrev DL(X:Cx)(c:Cf)(st:Stmt)(F:Sg->Out):Prop:=WS X st (sOf X c F)
abbrev zI(X:Cx)(c:Cf)(sts:List Stmt)(F:Sg->Out):Prop:=WSs X sts (sOf X c F)
def ahs{X:Cx}:WA X [] ak3:=⟨yN⟩
def Ue{X:Cx}{e:Expr}{es:List Expr}{te:TE}{t:TA}(ha:WE X e te)(hr:WA X es t)(hs:starEach (e::es) X.env=(false,eval e X.env)::starEach es X.env:=by rfl):WA X (e::es) (af2 te t):=⟨oK ha.out hr.out hs⟩
section
variable{X:Cx}{ct:Ct}{a b e:Expr}{f g:Sg->Res D}{H:Hp}{Γ:Sg}{σ:St}{pos:Pos}
def PE.imp{t u:TE}(h:PE X e t)(k:∀σ H Q,u σ H Q->t σ H Q):PE X e u:=λ pins s σ H Q I q=>h pins s σ H Q I (k σ H Q q)
def PT.imp{t u:TT}(h:PT X e t)(k:∀σ H Q,u σ H Q->t σ H Q):PT X e u:=λ pins s σ H Q I q=>h pins s σ H Q I (k σ H Q q)
def PW.imp{t u:TT}(h:PW X e t)(k:∀σ H Q,u σ H Q->t σ H Q):PW X e u:=λ wh pins s σ H Q I q=>h wh pins s σ H Q I (k σ H Q q)
def PA.imp{es:List Expr}{t u:TA}(h:PA X es t)(k:∀σ H Q,u σ H Q->t σ H Q):PA X es u:=λ pos pins s σ H Q I q=>h pos pins s σ H Q I (k σ H Q q)
def PS.imp{st:Stmt}{t u:TS}(h:PS X st t)(k:∀E σ H,u E σ H->t E σ H):PS X st u:=λ pins s σ H E I q=>h pins s σ H E I (k E σ H q)
def TQ.imp{st:List Stmt}{t u:TS}(h:TQ X st t)(k:∀E σ H,u E σ H->t E σ H):TQ X st u:=λ pins s σ H E I q=>h pins s σ H E I (k E σ H q)
def rL.bnd{β:Type}{r:D->Res β}{W:β->Prop}{Q:VK}(j:Jx X ct Γ σ H)(h:Ok X ct σ H ((f Γ).bnd r) W) (k:∀d v H',az H H'->Tl X.K ct H' d v->Jx X ct Γ σ H'->Ok X ct σ H (r d) W->Q v H'):rL X ct f σ H Q:=⟨Γ,j,h.bnd λ d _ q v H' s t=>k d v H' s t (j.mono s) q⟩
def OX.bnd{fa:Sg->Res (List D)}{β:Type}{r:List D->Res β}{W:β->Prop}{Q:List V->Hp->Prop}(j:Jx X ct Γ σ H)(h:Ok X ct σ H ((fa Γ).bnd r) W) (k:∀d v H',az H H'->aJ X.K ct H' d v->Jx X ct Γ σ H'->Ok X ct σ H (r d) W->Q v H'):OX X ct fa σ H Q:=⟨Γ,j,h.bnd λ d _ q v H' s t=>k d v H' s t (j.mono s) q⟩
def cOf.bnd{fa:Sg->Res Bool}{β:Type}{r:Bool->Res β}{W:β->Prop}{Q:Bool->Hp->Prop}(j:Jx X ct Γ σ H)(h:Ok X ct σ H ((fa Γ).bnd r) W) (k:∀d H',az H H'->Jx X ct Γ σ H'->Ok X ct σ H (r d) W->Q d H'):cOf X ct fa σ H Q:=⟨Γ,j,h.bnd λ d _ q H' s=>k d H' s (j.mono s) q⟩
def Wd.mono{H2:Hp}{Q:VK}{d:D}(s:az H H2)(h:Wd X ct H Q d):Wd X ct H2 Q d:=λ v H' e t=>h v H' (s.trans e) t
def Wt.mono{H2:Hp}{Q:Bool->Hp->Prop}{d:Bool}(s:az H H2)(h:Wt H Q d):Wt H2 Q d:=λ H' e=>h H' (s.trans e)
def ah(i:Nat){x:Str}{pos:Pos}(hN:X.N[i]? =some x:=by rfl)(hv:Yj X.env.scope x:=by first|exact Or.inl rfl|exact Or.inr (Or.inl rfl)|exact Or.inr (Or.inr rfl))(hd:(x==("__debug__":Str))=false:=by decide)(hcd:(x==("__classdict__":Str))=false:=by decide):WD X ct (.Name x pos) (aj i):=by
 refine ⟨?_⟩;refine PE.imp (HG hN hv hd hcd) λ σ H Q ⟨Γ,j,h⟩=>?_;unfold aj at h;split at h
 ·rename_i d hd';obtain ⟨v,h1,h2⟩:=j.val hd';exact ⟨v,h1,h v H (az.refl H) h2⟩
 ·exact h.elim
def G4(i:Nat){x:Str}{pos:Pos}(tm:ct.tm=true:=by rfl)(hN:X.N[i]? =some x:=by rfl)(hv:Yj X.env.scope x:=by first|exact Or.inl rfl|exact Or.inr (Or.inl rfl)|exact Or.inr (Or.inr rfl))(hd:(x==("__debug__":Str))=false:=by decide)(hcd:(x==("__classdict__":Str))=false:=by decide):WD X ct (.Name x pos) (xY i):=by
 refine ⟨?_⟩;refine PE.imp (HG hN hv hd hcd) λ σ H Q ⟨Γ,j,h⟩=>?_;unfold xY at h;split at h
 ·rename_i d hd';obtain ⟨v,h1,h2⟩:=j.val hd';exact ⟨v,h1,h v H (az.refl H) h2⟩
 ·rename_i m hm;obtain ⟨v,S,h1,h2,h3,_⟩:=j.own hm;exact ⟨v,h1,h v H (az.refl H) (h2.lend λ b z=>h3.lent b z tm)⟩
 ·rename_i m hm;obtain ⟨v,S,h1,h2,h3,_⟩:=j.par hm;exact ⟨v,h1,h v H (az.refl H) (h2.lend λ b z=>h3.lent b z tm)⟩
 ·exact h.elim
def au{i k pos}:WD X ct (.Constant (.int i) k pos) (dC (.int i)):=by exact ⟨PE.imp ah6 λ σ H Q ⟨Γ,j,h⟩=>h _ H (az.refl H) (by simp[Tl])⟩
def FL{b k pos}:WD X ct (.Constant (.bool b) k pos) (dC (.bl b)):=by exact ⟨PE.imp alE λ σ H Q ⟨Γ,j,h⟩=>h _ H (az.refl H) (by simp[Tl])⟩
def ahq{k pos}:WD X ct (.Constant .none k pos) (dC .fE):=by exact ⟨PE.imp ah4 λ σ H Q ⟨Γ,j,h⟩=>h _ H (az.refl H) (by simp[Tl])⟩
def yz{x k pos}:WD X ct (.Constant (.str x) k pos) (dC (.str x)):=by exact ⟨PE.imp ah1 λ σ H Q ⟨Γ,j,h⟩=>h _ H (az.refl H) (by simp[Tl])⟩
def aes{x:Str}{d:D}{v:V}{u:Value}{pos:Pos}(hg:Gl X x)(hm:X.mg x=some u)(r:RelV v u)(t:∀H,Tl X.K ct H d v)(hd:(x==("__debug__":Str))=false:=by decide):PD X ct (.Name x pos) (dC d):=PE.imp (Ux hg hm r hd) λ σ H Q ⟨Γ,j,h⟩=>h _ H (az.refl H) (t H)
def JH(X:Cx)(ct:Ct)(r2:R2)(r:D->D->Res D):Prop:=∀(σ:St) (H:Hp) (x y:V) (d1 d2:D) (Q:VK),az ct.f.L H->az ct.B H->Tl X.K ct H d1 x->Tl X.K ct H d2 y->Ok X ct σ H (r d1 d2) (Wd X ct H Q)->r2 x y H Q
def HL{r2:R2}{r:D->D->Res D}(ho:JH X ct r2 r):∀σ H Q,rL X ct (bu r f g) σ H Q->tOp r2 (rL X ct f) (rL X ct g) σ H Q:=by
 rintro σ H Q ⟨Γ,j,h⟩
 refine rL.bnd j h λ d1 v H1 s1 t1 j1 h1=>?_;refine rL.bnd (W:=Wd X ct H Q) j1 (Ok.mono s1 h1 λ _ z=>z) λ d2 u H2 s2 t2 j2 h2=>?_;exact ho σ H2 v u d1 d2 Q j2.lL j2.lB (t1.keep (az.keep s2)) t2 (Ok.mono s2 h2 λ d q=>q.mono (s1.trans s2))
def B7{op:Operator}{r2:R2}{r:D->D->Res D}(hr:qp X (binaryOp op) r2)(ho:JH X ct r2 r)(ha:PD X ct a f)(hb:PD X ct b g):PD X ct (.BinOp a op b pos) (bu r f g):=PE.imp (age hr ha hb) (HL ho)
def aia{op:CmpOp}{r2:R2}{r:D->D->Res D}(hr:qp X (compareOp op) r2)(ho:JH X ct r2 r)(ha:PD X ct a f)(hb:PD X ct b g)(hm:behindInMarks op b=false):PD X ct (.Compare a [op] [b] pos) (bu r f g):=PE.imp (aeq hr ha hb hm) (HL ho)
def Mb{t:TE}(k:∀σ H Q,rL X ct f σ H Q->t σ H Q):∀σ H Q,cOf X ct (dT f) σ H Q->YS t σ H Q:=by
 rintro σ H Q ⟨Γ,j,h⟩
 refine k σ H _ (rL.bnd j h λ d v H' s t j' h'=>?_);cases d with
 |bl b=>simp only[Tl] at t;exact ⟨b,t,h' H' s⟩
 |_=>exact h'.elim
def tT{op:CmpOp}{r2:R2}{r:D->D->Res D}(hr:qp X (compareOp op) r2)(ho:JH X ct r2 r)(ha:PD X ct a f)(hb:PD X ct b g)(hm:behindInMarks op b=false):PDT X ct (.Compare a [op] [b] pos) (dT (bu r f g)):=PT.imp (aea hr ha hb hm) (Mb (HL ho))
def fF(ha:WD X ct e f)(he:∀whole,isTrue e X.env whole=(do let v <-whole;standAt e.pos;holding [v] (truthy v)):=by intro _;rfl):TN X ct e (dT f):=by
 have ha:=ha.out
 exact ⟨PT.imp (ahU ha he) (Mb λ _ _ _ z=>z)⟩
variable{p q:Sg->Res Bool}{rest:List Expr}
def tP(ha:TN X ct a p):WDW X ct (.BoolOp .Or [a] pos) p:=by have ha:=ha.out;exact ⟨ahT ha⟩
def yy(ha:TN X ct a p)(hb:WDW X ct (.BoolOp .Or (b::rest) pos) q):WDW X ct (.BoolOp .Or (a::b::rest) pos) (cOr p q):=by
 have ha:=ha.out;have hb:=hb.out;refine ⟨?_⟩;refine PW.imp (alw ha hb) λ σ H Q ⟨Γ,j,h⟩=>?_;refine cOf.bnd j h λ c H' s j' h'=>?_;cases c with
 |true=>exact aaB (h' H' s)
 |false=>exact aaC ⟨Γ,j',Ok.mono s h' λ d z=>z.mono s⟩
def FG{e:Expr}(h:WDW X ct e p):TN X ct e p:=by have h:=h.out;exact ⟨h.pt⟩
def jd(ha:TN X ct a p):TN X ct (.UnaryOp .Not a pos) (uC p):=by have ha:=ha.out;refine ⟨?_⟩;refine PT.imp (ahV ha) λ σ H Q ⟨Γ,j,h⟩=>?_;exact cOf.bnd j h λ c H' s j' h'=>h' H' s
def uY{op}(h:WD X ct a f):WD X ct (.BoolOp op [a] pos) f:=by have h:=h.out;exact ⟨ah2 h⟩
def rQ(ha:WD X ct a f)(hb:WD X ct (.BoolOp .And (b::rest) pos) g):WD X ct (.BoolOp .And (a::b::rest) pos) (A5 f g):=by
 have ha:=ha.out;have hb:=hb.out;refine ⟨?_⟩;refine PE.imp (ah9 ha hb) λ σ H Q ⟨Γ,j,h⟩=>?_;refine rL.bnd j h λ d v H' s t j' h'=>?_;cases d with
 |bl c=>
  simp only[Tl] at t;refine ⟨c,t,?_⟩;cases c with
  |true=>exact aaB ⟨Γ,j',Ok.mono s h' λ d z=>z.mono s⟩
  |false=>exact aaC (h' _ H' s (by simp[Tl]))
 |_=>exact h'.elim
def akR(ha:WD X ct a f)(hb:WD X ct (.BoolOp .Or (b::rest) pos) g):WD X ct (.BoolOp .Or (a::b::rest) pos) (dOr f g):=by
 have ha:=ha.out;have hb:=hb.out;refine ⟨?_⟩;refine PE.imp (alD ha hb) λ σ H Q ⟨Γ,j,h⟩=>?_;refine rL.bnd j h λ d v H' s t j' h'=>?_;cases d with
 |bl c=>
  simp only[Tl] at t;refine ⟨c,t,?_⟩;cases c with
  |true=>exact aaB (h' _ H' s (by simp[Tl]))
  |false=>exact aaC ⟨Γ,j',Ok.mono s h' λ d z=>z.mono s⟩
 |_=>exact h'.elim
def G5(ha:WD X ct a f):WD X ct (.UnaryOp .Not a pos) (XA f):=by
 have ha:=ha.out;refine ⟨?_⟩;refine PE.imp (ah3 ha) λ σ H Q ⟨Γ,j,h⟩=>?_;refine rL.bnd j h λ d v H' s t j' h'=>?_;cases d with
 |bl c=>simp only[Tl] at t;exact ⟨c,t,h' _ H' s (by simp[Tl])⟩
 |_=>exact h'.elim
def ak:GW X ct [] aB:=by exact ⟨PA.imp yN λ σ H Q ⟨Γ,j,h⟩=>h [] H (az.refl H) aJ.nil⟩
def aa{es:List Expr}{r:Sg->Res (List D)}(ha:WD X ct e f)(hr:GW X ct es r)(hs:starEach (e::es) X.env=(false,eval e X.env)::starEach es X.env:=by rfl):GW X ct (e::es) (ai f r):=by have ha:=ha.out;have hr:=hr.out;refine ⟨?_⟩;refine PA.imp (oK ha hr hs) λ σ H Q ⟨Γ,j,h⟩=>?_;refine rL.bnd j h λ d v H1 s1 t1 j1 h1=>?_;refine OX.bnd (W:=Wa X ct H Q) j1 (Ok.mono s1 h1 λ _ z=>z) λ ds vs H2 s2 t2 j2 h2=>?_;exact h2 _ H2 (s1.trans s2) (aJ.cons (t1.keep (az.keep s2)) t2)
def bh{H:Hp}{p:Addr}(h:H p=none)(o:HO):az H (upd H p o):=λ b u q=>by rw[aE (fH q h)];exact q
def eN{es:List Expr}{r:Sg->Res (List D)}{x1}(h:GW X ct es r):WD X ct (.Tuple es x1 pos) (kh r):=by
 have h:=h.out;refine ⟨?_⟩;refine PE.imp (Zq h) λ σ H Q ⟨Γ,j,h⟩=>?_;refine OX.bnd j h λ ds vs H1 s1 t1 j1 h1=>?_;split at h1
 ·rename_i hl;refine ⟨Nat.le_of_lt (tR (by rw[<-t1.length];exact hl)),λ p hp=>?_⟩;have s2:=bh hp (.tup vs);refine h1 _ _ (s1.trans s2) ?_;simp only[Tl];exact ⟨p,vs,rfl,aG,t1.keep (az.keep s2)⟩
 ·exact h1.elim
def o6{es:List Expr}{r:Sg->Res (List D)}(h:GW X ct es r):WL X ct (.List es pos) (sW r):=by
 have h:=h.out;refine ⟨?_⟩;refine PE.imp (ah5 h) λ σ H Q ⟨Γ,j,h⟩=>?_;refine OX.bnd j h λ ds vs H1 s1 t1 j1 h1=>?_;split at h1
 ·rename_i hl;refine ⟨Nat.le_of_lt (tR (by rw[<-t1.length];exact hl)),λ p hp=>?_⟩;have s2:=bh hp (.lst vs);exact h1 p vs _ (s1.trans s2) (s1.free hp) aG (t1.keep (az.keep s2))
 ·exact h1.elim
end
section
variable{P:Program}{w:World}
def sF{H:Hp}{h:Heap}{a:Addr}{o:HO}(x:dM P w H h a o):∃ob,h.get? a=some ob:=by
 cases o with
 |lst xs=>obtain ⟨_,_,_,_,e⟩:=x;exact ⟨_,e⟩
 |tup xs=>obtain ⟨_,_,_,ob,e,_⟩:=x;exact ⟨_,e⟩
 |dK kvs=>obtain ⟨_,_,_,_,o,_,_,e,_⟩:=x;exact ⟨_,e⟩
 |dT kvs=>obtain ⟨_,_,_,_,o,_,_,e,_⟩:=x;exact ⟨_,e⟩
 |set S n=>obtain ⟨o,_,_,_,e,_⟩:=x;exact ⟨_,e⟩
 |ins C dx fs=>obtain ⟨_,_,_,e,_⟩:=x;exact ⟨_,e⟩
 |own y=>obtain ⟨_,e⟩:=x;exact ⟨_,e⟩
 |xd fs=>obtain ⟨_,⟨_,_,_,e,_⟩,_⟩:=x;exact ⟨_,e⟩
 |rng lo hi=>obtain ⟨_,_,_,e⟩:=x;exact ⟨_,e⟩
 |EX ob u=>obtain ⟨e,_⟩:=x;exact ⟨_,e⟩
 |rK ps=>exact ⟨_,(show h.get? a=some _ from x)⟩
 |met f y=>exact ⟨_,(show h.get? a=some _ from x)⟩
 |ext φ=>obtain ⟨_,⟨_,e⟩,_⟩:=x;exact ⟨_,e⟩
end
section
variable{X:Cx}{ct:Ct}{pins:List (Addr×Obj)}{σ:St}{H:Hp}{s:Shared}{a:Addr}{o o':HO}{vs:List V}
def Inv.Y7(I:Inv X pins σ H s)(ha:H a=some o)(h0:X.H₀ a=none)(nt:∀xs,o≠.tup xs)(no:∀y,o≠.own y)(new:dM X.prog X.w (upd H a o') s.heap a o'):Inv X pins σ (upd H a o') s:=by
 have ne:∀b,H b=none->b≠a:=λ b hb z=>by subst z;rw[ha] at hb;cases hb
 have ne0:∀b u,X.H₀ b=some u->b≠a:=λ b u hb z=>by subst z;rw[h0] at hb;cases hb
 refine ⟨I.ok,I.os,I.bare,⟨I.base.keep,I.base.slot,λ b u q n hx=>?_,I.base.there,λ b xs q=>?_,λ b u v q=>?_,λ b ps q=>?_⟩,I.loc,I.cell,?_,λ x c h=>?_,λ p hp=>?_,λ b u e=>?_,I.len⟩
 ·have:=I.base.free b u q n hx;rw[aE (ne b this)];exact this
 ·rw[aE (ne0 b _ q)];exact I.base.tups b xs q
 ·rw[aE (ne0 b _ q)];exact I.base.xS b u v q
 ·rw[aE (ne0 b _ q)];exact I.base.yD b ps q
 ·rw[aE (ne _ I.free)];exact I.free
 ·rw[aE (ne _ (I.mT x c h))];exact I.mT x c h
 ·obtain ⟨h1,h2,h3,h4,h5⟩:=I.pin p hp;exact ⟨h1,by rw[aE (ne _ h2)];exact h2,h3,h4,h5⟩
 ·by_cases hb:b=a
  ·subst hb;rw[aG] at e;cases e;exact new
  ·rw[aE hb] at e;refine (I.hok b u e).stay (λ c v _ q=>q) (λ c q=>?_) (λ c xs q=>?_)
   ·have:c≠a:=by rintro rfl;rw[ha] at q;exact no _ (Option.some.inj q)
    rw[aE this];exact q
   ·have:c≠a:=by rintro rfl;rw[ha] at q;exact nt _ (Option.some.inj q)
    rw[aE this];exact q
def Inv.freeze(I:Inv X pins σ H s)(ha:H a=some (.lst vs))(h0:X.H₀ a=none):∃ob,Inv X pins σ (upd H a (.EX ob (.lst vs))) s:=by obtain ⟨z,its,n,r,e⟩:=I.hok a _ ha;refine ⟨_,Inv.Y7 I ha h0 (λ _ q=>nomatch q) (λ _ q=>nomatch q) ⟨e,z,its,n,r,e⟩⟩
def Inv.afr{ks:Ks}{us:List V}(I:Inv X pins σ H s)(ha:H a=some (ks.ho us))(h0:X.H₀ a=none):∃ob,Inv X pins σ (upd H a (.EX ob (ks.ho us))) s:=by
 have q:=I.hok a _ ha;obtain ⟨ob,e⟩:=sF q;refine ⟨ob,Inv.Y7 I ha h0 (λ _ q=>by cases ks<;>cases q) (λ _ q=>by cases ks<;>cases q) ⟨e,?_⟩⟩;refine q.stay (λ c v _ z=>z) (λ c z=>?_) (λ c xs z=>?_)
 ·have:c≠a:=λ y=>by subst y;rw[ha] at z;cases ks<;>cases z
  rw[aE this];exact z
 ·have:c≠a:=λ y=>by subst y;rw[ha] at z;cases ks<;>cases z
  rw[aE this];exact z
structure Fz(X:Cx)(ct:Ct)(pins:List (Addr×Obj))(σ:St)(s:Shared)(S:Fp)(H H':Hp):Prop where
 inv:Inv X pins σ H' s
 un:∀b o,H b=some o->¬S b->H' b=some o
 keep:aZ ct.f.cb H H'
 free:∀b,H' b=none->H b=none
def Fz.step{S:Fp}{H1:Hp}(z:Fz X ct pins σ s S H H1)(ha:H1 a=some o)(hs:S a)(no:¬ajI ct.f.cb o)(I:Inv X pins σ (upd H1 a o') s):Fz X ct pins σ s S H (upd H1 a o'):=by
 refine ⟨I,λ b u q n=>?_,z.keep.trans λ b u hb st=>?_,λ b q=>?_⟩
 ·have:b≠a:=by rintro rfl;exact n hs
  rw[aE this];exact z.un b u q n
 ·have:b≠a:=by rintro rfl;rw[ha] at hb;cases hb;exact no st
  rw[aE this];exact hb
 ·by_cases e:b=a
  ·subst e;rw[aG] at q;cases q
  ·rw[aE e] at q;exact z.free b q
mutual
def Inv.N7:∀{m:M} {v:V} {S:Fp} {H:Hp},EV m=true->Inv X pins σ H s->Ow X.K ct H m v S->(∀b,S b->X.H₀ b=none)->∃H',Fz X ct pins σ s S H H'/\Tl X.K ct H' (L4.N7 m) v
 | .d x,v,S,H,fo,I,h,_=>by simp only[Ow] at h;exact ⟨H,⟨I,λ _ _ q _=>q,aZ.refl H,λ _ q=>q⟩,by simpa only[L4.N7] using h⟩
 | .l xs,v,S,H,fo,I,h,n=>by simp only[Ow] at h;obtain ⟨a,vs,rfl,h2,h3,h4⟩:=h;obtain ⟨ob,I2⟩:=Inv.freeze I h3 (n a h2);have z:Fz X ct pins σ s S H H:=⟨I,λ _ _ q _=>q,aZ.refl H,λ _ q=>q⟩;have z2:=z.step h3 h2 (λ q=>q) I2;refine ⟨_,z2,?_⟩;simp only[L4.N7,Tl];exact ⟨a,vs,rfl,.inl ⟨ob,aG⟩,h4.keep z2.keep⟩
 | .n ms,v,S,H,fo,I,h,n=>by simp only[Ow] at h;obtain ⟨a,vs,rfl,h2,h3,h4⟩:=h;obtain ⟨H1,z1,t1⟩:=Inv.EW (by simpa[EV] using fo) I h4 λ b w=>n b w.1;have h3':=z1.un a _ h3 λ w=>w.2 rfl;obtain ⟨ob,I2⟩:=Inv.freeze z1.inv h3' (n a h2);have z2:Fz X ct pins σ s S H H1:=⟨z1.inv,λ b o q w=>z1.un b o q λ u=>w u.1,z1.keep,z1.free⟩;have z3:=z2.step h3' h2 (λ q=>q) I2;refine ⟨_,z3,?_⟩;simp only[L4.N7,Tl];exact ⟨a,vs,rfl,.inl ⟨ob,aG⟩,t1.keep (aZ.lst h3')⟩
 | .t ms,v,S,H,fo,I,h,n=>by simp only[Ow] at h;obtain ⟨a,vs,rfl,h2,h3⟩:=h;obtain ⟨H1,z1,t1⟩:=Inv.EW (by simpa[EV] using fo) I h3 n;refine ⟨H1,z1,?_⟩;simp only[L4.N7,Tl];exact ⟨a,vs,rfl,z1.keep _ _ h2 trivial,t1⟩
 | .k ks xs,v,S,H,fo,I,h,n=>by simp only[Ow] at h;obtain ⟨a,vs,rfl,h2,h3,h4,h5⟩:=h;obtain ⟨ob,I2⟩:=Inv.afr I h3 (n a h2);have z:Fz X ct pins σ s S H H:=⟨I,λ _ _ q _=>q,aZ.refl H,λ _ q=>q⟩;have z2:=z.step h3 h2 Ks.ZO I2;refine ⟨_,z2,?_⟩;simp only[L4.N7,Tl];exact ⟨a,vs,rfl,⟨ob,aG⟩,h4,h5.keep z2.keep⟩
 | .o c ns xs,v,S,H,fo,I,h,n=>by simp[EV] at fo
def Inv.EW:∀{ms:List M} {vs:List V} {S:Fp} {H:Hp},Gy ms=true->Inv X pins σ H s->ez X.K ct H ms vs S->(∀b,S b->X.H₀ b=none)->∃H',Fz X ct pins σ s S H H'/\aJ X.K ct H' (L4.EW ms) vs
 |[],vs,S,H,fo,I,h,_=>by simp only[ez] at h;exact ⟨H,⟨I,λ _ _ q _=>q,aZ.refl H,λ _ q=>q⟩,by simpa only[L4.EW,aJ] using h⟩
 |m::ms,vs,S,H,fo,I,h,n=>by simp only[ez] at h;obtain ⟨v,r,S1,S2,rfl,h2,h3,h4,h5,h6⟩:=h;obtain ⟨H1,z1,t1⟩:=Inv.N7 (Bool.and_eq_true_iff.mp (by simpa[Gy] using fo)).1 I h5 λ b w=>n b (h2 b w);have h6':=h6.frame z1.keep λ b o w q=>z1.un b o q λ u=>h4 b u w;obtain ⟨H2,z2,t2⟩:=Inv.EW (Bool.and_eq_true_iff.mp (by simpa[Gy] using fo)).2 z1.inv h6' λ b w=>n b (h3 b w);refine ⟨H2,⟨z2.inv,λ b o q w=>z2.un b o (z1.un b o q λ u=>w (h2 b u)) λ u=>w (h3 b u),z1.keep.trans z2.keep,λ b q=>z1.free b (z2.free b q)⟩,?_⟩;simp only[L4.EW,aJ];exact ⟨v,r,rfl,t1.keep z2.keep,t2⟩
end
def J7{e:Expr}{f:Sg->Res (List D)}(h:PL X ct e f):PM X ct e (mL f):=by
 refine PE.imp h λ σ H Q ⟨Γ,j,q⟩=>⟨Γ,j,q.bnd λ ds _ w a vs H' s n k t=>?_⟩;refine w (.ref a) H' (λ b=>b=a) s ?_ (λ b z=>z▸n) λ b z q=>by subst z;rw[k] at q;cases q
 simp only[Ow];exact ⟨a,vs,rfl,rfl,k,t⟩
def gK{e:Expr}{f:Sg->Res (List D)}(h:WL X ct e f):WM X ct e (mL f):=⟨J7 (h:=h.out)⟩
def Zg{e:Expr}{f:Sg->Res D}(h:PD X ct e f):PM X ct e (mD f):=by refine PE.imp h λ σ H Q ⟨Γ,j,q⟩=>⟨Γ,j,q.bnd λ d _ w v H' s t=>?_⟩;exact w v H' (λ _=>False) s (by simpa only[Ow] using t) (λ _ z=>z.elim) λ _ z=>z.elim
def r9{e:Expr}{f:Sg->Res M}(h:PM X ct e f):PD X ct e (mK f):=by
 intro pins s σ H Q I ⟨Γ,j,q⟩;have t:mOf X ct f σ H (λ v H'=>∃m S,az H H'/\Ow X.K ct H' m v S/\(∀b,S b->H b=none)/\EV m=true/\Wd X ct H Q (N7 m)):=
  ⟨Γ,j,q.bnd λ m _ w v H' S s o n k=>by
   unfold fzR at w;split at w
   ·rename_i fo;exact ⟨m,S,s,o,n,fo,w⟩
   ·exact w.elim⟩
 refine gC (h pins s σ H _ I t) λ v s1 ⟨x,H1,I1,r1,m,S,e1,o,n,fo,w⟩=>?_;obtain ⟨H2,z,t2⟩:=Inv.N7 fo I1 o λ b u=>j.free b (n b u);exact ⟨x,H2,z.inv,r1,w x H2 (λ b u q=>z.un b u (e1 b u q) λ y=>by rw[n b y] at q;cases q) t2⟩
def fj{e:Expr}{f:Sg->Res M}(h:WM X ct e f):WD X ct e (mK f):=⟨r9 (h:=h.out)⟩
def cP{e:Expr}{f:Sg->Res (List D)}(h:WL X ct e f):WD X ct e (uM f):=by
 have h:=h.out;refine ⟨?_⟩;have e':uM f=mK (mL f):=funext λ Γ=>by simp only[uM,mK,mL];cases f Γ<;>rfl
 rw[e'];exact r9 (J7 h)
end
section
variable{X:Cx}{c:Cf}{st:Stmt}{rest:List Stmt}{F G:Sg->Out}{e:Expr}{f:Sg->Res D}{fl:Sg->Res M}{p:Sg->Res Bool}{pos:Pos}{H:Hp}{Γ:Sg}{σ:St}
def Fn.ok{α:Type}{B:Hp}{tm:Bool}{r:Res α}{k:α->Out}{E:Ends}{W:α->Prop}(j:Jx X c.z Γ σ H)(h:Fn X c H (oE r Γ k) E)(w:∀d,r= .ok d->Fn X c H (k d) E->W d):Ok X ⟨c,B,tm⟩ σ H r W:=by
 cases r with
 |ok d=>exact w d rfl h
 |err x=>exact λ e s' q=>h σ H e s' (aZ.refl H) j q
 |bad=>exact h.elim
def bf:zI X c [] gh:=by exact ⟨TQ.imp aec λ E σ H ⟨Γ,j,h⟩=>h σ H (aZ.refl H) j⟩
def aA(h1:DL X c st F)(h2:zI X c rest G):zI X c (st::rest) (bN F G):=by
 have h1:=h1.out;have h2:=h2.out;refine ⟨?_⟩;refine TQ.imp (Za h1 h2) λ E σ H ⟨Γ,j,h⟩=>⟨Γ,j,?_⟩;unfold bN at h;cases q:F Γ with
 |nx Γ'=>rw[q] at h;exact λ σ' H' k j'=>⟨Γ',j',h.mono k⟩
 |bk Γ'=>rw[q] at h;exact h
 |ct Γ'=>rw[q] at h;exact h
 |rt d=>rw[q] at h;exact h
 |Mz ds=>rw[q] at h;exact h
 |rtG d Γ'=>rw[q] at h;exact h
 |Hu d Γ'=>rw[q] at h;exact h
 |err x Γ'=>rw[q] at h;exact h
 |bad=>rw[q] at h;exact h
def aq(h1:DL X c st F):zI X c [st] F:=by have h1:=h1.out;exact ⟨aeb h1⟩
def Yw(he:∀B,WD X (c.at' B) e f)(hs:swapsWith e none pos.line X.env=pure false:=by rfl):DL X c (.Expr e pos) (rm f):=by have he:=λ B=>(he B).out;refine ⟨?_⟩;intro pins s σ H E I ⟨Γ,j,h⟩;exact wU (he H) hs pins s σ H E I ⟨Γ,j.lift,Fn.ok j h λ d _ q v H' s t=>q σ H' (az.keep s) (j.mono s)⟩
def aN(he:WD X c.z e f):DL X c (.Return (some e) pos) (fG f):=by have he:=he.out;exact ⟨PS.imp (Hy he) λ E σ H ⟨Γ,j,h⟩=>⟨Γ,j,Fn.ok j h λ d _ q v H' s t=>q v H' (j.mono s).bk t⟩⟩
def Yv(he:∀B,WD X (c.at' B) e f):DL X c (.Return (some e) pos) (Y4 f):=by
 have he:=λ B=>(he B).out;refine ⟨?_⟩;intro pins s σ H E I ⟨Γ,j,h⟩;refine Hy (he H) pins s σ H E I ⟨Γ,j.lift,Fn.ok j h λ d _ q v H' s t=>?_⟩;split at q
 ·rename_i n;exact q v H' (j.mono s).bk (t.down n)
 ·exact q.elim
def lX(he:∀B,WM X (c.at' B) e fl):DL X c (.Return (some e) pos) (uF fl):=by
 have he:=λ B=>(he B).out;refine ⟨?_⟩;intro pins s σ H E I ⟨Γ,j,h⟩;refine Hy (he H) pins s σ H E I ⟨Γ,j.lift,Fn.ok j h λ m _ q v H' S s o n k=>?_⟩;split at q
 ·rename_i nn;exact q v H' S (j.mono s).bk (o.down nn) (λ b z=>j.free b (n b z)) k
 ·exact q.elim
def wF(i:Nat){x:Str}{pos':Pos}(hN:X.N[i]? =some x:=by rfl)(hv:Yj X.env.scope x:=by first|exact Or.inl rfl|exact Or.inr (Or.inl rfl)|exact Or.inr (Or.inr rfl))(hd:(x==("__debug__":Str))=false:=by decide)(hcd:(x==("__classdict__":Str))=false:=by decide):DL X c (.Return (some (.Name x pos')) pos) (zQ i):=by
 refine ⟨?_⟩;refine PS.imp (Hy (HG hN hv hd hcd)) λ E σ H ⟨Γ,j,h⟩=>?_;unfold zQ at h;split at h
 ·rename_i m hi;obtain ⟨v,S,h1,h2,h3,h4⟩:=j.own hi;exact ⟨_,h1,h v H S j.bk h2 h4 h3.here⟩
 ·rename_i d hi;obtain ⟨v,h1,h2⟩:=j.val hi;exact ⟨_,h1,h v H j.bk h2⟩
 ·exact h.elim
def cI(i:Nat){x:Str}{pos':Pos}(hN:X.N.Nodup)(he:WD X c.z e f)(hi:X.N[i]? =some x:=by rfl)(hx:Loc X.env.scope x:=by first|exact Or.inl rfl|exact Or.inr rfl)(hs:swapsWith e (some (.Name x pos')) pos.line X.env=pure false:=by rfl)(hf:X.fn x=true\/X.env.scope.names.lookup x=some .local:=by first|exact .inl rfl|exact .inr rfl):DL X c (.Assign [.Name x pos'] e pos) (oA i f):=by have he:=he.out;exact ⟨PS.imp (Zb hN hi hx he hs hf) λ E σ H ⟨Γ,j,h⟩=>⟨Γ,j,Fn.ok j h λ d _ q v H' s t=>q _ H' (az.keep s) ((j.mono s).set t)⟩⟩
def wD(i:Nat){x:Str}{pos':Pos}(hN:X.N.Nodup)(he:∀B,WM X (c.at' B) e fl)(hi:X.N[i]? =some x:=by rfl)(hx:Loc X.env.scope x:=by first|exact Or.inl rfl|exact Or.inr rfl)(hs:swapsWith e (some (.Name x pos')) pos.line X.env=pure false:=by rfl)(hf:X.fn x=true\/X.env.scope.names.lookup x=some .local:=by first|exact .inl rfl|exact .inr rfl):DL X c (.Assign [.Name x pos'] e pos) (rj i fl):=by
 have he:=λ B=>(he B).out;refine ⟨?_⟩;intro pins s σ H E I ⟨Γ,j,h⟩;refine Zb hN hi hx (he H) hs hf pins s σ H E I ⟨Γ,j.lift,Fn.ok j h λ m _ q v H' S s o n k=>?_⟩;split at q
 ·rename_i nn;exact q _ H' (az.keep s) (j.setM s rfl (o.down nn) n k)
 ·exact q.elim
end
section
variable{X:Cx}{ct:Ct}{tg:Expr}{H:Hp}{Γ:Sg}{σ:St}{pos:Pos}
def gOf(X:Cx)(ct:Ct)(t:Tg):TG:=λ v σ H Q=>∃Γ d Γ',Jx X ct Γ σ H/\Tl X.K ct H d v/\t d Γ=some Γ'/\∀σ',Jx X ct Γ' σ' H->Q σ' H
def amk(X:Cx)(ct:Ct)(t:Vj):TGs:=λ vs σ H Q=>∃Γ ds Γ',Jx X ct Γ σ H/\aJ X.K ct H ds vs/\t ds Γ=some Γ'/\∀σ',Jx X ct Γ' σ' H->Q σ' H
def PG.imp{t u:TG}(h:PG X tg t)(k:∀v σ H Q,u v σ H Q->t v σ H Q):PG X tg u:=λ pins s σ H v w Q I r q=>h pins s σ H v w Q I r (k v σ H Q q)
def PGs.imp{es:List Expr}{t u:TGs}(h:PGs X es t)(k:∀v σ H Q,u v σ H Q->t v σ H Q):PGs X es u:=λ pins s σ H v w Q I r q=>h pins s σ H v w Q I r (k v σ H Q q)
abbrev PGD(X:Cx)(ct:Ct)(tg:Expr)(t:Tg):Prop:=PG X tg (gOf X ct t)
abbrev atN(X:Cx)(ct:Ct)(tg:List Expr)(t:Vj):Prop:=PGs X tg (amk X ct t)
structure WG(X:Cx)(tg:Expr)(t:TG):Prop where
 out:PG X tg t
structure WGs(X:Cx)(tg:List Expr)(t:TGs):Prop where
 out:PGs X tg t
abbrev WGD(X:Cx)(ct:Ct)(tg:Expr)(t:Tg):Prop:=WG X tg (gOf X ct t)
abbrev afQ(X:Cx)(ct:Ct)(tg:List Expr)(t:Vj):Prop:=WGs X tg (amk X ct t)
def aL(i:Nat){x:Str}(hN:X.N.Nodup)(hi:X.N[i]? =some x:=by rfl)(hx:Loc X.env.scope x:=by first|exact Or.inl rfl|exact Or.inr rfl)(hf:X.fn x=true\/X.env.scope.names.lookup x=some .local:=by first|exact .inl rfl|exact .inr rfl):WGD X ct (.Name x pos) (aD i):=by
 refine ⟨?_⟩;refine PG.imp (aeo hN hi hx hf) ?_
 rintro v σ H Q ⟨Γ,d,Γ',j,t,e,q⟩
 cases e;exact q _ (j.set t)
def lV:afQ X ct [] kD:=by
 refine ⟨?_⟩;refine PGs.imp aen ?_
 rintro vs σ H Q ⟨Γ,ds,Γ',j,t,e,q⟩
 cases ds with
 |nil=>simp only[aJ] at t;cases e;exact ⟨t,q _ j⟩
 |cons d r=>cases e
def b8{e:Expr}{es:List Expr}{t:Tg}{u:Vj}(h1:WGD X ct e t)(h2:afQ X ct es u)(hs:(assignEach (e::es) X.env).map (·.2)=assign e X.env::(assignEach es X.env).map (·.2):=by rfl):afQ X ct (e::es) (bg t u):=by
 have h1:=h1.out;have h2:=h2.out;refine ⟨?_⟩;refine PGs.imp (Zn h1 h2 hs) ?_
 rintro vs σ H Q ⟨Γ,ds,Γ',j,tl,e,q⟩
 cases ds with
 |nil=>cases e
 |cons d r=>simp only[aJ] at tl;obtain ⟨v,vr,rfl,t1,t2⟩:=tl;simp only[bg,Option.bind_eq_some_iff] at e;obtain ⟨Γ1,e1,e2⟩:=e;exact ⟨v,vr,rfl,Γ,d,Γ1,j,t1,e1,λ σ' j'=>⟨Γ1,r,Γ',j',t2,e2,q⟩⟩
def oG{es:List Expr}{k:Nat}{t:Vj}{n:Nat}(hc:X.calm=true)(h:afQ X ct es t)(hn:(assignEach es X.env).length=n:=by rfl)(hst:(assignEach es X.env).findIdx? (·.1)=none:=by rfl):WGD X ct (.Tuple es k pos) (jy n t):=by
 have h:=h.out;refine ⟨?_⟩;refine PG.imp (ahZ hc h hn hst) ?_
 rintro v σ H Q ⟨Γ,d,Γ',j,tl,e,q⟩
 cases d with
 |tup ds=>
  simp only[Tl] at tl;obtain ⟨a,vs,rfl,h1,h2⟩:=tl;simp only[jy] at e;split at e
  ·rename_i hl;exact ⟨a,vs,rfl,pK h1,by rw[<-h2.length];exact hl,Γ,ds,Γ',j,h2,e,q⟩
  ·cases e
 |_=>cases e
def Bg{c:Cf}{e:Expr}{f:Sg->Res D}{t:Tg}(he:WD X c.z e f)(hg:WGD X c.z tg t)(hs:swapsWithSole [tg] e pos.line X.env=pure false:=by rfl)(hw:swappedStores [tg] e X.env=pure none:=by rfl)(h1:(assignEach [tg] X.env).map (·.2)=[assign tg X.env]:=by rfl):DL X c (.Assign [tg] e pos) (VR f t):=by
 have he:=he.out;have hg:=hg.out;refine ⟨?_⟩;refine PS.imp (Zc he hg hs hw h1) λ E σ H ⟨Γ,j,h⟩=>⟨Γ,j,Fn.ok j h λ d _ q v H' s tl=>?_⟩;cases e:t d Γ with
 |some Γ'=>rw[e] at q;exact ⟨Γ,d,Γ',j.mono s,tl,e,λ σ' j'=>q σ' H' (az.keep s) j'⟩
 |none=>rw[e] at q;exact q.elim
end
structure Good(X:Cx):Prop where
 po:PassesOwn (model X.prog X.w) X.A X.env X.xe
 calm:X.calm=true
 nd:X.N.Nodup
 own:X.stack=X.env::X.outer/\X.env.frame=some X.env.locals
section
variable{X:Cx}{c:Cf}{tg iter:Expr}{f:Sg->Res D}{t:Tg}{B:Sg->Out}{body:List Stmt}{pos:Pos}
def adM{H' H1:Hp}{Γ1 Γ2:Sg}{xs:List D}{d:D}{E:Ends}{o:Out}{Pn:St->Hp->Prop}(k1:aZ c.cb H' H1)(e1:t d Γ1=some Γ2)(hx:gn t B (d::xs) Γ1=o)(h:Fn X c H' o E) (hn:∀Γ3 σ3 H3,aZ c.cb H' H3->Jx X c.z Γ3 σ3 H3->gn t B xs Γ3=o->Pn σ3 H3):Fn X c H1 (B Γ2) {E with nx:=Pn,ct:=Pn,bk:=E.nx}:=by
 simp only[gn,e1] at hx;cases q:B Γ2 with
 |nx Γ3=>rw[q] at hx;exact λ σ3 H3 k3 j3=>hn Γ3 σ3 H3 (k1.trans k3) j3 hx
 |ct Γ3=>rw[q] at hx;exact λ σ3 H3 k3 j3=>hn Γ3 σ3 H3 (k1.trans k3) j3 hx
 |bk Γ3=>rw[q] at hx;subst hx;exact λ σ3 H3 k3 j3=>h σ3 H3 (k1.trans k3) j3
 |rt d=>rw[q] at hx;subst hx;exact h
 |Mz d=>rw[q] at hx;subst hx;exact h
 |rtG d Γ3=>rw[q] at hx;subst hx;exact h
 |Hu d Γ3=>rw[q] at hx;subst hx;exact h
 |err x Γ3=>rw[q] at hx;subst hx;exact λ σ3 H3 e s' k3 j3 r=>h σ3 H3 e s' (k1.trans k3) j3 r
 |bad=>rw[q] at hx;subst hx;exact h
def aeH{Γ1:Sg}{xs:List D}{d:D}{H':Hp}{E:Ends}{o:Out}(e:t d Γ1=none)(hx:gn t B (d::xs) Γ1=o)(h:Fn X c H' o E):False:=by simp only[gn,e] at hx;subst hx;exact h
end
section
variable{X:Cx}{c:Cf}{e:Expr}{f:Sg->Res D}{fm:Sg->Res M}{p:Sg->Res Bool}
end
def spD(K:W.Frag)(cb:Cb)(n:Nat)(F:List Slot->cO):Sp:=λ vs H Q E=>vs.length=n/\∃(c:Cf) (as:List Slot),c.cb=cb/\c.args=vs/\J K c.z H as (vs.map some) H/\match F as with
 | .ok d=>∀v H',(∀b o,H b=some o->¬c.io b->H' b=some o)->(∀b,H' b=none->H b=none)->Tl K c.z H' d v->Q v H'
 | .new m=>∀v H' S,(∀b o,H b=some o->¬c.io b->H' b=some o)->(∀b,H' b=none->H b=none)->Ow K c.z H' m v S->(∀b,S b->H b=none)->(∀b,S b->H' b≠none)->Q v H'
 | .okG d os=>∀v Γ' σ' H',J K c.z H Γ' σ' H'->iM 0 Γ'=os->Tl K c.z H' d v->Q v H'
 | .Ng _ _=>False
 | .err x=>∀C H',cb.exc x=some C->(∀b o,H b=some o->¬c.io b->H' b=some o)->E (.ref C) none H'
 | .bad=>False
abbrev jx(P:Program)(w:World)(K:W.Frag)(mg:Str->Option Value)(base:Heap)(cb:Cb)(k:Nat)(f:Addr)(fd:FuncData)(ps:List Str)(F:List Slot->cO):Prop:=TV P w K mg base (JI P w) k f fd ps (spD K cb ps.length F)
abbrev kj(cb:Cb)(L:Hp)(vs:List V):Cf:=⟨cb,L,λ _=>False,vs⟩
def aaz{K:W.Frag}{cb:Cb}{L H:Hp}{ds:List D}{vs:List V}(l:az L H)(t:aJ K (kj cb L vs).z H ds vs):J K (kj cb L vs).z H (ds.map Slot.val) (vs.map some) H:=by
 refine ⟨λ _ _ q _=>q,λ _ q=>q,l,λ _ _ q=>(nomatch q),by simp[t.length],λ _ _=>False,λ i sl ov h1 h2=>?_,λ _ _ _ _ z=>z.elim,λ _ _ z=>z.elim⟩;rw[List.getElem?_map] at h1 h2;cases q:ds[i]? with
 |none=>rw[q] at h1;cases h1
 |some d=>obtain ⟨v,e1,e2⟩:=t.get q;rw[q] at h1;rw[e1] at h2;cases h1;cases h2;exact ⟨⟨v,rfl,e2⟩,λ _ z=>z⟩
section
variable{X:Cx}{cb:Cb}{k:Nat}{f C:Addr}{fd:FuncData}{ps:List Str}{F:List Slot->cO}{x:Str}{p pos apos:Pos}{e o:Expr}{es:List Expr}{fa:Sg->Res (List D)}
def ahb(X:Cx)(c:Cf)(σ:St)(H:Hp)(a:cO)(Q:VK):Prop:=match a with
 | .ok d=>∀v H',az H H'->Tl X.K c.z H' d v->Q v H'
 | .new m=>∀v H' S,az H H'->Ow X.K c.z H' m v S->(∀b,S b->H b=none)->(∀b,S b->H' b≠none)->Q v H'
 | .err x=>∀e s',ja X c.cb σ H x e s'->X.xe e s'
 |_=>False
def Ht{pins:List (Addr×Obj)}{σ:St}{H L:Hp}{s:Shared}{Q:VK}{us:List Value}{vs:List V}{ds:List D}(G:jx X.prog X.w X.K X.mg X.base cb k f fd ps F)(hr:fD k X.A)(hb:Binds X.K fd ps []) (I:Inv X pins σ H s) (r:Vals vs us) (l:az L H) (t:aJ X.K (kj cb L vs).z H ds vs) (hn:vs.length=ps.length) (h:ahb X (kj cb L vs) σ H (F (ds.map .val)) Q):wpAny (model X.prog X.w) X.A (call (.ref f) us) (EP X pins σ Q) X.xe s:=by
 have hl:us.length=ps.length:=by rw[<-r.length];exact hn
 have hb':=hb s us I.zZ (by rw[List.append_nil];exact hl);rw[List.append_nil] at hb';let E:XK:=λ cls od H'=>∃x C,F (ds.map .val)= .err x/\cb.exc x=some C/\cls= .ref C/\od=none/\az H H'
 have LJ:spD X.K cb ps.length F vs H Q E:=by
  refine ⟨hn,kj cb L vs,ds.map .val,rfl,rfl,aaz l t,?_⟩;cases q:F (ds.map .val) with
  |ok d=>rw[q] at h;exact λ v H' s _ t=>h v H' (λ b o z=>s b o z λ w=>w) t
  |new m=>rw[q] at h;exact λ v H' S s _ o n k=>h v H' S (λ b o z=>s b o z λ w=>w) o n k
  |okG d os=>rw[q] at h;exact h.elim
  |Ng d os=>rw[q] at h;exact h.elim
  |err x=>exact λ C H' e s=>⟨x,C,q,e,rfl,rfl,λ b o z=>s b o z λ w=>w⟩
  |bad=>rw[q] at h;exact h
 refine wpAny_call (codeAny_mono (G.run X.A X.stack s H ⟨us,[]⟩ us vs Q E hr I.amt hb' r LJ) λ r s' hq=>?_);cases r with
 |error e=>obtain ⟨a,C,H',B,a0,h1,⟨x,C',q1,q2,q3,q4,q5⟩,h3,h4,h5,h6,h6',h7⟩:=hq;rw[q1] at h;cases q3;exact h e s' ⟨pins,H,s,C,I,az.refl H,q2,.inr ⟨a,C,H',B,a0,h1,⟨rfl,rfl,q5⟩,h3,h4,h5,h6,h6',h7⟩⟩
 |ok fl=>
  cases fl with
  |ret u=>exact I.after hq
  |next=>exact False.elim hq
  |brk=>exact False.elim hq
  |cont=>exact False.elim hq
structure DP(ct:Ct)(md:List D->Option (List D))(bk:D->Bool)(zF:M->Bool):Prop where
 go:∀K H ds vs ds',az ct.f.L H->az ct.B H->aJ K ct H ds vs->md ds=some ds'->∃L,az L H/\aJ K (kj ct.f.cb L vs).z H ds' vs/\
  (∀H' d v,bk d=true->Tl K (kj ct.f.cb L vs).z H' d v->Tl K ct H' d v)/\∀H' m v S,zF m=true->Ow K (kj ct.f.cb L vs).z H' m v S->Ow K ct H' m v S
def Bh{K:W.Frag}{ct iZ:Ct}{H:Hp}(e:iZ.f.cb=ct.f.cb)(l:∀t a o,ct.lo t a=some o->iZ.lo t a=some o){d:D}{v:V}(h:Tl K ct H d v):Tl K iZ H d v:=by have:=Tl.re (ct:=ct) (iZ:=iZ) (p:=λ _=>true) (g:=id) ⟨e,λ t a o _ q=>l t a o q⟩ (HP d) h;rwa [B0] at this
def wI{K:W.Frag}{ct iZ:Ct}{H:Hp}(e:iZ.f.cb=ct.f.cb)(l:∀t a o,ct.lo t a=some o->iZ.lo t a=some o){d:List D}{v:List V}(h:aJ K ct H d v):aJ K iZ H d v:=by have:=aJ.re (ct:=ct) (iZ:=iZ) (p:=λ _=>true) (g:=id) ⟨e,λ t a o _ q=>l t a o q⟩ (sA d) h;rwa [tS] at this
def Uz{K:W.Frag}{ct iZ:Ct}{H:Hp}(e:iZ.f.cb=ct.f.cb)(l:∀t a o,ct.lo t a=some o->iZ.lo t a=some o){m:M}{v:V}{S:Fp}(h:Ow K ct H m v S):Ow K iZ H m v S:=Ow.map (p:=λ _=>true) e (λ _ _ _=>Bh e l) (q:=λ _=>true) (λ _ _ _=>wI e l) (pm:=λ _=>true) (Uu:=λ _=>true) (λ _ _=>rfl) (λ _ _=>rfl) (λ _ _=>rfl) (λ _ _=>rfl) (λ _ _ _=>rfl) (λ _ _ _ _=>rfl) (λ _ _ _=>⟨rfl,rfl⟩) rfl h
def bG(c:Cf):DP c.z some (λ _=>true) (λ _=>true):=⟨λ K H ds vs ds' l b t e=>by
 cases e;have q:∀t a o,c.z.lo t a=some o->(kj c.cb c.L vs).z.lo t a=some o:=λ t a o z=>by cases t<;>exact z
 have q':∀t a o,(kj c.cb c.L vs).z.lo t a=some o->c.z.lo t a=some o:=λ t a o z=>by cases t<;>exact z
 exact ⟨c.L,l,wI (ct:=c.z) (iZ:=(kj c.cb c.L vs).z) rfl q t,λ H' d v _ t=>Bh (ct:=(kj c.cb c.L vs).z) (iZ:=c.z) rfl q' t,λ H' m v S _ t=>Uz (ct:=(kj c.cb c.L vs).z) (iZ:=c.z) rfl q' t⟩⟩
def Ir(ct:Ct):DP ct (λ ds=>if m6 ds=true then some ds else none) (λ _=>true) (λ _=>true):=⟨λ K H ds vs ds' l b t e=>by
 split at e
 ·rename_i n;cases e;have q:∀t a o,ct.f.z.lo t a=some o->(kj ct.f.cb ct.f.L vs).z.lo t a=some o:=λ t a o z=>by cases t<;>exact z
  have q':∀t a o,(kj ct.f.cb ct.f.L vs).z.lo t a=some o->ct.lo t a=some o:=λ t a o z=>by
   cases t with
   |true=>cases z
   |false=>exact z
  obtain ⟨cf,B,tm⟩:=ct;exact ⟨cf.L,l,wI (ct:=cf.z) (iZ:=(kj cf.cb cf.L vs).z) rfl q (aJ.down t n),λ H' d v _ t=>Bh (ct:=(kj cf.cb cf.L vs).z) (iZ:=⟨cf,B,tm⟩) rfl q' t,λ H' m v S _ t=>Uz (ct:=(kj cf.cb cf.L vs).z) (iZ:=⟨cf,B,tm⟩) rfl q' t⟩
 ·cases e⟩
def UL(ct:Ct):DP ct (λ ds=>some (wu ds)) nb Ni:=⟨λ K H ds vs ds' l b t e=>by cases e;exact ⟨H,az.refl H,t.lent rfl rfl l b,λ H' d v n t=>Tl.bare (ct:=(kj ct.f.cb H vs).z) (iZ:=ct) rfl t n,λ H' m v S n t=>Ow.bare (ct:=(kj ct.f.cb H vs).z) (iZ:=ct) rfl t n⟩⟩
def TY(X:Cx)(ct:Ct)(bk:D->Bool)(zF:M->Bool)(σ:St)(H:Hp)(a:cO)(Q:VK):Prop:=match a with
 | .ok d=>bk d=true/\Wd X ct H Q d
 | .new m=>zF m=true/\Wm X ct H Q m
 | .err x=>∀e s',ja X ct.f.cb σ H x e s'->X.xe e s'
 |_=>False
def kOf(X:Cx)(ct:Ct)(md:List D->Option (List D))(bk:D->Bool)(zF:M->Bool)(n:Nat)(F:List Slot->cO)(fa:Sg->Res (List D)):TE:=λ σ H Q=>∃Γ,Jx X ct Γ σ H/\Ok X ct σ H (fa Γ) λ ds=>ds.length=n/\∃ds',md ds=some ds'/\∀H',az H H'->TY X ct bk zF σ H' (F (ds'.map .val)) Q
variable{ct:Ct}{md:List D->Option (List D)}{bk:D->Bool}{zF:M->Bool}
def Jv{σ:St}{H L:Hp}{a:cO}{Q:VK}{vs:List V}(h:TY X ct bk zF σ H a Q)(q1:∀H' d v,bk d=true->Tl X.K (kj ct.f.cb L vs).z H' d v->Tl X.K ct H' d v)(q2:∀H' m v S,zF m=true->Ow X.K (kj ct.f.cb L vs).z H' m v S->Ow X.K ct H' m v S):
  ahb X (kj ct.f.cb L vs) σ H a Q:=by
 cases a with
 |ok d=>exact λ v H' s t=>h.2 v H' s (q1 H' d v h.1 t)
 |new m=>exact λ v H' S s o n k=>h.2 v H' S s (q2 H' m v S h.1 o) n k
 |err x=>exact h
 |okG d os=>exact h
 |Ng d os=>exact h
 |bad=>exact h
def wW(Z:DP ct md bk zF)(G:jx X.prog X.w X.K X.mg X.base ct.f.cb k f fd ps F)(hr:fD k X.A)(hm:X.mg x=some (.ref f))(hk:W.keepIn X.K (.ref f)=true)(hb:Binds X.K fd ps [])(ha:PDA X ct (e::es) fa)(hg:Gl X x:=by rfl) (hdb:(x==("__debug__":Str))=false:=by decide) (he:starEach (e::es) X.env=(false,eval e X.env)::starEach es X.env:=by rfl) (hpl:(backTo pos (starEach es X.env)).any (·.1)=false:=by rfl):
  PE X (.Call (.Name x p) (e::es) [] pos) (kOf X ct md bk zF ps.length F fa):=by
 intro pins s σ H Q I ⟨Γ,j,h⟩;refine wpAny_Call_Name_kw (xB I hg hm ?_ hdb);have h':OX X ct fa σ H (λ vs H1=>∃ds ds',az H H1/\aJ X.K ct H1 ds vs/\ds.length=ps.length/\md ds=some ds'/\TY X ct bk zF σ H1 (F (ds'.map .val)) Q):=
  ⟨Γ,j,Ok.mono (az.refl H) h λ ds ⟨q1,ds',q2,q3⟩ vs H1 s1 t1=>⟨ds,ds',s1,t1,q1,q2,q3 H1 s1⟩⟩
 refine W.callWith_K (h₀:=X.base) I.ok.mod.kin hk (gC (ha pos pins s σ H _ I h') λ us s1 ⟨vs,H1,I1,r,ds,ds',sm,t1,hl,hd,q⟩=>⟨I1.zZ,?_⟩) he hpl;have j1:=j.mono sm;obtain ⟨L,l,t2,q1,q2⟩:=Z.go X.K H1 ds vs ds' j1.lL j1.lB t1 hd;exact Ht G hr hb I1 r l t2 (by rw[<-t1.length];exact hl) (Jv q q1 q2)
def Wm.mono{H H2:Hp}{Q:VK}{m:M}(s:az H H2)(h:Wm X ct H Q m):Wm X ct H2 Q m:=λ v H' S e o n k=>h v H' S (s.trans e) o (λ b z=>s.free (n b z)) k
def Wm.data{H:Hp}{Q:VK}{d:D}(h:Wm X ct H Q (.d d)):Wd X ct H Q d:=λ v H' e t=>h v H' (λ _=>False) e (by simpa only[Ow] using t) (λ _ z=>z.elim) λ _ z=>z.elim
def HD{n:Nat}{g:Sg->Res M}(h:PE X e (kOf X ct md bk zF n F fa))(hg:∀Γ,g Γ=(fa Γ).bnd λ ds=>if ds.length=n then (match md ds with
   |some ds'=>(match F (ds'.map .val) with
    | .ok d=>if bk d=true then .ok (.d d) else .bad
    | .new m=>if zF m=true then .ok m else .bad
    | .err x=> .err x
    |_=> .bad)
   |none=> .bad) else .bad):PM X ct e g:=by
 refine PE.imp h λ σ H Q ⟨Γ,j,q⟩=>⟨Γ,j,?_⟩;rw[hg] at q;refine q.bnd λ ds _ q=>?_;split at q
 ·rename_i hl;split at q
  ·rename_i ds' hd;refine ⟨hl,ds',hd,λ H' s=>?_⟩;cases z:F (ds'.map .val) with
   |ok d=>
    rw[z] at q;dsimp only at q;split at q
    ·rename_i hb;exact ⟨hb,(Wm.data q).mono s⟩
    ·exact q.elim
   |new m=>
    rw[z] at q;dsimp only at q;split at q
    ·rename_i hb;exact ⟨hb,Wm.mono s q⟩
    ·exact q.elim
   |err x=>rw[z] at q;exact λ e s' r=>q e s' (r.mono s)
   |okG d os=>rw[z] at q;exact q.elim
   |Ng d os=>rw[z] at q;exact q.elim
   |bad=>rw[z] at q;exact q.elim
  ·exact q.elim
 ·exact q.elim
section
variable{n:Nat}
def Zj{c:Cf}(h:PE X e (kOf X c.z some (λ _=>true) (λ _=>true) n F fa)):PM X c.z e (Z5 n F fa):=HD h λ Γ=>by
 unfold Z5;cases fa Γ with
 |ok ds=>
  simp only[Res.bw];by_cases hl:ds.length=n
  ·simp only[hl,if_true];cases F (ds.map .val)<;>simp[rG]
  ·simp[hl]
 |err x=>rfl
 |bad=>rfl
def Ka(h:PE X e (kOf X ct (λ ds=>if m6 ds=true then some ds else none) (λ _=>true) (λ _=>true) n F fa)):PM X ct e (sQ n F fa):=HD h λ Γ=>by
 unfold sQ;congr 1;funext ds;by_cases hl:ds.length=n
 ·by_cases hn:m6 ds=true
  ·simp only[hl,hn,and_self,if_true];cases F (ds.map .val)<;>simp[rG]
  ·simp[hl,hn]
 ·simp[hl]
def Zk(h:PE X e (kOf X ct (λ ds=>some (wu ds)) nb Ni n F fa)):PM X ct e (NB n F fa):=HD h λ Γ=>by
 unfold NB;congr 1;funext ds;split
 ·dsimp only;cases F ((wu ds).map .val) with
  |ok d=>by_cases h:nb d=true<;>simp[nbA,rG,h]
  |new m=>by_cases h:Ni m=true<;>simp[nbA,rG,h]
  |_=>simp[nbA,rG]
 ·rfl
def ai2(a:cO):A4 a=(rG a).bnd fzR:=by cases a<;>simp[A4,rG,fzR,EV,N7]
def Dj(f:Sg->Res (List D))(g:List D->cO)(P:List D->Prop) [DecidablePred P]:(λ Γ=>(f Γ).bnd λ ds=>if P ds then A4 (g ds) else .bad)=mK (λ Γ=>(f Γ).bnd λ ds=>if P ds then rG (g ds) else .bad):=by
 funext Γ;unfold mK;dsimp only;cases f Γ with
 |ok ds=>
  simp only[Res.bw];by_cases h:P ds
  ·simp only[h,if_true];exact ai2 _
  ·simp[h]
 |err x=>rfl
 |bad=>rfl
def Zx{c:Cf}(h:PE X e (kOf X c.z some (λ _=>true) (λ _=>true) n F fa)):PD X c.z e (aR n F fa):=by have:=r9 (Zj h);rwa [show mK (Z5 n F fa)=aR n F fa from (Dj fa (λ ds=>F (ds.map .val)) λ ds=>ds.length=n).symm] at this
def Zz(h:PE X e (kOf X ct (λ ds=>if m6 ds=true then some ds else none) (λ _=>true) (λ _=>true) n F fa)):PD X ct e (cV n F fa):=by have:=r9 (Ka h);rwa [show mK (sQ n F fa)=cV n F fa from (Dj fa (λ ds=>F (ds.map .val)) λ ds=>ds.length=n/\m6 ds=true).symm] at this
def Zy(h:PE X e (kOf X ct (λ ds=>some (wu ds)) nb Ni n F fa)):PD X ct e (sX n F fa):=by have:=r9 (Zk h);rwa [show mK (NB n F fa)=sX n F fa from (Dj fa (λ ds=>nbA (F ((wu ds).map .val))) λ ds=>ds.length=n).symm] at this
end
end
section
variable{P:Program}{w:World}{K:W.Frag}{mg:Str->Option Value}{base:Heap}{cb:Cb}
def KS{N:List Str}{qual:Str}{scope:Scope}{f:Addr}{cd:Value}{A:Around}{outer:List Env}{s:Shared}{H:Hp}{E:XK}{σ':St}{H':Hp}{c:String}{e:Value}{s':Shared} (r:ja (pD (JI P w) P w K mg base N qual scope f cd A outer s H E) cb σ' H' c e s') (he:∀C H2,cb.exc c=some C->az H' H2->E (.ref C) none H2):
  (pD (JI P w) P w K mg base N qual scope f cd A outer s H E).xe e s':=by
 obtain ⟨pins,H1,s1,C,I1,sm,hc,r⟩:=r;have hfr:=I1.ok.frames;have back:∀a,s1.heap.get? a=none->s.heap.get? a=none:=λ a q=>by
  cases z:s.heap.get? a with
  |none=>rfl
  |some o=>obtain ⟨o',w'⟩:=I1.base.there a o z (by simp[pD]);rw[q] at w';cases w'
 rcases r with ⟨a,args,h',rfl,rfl,hx⟩|⟨a,C',H2,B,a0,rfl,⟨q1,q2,q3⟩,q4,q5,fl,na,nw,cl⟩
 ·-- made here
  let X:=pD (JI P w) P w K mg base N qual scope f cd A outer s H E
  have hst:s1.heap.FunFrames X.base X.stack:=I1.stack;have hin:∀env∈X.stack,∀b,env.frame=some b->b∈frs X.stack:=λ env he b hb=>List.mem_filterMap.mpr ⟨env,he,hb⟩;have hkb:(W.hideAll s1.heap (frs X.stack)).StaysIn s1.heap:=λ b o q=>W.of_hideAll _ q;refine wpAny_leaves_madeW (s:={s1 with heap:=h'}) (L:=s.heap.objs.size) hfr rfl hkb (W.funFrames_hide hst hin) hx λ h2 t fl tu tn up=>?_;have na:H1 a=none:=by
   cases z:H1 a with
   |none=>rfl
   |some o=>obtain ⟨ob,hb⟩:=sF (I1.hok a o z);rw[hx.new] at hb;cases hb
  refine ⟨a,C,H1,W.hideAll s1.heap (frs X.stack),.ref t,rfl,he C H1 hc sm,I1.os,I1.bare,fl,na,back a hx.new,λ h3 st3 up3=>?_⟩;have keep:∀b o,s1.heap.get? b=some o->b∉frs X.stack->h3.get? b=some o:=λ b o q nb=>st3 b o (W.hideAll_get _ q nb);have slot:∀b o,s1.heap.get? b=some o->b∈frs X.stack->∃sl,h3.get? b=some {o with slots:=sl}:=λ b o q hb=>by obtain ⟨_,o',ho',hd⟩:=hst.mem hb;rw[q] at ho';cases ho';exact (up.trans up3) b o (hx.keeps b o q) hd
  have un:Un (frs X.stack) [] H1 H1 s1.heap h3:=⟨λ b o q n nb _=>keep b o q nb,λ b o q n hb _=>slot b o q hb,λ b o q n _=>n,λ b o q _=>by
   by_cases hb:b∈frs X.stack
   ·obtain ⟨sl,z⟩:=slot b o q hb;exact ⟨_,z⟩
   ·exact ⟨o,keep b o q hb⟩,λ b xs q=>q,λ b o u q=>q,λ b ps q=>⟨#[],by rw[q];simp⟩⟩
  have hok:uE P w H1 h3:=λ b o q=>(I1.hok b o q).stay (λ b' u hb' e'=>by
   have tr:H1 b'≠none:=by
    rcases hb' with rfl|hb'
    ·rw[q];exact λ z=>nomatch z
    ·rw[hb'];exact λ z=>nomatch z
   exact keep b' u e' λ z=>tr (I1.Bl b' z)) (λ _ q=>q) λ _ _ q=>q
  have I3:=I1.Vd (s':={s1 with heap:=h3}) (ch:=[]) rfl un hok I1.bare (λ b z=>absurd z (by simp));exact ⟨I3.base,hok⟩
 ·-- out of a call
  cases q1;refine wpAny_leaves_onW (L:=s.heap.objs.size) hfr rfl fl λ h2 fl2 up=>?_;refine ⟨a,C,H2,B,a0,rfl,he C H2 hc (sm.trans q3),q4.trans I1.os,q5,fl2,na,back a nw,λ h3 st3 up3=>?_⟩;obtain ⟨un,hok⟩:=cl h3 st3 (up.trans up3);have I3:=I1.Vd (s':={s' with heap:=h3}) (ch:=[]) q4 un hok q5 (λ b z=>absurd z (by simp));exact ⟨I3.base,hok⟩
def UR{N:List Str}{as:List Slot}{vs:List V}{H:Hp}{c:Cf}(j:J K c.z H as (vs.map some) H):J K c.z H (ck N as) (L2.start N vs) H:=by
 have hl:as.length=vs.length:=by have:=j.len;simpa using this
 obtain ⟨S,h1,h2,h3⟩:=j.sl;refine ⟨j.same,j.free,j.lL,j.lB,by simp[ck,L2.start,hl],λ i b=>S i b/\i<as.length,λ i sl ov g1 g2=>?_,λ i k b e z z'=>h2 i k b e z.1 z'.1,λ i b z=>h3 i b z.1⟩;by_cases hi:i<as.length
 ·rw[ck,List.getElem?_append_left hi] at g1;rw[L2.start,List.getElem?_append_left (by simpa[<-hl] using hi)] at g2;have eS:(λ b=>S i b/\i<as.length)=S i:=funext λ b=>propext ⟨λ z=>z.1,λ z=>⟨z,hi⟩⟩;show pF K c.z H H i (λ b=>S i b/\i<as.length) sl ov;rw[eS];exact h1 i sl ov g1 g2
 ·rw[ck,List.getElem?_append_right (Nat.le_of_not_lt hi),List.getElem?_replicate] at g1;split at g1
  ·cases g1;exact λ b z=>hi z.2
  ·cases g1
def ai5{x qual:Str}{st:Stmt}{f:Addr}{fd:FuncData}{N ps:List Str}{k:Nat}{F:List Slot->cO}{B:Nat->Sg->Out}(Ye:mH K x qual st f fd)(S:oY N ps (ay st)) (hbody:∀(c:Cf) (cdv:Value) (A:Around) (outer:List Env) (s:Shared) (H:Hp) (E:XK),c.cb=cb->fD k (A.deeper (envOfC qual (ay st) s.heap.objs.size f cdv))->Good (pD (JI P w) P w K mg base N qual (ay st) f cdv A outer s H E)->∀n,anw (pD (JI P w) P w K mg base N qual (ay st) f cdv A outer s H E) c (aF st) (B n)) (hF:∀as,as.length=ps.length->F as≠.bad->∃n,mU (B n (ck N as))=F as):jx P w K mg base cb (k+1) f fd ps F:=by
 obtain ⟨oc,od,kV,doc,pm,an,cdv,iZ,osl,rfl,lk,hcd⟩:=Ye.ex;refine agu lk hcd S (λ vs H Q E h=>h.1) λ A outer s H vs Q E hr LJ=>?_;obtain ⟨hn,c,as,ecb,amw,j,h⟩:=LJ;have hl:as.length=vs.length:=by have:=j.len;simpa using this
 have hb:F as≠.bad:=λ z=>by rw[z] at h;exact h
 obtain ⟨n,hF⟩:=hF as (by rw[hl];exact hn) hb;refine ⟨_,hbody c cdv A outer s H E ecb hr ⟨PassesOwn.leaving,rfl,S.nd,rfl,rfl⟩ n,ck N as,UR j,?_⟩;rw[<-hF] at h;cases q:B n (ck N as) with
 |nx Γ=>rw[q] at h;exact λ σ' H' _ j=>h .fE H' j.same j.free (by simp[Tl])
 |bk Γ=>rw[q] at h;exact h.elim
 |ct Γ=>rw[q] at h;exact h.elim
 |rt d=>rw[q] at h;exact λ v H' b t=>h v H' b.same b.free t
 |Mz m=>rw[q] at h;exact λ v H' S b o n k=>h v H' S b.same b.free o n k
 |rtG d Γ=>rw[q] at h;exact λ v σ' H' j t=>h v Γ σ' H' j rfl t
 |Hu d Γ=>rw[q] at h;exact h.elim
 |err x Γ=>rw[q] at h;exact λ σ' H' e s' _ j r=>KS (ecb▸r) λ C H2 hc s=>h C H2 hc λ b o z n=>s b o (j.same b o z n)
 |bad=>rw[q] at h;exact h.elim
def adH{x qual:Str}{st:Stmt}{f:Addr}{fd:FuncData}{N ps:List Str}{k:Nat}{F:List Slot->cO}{B:Nat->Sg->Out}(Ye:mH K x qual st f fd)(S:oY N ps (ay st))(hbody:∀(c:Cf) (cdv:Value) (A:Around) (outer:List Env) (s:Shared) (H:Hp) (E:XK),c.cb=cb->fD k (A.deeper (envOfC qual (ay st) s.heap.objs.size f cdv))->Good (pD (JI P w) P w K mg base N qual (ay st) f cdv A outer s H E)->∀n,zI (pD (JI P w) P w K mg base N qual (ay st) f cdv A outer s H E) c (aF st) (B n)) (hF:∀as,as.length=ps.length->F as≠.bad->∃n,mU (B n (ck N as))=F as):jx P w K mg base cb (k+1) f fd ps F:=ai5 (Ye:=Ye) (S:=S) (hbody:=(λ c cdv A outer s H E h_1 h_2 h_3 n=>(hbody c cdv A outer s H E h_1 h_2 h_3 n).out)) (hF:=hF)
end
section
variable{X:Cx}{ct:Ct}{a b e:Expr}{f g:Sg->Res D}{pos:Pos}
def lM{C':Int->Int->Prop}{C:Int->Int->Bool}{gv:Int->Int->V}{gd:Int->Int->D}(hc:∀i j,C i j=true->C' i j)(ht:∀i j K ct H,Tl K ct H (gd i j) (gv i j)):JH X ct (rI C' gv) (intD C gd):=by
 intro σ H x y d1 d2 Q lL lB t1 t2 h;cases d1 with
 |int i=>
  cases d2 with
  |int j=>
   simp only[Tl] at t1 t2;subst t1 t2;rw[aaI] at h;split at h
   ·rename_i hij;exact ⟨i,j,rfl,rfl,hc i j hij,h _ H (az.refl H) (ht i j _ _ _)⟩
   ·exact h.elim
  |_=>exact h.elim
 |_=>cases d2<;>exact h.elim
def mR{F:Value->Value->Sem Value}{gv:Int->Int->V}(h:qp X F (rI0 gv)):qp X F (rI (λ _ _=>True) gv):=λ pins s σ H x y v u Q I rx ry ⟨i,j,h1,h2,_,q⟩=>h pins s σ H x y v u Q I rx ry ⟨i,j,h1,h2,q⟩
def ZV{i j:Int}(h:CC i j=true):IntMulOk i j:=by
 simp only[CC,Bool.or_eq_true,Bool.and_eq_true,decide_eq_true_eq] at h;rcases h with (h|h)|h
 ·exact .of_left h
 ·exact .of_right h
 ·exact .of_bits h.1 h.2
def aet:qp X (binaryOp .Mult) (rI (λ i j=>CC i j=true) λ i j=> .int (i*j)):=opI λ _ _ _ _ _ _ _ hc q=>mul_int q (ZV hc)
def ZC:qp X (binaryOp .FloorDiv) (rI (λ i j=>GI i j=true) λ i j=> .int (i.fdiv j)):=opI λ _ _ _ _ _ _ _ hc q=>by simp only[GI,Bool.and_eq_true,decide_eq_true_eq] at hc;exact floordiv_int hc.1 q (.inl (PyProof.noPylong_of_log2 hc.2))
def qt(ha:WD X ct a f)(hb:WD X ct b g):WD X ct (.BinOp a .Sub b pos) (bu Ah f g):=by have ha:=ha.out;have hb:=hb.out;exact ⟨B7 (mR aic) (lM (λ _ _ _=>trivial) λ _ _ _ _ _=>by simp[Tl]) ha hb⟩
def ahr(ha:WD X ct a f)(hb:WD X ct b g):WD X ct (.BinOp a .Mult b pos) (bu ZX f g):=by have ha:=ha.out;have hb:=hb.out;exact ⟨B7 aet (lM (λ _ _ h=>h) λ _ _ _ _ _=>by simp[Tl]) ha hb⟩
def lJ(ha:WD X ct a f)(hb:WD X ct b g):WD X ct (.BinOp a .FloorDiv b pos) (bu oO f g):=by have ha:=ha.out;have hb:=hb.out;exact ⟨B7 ZC (lM (λ _ _ h=>h) λ _ _ _ _ _=>by simp[Tl]) ha hb⟩
def jJ(ha:WD X ct a f)(hb:WD X ct b g):WD X ct (.BinOp a .Mod b pos) (bu m7 f g):=by have ha:=ha.out;have hb:=hb.out;exact ⟨B7 aeu (lM (λ _ _ h=>of_decide_eq_true h) λ _ _ _ _ _=>by simp[Tl]) ha hb⟩
def Yz(ha:WD X ct a f)(hb:WD X ct b g):WD X ct (.BinOp a .Pow b pos) (bu VT f g):=by
 have ha:=ha.out;have hb:=hb.out;exact ⟨B7 aid (lM (λ _ _ h=>by
 simp only[Ut,Bool.and_eq_true,decide_eq_true_eq] at h;exact ⟨h.1.1,h.1.2,h.2⟩) λ _ _ _ _ _=>by simp[Tl]) ha hb⟩
def Yy(ha:WD X ct a f)(hb:WD X ct b g):WD X ct (.BinOp a .BitXor b pos) (bu ahd f g):=by have ha:=ha.out;have hb:=hb.out;exact ⟨B7 (mR aib) (lM (λ _ _ _=>trivial) λ _ _ _ _ _=>by simp[Tl]) ha hb⟩
def Yu(ha:WD X ct a f)(hb:WD X ct b g):TN X ct (.Compare a [.Lt] [b] pos) (dT (bu ltI f g)):=by have ha:=ha.out;have hb:=hb.out;exact ⟨tT (mR Kc) (lM (λ _ _ _=>trivial) λ _ _ _ _ _=>by simp[Tl]) ha hb (zd _)⟩
def ahp(ha:WD X ct a f)(hb:WD X ct b g):TN X ct (.Compare a [.Gt] [b] pos) (dT (bu gtI f g)):=by have ha:=ha.out;have hb:=hb.out;exact ⟨tT (mR alJ) (lM (λ _ _ _=>trivial) λ _ _ _ _ _=>by simp[Tl]) ha hb (zd _)⟩
def BJ(ha:WD X ct a f):WD X ct (.UnaryOp .USub a pos) (dUn Ie f):=by
 have ha:=ha.out;refine ⟨?_⟩;refine PE.imp (alC ahv ha) λ σ H Q ⟨Γ,j,h⟩=>?_;refine rL.bnd j h λ d v H' s t j' h'=>?_;cases d with
 |int i=>simp only[Tl] at t;exact ⟨i,t,h' _ H' s (by simp[Tl])⟩
 |_=>exact h'.elim
def aby{r2:List V->Hp->VK->Prop}{r:List D->Res D}{fa:Sg->Res (List D)}(k:∀(σ:St) (H:Hp) (vs:List V) (ds:List D) (Q:VK),az ct.f.L H->az ct.B H->aJ X.K ct H ds vs->Ok X ct σ H (r ds) (Wd X ct H Q)->r2 vs H Q):
  ∀σ H Q,rL X ct (E9 r fa) σ H Q->tCB r2 (OX X ct fa) σ H Q:=by
 rintro σ H Q ⟨Γ,j,h⟩
 exact OX.bnd j h λ ds vs H' s t j' h'=>k σ H' vs ds Q j'.lL j'.lB t (Ok.mono s h' λ d q=>q.mono s)
def DY{K:W.Frag}{H:Hp}{d:D}{vs:List V}(h:aJ K ct H [d] vs):∃v,vs=[v]/\Tl K ct H d v:=by simp only[aJ] at h;obtain ⟨v,r,rfl,t,rfl⟩:=h;exact ⟨v,rfl,t⟩
def apj{K:W.Frag}{H:Hp}{d d':D}{vs:List V}(h:aJ K ct H [d,d'] vs):∃v v',vs=[v,v']/\Tl K ct H d v/\Tl K ct H d' v':=by simp only[aJ] at h;obtain ⟨v,r,rfl,t,v',r',rfl,t',rfl⟩:=h;exact ⟨v,v',rfl,t,t'⟩
def rP{p:Pos}{fa:Sg->Res (List D)}{es:List Expr}(hm:X.mg "len"=none)(ha:GW X ct (e::es) fa)(hg:Gl X "len":=by rfl)(he:starEach (e::es) X.env=(false,eval e X.env)::starEach es X.env:=by rfl)(hpl:(backTo pos (starEach es X.env)).any (·.1)=false:=by rfl):WD X ct (.Call (.Name "len" p) (e::es) [] pos) (E9 oB fa):=by
 have ha:=ha.out;refine ⟨?_⟩;refine PE.imp (pU abA hg hm PySem.boot_len ha (by decide) (by decide) he hpl) (aby λ σ H vs ds Q lL lB t h=>?_);unfold oB at h;split at h
 ·rename_i es;obtain ⟨v,rfl,tv⟩:=DY t;simp only[Tl] at tv;obtain ⟨a,us,rfl,h1,h2⟩:=tv;refine ⟨_,us.length,rfl,?_,h _ H (az.refl H) (by rw[h2.length];simp[Tl])⟩;exact .inl ⟨us,h1.sq,rfl⟩
 ·rename_i es;obtain ⟨v,rfl,tv⟩:=DY t;simp only[Tl] at tv;obtain ⟨a,us,rfl,h1,h2⟩:=tv;refine ⟨_,us.length,rfl,?_,h _ H (az.refl H) (by rw[h2.length];simp[Tl])⟩;exact .inr ⟨us,pK h1,rfl⟩
 ·rename_i es;obtain ⟨v,rfl,tv⟩:=DY t;simp only[Tl] at tv;obtain ⟨a,us,rfl,h1,h2⟩:=tv;refine ⟨_,us.length,rfl,?_,h _ H (az.refl H) (by rw[h2.length];simp[Tl])⟩;exact .inr ⟨us,h1.sq,rfl⟩
 ·rename_i tm es;obtain ⟨v,rfl,tv⟩:=DY t;obtain ⟨a,us,rfl,h1,h2⟩:=tv.oz lL lB rfl;refine ⟨_,us.length,rfl,?_,h _ H (az.refl H) (by rw[h2.length];simp[Tl])⟩;exact .inl ⟨us,h1,rfl⟩
 ·rename_i x;split at h
  ·rename_i hx;obtain ⟨v,rfl,tv⟩:=DY t;simp only[Tl] at tv;subst tv;exact ⟨_,x.length,rfl,⟨hx,rfl⟩,h _ H (az.refl H) (by simp[Tl])⟩
  ·exact h.elim
 ·exact h.elim
end
def i6:∀(ds:List D),(∀d∈ds,(py d).canLay0=true)->PyData.canLayAll0 (F3 ds)=true
 |[],_=>by simp[F3,PyData.canLayAll0]
 |d::ds,h=>by simp only[F3,PyData.canLayAll0,Bool.and_eq_true];exact ⟨h d (.head _),i6 ds λ x hx=>h x (.tail _ hx)⟩
def kg{n:Nat}:∀(ds:List D),(∀d∈ds,(py d).depth<=n)->PyData.depthAll (F3 ds)<=n
 |[],_=>by simp[F3,PyData.depthAll]
 |d::ds,h=>by simp only[F3,PyData.depthAll];exact Nat.max_le.mpr ⟨h d (.head _),kg ds λ x hx=>h x (.tail _ hx)⟩
def m5:∀(n:Nat) (d:D),jz n d=true->(py d).canLay0=true/\(py d).depth<=n
 |n,.fE,_=>by simp[py,PyData.canLay0,PyData.depth]
 |n,.bl b,_=>by simp[py,PyData.canLay0,PyData.depth]
 |n,.int b,_=>by simp[py,PyData.canLay0,PyData.depth]
 |n,.str b,h=>by cases n<;>simp_all[py,PyData.canLay0,PyData.depth,jz]
 |0,.tup ds,h=>by simp[jz] at h
 |0,.gt ds,h=>by simp[jz] at h
 |0,.lst ds,h=>by simp[jz] at h
 |0,.bor _ ds,h=>by simp[jz] at h
 |n+1,.bor _ ds,h=>by simp only[jz,List.all_eq_true] at h;simp only[py,PyData.canLay0,PyData.depth];exact ⟨i6 ds λ d hd=>(m5 n d (h d hd)).1,Nat.succ_le_succ (kg ds λ d hd=>(m5 n d (h d hd)).2)⟩
 |n+1,.tup ds,h=>by simp only[jz,List.all_eq_true] at h;simp only[py,PyData.canLay0,PyData.depth];exact ⟨i6 ds λ d hd=>(m5 n d (h d hd)).1,Nat.succ_le_succ (kg ds λ d hd=>(m5 n d (h d hd)).2)⟩
 |n+1,.gt ds,h=>by simp only[jz,List.all_eq_true] at h;simp only[py,PyData.canLay0,PyData.depth];exact ⟨i6 ds λ d hd=>(m5 n d (h d hd)).1,Nat.succ_le_succ (kg ds λ d hd=>(m5 n d (h d hd)).2)⟩
 |n+1,.lst ds,h=>by simp only[jz,List.all_eq_true] at h;simp only[py,PyData.canLay0,PyData.depth];exact ⟨i6 ds λ d hd=>(m5 n d (h d hd)).1,Nat.succ_le_succ (kg ds λ d hd=>(m5 n d (h d hd)).2)⟩
 |0,.obj _ _ _,h=>by simp[jz] at h
 |0,.exc _,h=>by simp[jz] at h
 |n+1,.obj _ _ _,h=>by simp[jz] at h
 |n+1,.exc _,h=>by simp[jz] at h
 |0,.uA _ _,h=>by simp[jz] at h
 |0,.yw _ _ _,h=>by simp[jz] at h
 |n+1,.uA _ _,h=>by simp[jz] at h
 |n+1,.yw _ _ _,h=>by simp[jz] at h
 |0,.yu _ _ _ _,h=>by simp[jz] at h
 |n+1,.yu _ _ _ _,h=>by simp[jz] at h
def qB{d:D}(h:jz 12 d=true):SeqAt.shaped (py d)=true:=by obtain ⟨h1,h2⟩:=m5 12 d h;unfold SeqAt.shaped;rw[h1,Bool.true_and];exact decide_eq_true (Nat.le_trans h2 (by decide))
section
variable{X:Cx}{ct:Ct}{pins:List (Addr×Obj)}{σ:St}{H:Hp}{s:Shared}
def mC{f:D->Prop}(hf:∀d v u,f d->Tl X.K ct H d v->RelV v u->∃as,Reads s.heap u (py d) as):∀(ds:List D) (vs:List V) (us:List Value),(∀d∈ds,f d)->aJ X.K ct H ds vs->Vals vs us->∃as,ReadsAll s.heap us (F3 ds) as
 |[],vs,us,_,h,r=>by simp only[aJ] at h;subst h;cases r;exact ⟨[],.nil⟩
 |d::ds,vs,us,hd,h,r=>by
  simp only[aJ] at h;obtain ⟨v,w,rfl,t1,t2⟩:=h;cases r with
  |cons r1 r2=>obtain ⟨as,h1⟩:=hf d v _ (hd d (.head _)) t1 r1;obtain ⟨bs,h2⟩:=mC hf ds w _ (λ x hx=>hd x (.tail _ hx)) t2 r2;exact ⟨as++bs,.cons h1 h2⟩
def mz(I:Inv X pins σ H s)(lL:az ct.f.L H)(lB:az ct.B H):∀(n:Nat) (d:D) (v:V) (u:Value),jz n d=true->Tl X.K ct H d v->RelV v u->∃as,Reads s.heap u (py d) as
 |n,.fE,v,u,_,t,r=>by simp only[Tl] at t;subst t;cases r;exact ⟨[],.none⟩
 |n,.bl b,v,u,_,t,r=>by simp only[Tl] at t;subst t;cases r;exact ⟨[],.bool b⟩
 |n,.int i,v,u,_,t,r=>by simp only[Tl] at t;subst t;obtain ⟨k,rfl⟩:=r;exact ⟨[],.int i k⟩
 |n,.str x,v,u,_,t,r=>by simp only[Tl] at t;subst t;obtain ⟨k,rfl⟩:=r;exact ⟨[],.str x k⟩
 |0,.tup ds,v,u,h,_,_=>by simp[jz] at h
 |0,.gt ds,v,u,h,_,_=>by simp[jz] at h
 |0,.lst ds,v,u,h,_,_=>by simp[jz] at h
 |0,.bor _ ds,v,u,h,_,_=>by simp[jz] at h
 |n+1,.bor tm ds,v,u,h,t,r=>by obtain ⟨a,vs,rfl,t1,t2⟩:=t.oz lL lB rfl;cases r;simp only[jz,List.all_eq_true] at h;obtain ⟨its,rv,⟨o,m,h1,h2,_,h3⟩,_⟩:=I.list t1;obtain ⟨as,q⟩:=mC (f:=λ d=>jz n d=true) (λ d v u h t r=>mz I lL lB n d v u h t r) ds vs its h t2 rv;exact ⟨a::as,reads_list_at h1 h2 h3 (by simpa using q)⟩
 |n+1,.tup ds,v,u,h,t,r=>by simp only[Tl] at t;obtain ⟨a,vs,rfl,t1,t2⟩:=t;cases r;simp only[jz,List.all_eq_true] at h;obtain ⟨its,rv,⟨o,h1,h2,m,h3⟩,_⟩:=I.tuple (pK t1);obtain ⟨as,q⟩:=mC (f:=λ d=>jz n d=true) (λ d v u h t r=>mz I lL lB n d v u h t r) ds vs its h t2 rv;exact ⟨as,reads_tuple_at h1 h2 h3 (by simpa using q)⟩
 |n+1,.gt ds,v,u,h,t,r=>by simp only[Tl] at t;obtain ⟨a,vs,rfl,t1,t2⟩:=t;cases r;simp only[jz,List.all_eq_true] at h;obtain ⟨its,rv,⟨o,h1,h2,m,h3⟩,_⟩:=I.tuple t1.sq;obtain ⟨as,q⟩:=mC (f:=λ d=>jz n d=true) (λ d v u h t r=>mz I lL lB n d v u h t r) ds vs its h t2 rv;exact ⟨as,reads_tuple_at h1 h2 h3 (by simpa using q)⟩
 |n+1,.lst ds,v,u,h,t,r=>by simp only[Tl] at t;obtain ⟨a,vs,rfl,t1,t2⟩:=t;cases r;simp only[jz,List.all_eq_true] at h;obtain ⟨its,rv,⟨o,m,h1,h2,_,h3⟩,_⟩:=I.list t1.sq;obtain ⟨as,q⟩:=mC (f:=λ d=>jz n d=true) (λ d v u h t r=>mz I lL lB n d v u h t r) ds vs its h t2 rv;exact ⟨a::as,reads_list_at h1 h2 h3 (by simpa using q)⟩
 |0,.obj _ _ _,v,u,h,_,_=>by simp[jz] at h
 |0,.exc _,v,u,h,_,_=>by simp[jz] at h
 |n+1,.obj _ _ _,v,u,h,_,_=>by simp[jz] at h
 |n+1,.exc _,v,u,h,_,_=>by simp[jz] at h
 |0,.uA _ _,v,u,h,_,_=>by simp[jz] at h
 |0,.yw _ _ _,v,u,h,_,_=>by simp[jz] at h
 |n+1,.uA _ _,v,u,h,_,_=>by simp[jz] at h
 |n+1,.yw _ _ _,v,u,h,_,_=>by simp[jz] at h
 |0,.yu _ _ _ _,v,u,h,_,_=>by simp[jz] at h
 |n+1,.yu _ _ _ _,v,u,h,_,_=>by simp[jz] at h
end
section
variable{X:Cx}{ct:Ct}{a b e:Expr}{f g:Sg->Res D}{pos:Pos}
def ad8(K:W.Frag)(ct:Ct)(neg:Bool):R2:=λ x y H Q=>az ct.f.L H/\az ct.B H/\∃d1 d2,Tl K ct H d1 x/\Tl K ct H d2 y/\jz 12 d1=true/\jz 12 d2=true/\Q (.bl (if neg then !deq d1 d2 else deq d1 d2)) H
def ZD(hu:X.A.units+64<cLine):qp X (compareOp .Eq) (ad8 X.K ct false):=by intro pins s σ H x y v u Q I rx ry ⟨lL,lB,d1,d2,t1,t2,o1,o2,q⟩;obtain ⟨as,r1⟩:=mz I lL lB 12 d1 x v o1 t1 rx;obtain ⟨bs,r2⟩:=mz I lL lB 12 d2 y u o2 t2 ry;exact eq_dataH r1 r2 (qB o1) (qB o2) hu ⟨.bl _,H,I,rfl,q⟩
def aif(hu:X.A.units+64<cLine):qp X (compareOp .NotEq) (ad8 X.K ct true):=by intro pins s σ H x y v u Q I rx ry ⟨lL,lB,d1,d2,t1,t2,o1,o2,q⟩;obtain ⟨as,r1⟩:=mz I lL lB 12 d1 x v o1 t1 rx;obtain ⟨bs,r2⟩:=mz I lL lB 12 d2 y u o2 t2 ry;exact ne_dataH r1 r2 (qB o1) (qB o2) hu ⟨.bl _,H,I,rfl,q⟩
def ZE:JH X ct (ad8 X.K ct false) LK:=by
 intro σ H x y d1 d2 Q lL lB t1 t2 h;unfold LK at h;split at h
 ·rename_i ho;exact ⟨lL,lB,d1,d2,t1,t2,ho.1,ho.2,h _ H (az.refl H) (by simp[Tl])⟩
 ·exact h.elim
def aik:JH X ct (ad8 X.K ct true) ZR:=by
 intro σ H x y d1 d2 Q lL lB t1 t2 h;unfold ZR at h;split at h
 ·rename_i ho;exact ⟨lL,lB,d1,d2,t1,t2,ho.1,ho.2,h _ H (az.refl H) (by simp[Tl])⟩
 ·exact h.elim
def akS(hu:X.A.units+64<cLine)(ha:WD X ct a f)(hb:WD X ct b g):WD X ct (.Compare a [.Eq] [b] pos) (bu LK f g):=by have ha:=ha.out;have hb:=hb.out;exact ⟨aia (ZD hu) ZE ha hb (zd _)⟩
def uW(hu:X.A.units+64<cLine)(ha:WD X ct a f)(hb:WD X ct b g):TN X ct (.Compare a [.Eq] [b] pos) (dT (bu LK f g)):=by have ha:=ha.out;have hb:=hb.out;exact ⟨tT (ZD hu) ZE ha hb (zd _)⟩
def G3(hu:X.A.units+64<cLine)(ha:WD X ct a f)(hb:WD X ct b g):TN X ct (.Compare a [.NotEq] [b] pos) (dT (bu ZR f g)):=by have ha:=ha.out;have hb:=hb.out;exact ⟨tT (aif hu) aik ha hb (zd _)⟩
def BD{K:W.Frag}{H:Hp}{ds:List D}{vs:List V}{i:Int}{d:D}(t:aJ K ct H ds vs)(h:rM ds i=some d):∃v,rM vs i=some v/\Tl K ct H d v:=by
 unfold rM at h ⊢;rw[<-t.length];cases q:qJ ds.length i with
 |none=>rw[q] at h;cases h
 |some k=>rw[q] at h;exact t.get h
def ail:JH X ct (rIx X.K) dO:=by
 intro σ H x y d1 d2 Q lL lB t1 t2 h;unfold dO at h;split at h
 ·rename_i ds i;split at h
  ·rename_i d hd;simp only[Tl] at t1 t2;obtain ⟨a,vs,rfl,h1,h2⟩:=t1;subst t2;obtain ⟨v,hv,tv⟩:=BD h2 hd;exact .inl ⟨a,vs,i,v,rfl,rfl,h1.sq,hv,h v H (az.refl H) tv⟩
  ·exact h.elim
 ·rename_i tm ds i;split at h
  ·rename_i d hd;obtain ⟨a,vs,rfl,h1,h2⟩:=t1.oz lL lB rfl;simp only[Tl] at t2;subst t2;obtain ⟨v,hv,tv⟩:=BD h2 hd;exact .inl ⟨a,vs,i,v,rfl,rfl,h1,hv,h v H (az.refl H) tv⟩
  ·exact h.elim
 ·rename_i ds i;split at h
  ·rename_i d hd;simp only[Tl] at t1 t2;obtain ⟨a,vs,rfl,h1,h2⟩:=t1;subst t2;obtain ⟨v,hv,tv⟩:=BD h2 hd;exact .inr (.inl ⟨a,vs,i,v,rfl,rfl,pK h1,hv,h v H (az.refl H) tv⟩)
  ·exact h.elim
 ·rename_i ds i;split at h
  ·rename_i d hd;simp only[Tl] at t1 t2;obtain ⟨a,vs,rfl,h1,h2⟩:=t1;subst t2;obtain ⟨v,hv,tv⟩:=BD h2 hd;exact .inr (.inl ⟨a,vs,i,v,rfl,rfl,h1.sq,hv,h v H (az.refl H) tv⟩)
  ·exact h.elim
 ·rename_i z i;split at h
  ·rename_i hz;split at h
   ·rename_i c hc;simp only[Tl] at t1 t2;subst t1 t2;exact .inr (.inr ⟨z,i,c,rfl,rfl,hz,hc,h _ H (az.refl H) (by simp[Tl])⟩)
   ·exact h.elim
  ·exact h.elim
 ·exact h.elim
def bF(ha:WD X ct a f)(hb:WD X ct b g)(hs:JC b:=by exact λ _ _=>rfl):WD X ct (.Subscript a b pos) (bu dO f g):=by have ha:=ha.out;have hb:=hb.out;exact ⟨PE.imp (agf aaA ha hb hs) (HL ail)⟩
def o7(ha:WD X ct a f)(hb:WD X ct b g):WD X ct (.BinOp a .Add b pos) (bu wj f g):=by
 have ha:=ha.out;have hb:=hb.out;refine ⟨?_⟩;refine B7 (qp.or aih MN) (λ σ H x y d1 d2 Q lL lB t1 t2 h=>?_) ha hb;unfold wj at h;split at h
 ·simp only[Tl] at t1 t2;subst t1 t2;exact .inl ⟨_,_,rfl,rfl,h _ H (az.refl H) (by simp[Tl])⟩
 ·split at h
  ·rename_i hl;simp only[Tl] at t1 t2;subst t1 t2;exact .inr ⟨_,_,rfl,rfl,hl,h _ H (az.refl H) (by simp[Tl])⟩
  ·exact h.elim
 ·exact h.elim
def alv(K:W.Frag):R2:=λ x y H Q=>∃l b xs zs,x= .ref l/\y= .ref b/\rJ K H l xs/\rJ K H b zs/\xs.length+zs.length<=sizeLine/\∀p,H p=none->Q (.ref p) (upd H p (.lst (xs++zs)))
def aev:qp X (binaryOp .Add) (alv X.K):=by
 intro pins s σ H x y v u Q I rx ry h;obtain ⟨l,b,xs,zs,rfl,rfl,hH,hB,hz,q⟩:=h;cases rx;cases ry;obtain ⟨its,r,⟨⟨oc,od,odt,osl⟩,n,e,hc,_,hd⟩,_⟩:=I.list hH;obtain ⟨its2,r2,⟨⟨oc2,od2,asV,apL⟩,n2,e2,hc2,_,hd2⟩,_⟩:=I.list hB;simp only at hc hd hc2 hd2;subst hc hd hc2 hd2;have hl:=r.length;have hl2:=r2.length;have ea:its.toArray++its2.toArray=(its++its2).toArray:=by simp
 refine concat_meets ⟨_,e,rfl⟩ ⟨_,e2,rfl⟩ noFill_list_add seq_list_add PySem.F.slot_list_add PySem.F.entry_list_add
  (PySem.F.args_list_add_2 _ _) (list_addW l b its.toArray its2.toArray n n2 od od2 osl apL (by simp only[List.size_toArray];omega)) ⟨e,e2,?_⟩
 rw[ea];exact ⟨.ref _,_,I.ap0 (t':=s.toks) (r.append r2) (by rw[List.length_append];omega),rfl,q _ I.fresh⟩
def Ys(ha:WD X ct a f)(hb:WD X ct b g):WL X ct (.BinOp a .Add b pos) (lOp Jg f g):=by
 have ha:=ha.out;have hb:=hb.out;refine ⟨?_⟩;refine PE.imp (age aev ha hb) ?_
 rintro σ H Q ⟨Γ,j,h⟩
 refine rL.bnd j h λ d1 v H1 s1 t1 j1 h1=>?_;refine rL.bnd (W:=Wl X ct H Q) j1 (Ok.mono s1 h1 λ _ z=>z) λ d2 u H2 s2 t2 j2 h2=>?_;have t1:=t1.keep (az.keep s2);unfold Jg at h2;split at h2
 ·rename_i e1 e2;split at h2
  ·rename_i hl;obtain ⟨a,vs,rfl,q1,q2⟩:=t1.oz j2.lL j2.lB e1;obtain ⟨b,us,rfl,q3,q4⟩:=t2.oz j2.lL j2.lB e2;refine ⟨a,b,vs,us,rfl,rfl,q1,q3,by rw[<-q2.length, <-q4.length];exact hl,λ p hp=>?_⟩;have s3:=bh hp (.lst (vs++us));exact h2 p _ _ ((s1.trans s2).trans s3) ((s1.trans s2).free hp) aG ((q2.append q4).keep (az.keep s3))
  ·exact h2.elim
 ·exact h2.elim
def oOf(X:Cx)(ct:Ct)(f:Sg->Res (Option Int)):TO:=λ σ H Q=>∃Γ,Jx X ct Γ σ H/\Ok X ct σ H (f Γ) λ i=>∀H',az H H'->Q i H'
abbrev PDO(X:Cx)(ct:Ct)(e:Option Expr)(f:Sg->Res (Option Int)):Prop:=PO X e (oOf X ct f)
structure WO(X:Cx)(e:Option Expr)(t:TO):Prop where
 out:PO X e t
abbrev WDO(X:Cx)(ct:Ct)(e:Option Expr)(f:Sg->Res (Option Int)):Prop:=WO X e (oOf X ct f)
def PO.imp{e:Option Expr}{t u:TO}(h:PO X e t)(k:∀σ H Q,u σ H Q->t σ H Q):PO X e u:=λ pins s σ H Q I q=>h pins s σ H Q I (k σ H Q q)
def Yx:WDO X ct none abm:=by exact ⟨PO.imp aef λ σ H Q ⟨Γ,j,h⟩=>h H (az.refl H)⟩
def BI(he:WD X ct e f):WDO X ct (some e) (dP f):=by
 have he:=he.out;refine ⟨?_⟩;refine PO.imp (aee he) λ σ H Q ⟨Γ,j,h⟩=>?_;refine rL.bnd j h λ d v H' s t j' h'=>?_;cases d with
 |int i=>simp only[Tl] at t;exact ⟨i,t,h' H' s⟩
 |_=>exact h'.elim
def abq{K:W.Frag}{H:Hp}{ds:List D}{vs:List V}(t:aJ K ct H ds vs)(lo hi:Option Int):aJ K ct H (Ln ds lo hi) (Oi vs lo hi):=by unfold Ln Oi;rw[t.length];exact (t.drop _).take _
def Yr{lo hi:Option Expr}{l u:Sg->Res (Option Int)}{p2:Pos}(he:WD X ct e f)(hl:WDO X ct lo l)(hu:WDO X ct hi u):WL X ct (.Subscript e (.Slice lo hi none p2) pos) (K1 f l u):=by
 have he:=he.out;have hl:=hl.out;have hu:=hu.out;refine ⟨?_⟩;refine PE.imp (Zr adU he hl hu) λ σ H Q ⟨Γ,j,h⟩=>?_;refine rL.bnd j h λ d v H1 s1 t1 j1 h1=>?_;refine ⟨Γ,j1,(Ok.mono s1 h1 λ _ z=>z).bnd (W:=Wl X ct H Q) λ lo _ h2 H2 s2=>?_⟩;refine ⟨Γ,j1.mono s2,(Ok.mono s2 h2 λ _ z=>z).bnd (W:=Wl X ct H Q) λ hi _ h3 H3 s3=>?_⟩;have t3:=t1.keep (az.keep (s2.trans s3));cases q:asL d with
 |some xs=>rw[q] at h3;have j3:=j1.mono (s2.trans s3);obtain ⟨a,vs,rfl,fz,tl⟩:=t3.oz j3.lL j3.lB q;refine ⟨a,vs,rfl,fz,λ p hp=>?_⟩;have s4:=bh hp (.lst (Oi vs lo hi));exact h3 p _ _ (((s1.trans s2).trans s3).trans s4) (((s1.trans s2).trans s3).free hp) aG ((abq tl lo hi).keep (az.keep s4))
 |none=>rw[q] at h3;exact h3.elim
end
section
variable{K:W.Frag}{ct:Ct}{H H':Hp}
def Walk(H:Hp):M->V->List Nat->V->Prop
 |_,v,[],v'=>v'=v
 | .n ms,v,k::ks,v'=>∃a vs v1 m1,v= .ref a/\H a=some (.lst vs)/\vs[k]? =some v1/\ms[k]? =some m1/\Walk H m1 v1 ks v'
 | .t ms,v,k::ks,v'=>∃a vs v1 m1,v= .ref a/\H a=some (.tup vs)/\vs[k]? =some v1/\ms[k]? =some m1/\Walk H m1 v1 ks v'
 |_,_,_::_,_=>False
def Walk.same(e:az H H'):∀{ks:List Nat} {m:M} {v v':V},Walk H m v ks v'->Walk H' m v ks v'
 |[],m,v,v',h=>by cases m<;>simpa only[Walk] using h
 |k::ks,.n ms,v,v',h=>by simp only[Walk] at h ⊢;obtain ⟨a,vs,v1,m1,h1,h2,h3,h4,h5⟩:=h;exact ⟨a,vs,v1,m1,h1,e _ _ h2,h3,h4,Walk.same e h5⟩
 |k::ks,.t ms,v,v',h=>by simp only[Walk] at h ⊢;obtain ⟨a,vs,v1,m1,h1,h2,h3,h4,h5⟩:=h;exact ⟨a,vs,v1,m1,h1,e _ _ h2,h3,h4,Walk.same e h5⟩
 |k::ks,.d x,v,v',h=>by simp only[Walk] at h
 |k::ks,.l x,v,v',h=>by simp only[Walk] at h
 |k::ks,.k x y,v,v',h=>by simp only[Walk] at h
 |k::ks,.o x y z,v,v',h=>by simp only[Walk] at h
def Walk.snoc{k:Nat}{v1:V}:∀{ks:List Nat} {m m':M} {v v':V},Walk H m v ks v'->tE m ks=some m'->Walk H m' v' [k] v1->Walk H m v (ks++[k]) v1
 |[],m,m',v,v',h,e,w=>by simp only[Walk] at h;simp only[tE,Option.some.injEq] at e;subst h e;exact w
 |j::ks,.n ms,m',v,v',h,e,w=>by simp only[Walk] at h;obtain ⟨a,vs,v2,m2,h1,h2,h3,h4,h5⟩:=h;simp only[tE,h4,Option.bind_some] at e;show Walk H (.n ms) v (j::(ks++[k])) v1;simp only[Walk];exact ⟨a,vs,v2,m2,h1,h2,h3,h4,Walk.snoc h5 e w⟩
 |j::ks,.t ms,m',v,v',h,e,w=>by simp only[Walk] at h;obtain ⟨a,vs,v2,m2,h1,h2,h3,h4,h5⟩:=h;simp only[tE,h4,Option.bind_some] at e;show Walk H (.t ms) v (j::(ks++[k])) v1;simp only[Walk];exact ⟨a,vs,v2,m2,h1,h2,h3,h4,Walk.snoc h5 e w⟩
 |j::ks,.d x,m',v,v',h,e,w=>by simp only[Walk] at h
 |j::ks,.l x,m',v,v',h,e,w=>by simp only[Walk] at h
 |j::ks,.k x y,m',v,v',h,e,w=>by simp only[Walk] at h
 |j::ks,.o x y z,m',v,v',h,e,w=>by simp only[Walk] at h
def ez.length:∀{ms:List M} {vs:List V} {S:Fp},ez K ct H ms vs S->ms.length=vs.length
 |[],vs,S,h=>by simp only[ez] at h;subst h;rfl
 |m::ms,vs,S,h=>by simp only[ez] at h;obtain ⟨v,r,S1,S2,rfl,_,_,_,_,h6⟩:=h;simp[ez.length h6]
def ez.Xq:∀{ms:List M} {vs:List V} {S:Fp} {k:Nat} {m1:M},ez K ct H ms vs S->ms[k]? =some m1->∃v1 S1,vs[k]? =some v1/\Ow K ct H m1 v1 S1/\(∀b,S1 b->S b)/\∀H' jm LH,aZ ct.f.cb H H'->(∀b o,S b->¬S1 b->H b=some o->H' b=some o)->Ow K ct H' jm v1 LH->(∀b,LH b->S b->S1 b)->ez K ct H' (ms.set k jm) vs (λ b=>(S b/\¬S1 b)\/LH b)
 |[],vs,S,k,m1,h,e=>by simp at e
 |m::ms,vs,S,0,m1,h,e=>by simp only[ez] at h;obtain ⟨v,r,S1,S2,rfl,h2,h3,h4,h5,h6⟩:=h;simp only[List.getElem?_cons_zero,Option.some.injEq] at e;subst e;refine ⟨v,S1,rfl,h5,h2,λ H' jm LH kp un o fr=>?_⟩;simp only[List.set_cons_zero,ez];refine ⟨v,r,LH,S2,rfl,λ b z=> .inr z,λ b z=> .inl ⟨h3 b z,λ w=>h4 b w z⟩,λ b z w=>h4 b (fr b z (h3 b w)) w,o,h6.frame kp λ b o z=>un b o (h3 b z) λ w=>h4 b w z⟩
 |m::ms,vs,S,k+1,m1,h,e=>by
  simp only[ez] at h;obtain ⟨v,r,S1,S2,rfl,h2,h3,h4,h5,h6⟩:=h;simp only[List.getElem?_cons_succ] at e;obtain ⟨v1,T1,g1,g2,g3,g4⟩:=ez.Xq h6 e;refine ⟨v1,T1,by simpa using g1,g2,λ b z=>h3 b (g3 b z),λ H' jm LH kp un o fr=>?_⟩;have q:=g4 H' jm LH kp (λ b o z w=>un b o (h3 b z) w) o λ b z w=>fr b z (h3 b w);simp only[List.set_cons_succ,ez];refine ⟨v,r,S1,λ b=>(S2 b/\¬T1 b)\/LH b,rfl,λ b z=> .inl ⟨h2 b z,λ w=>h4 b z (g3 b w)⟩,λ b z=>?_,λ b z w=>?_,h5.frame kp λ b o z=>un b o (h2 b z) λ w=>h4 b z (g3 b w),q⟩
  ·rcases z with z|z
   ·exact .inl ⟨h3 b z.1,z.2⟩
   ·exact .inr z
  ·rcases w with w|w
   ·exact h4 b z w.1
   ·exact h4 b z (g3 b (fr b w (h2 b z)))
def Ow.Xq:∀{ks:List Nat} {m m':M} {v v':V} {S:Fp},Ow K ct H m v S->Walk H m v ks v'->tE m ks=some m'->∃S',Ow K ct H m' v' S'/\(∀b,S' b->S b)/\∀H' jm LH,aZ ct.f.cb H H'->(∀b o,S b->¬S' b->H b=some o->H' b=some o)->Ow K ct H' jm v' LH->(∀b,LH b->S b->S' b)->Ow K ct H' (qw m ks jm) v (λ b=>(S b/\¬S' b)\/LH b)
 |[],m,m',v,v',S,o,w,e=>by
  simp only[Walk] at w;simp only[tE,Option.some.injEq] at e;subst w e;refine ⟨S,o,λ _ z=>z,λ H' jm LH kp un o' fr=>?_⟩;have:qw m [] jm=jm:=by cases m<;>rfl
  rw[this];exact o'.wide λ b z=> .inr z
 |k::ks,.n ms,m',v,v',S,o,w,e=>by
  simp only[Walk] at w;obtain ⟨a,vs,v1,m1,rfl,w2,w3,w4,w5⟩:=w;simp only[tE,w4,Option.bind_some] at e;simp only[Ow] at o;obtain ⟨a',us,e1,o2,o3,o4⟩:=o;cases e1;rw[w2] at o3;cases o3;obtain ⟨u1,T1,g1,g2,g3,g4⟩:=ez.Xq o4 w4;rw[w3] at g1;cases g1;obtain ⟨S',q1,q2,q3⟩:=Ow.Xq g2 w5 e;refine ⟨S',q1,λ b z=>(g3 b (q2 b z)).1,λ H' jm LH kp un o' fr=>?_⟩;have na:¬S' a:=λ z=>(g3 a (q2 a z)).2 rfl;have r1:=q3 H' jm LH kp (λ b o z=>un b o (g3 b z).1) o' λ b z z'=>fr b z (g3 b z').1;have r2:=g4 H' (qw m1 ks jm) _ kp (λ b o z z'=>un b o z.1 λ y=>z' (q2 b y)) r1 λ b z z'=>by
   rcases z with z|z
   ·exact z.1
   ·exact q2 b (fr b z z'.1)
  simp only[qw,w4,Ow];refine ⟨a,vs,rfl,.inl ⟨o2,na⟩,un a _ o2 na w2,r2.wide λ b z=>?_⟩;rcases z with z|z|z
  ·exact ⟨.inl ⟨z.1.1,λ y=>z.2 (q2 b y)⟩,z.1.2⟩
  ·exact ⟨.inl ⟨(g3 b z.1).1,z.2⟩,(g3 b z.1).2⟩
  ·refine ⟨.inr z,?_⟩
   rintro rfl
   exact na (fr b z o2)
 |k::ks,.t ms,m',v,v',S,o,w,e=>by
  simp only[Walk] at w;obtain ⟨a,vs,v1,m1,rfl,w2,w3,w4,w5⟩:=w;simp only[tE,w4,Option.bind_some] at e;simp only[Ow] at o;obtain ⟨a',us,e1,o3,o4⟩:=o;cases e1;rw[w2] at o3;cases o3;obtain ⟨u1,T1,g1,g2,g3,g4⟩:=ez.Xq o4 w4;rw[w3] at g1;cases g1;obtain ⟨S',q1,q2,q3⟩:=Ow.Xq g2 w5 e;refine ⟨S',q1,λ b z=>g3 b (q2 b z),λ H' jm LH kp un o' fr=>?_⟩;have r1:=q3 H' jm LH kp (λ b o z=>un b o (g3 b z)) o' λ b z z'=>fr b z (g3 b z');have r2:=g4 H' (qw m1 ks jm) _ kp (λ b o z z'=>un b o z λ y=>z' (q2 b y)) r1 λ b z z'=>by
   rcases z with z|z
   ·exact z.1
   ·exact q2 b (fr b z z')
  simp only[qw,w4,Ow];refine ⟨a,vs,rfl,kp _ _ w2 trivial,r2.wide λ b z=>?_⟩;rcases z with z|z|z
  ·exact .inl ⟨z.1,λ y=>z.2 (q2 b y)⟩
  ·exact .inl ⟨g3 b z.1,z.2⟩
  ·exact .inr z
 |k::ks,.d x,m',v,v',S,o,w,e=>by simp only[Walk] at w
 |k::ks,.l x,m',v,v',S,o,w,e=>by simp only[Walk] at w
 |k::ks,.k x y,m',v,v',S,o,w,e=>by simp only[Walk] at w
 |k::ks,.o x y z,m',v,v',S,o,w,e=>by simp only[Walk] at w
def J.up{c:Cf}{H₀:Hp}{Γ:Sg}{σ:St}{i:Nat}{s:Slot}{m m' jm:M}{v0:V}{a:Addr}{ks:List Nat}{o':HO}(j:J K c.z H₀ Γ σ H)(hi:Γ[i]? =some s)(hm:slM s=some m)(hσ:σ[i]? =some (some v0))(w:Walk H m v0 ks (.ref a))(e:tE m ks=some m') (kp:aZ c.cb H (upd H a o')) (new:∀S',Ow K c.z H m' (.ref a) S'->S' a/\Ow K c.z (upd H a o') jm (.ref a) S'):J K c.z H₀ (Γ.set i (reS s (qw m ks jm))) σ (upd H a o'):=by
 obtain ⟨S,h1,h2⟩:=j.chg i;have sl:=h1 s _ hi hσ;have key:∀(v:V) (o:Ow K c.z H m v S) (hv:v=v0),∃S2:Fp,Ow K c.z (upd H a o') (qw m ks jm) v0 S2/\(∀b,S2 b->S b)/\S a:=λ v o hv=>by
  subst hv;obtain ⟨S',q1,q2,q3⟩:=o.Xq w e;obtain ⟨n1,n2⟩:=new S' q1;refine ⟨_,q3 _ jm S' kp (λ b u z z' q=>by rw[aE (by rintro rfl;exact z' n1)];exact q) n2 λ b z _=>z,λ b z=>?_,q2 a n1⟩;rcases z with z|z
  ·exact z.1
  ·exact q2 b z
 have fin:∀(sl':Slot) (S2:Fp),S a->(∀b,S2 b->S b)->pF K c.z H₀ (upd H a o') i S2 sl' (some v0)->J K c.z H₀ (Γ.set i sl') σ (upd H a o'):=λ sl' S2 sa sub ok=>by
  have q:=h2 (upd H a o') sl' (some v0) S2 kp (λ b u z z'=>by rw[aE (by rintro rfl;exact z' sa)];exact z) (λ b z=>by
   by_cases eb:b=a
   ·subst eb;rw[aG] at z;cases z
   ·rwa [aE eb] at z) (λ b u z=>nomatch z) ok λ b z=> .inl (sub b z)
  have hil:i<σ.length:=(List.getElem?_eq_some_iff.mp hσ).1;have:σ.set i (some v0)=σ:=by have e2:=(List.getElem?_eq_some_iff.mp hσ).2;rw[<-e2,List.set_getElem_self]
  rwa [this] at q
 have sok:∀S2:Fp,(∀b,S2 b->S b)->SOk c.z H₀ H S->SOk c.z H₀ (upd H a o') S2:=λ S2 sub so=>⟨λ b z=>so.new b (sub b z),λ b z q=>so.here b (sub b z) (by
   by_cases eb:b=a
   ·subst eb;rw[aG] at q;cases q
   ·rwa [aE eb] at q),λ b z=>so.Nc b (sub b z),λ b z t=>nomatch t⟩
 cases s with
 |no=>cases hm
 |val d=>cases hm
 |own m0=>cases hm;obtain ⟨v,e1,o,so,n⟩:=sl;obtain ⟨S2,o2,sub,sa⟩:=key v o (by cases e1;rfl);exact fin (.own (qw m ks jm)) S2 sa sub ⟨v0,rfl,o2,sok S2 sub so,λ b z=>n b (sub b z)⟩
 |par m0=>cases hm;obtain ⟨v,e1,o,so,n⟩:=sl;obtain ⟨S2,o2,sub,sa⟩:=key v o (by cases e1;rfl);exact fin (.par (qw m ks jm)) S2 sa sub ⟨v0,rfl,o2,sok S2 sub so,by cases e1;exact n⟩
end
section
variable{X:Cx}{ct:Ct}{c:Cf}{r ix e:Expr}{i:Nat}{g:Sg->Res (List Nat)}{f fk:Sg->Res D}{pos:Pos}{Γ:Sg}{σ:St}{H:Hp}
def wo(Γ:Sg)(σ:St)(H:Hp)(i:Nat)(ks:List Nat)(v:V):Prop:=∃s m v0 m',Γ[i]? =some s/\slM s=some m/\σ[i]? =some (some v0)/\Walk H m v0 ks v/\tE m ks=some m'
def wo.same{H':Hp}{ks:List Nat}{v:V}(e:az H H')(h:wo Γ σ H i ks v):wo Γ σ H' i ks v:=by obtain ⟨s,m,v0,m',h1,h2,h3,h4,h5⟩:=h;exact ⟨s,m,v0,m',h1,h2,h3,h4.same e,h5⟩
def pOf(X:Cx)(ct:Ct)(i:Nat)(g:Sg->Res (List Nat)):TE:=λ σ H Q=>∃Γ,Jx X ct Γ σ H/\Ok X ct σ H (g Γ) λ ks=>∀v H',az H H'->wo Γ σ H' i ks v->Q v H'
abbrev PP(X:Cx)(ct:Ct)(e:Expr)(i:Nat)(g:Sg->Res (List Nat)):Prop:=PE X e (pOf X ct i g)
abbrev WP(X:Cx)(ct:Ct)(e:Expr)(i:Nat)(g:Sg->Res (List Nat)):Prop:=WE X e (pOf X ct i g)
def J.ofM{K:W.Frag}{H₀:Hp}{s:Slot}{m:M}(j:J K ct H₀ Γ σ H)(h:Γ[i]? =some s)(hm:slM s=some m):∃v S,σ[i]? =some (some v)/\Ow K ct H m v S:=by
 cases s with
 |no=>cases hm
 |val d=>cases hm
 |own m'=>cases hm;obtain ⟨v,S,h1,h2,_⟩:=j.own h;exact ⟨v,S,h1,h2⟩
 |par m'=>cases hm;obtain ⟨v,S,h1,h2,_⟩:=j.par h;exact ⟨v,S,h1,h2⟩
def Us(i:Nat){x:Str}{pos:Pos}(hN:X.N[i]? =some x:=by rfl)(hv:Yj X.env.scope x:=by first|exact Or.inl rfl|exact Or.inr (Or.inl rfl)|exact Or.inr (Or.inr rfl))(hd:(x==("__debug__":Str))=false:=by decide) (hcd:(x==("__classdict__":Str))=false:=by decide):PP X ct (.Name x pos) i (sr i):=by
 refine PE.imp (HG hN hv hd hcd) λ σ H Q ⟨Γ,j,h⟩=>?_;unfold sr at h;split at h
 ·rename_i m hm;obtain ⟨s,h1,h2⟩:=Option.bind_eq_some_iff.mp hm;obtain ⟨v,S,h3,h4⟩:=j.ofM h1 h2;refine ⟨v,h3,h v H (az.refl H) ⟨s,m,v,m,h1,h2,h3,?_,?_⟩⟩
  ·cases m<;>rfl
  ·cases m<;>rfl
 ·exact h.elim
def tO(i:Nat){x:Str}{pos:Pos}(hN:X.N[i]? =some x:=by rfl)(hv:Yj X.env.scope x:=by first|exact Or.inl rfl|exact Or.inr (Or.inl rfl)|exact Or.inr (Or.inr rfl))(hd:(x==("__debug__":Str))=false:=by decide)(hcd:(x==("__classdict__":Str))=false:=by decide):WP X ct (.Name x pos) i (sr i):=⟨Us (i:=i) (hN:=hN) (hv:=hv) (hd:=hd) (hcd:=hcd)⟩
def DH{k:Nat}{m1:M}:∀{ks:List Nat} {m m':M},tE m ks=some m'->tE m' [k]=some m1->tE m (ks++[k])=some m1
 |[],m,m',h,w=>by simp only[tE,Option.some.injEq] at h;subst h;exact w
 |q::ks,.n l,m',h,w=>by simp only[tE] at h;obtain ⟨m2,y1,y2⟩:=Option.bind_eq_some_iff.mp h;show tE (.n l) (q::(ks++[k]))=_;simp only[tE,y1,Option.bind_some];exact DH y2 w
 |q::ks,.t l,m',h,w=>by simp only[tE] at h;obtain ⟨m2,y1,y2⟩:=Option.bind_eq_some_iff.mp h;show tE (.t l) (q::(ks++[k]))=_;simp only[tE,y1,Option.bind_some];exact DH y2 w
 |q::ks,.d x,m',h,w=>by simp[tE] at h
 |q::ks,.l x,m',h,w=>by simp[tE] at h
 |q::ks,.k x y,m',h,w=>by simp[tE] at h
 |q::ks,.o x y z,m',h,w=>by simp[tE] at h
def af1(hr:WP X ct r i g)(hk:WD X ct ix fk)(hs:JC ix:=by exact λ _ _=>rfl):WP X ct (.Subscript r ix pos) i (pIx i g fk):=by
 have hr:=hr.out;have hk:=hk.out;refine ⟨?_⟩;refine PE.imp (agf aaA hr hk hs) λ σ H Q ⟨Γ,j,h⟩=>?_;refine ⟨Γ,j,h.bnd λ ks _ q v H1 s1 pa=>?_⟩;refine rL.bnd (f:=fk) (j.mono s1) (Ok.mono s1 q λ _ z=>z) λ d u H2 s2 t2 j2 h2=>?_;obtain ⟨s,m,v0,m',p1,p2,p3,p4,p5⟩:=pa.same s2;have e1:((Γ[i]?).bind slM).bind (λ m=>(tE m ks).bind KR)=KR m':=by rw[p1,Option.bind_some,p2,Option.bind_some,p5,Option.bind_some]
 rw[e1] at h2;obtain ⟨vv,S,g1,o⟩:=j2.ofM p1 p2;rw[p3] at g1;cases g1;obtain ⟨S',o',_⟩:=o.Xq p4 p5;cases d with
 |int z=>
  simp only[Tl] at t2;subst t2;cases ml:KR m' with
  |none=>rw[ml] at h2;exact h2.elim
  |some n=>
   rw[ml] at h2;dsimp only at h2;cases hx:L4.qJ n z with
   |none=>rw[hx] at h2;exact h2.elim
   |some k=>
    rw[hx] at h2;have fin:∀(ms:List M) (a:Addr) (vs:List V) (T:Fp),ez X.K ct H2 ms vs T->n=ms.length->(∀v1 m1,vs[k]? =some v1->ms[k]? =some m1->Walk H2 m' v [k] v1/\tE m' [k]=some m1)->∃v1,L2.rM vs z=some v1/\Q v1 H2:=λ ms a vs T os en w=>by
     have hk:k<ms.length:=by
      subst en;unfold L4.qJ at hx;split at hx
      ·split at hx
       ·cases hx;omega
       ·cases hx
      ·split at hx
       ·cases hx;omega
       ·cases hx
     obtain ⟨v1,T1,g1,g2,_⟩:=os.Xq (List.getElem?_eq_getElem hk);obtain ⟨w1,w2⟩:=w v1 _ g1 (List.getElem?_eq_getElem hk);refine ⟨v1,?_,h2 v1 H2 (s1.trans s2) ⟨s,m,v0,ms[k],p1,p2,p3,p4.snoc p5 w1,?_⟩⟩
     ·unfold L2.rM;have:L2.qJ vs.length z=some k:=by rw[<-os.length, <-en];exact hx
      rw[this];exact g1
     ·exact DH p5 w2
    cases m' with
    |n ms=>simp only[Ow] at o';obtain ⟨a,vs,rfl,o2,o3,o4⟩:=o';simp only[KR,Option.some.injEq] at ml;obtain ⟨v1,a1,a2⟩:=fin ms a vs _ o4 ml.symm λ v1 m1 y1 y2=>⟨by simp only[Walk];exact ⟨a,vs,v1,m1,rfl,o3,y1,y2,rfl⟩,by simp[tE,y2]⟩;exact .inl ⟨a,vs,z,v1,rfl,rfl,.inl (.inl o3),a1,a2⟩
    |t ms=>simp only[Ow] at o';obtain ⟨a,vs,rfl,o3,o4⟩:=o';simp only[KR,Option.some.injEq] at ml;obtain ⟨v1,a1,a2⟩:=fin ms a vs _ o4 ml.symm λ v1 m1 y1 y2=>⟨by simp only[Walk];exact ⟨a,vs,v1,m1,rfl,o3,y1,y2,rfl⟩,by simp[tE,y2]⟩;exact .inr (.inl ⟨a,vs,z,v1,rfl,rfl,.inl (.inl o3),a1,a2⟩)
    |d x=>cases ml
    |l x=>cases ml
    |k x y=>cases ml
    |o x y z=>cases ml
 |_=>cases KR m'<;>exact h2.elim
end
section
variable{X:Cx}{c:Cf}{r ix e:Expr}{i:Nat}{g:Sg->Res (List Nat)}{f fk:Sg->Res D}{pos:Pos}{Γ:Sg}{σ:St}{H:Hp}
def mW:1000000<sizeLine:=by rw[sizeLine_eq];decide
def ez.snoc{K:W.Frag}{ct:Ct}{d:D}{y:V}:∀{ms:List M} {vs:List V} {S:Fp},ez K ct H ms vs S->Tl K ct H d y->ez K ct H (ms++[.d d]) (vs++[y]) S
 |[],vs,S,h,t=>by simp only[ez] at h;subst h;simp only[List.nil_append,ez,Ow];exact ⟨y,[],λ _=>False,λ _=>False,rfl,λ _ z=>z.elim,λ _ z=>z.elim,λ _ z=>z.elim,t,rfl⟩
 |m::ms,vs,S,h,t=>by simp only[ez] at h;obtain ⟨v,r,S1,S2,rfl,h2,h3,h4,h5,h6⟩:=h;simp only[List.cons_append,ez];exact ⟨v,r++[y],S1,S2,rfl,h2,h3,h4,h5,ez.snoc h6 t⟩
def ez.ale{K:W.Frag}{ct:Ct}{d:D}{y:V}:∀{ms:List M} {vs:List V} {S:Fp} (k:Nat),ez K ct H ms vs S->Tl K ct H d y->ez K ct H (ms.set k (.d d)) (vs.set k y) S
 |[],vs,S,k,h,t=>by simp only[ez] at h;subst h;simp[ez]
 |m::ms,vs,S,0,h,t=>by simp only[ez] at h;obtain ⟨v,r,S1,S2,rfl,h2,h3,h4,h5,h6⟩:=h;simp only[List.set_cons_zero,ez,Ow];exact ⟨y,r,λ _=>False,S2,rfl,λ _ z=>z.elim,h3,λ _ z=>z.elim,t,h6⟩
 |m::ms,vs,S,k+1,h,t=>by simp only[ez] at h;obtain ⟨v,r,S1,S2,rfl,h2,h3,h4,h5,h6⟩:=h;simp only[List.set_cons_succ,ez];exact ⟨v,r.set k y,S1,S2,rfl,h2,h3,h4,h5,ez.ale k h6 t⟩
def Gb{ks:List Nat}{v:V}(j:Jx X c.z Γ σ H)(pa:wo Γ σ H i ks v)(hl:W6 (zT i ks Γ)=true):∃a vs,v= .ref a/\H a=some (.lst vs):=by
 obtain ⟨s,m,v0,m',p1,p2,p3,p4,p5⟩:=pa;have e1:zT i ks Γ=some m':=by unfold zT;rw[p1,Option.bind_some,p2,Option.bind_some,p5]
 rw[e1] at hl;obtain ⟨vv,S,g1,o⟩:=j.ofM p1 p2;rw[p3] at g1;cases g1;obtain ⟨S',o',_⟩:=o.Xq p4 p5;cases m' with
 |l xs=>simp only[Ow] at o';obtain ⟨a,vs,h1,_,h2,_⟩:=o';exact ⟨a,vs,h1,h2⟩
 |n xs=>simp only[Ow] at o';obtain ⟨a,vs,h1,_,h2,_⟩:=o';exact ⟨a,vs,h1,h2⟩
 |_=>cases hl
def G8{ks:List Nat}{a:Addr}{vs vs':List V}{F:M->Option M}{E:Ends}{H0:Hp}(j:Jx X c.z Γ σ H)(k0:aZ c.cb H0 H)(pa:wo Γ σ H i ks (.ref a))(ha:H a=some (.lst vs))(q:Fn X c H0 (oUp (DW i ks F Γ)) E) (hF:∀m' jm S',F m'=some jm->Ow X.K c.z H m' (.ref a) S'->S' a/\Ow X.K c.z (upd H a (.lst vs')) jm (.ref a) S'):E.nx σ (upd H a (.lst vs')):=by
 obtain ⟨s,m,v0,m',p1,p2,p3,p4,p5⟩:=pa;have e1:DW i ks F Γ=(F m').map λ jm=>Γ.set i (reS s (qw m ks jm)):=by unfold DW;rw[p1,Option.bind_some,p2,Option.bind_some,p5,Option.bind_some]
 rw[e1] at q;cases z:F m' with
 |none=>rw[z] at q;exact q.elim
 |some jm=>rw[z] at q;have kp:aZ c.cb H (upd H a (.lst vs')):=aZ.lst ha;exact q σ _ (k0.trans kp) (j.up p1 p2 p3 p4 p5 kp λ S' o=>hF m' jm S' z o)
def G7{ks:List Nat}{v:V}{F:M->Option M}{E:Ends}{H0:Hp}(j:Jx X c.z Γ σ H)(pa:wo Γ σ H i ks v)(q:Fn X c H0 (oUp (DW i ks F Γ)) E):∃m' jm S',F m'=some jm/\Ow X.K c.z H m' v S':=by
 obtain ⟨s,m,v0,m',p1,p2,p3,p4,p5⟩:=pa;have e1:DW i ks F Γ=(F m').map λ jm=>Γ.set i (reS s (qw m ks jm)):=by unfold DW;rw[p1,Option.bind_some,p2,Option.bind_some,p5,Option.bind_some]
 rw[e1] at q;obtain ⟨vv,S,g1,o⟩:=j.ofM p1 p2;rw[p3] at g1;cases g1;obtain ⟨S',o',_⟩:=o.Xq p4 p5;cases z:F m' with
 |none=>rw[z] at q;exact q.elim
 |some jm=>exact ⟨m',jm,S',z,o'⟩
def abN{K:W.Frag}{d:D}{y:V}{a:Addr}{vs:List V}{B:Hp}{m' jm:M}{S':Fp}(t:Tl K (c.at' B) H d y)(ha:H a=some (.lst vs))(e:X4 d m'=some jm)(o:Ow K c.z H m' (.ref a) S'):
  vs.length<1000000/\S' a/\Ow K c.z (upd H a (.lst (vs++[y]))) jm (.ref a) S':=by
 have kp:aZ c.cb H (upd H a (.lst (vs++[y]))):=aZ.lst ha;cases m' with
 |l xs=>
  simp only[X4] at e;split at e
  ·rename_i hc;cases e;simp only[Ow] at o ⊢;obtain ⟨a',us,e1,o2,o3,o4⟩:=o;cases e1;rw[ha] at o3;cases o3;exact ⟨by rw[<-o4.length];exact hc.1,o2,a,_,rfl,o2,aG,(o4.append (aJ.cons (Tl.down (B:=B) (tm:=true) t hc.2) aJ.nil)).keep kp⟩
  ·cases e
 |n ms=>
  simp only[X4] at e;split at e
  ·rename_i hc;cases e;simp only[Ow] at o ⊢;obtain ⟨a',us,e1,o2,o3,o4⟩:=o;cases e1;rw[ha] at o3;cases o3;refine ⟨by rw[<-o4.length];exact hc.1,o2,a,_,rfl,o2,aG,(o4.snoc (Tl.down (B:=B) (tm:=true) t hc.2)).frame kp λ b o z q=>?_⟩;rw[aE z.2];exact q
  ·cases e
 |_=>cases e
def LW{ap cp:Pos}(hr:∀B,WP X (c.at' B) r i g)(he:∀B,WD X (c.at' B) e f)(hbase:attributeBase r "append" X.env (eval r X.env)=eval r X.env:=by rfl)(hfew:((backTo cp (starEach [e] X.env)).all (λ x=>!x.1)&&(backToKw cp (keywordEach [] X.env)).all (λ x=>x.1.isSome)
   &&decide ([e].length+([]:List Keyword).length+(if ([]:List Keyword).isEmpty then 0 else 1)<30))=true:=by rfl) (hline:(ap.endLine==cp.line)=true:=by rfl) (hs:starEach [e] X.env=(false,eval e X.env)::starEach [] X.env:=by rfl) (hplain:(backTo cp (starEach [] X.env)).any (·.1)=false:=by rfl) (hw:swapsWith (.Call (.Attribute r "append" ap) [e] [] cp) none pos.line X.env=pure false:=by rfl):DL X c (.Expr (.Call (.Attribute r "append" ap) [e] [] cp) pos) (Hs i g f):=by
 have hr:=λ B=>(hr B).out;have he:=λ B=>(he B).out;refine ⟨?_⟩;intro pins s σ H E I ⟨Γ,j,h⟩;refine wU (agg PySem.F.plainAttrs_list PySem.F.slot_list_append PySem.F.type_list_append Gh (hr H) (oK (he H) yN hs) hbase hfew hline hs hplain) hw pins s σ H E I ?_;refine ⟨Γ,j.lift,Fn.ok j h λ ks _ q v H1 s1 pa=>?_⟩;split at q
 ·rename_i hl;have j1:=j.mono s1;obtain ⟨a,vs,rfl,ha⟩:=Gb j1 pa hl;refine ⟨.inl ⟨rfl,vs,rJ.of ha⟩,Γ,j.lift.mono s1,Ok.mono (H:=H) s1 (Fn.ok (tm:=true) (B:=H) j q λ d _ q y H2 s2 t=>?_) λ _ z=>z⟩;have j2:=j1.mono s2;have pa2:=pa.same s2;have ha2:=s2 _ _ ha;obtain ⟨m',jm,S',e1,o1⟩:=G7 j2 pa2 q;refine ⟨a,vs,y,rfl,rfl,ha2,Nat.lt_trans (abN t ha2 e1 o1).1 mW,?_⟩;exact G8 j2 (az.keep (s1.trans s2)) pa2 ha2 q λ m' jm S' e o=>(abN t ha2 e o).2
 ·exact q.elim
def aqa(n:Nat)(z:Int):L4.qJ n z=L2.qJ n z:=rfl
def YY{K:W.Frag}{d:D}{y:V}{z:Int}{a:Addr}{vs:List V}{B:Hp}{m' jm:M}{S':Fp}(t:Tl K (c.at' B) H d y)(ha:H a=some (.lst vs))(e:setM z d m'=some jm)(o:Ow K c.z H m' (.ref a) S'):
  ∃k,L2.qJ vs.length z=some k/\S' a/\Ow K c.z (upd H a (.lst (vs.set k y))) jm (.ref a) S':=by
 cases m' with
 |l xs=>
  simp only[setM] at e;split at e
  ·rename_i hc;simp only[Option.map_eq_some_iff] at e;obtain ⟨k,hk,rfl⟩:=e;simp only[Ow] at o ⊢;obtain ⟨a',us,e1,o2,o3,o4⟩:=o;cases e1;rw[ha] at o3;cases o3;refine ⟨k,by rw[<-o4.length];exact hk,o2,a,_,rfl,o2,aG,(aJ.set (Tl.down (B:=B) (tm:=true) t hc) k o4).keep (aZ.lst ha)⟩
  ·cases e
 |n ms=>
  simp only[setM] at e;split at e
  ·rename_i hc;simp only[Option.map_eq_some_iff] at e;obtain ⟨k,hk,rfl⟩:=e;simp only[Ow] at o ⊢;obtain ⟨a',us,e1,o2,o3,o4⟩:=o;cases e1;rw[ha] at o3;cases o3;refine ⟨k,by rw[<-o4.length];exact hk,o2,a,_,rfl,o2,aG,(ez.ale k o4 (Tl.down (B:=B) (tm:=true) t hc)).frame (aZ.lst ha) λ b o z q=>?_⟩;rw[aE z.2];exact q
  ·cases e
 |_=>cases e
def FJ{pt:Pos}(hr:∀B,WP X (c.at' B) r i g)(hk:∀B,WD X (c.at' B) ix fk)(he:∀B,WD X (c.at' B) e f)(hs:swapsWithSole [.Subscript r ix pt] e pos.line X.env=pure false:=by rfl)(hw:swappedStores [.Subscript r ix pt] e X.env=pure none:=by rfl)(h1:(assignEach [.Subscript r ix pt] X.env).map (·.2)=[assign (.Subscript r ix pt) X.env]:=by rfl)(ha:∀v,assign (.Subscript r ix pt) X.env v=(do
   let ov <-holding [v] (eval r X.env)
   let iv <-holding [v,ov] (eval ix X.env)
   standAt pt
   holding [v,ov,iv] (setItem ov iv v)
   release [v,ov,iv] []):=by intro _;rfl):DL X c (.Assign [.Subscript r ix pt] e pos) (BZ i g fk f):=by
 have hr:=λ B=>(hr B).out
 have hk:=λ B=>(hk B).out
 have he:=λ B=>(he B).out
 refine ⟨?_⟩
 intro pins s σ H E I ⟨Γ,j,h⟩
 refine Zc (he H) (ah0 (hr H) (hk H) set_list ha) hs hw h1 pins s σ H E I ?_
 refine ⟨Γ,j.lift,Fn.ok j h λ d _ q y H1 s1 t=>?_⟩
 refine ⟨Γ,j.lift.mono s1,Ok.mono (H:=H) s1 (Fn.ok (tm:=true) (B:=H) j q λ ks _ q v H2 s2 pa=>?_) λ _ z=>z⟩
 refine ⟨Γ,(j.lift.mono s1).mono s2,Ok.mono (H:=H) (s1.trans s2) (Fn.ok (tm:=true) (B:=H) j q λ z _ q u H3 s3 t3=>?_) λ _ z=>z⟩
 cases z with
 |int z=>
  simp only[Tl] at t3
  subst t3
  have sm:=(s1.trans s2).trans s3
  have j3:=j.mono sm
  have pa3:=pa.same s3
  have ty:=t.keep (az.keep (s2.trans s3))
  obtain ⟨m',jm,S',e1,o1⟩:=G7 j3 pa3 q
  have hv:∃a vs,v= .ref a/\H3 a=some (.lst vs):=by
   cases m' with
   |l xs=>simp only[Ow] at o1;obtain ⟨a,vs,h1,_,h2,_⟩:=o1;exact ⟨a,vs,h1,h2⟩
   |n xs=>simp only[Ow] at o1;obtain ⟨a,vs,h1,_,h2,_⟩:=o1;exact ⟨a,vs,h1,h2⟩
   |_=>cases e1
  obtain ⟨a,vs,rfl,ha⟩:=hv
  obtain ⟨k,hk,_⟩:=YY ty ha e1 o1
  refine ⟨a,vs,z,k,rfl,rfl,ha,hk,?_⟩
  exact G8 j3 (az.keep sm) pa3 ha q λ m' jm S' e o=>by
   obtain ⟨k',hk',q'⟩:=YY ty ha e o
   rw[hk] at hk';cases hk'
   exact q'
 |_=>exact q.elim
end
def Yd(K:W.Frag)(ct:Ct)(J:It)(xs:List D)(H:Hp):Prop:=∃P:Hp->Prop,P H/\(∀H1 H2,P H1->aZ ct.f.cb H1 H2->az ct.f.L H2->az ct.B H2->P H2)/\(∀i d H1,P H1->xs[i]? =some d->J.go i H1/\∀x H2,J.yld i H1 x H2->az H1 H2/\Tl K ct H2 d x)/\∀i H1,P H1->xs.length<=i->J.stop i H1
section
variable{X:Cx}{ct:Ct}{tg iter e:Expr}{f:Sg->Res D}{pos:Pos}
def aaD{K:W.Frag}{H:Hp}{a:Addr}{vs:List V}{xs:List D}(fz:FzL K H a vs)(t:aJ K ct H xs vs):Yd K ct (Itl K a) xs H:=by refine ⟨λ H1=>aZ ct.f.cb H H1,aZ.refl H,λ H1 H2 k1 k2 _ _=>k1.trans k2,λ i d H1 k1 hd=>?_,λ i H1 k1 hi=>⟨vs,(k1.fzL fz).sq,by rw[<-t.length];exact hi⟩⟩;obtain ⟨v,hv,tv⟩:=t.get hd;refine ⟨⟨vs,v,(k1.fzL fz).sq,hv⟩,λ x H2 ⟨e,y⟩=>⟨by rw[e];exact az.refl _,?_⟩⟩;subst e;have:=y vs (k1.fzL fz).sq;rw[hv] at this;cases this;exact tv.keep k1
def ae8{K:W.Frag}{H:Hp}{tm:Bool}{v:V}{xs:List D}(l:az ct.f.L H)(b:az ct.B H)(t:Tl K ct H (.bor tm xs) v):∃a,v= .ref a/\(∃vs,rJ K H a vs)/\Yd K ct (Itl K a) xs H:=by
 simp only[Tl] at t;obtain ⟨a,vs,rfl,h2,t⟩:=t;have sq:∀H1,az ct.f.L H1->az ct.B H1->rJ K H1 a vs:=λ H1 l b=>by
  cases tm with
  |true=>exact .inl (.inl (b a _ h2))
  |false=>exact .inl (.inl (l a _ h2))
 refine ⟨a,rfl,⟨vs,sq H l b⟩,λ H1=>aZ ct.f.cb H H1/\az ct.f.L H1/\az ct.B H1,⟨aZ.refl H,l,b⟩,λ H1 H2 k1 k2 l2 b2=>⟨k1.1.trans k2,l2,b2⟩,λ i d H1 k1 hd=>?_,λ i H1 k1 hi=>⟨vs,sq H1 k1.2.1 k1.2.2,by rw[<-t.length];exact hi⟩⟩;obtain ⟨v,hv,tv⟩:=t.get hd;refine ⟨⟨vs,v,sq H1 k1.2.1 k1.2.2,hv⟩,λ x H2 ⟨e,y⟩=>⟨by rw[e];exact az.refl _,?_⟩⟩;subst e;have:=y vs (sq _ k1.2.1 k1.2.2);rw[hv] at this;cases this;exact tv.keep k1.1
def UT{K:W.Frag}{H:Hp}{a:Addr}{vs:List V}{xs:List D}(fz:yx K H a vs)(t:aJ K ct H xs vs):Yd K ct (Itt K a) xs H:=by refine ⟨λ H1=>aZ ct.f.cb H H1,aZ.refl H,λ H1 H2 k1 k2 _ _=>k1.trans k2,λ i d H1 k1 hd=>?_,λ i H1 k1 hi=>⟨vs,k1.sqT fz,by rw[<-t.length];exact hi⟩⟩;obtain ⟨v,hv,tv⟩:=t.get hd;refine ⟨⟨vs,v,k1.sqT fz,hv⟩,λ x H2 ⟨e,y⟩=>⟨by rw[e];exact az.refl _,?_⟩⟩;subst e;have:=y vs (k1.sqT fz);rw[hv] at this;cases this;exact tv.keep k1
def UU{K:W.Frag}{H:Hp}{lo:Int}{n:Nat}:Yd K ct (Itr lo n) (mS lo n) H:=by
 refine ⟨λ _=>True,trivial,λ _ _ _ _ _ _=>trivial,λ i d H1 _ hd=>?_,λ i H1 _ hi=>by rw[nG] at hi;exact hi⟩;have hi:i<n:=by have:=(List.getElem?_eq_some_iff.mp hd).1;rwa [nG] at this
 rw[W8 hi] at hd;cases hd;exact ⟨hi,λ x H2 ⟨e,y⟩=>⟨by rw[e];exact az.refl _,by simp[Tl,y]⟩⟩
def iOf(X:Cx)(ct:Ct)(f:Sg->Res (List D)):TI:=λ σ H R=>∃Γ,Jx X ct Γ σ H/\Ok X ct σ H (f Γ) λ xs=>∀J H',az H H'->Yd X.K ct J xs H'->R J H'
abbrev PID(X:Cx)(ct:Ct)(tg iter:Expr)(f:Sg->Res (List D)):Prop:=PI X tg iter (iOf X ct f)
structure WI(X:Cx)(tg iter:Expr)(wi:TI):Prop where
 out:PI X tg iter wi
abbrev WID(X:Cx)(ct:Ct)(tg iter:Expr)(f:Sg->Res (List D)):Prop:=WI X tg iter (iOf X ct f)
def rO{a:Expr}{r:Sg->Res (List D)}{p pos':Pos}(hm:X.mg "range"=none)(ha:GW X ct [a] r)(hgl:Gl X "range":=by rfl)(hs:starEach [a] X.env=[(false,eval a X.env)]:=by rfl):WID X ct tg (.Call (.Name "range" p) [a] [] pos') (iK r):=by
 have ha:=ha.out;refine ⟨?_⟩;intro pins s σ H R I ⟨Γ,j,h⟩;refine V1 hgl hm ha hs pins s σ H R I ⟨Γ,j,h.bnd λ ds _ q vs H' s tl=>?_⟩;cases ex:Hv ds with
 |bad=>rw[ex] at q;exact q.elim
 |err c=>exact (ad4 ds c ex).elim
 |ok xs=>rw[ex] at q;obtain ⟨i,rfl,h1,h2,rfl⟩:=ad3 ex;simp only[aJ,Tl] at tl;obtain ⟨v,r,rfl,rfl,rfl⟩:=tl;exact ⟨i,rfl,h1,h2,q _ H' s UU⟩
def JK{a b:Expr}{r:Sg->Res (List D)}{p pos':Pos}(hm:X.mg "range"=none)(ha:GW X ct [a,b] r)(hgl:Gl X "range":=by rfl)(hs:starEach [a,b] X.env=[(false,eval a X.env),(false,eval b X.env)]:=by rfl)(hs2:starEach [b] X.env=[(false,eval b X.env)]:=by rfl):WID X ct tg (.Call (.Name "range" p) [a,b] [] pos') (xQ r):=by
 have ha:=ha.out;refine ⟨?_⟩;intro pins s σ H R I ⟨Γ,j,h⟩;refine V0 hgl hm ha hs hs2 pins s σ H R I ⟨Γ,j,h.bnd λ ds _ q vs H' s tl=>?_⟩;cases ex:J1 ds with
 |bad=>rw[ex] at q;exact q.elim
 |err c=>exact (ad2 ds c ex).elim
 |ok xs=>rw[ex] at q;obtain ⟨i,i2,rfl,h1,rfl⟩:=ad1 ex;simp only[aJ,Tl] at tl;obtain ⟨v,r,rfl,rfl,v2,r2,rfl,rfl,rfl⟩:=tl;exact ⟨i,i2,rfl,h1,q _ H' s UU⟩
end
def Dr(cells:List (Str×Addr)):List (Str×NameKind)->List (Str×Addr)->Option (List (Str×Addr))
 |[],acc=>some acc
 |(n,k)::r,acc=>if k== .free then (match cells.lookup n with
   |some c=>Dr cells r ((n,c)::acc)
   |none=>none) else Dr cells r acc
def Dq{cells:List (Str×Addr)}:∀{names:List (Str×NameKind)} {acc cl:List (Str×Addr)},Dr cells names acc=some cl->(∀y c,acc.lookup y=some c->cells.lookup y=some c)->∀y c,cl.lookup y=some c->cells.lookup y=some c
 |[],acc,cl,h,ha=>by cases h;exact ha
 |(n,k)::r,acc,cl,h,ha=>by
  unfold Dr at h;split at h
  ·split at h
   ·rename_i c hc;refine Dq h λ y c' hy=>?_;rw[List.lookup_cons] at hy;split at hy
    ·rename_i e;cases hy;rw[eq_of_beq e];exact hc
    ·exact ha y c' hy
   ·cases h
  ·exact Dq h ha
def OB{env:Env}{scope:Scope}{cl:List (Str×Addr)}(h:Dr env.cells scope.names []=some cl):closureFor scope env=pure cl:=by
 unfold closureFor;generalize scope.names=names at h ⊢;generalize ([]:List (Str×Addr))=acc at h ⊢;dsimp only;induction names generalizing acc with
 |nil=>cases h;rfl
 |cons p r ih=>
  obtain ⟨n,k⟩:=p;unfold Dr at h;rw[List.forIn_cons];by_cases hk:(k==NameKind.free)=true
  ·rw[if_pos hk] at h;split at h
   ·rename_i c hc;have e:cellOf env n=pure c:=by unfold cellOf;rw[hc]
    simp only[hk,if_true,e,pure_bind];exact ih _ h
   ·cases h
  ·rw[if_neg hk] at h;simp only[hk,Bool.false_eq_true,if_false,pure_bind];exact ih _ h
def JG(X:Cx)(scope:Scope)(cl:List (Str×Addr))(C:Addr)(s₀:Shared)(H₀:Hp)(ex:List Addr)(N':List Str):Cx where
 prog:=X.prog
 w:=X.w
 K:=X.K
 mg:=X.mg
 base:=X.base
 A:=X.A
 N:=N'
 s₀:=s₀
 H₀:=H₀
 env:=compEnvC scope cl C X.env
 outer:=X.stack
 stack:=X.stack
 ex:=ex
 fn:=λ _=>false
 calm:=X.calm
 pn:=[]
 xe:=λ _ _=>False
def ON(k:Nat)(caps:List Nat)(σ:St):St:=List.replicate k none++caps.map λ i=>(σ[i]?).join
def ama{X:Cx}{ct:Ct}{tm:Bool}{k:Nat}{caps:List Nat}{Γ:Sg}{σ:St}{H:Hp}(j:Jx X ct Γ σ H)(ht:tm=true->ct.tm=true):J X.K ct H (rH tm k caps Γ) (ON k caps σ) H:=by
 refine ⟨λ _ _ q _=>q,λ _ q=>q,j.lL,j.lB,by simp[rH,ON],λ _ _=>False,λ i sl ov h1 h2=>?_,λ _ _ _ _ z=>z.elim,λ _ _ z=>z.elim⟩;rcases Vf h1 with rfl|⟨c,sc,hc,hk,hd,rfl⟩
 ·exact λ _ z=>z
 ·have at2:∀v,σ[c]? =some (some v)->ov=some v:=λ v g1=>by unfold ON at h2;rw[List.getElem?_append_right (by simpa using hk),List.length_replicate,List.getElem?_map,hc] at h2;simp only[Option.map_some,Option.some.injEq] at h2;rw[g1] at h2;exact h2.symm
  cases sc with
  |no=>exact λ _ z=>z
  |val d=>obtain ⟨v,g1,g2⟩:=j.val hd;exact ⟨⟨v,at2 v g1,g2⟩,λ _ z=>z⟩
  |own m=>
   cases tm with
   |false=>exact λ _ z=>z
   |true=>obtain ⟨v,S,g1,g2,g3,_⟩:=j.own hd;exact ⟨⟨v,at2 v g1,g2.lend λ b z=>g3.lent b z (ht rfl)⟩,λ _ z=>z⟩
  |par m=>
   cases tm with
   |false=>exact λ _ z=>z
   |true=>obtain ⟨v,S,g1,g2,g3,_⟩:=j.par hd;exact ⟨⟨v,at2 v g1,g2.lend λ b z=>g3.lent b z (ht rfl)⟩,λ _ z=>z⟩
def zD{cells:List (Str×Addr)}:∀{names:List (Str×NameKind)} {acc cl:List (Str×Addr)},Dr cells names acc=some cl->∀y,(acc.lookup y).isSome=true->(cl.lookup y).isSome=true
 |[],acc,cl,h=>by cases h;exact λ _ z=>z
 |(n,k)::r,acc,cl,h=>by
  unfold Dr at h;split at h
  ·split at h
   ·rename_i c hc;intro y hy;refine zD h y ?_;rw[List.lookup_cons];split
    ·rfl
    ·exact hy
   ·cases h
  ·exact zD h
def ye{cells:List (Str×Addr)}:∀{names:List (Str×NameKind)} {acc cl:List (Str×Addr)},Dr cells names acc=some cl->∀y,(y,NameKind.free)∈names->(cl.lookup y).isSome=true
 |[],acc,cl,h=>λ y hy=>by cases hy
 |(n,k)::r,acc,cl,h=>by
  unfold Dr at h;intro y hy;split at h
  ·split at h
   ·rename_i c hc;rcases List.mem_cons.mp hy with e|hy
    ·cases e;exact zD h _ (by simp[List.lookup_cons])
    ·exact ye h y hy
   ·cases h
  ·rename_i hk;rcases List.mem_cons.mp hy with e|hy
   ·cases e;exact absurd rfl hk
   ·exact ye h y hy
def wO{env:Env}:∀{names:List (Str×NameKind)} {y:Str},(∀z∈names,z.2≠.cell)->((names.map λ(n,k)=>if (k==NameKind.free&&env.scope.kind== .function&&env.kindOf n==some .cell) then (n,NameKind.cell) else (n,k)).lookup y=some .cell\/(names.map λ(n,k)=>if (k==NameKind.free&&env.scope.kind== .function&&env.kindOf n==some .cell) then (n,NameKind.cell) else (n,k)).lookup y=some .free)->(y,NameKind.free)∈names
 |[],y,_,h=>by simp at h
 |(n,k)::r,y,hc,h=>by
  have ih:= @wO env r y λ z hz=>hc z (.tail _ hz);have hk:k≠.cell:=hc (n,k) (.head _);have e1:(((n,k)::r).map λ(n,k)=>if (k==NameKind.free&&env.scope.kind== .function&&env.kindOf n==some .cell) then (n,NameKind.cell) else (n,k))=
   (if (k==NameKind.free&&env.scope.kind== .function&&env.kindOf n==some .cell)=true then (n,NameKind.cell) else (n,k))::(r.map λ(n,k)=>if (k==NameKind.free&&env.scope.kind== .function&&env.kindOf n==some .cell) then (n,NameKind.cell) else (n,k)):=rfl
  rw[e1] at h;by_cases IQ:(k==NameKind.free&&env.scope.kind== .function&&env.kindOf n==some .cell)=true
  ·rw[if_pos IQ] at h;have hkf:k= .free:=by have:=(Bool.and_eq_true_iff.mp (Bool.and_eq_true_iff.mp IQ).1).1;exact eq_of_beq this
   simp only[List.lookup_cons] at h;split at h
   ·rename_i e;rw[eq_of_beq e,hkf];exact .head _
   ·exact .tail _ (ih h)
  ·rw[if_neg IQ] at h;simp only[List.lookup_cons] at h;split at h
   ·rename_i e;rcases h with h|h
    ·exact absurd (Option.some.inj h) hk
    ·rw[eq_of_beq e,Option.some.inj h];exact .head _
   ·exact .tail _ (ih h)
def Jf{prog:Program}{w:World}{A:Around}{R:Result->Shared->Prop}{s:Shared}{elt target iter:Expr}{ifs:List Expr}{scope:Scope}{pos:Pos}{it acc:Value}{env:Env}(I:Nat->Shared->Prop)
  (turn:∀n s,I n s->wpAny (model prog w) A (pyNext it) (λ r s₁=>match r with
   |none=>R (.ok .next) s₁
   |some v=>wpAny (model prog w) A (letOwnedTupleGo target it v) (λ _ s₁'=>wpAny (model prog w) A (assign target env v) (λ _ s₂=>
     wpAny (model prog w) A (forIn ifs true λ c r=>if r=true then do let ok <-isTrue c env (eval c env);pure (ForInStep.yield ok) else pure (ForInStep.yield r)) (λ ok s₃=>
      if ok=true then wpAny (model prog w) A (eval elt env) (λ x s₄=>
       wpAny (model prog w) A (call (.builtin "list.append") [acc,x]) (λ _ s₅=>∃m,m<n/\I m s₅) (λ _ _=>False) s₄) (λ _ _=>False) s₃
      else ∃m,m<n/\I m s₃) (λ _ _=>False) s₂) (λ _ _=>False) s₁') (λ _ _=>False) s₁) (λ _ _=>False) s)
  (n:Nat) (h:I n s):
  codeAny (model prog w) A (.compLoop (.ListComp elt [⟨target,iter,ifs,0⟩] scope pos) 0 it acc env) R s:=by
 refine codeAny_loop rfl I (λ n s hI=>?_) n h
 show wpAny _ A ((compTurn (.ListComp elt [⟨target,iter,ifs,0⟩] scope pos) 0 it acc env).onRaise (λ x=>do noteFrame x env;theTreesLotGoes x)) _ _ s
 refine wpAny_noted ?_
 rw[compTurn_list]
 refine wpAny_bind (wpAny_standAt (wpAny_bind (wpAny_mono (turn n s hI) (λ r s₁ h₁=>?_) λ _ _ h'=>h'.elim)))
 cases r with
 |none=>exact wpAny_pure h₁
 |some v=>
  refine wpAny_bind (wpAny_mono h₁ (λ _ s₁' h₁'=>?_) λ _ _ h'=>h'.elim)
  refine wpAny_bind (wpAny_mono h₁' (λ _ s₂ h₂=>wpAny_bind (wpAny_mono h₂ (λ ok s₃ h₃=>?_) λ _ _ h'=>h'.elim)) λ _ _ h'=>h'.elim)
  cases ok with
  |false=>exact wpAny_pure ⟨rfl,h₃⟩
  |true=>
   exact wpAny_bind (wpAny_bind (wpAny_mono h₃ (λ x s₄ h₄=>wpAny_bind (wpAny_mono h₄ (λ _ s₅ h₅=>wpAny_pure (wpAny_pure ⟨rfl,h₅⟩)) λ _ _ h'=>h'.elim)) λ _ _ h'=>h'.elim))
def PTs(X:Cx)(ct:Ct)(ifs:List Expr)(p:Sg->Res Bool):Prop:=
 ∀(pins:List (Addr×Obj)) (s:Shared) (σ:St) (H:Hp) (Q:Bool->Hp->Prop),Inv X pins σ H s->cOf X ct p σ H Q->
  wpAny (model X.prog X.w) X.A (forIn ifs true λ c r=>if r=true then do let ok <-isTrue c X.env (eval c X.env);pure (ForInStep.yield ok) else pure (ForInStep.yield r)) (TP X pins σ Q) X.xe s
structure WTs(X:Cx)(ct:Ct)(ifs:List Expr)(p:Sg->Res Bool):Prop where
 out:PTs X ct ifs p
def oF{X:Cx}{ct:Ct}:WTs X ct [] i7:=by exact ⟨λ pins s σ H Q I ⟨Γ,j,h⟩=>wpAny_tests_nil ⟨H,I,h H (az.refl H)⟩⟩
def G2{X:Cx}{ct:Ct}{c:Expr}{p:Sg->Res Bool}(h:TN X ct c p):WTs X ct [c] p:=by have h:=h.out;exact ⟨λ pins s σ H Q I q=>wpAny_tests_one (h pins s σ H Q I q)⟩
def abJ{tm:Bool}{k:Nat}{caps:List Nat}{Γ:Sg}:alT (rH tm k caps Γ):=λ i m=>by
 refine ⟨λ h=>?_,λ h=>?_⟩<;>
 ·rcases Vf h with e|⟨c,sc,_,_,_,e⟩
  ·cases e
  ·cases sc<;>cases tm<;>cases e
def ez.af5{K:W.Frag}{ct:Ct}{H:Hp}{m:M}{y:V}{T:Fp}:∀{ms:List M} {vs:List V} {S:Fp},ez K ct H ms vs S->Ow K ct H m y T->(∀b,S b->¬T b)->ez K ct H (ms++[m]) (vs++[y]) (λ b=>S b\/T b)
 |[],vs,S,h,t,_=>by simp only[ez] at h;subst h;simp only[List.nil_append,ez];exact ⟨y,[],T,λ _=>False,rfl,λ _ z=> .inr z,λ _ z=>z.elim,λ _ _ z=>z,t,rfl⟩
 |m'::ms,vs,S,h,t,n=>by
  simp only[ez] at h;obtain ⟨v,r,S1,S2,rfl,h2,h3,h4,h5,h6⟩:=h;simp only[List.cons_append,ez];refine ⟨v,r++[y],S1,λ b=>S2 b\/T b,rfl,λ b z=> .inl (h2 b z),λ b z=>z.elim (λ z=> .inl (h3 b z)) .inr,λ b z w=>?_,h5,ez.af5 h6 t λ b z=>n b (h3 b z)⟩;rcases w with w|w
  ·exact h4 b z w
  ·exact n b (h2 b z) w
def ez.agy{K:W.Frag}{ct:Ct}{H:Hp}:∀{ds:List D} {vs:List V} {S:Fp},ez K ct H (ds.map M.d) vs S->aJ K ct H ds vs
 |[],vs,S,h=>by simpa[ez,aJ] using h
 |d::ds,vs,S,h=>by simp only[List.map_cons,ez,Ow] at h;obtain ⟨v,r,S1,S2,rfl,_,_,_,h5,h6⟩:=h;exact aJ.cons h5 (ez.agy h6)
structure zL(X:Cx)(scope:Scope)(cl:List (Str×Addr))(k:Nat)(caps:List Nat)(N':List Str):Prop where
 clos:Dr X.env.cells scope.names []=some cl
 cell:∀y∈scope.names,y.2≠.cell
 kind:scope.kind= .function
 names:∀y∈scope.names,y.2= .local->scope.names.lookup y.1=some .local
 len:N'.length=k+caps.length
 cap:∀(i c:Nat) (y:Str),caps[i]? =some c->N'[k+i]? =some y->X.N[c]? =some y/\Yj X.env.scope y/\X.env.kindOf y≠some .local/\(y,NameKind.free)∈scope.names
def wQ{env:Env}:∀{names:List (Str×NameKind)} {y:Str},(∀z∈names,z.1=y->z.2= .free)->(y,NameKind.free)∈names->((names.map λ(n,k)=>if (k==NameKind.free&&env.scope.kind== .function&&env.kindOf n==some .cell) then (n,NameKind.cell) else (n,k)).lookup y=some .cell\/(names.map λ(n,k)=>if (k==NameKind.free&&env.scope.kind== .function&&env.kindOf n==some .cell) then (n,NameKind.cell) else (n,k)).lookup y=some .free)
 |[],y,_,h=>by cases h
 |(n,k)::r,y,hu,h=>by
  have e1:(((n,k)::r).map λ(n,k)=>if (k==NameKind.free&&env.scope.kind== .function&&env.kindOf n==some .cell) then (n,NameKind.cell) else (n,k))=(if (k==NameKind.free&&env.scope.kind== .function&&env.kindOf n==some .cell)=true then (n,NameKind.cell) else (n,k))::(r.map λ(n,k)=>if (k==NameKind.free&&env.scope.kind== .function&&env.kindOf n==some .cell) then (n,NameKind.cell) else (n,k)):=rfl;rw[e1];by_cases hy:y=n
  ·subst hy;have hk:k= .free:=hu (y,k) (.head _) rfl;subst hk;by_cases IQ:(NameKind.free==NameKind.free&&env.scope.kind== .function&&env.kindOf y==some .cell)=true
   ·rw[if_pos IQ];left;simp[List.lookup_cons]
   ·rw[if_neg IQ];right;simp[List.lookup_cons]
  ·have hb:(y==n)=false:=by simpa using hy
   have hm:(y,NameKind.free)∈r:=by
    rcases List.mem_cons.mp h with e|h
    ·cases e;exact absurd rfl hy
    ·exact h
   have ih:= @wQ env r y (λ z hz=>hu z (.tail _ hz)) hm;by_cases IQ:(k==NameKind.free&&env.scope.kind== .function&&env.kindOf n==some .cell)=true
   ·rw[if_pos IQ];simp only[List.lookup_cons,hb];exact ih
   ·rw[if_neg IQ];simp only[List.lookup_cons,hb];exact ih
section
variable{X:Cx}{ct:Ct}{elt iter tg:Expr}{ifs:List Expr}{scope:Scope}{cl:List (Str×Addr)}{pos:Pos}{k:Nat}{caps:List Nat}{N':List Str}{fi:Sg->Res (List D)}{t:Tg}{p:Sg->Res Bool}{fe:Sg->Res M}{tm:Bool}
def afa{pins:List (Addr×Obj)}{σ:St}{H:Hp}{s:Shared}{fp:List Addr}{h₁:Heap}{tk:Nat}(I:Inv X pins σ H s)(co:zL X scope cl k caps N')(hfr:∀z∈scope.names,∀y,(y,NameKind.free)∈scope.names->z.1=y->z.2= .free) (hfp:∀b∈fp,FE X pins H b) (hfo:∀b∈fp,∃o,s.heap.get? b=some o) (hns:h₁.Ns (s.heap.objs.size+1) (λ x=>(([]:List (Str×Value)).reverse).lookup x)) (hk:∀b o,s.heap.get? b=some o->h₁.get? b=some o) (hD:h₁.get? s.heap.objs.size=some {cls:= .type "list",data:= .seq #[]}):
  Inv (JG X scope cl (s.heap.objs.size+1) s H fp N') [] (ON k caps σ) (upd H s.heap.objs.size (.lst [])) {s with heap:=h₁,toks:=tk}:=by
 have hsub:=Dq co.clos (by simp);have hfree:H s.heap.objs.size=none:=I.hok.fresh (Nat.le_refl _);have amP:∀x c,cl.lookup x=some c->c<s.heap.objs.size:=λ x c e=>by obtain ⟨v,o,ho,_⟩:=I.cell x c (hsub x c e);exact Heap.lt_size ho
 refine ⟨⟨I.ok.mod,co.kind,I.ok.glob,I.ok.blt,Nat.le_succ _,λ x y c e1 e2=>I.ok.inj x y c (hsub x c e1) (hsub y c e2),λ x hx=>?_,λ x c hf=>absurd hf (by exact Bool.false_ne_true),I.ok.hd,I.ok.frames,.inl rfl,λ b hb=>?_,I.bs,Nat.le_trans I.ok.bsz I.sz,λ b o e hb=>?_,λ b hb hs=>?_,I.stack,I.Bl⟩,rfl,I.bare,Un.laid hk (Nat.le_refl _) hfree,⟨_,hns,λ i y v h1 h2 h3=>?_⟩,λ x c e=>?_,?_,λ x c e=>?_,λ p hp=>absurd (show p∈([]:List (Addr×Obj))++[] from hp) (by simp),I.hok.laid hk (Nat.le_refl _) ⟨Nat.zero_le _,[],0,.nil,hD⟩,?_⟩
 ·exact Option.isSome_iff_exists.mp (ye co.clos x (wO co.cell hx))
 ·obtain ⟨o,ho⟩:=hfo b hb;refine ⟨Nat.ne_of_lt (Nat.lt_succ_of_lt (Heap.lt_size ho)),λ x c e=>(hfp b hb).2.2.2.2.1 x c (hsub x c e)⟩
 ·rcases (hfp b hb).2.2.2.1 with z|z
  ·exact I.ok.ZQ b o e z
  ·exact absurd (Heap.lt_size (I.ok.bs b o e).1) (Nat.not_lt.mpr z)
 ·rcases List.mem_cons.mp (I.Mi b hs) with z|z
  ·exact (hfp b hb).2.1 z
  ·exact (hfp b hb).2.2.1 z
 ·-- what it sees
  by_cases hi:i<k
  ·unfold ON at h2;rw[List.getElem?_append_left (by simpa using hi),List.getElem?_replicate,if_pos hi] at h2;cases h2
  ·unfold ON at h2;rw[List.getElem?_append_right (by simpa using hi),List.length_replicate,List.getElem?_map] at h2;cases q:caps[i- k]? with
   |none=>rw[q] at h2;cases h2
   |some c=>
    rw[q] at h2;simp only[Option.map_some,Option.some.injEq] at h2;obtain ⟨g1,g2,g3,g4⟩:=co.cap (i- k) c y q (by rw[Nat.add_sub_cancel' (Nat.le_of_not_lt hi)];exact h1);obtain ⟨m,hn,hl⟩:=I.loc;have hσ:σ[c]? =some (some v):=by
     cases z:σ[c]? with
     |none=>rw[z] at h2;cases h2
     |some w=>rw[z] at h2;simp only[Option.join_some] at h2;rw[h2]
    obtain ⟨u,r,lk⟩:=hl c y v g1 hσ g2;refine ⟨u,r,.inr ⟨wQ (λ z hz e=>hfr z hz y g4 e) g4,?_⟩⟩;rcases lk with ⟨z,_⟩|⟨_,c',e,hc⟩
    ·exact absurd z g3
    ·obtain ⟨c2,e2⟩:=Option.isSome_iff_exists.mp (ye co.clos y g4);have:c2=c':=by have:=hsub y c2 e2;rw[e] at this;exact (Option.some.inj this).symm
     subst this;obtain ⟨o,ho,hd⟩:=hc;exact ⟨c2,e2,o,hk _ _ ho,hd⟩
 ·obtain ⟨v,o,ho,hd⟩:=I.cell x c (hsub x c e);exact ⟨v,o,hk _ _ ho,hd⟩
 ·show upd H s.heap.objs.size (.lst []) (s.heap.objs.size+1)=none;rw[aE (Nat.succ_ne_self _)];exact I.hok.fresh (Nat.le_succ _)
 ·rw[aE (Nat.ne_of_lt (amP x c e))];exact I.mT x c (hsub x c e)
 ·simp[ON,JG,co.len]
def GK{pins:List (Addr×Obj)}{σ:St}{H:Hp}{s:Shared}{Γ:Sg}{cp:Pos}{use:Option (Value->Sem Unit)}{Q':Value->Shared->Prop}{Wk:List M->Prop}(ht:tm=true->ct.tm=true)(hc:X.calm=true)(hi:PID X ct tg iter fi)(co:zL X scope cl k caps N')(hfr:∀z∈scope.names,∀y,(y,NameKind.free)∈scope.names->z.1=y->z.2= .free) (hg:∀C s₀ H₀ ex,PGD (JG X scope cl C s₀ H₀ ex N') ct tg t) (hp:∀C s₀ H₀ ex,PTs (JG X scope cl C s₀ H₀ ex N') ct ifs p) (he:∀C s₀ H₀ ex,PM (JG X scope cl C s₀ H₀ ex N') ct elt fe) (hf:∀Γ x Γ1 σ H H₀,t x (rH tm k caps Γ)=some Γ1->J X.K ct H₀ Γ1 σ H->J X.K ct H₀ (rH tm k caps Γ) σ H) (hs:∀x,foldedSetIterable iter X.env x=pure x) (I:Inv X pins σ H s) (j:Jx X ct Γ σ H) (h:Ok X ct σ H (rz tm fi k caps t p fe Γ) Wk) (fin:∀(acc C:Addr) (av:List V) (ys:List M) (T:Fp) (H1:Hp) (s4:Shared) (m:Str->Option Value),Inv X pins σ H1 s4->az H H1->H acc=none->H1 acc=some (.lst av)->ez X.K ct H1 ys av T->(∀b,T b->H b=none/\b≠acc/\H1 b≠none)->Wk ys->s4.heap.Ns C m->H1 C=none->C≠X.env.locals->X.s₀.heap.objs.size<=C->(∀x c,X.env.cells.lookup x=some c->c≠C)->(∀p∈X.pn++pins,p.1≠C)->compPost (model X.prog X.w) X.A X.xe use Q' (.ref acc) C (.ok .next) s4):
  wpAny (model X.prog X.w) X.A (comprehension (.ListComp elt [⟨tg,iter,ifs,0⟩] scope pos) scope X.env cp (newList []) false (eval iter X.env) use) Q' X.xe s:=by
 refine wpAny_comprehension_free (use:=use) rfl hs (OB co.clos) co.kind co.names ?_;have hw:iOf X ct fi σ H (λ J H2=>∃xs ys,az H H2/\Yd X.K ct J xs H2/\xs.length<1000000/\mF (Xs t p fe (rH tm k caps Γ)) xs= .ok ys/\Wk ys):=by
  refine ⟨Γ,j,h.bnd λ xs _ q J H2 s2 it=>?_⟩;split at q
  ·rename_i hl;cases z:mF (Xs t p fe (rH tm k caps Γ)) xs with
   |ok ys=>rw[z] at q;exact ⟨xs,ys,s2,it,hl,z,q⟩
   |err c=>exact (Lr (λ _ _=>aja) xs c z).elim
   |bad=>rw[z] at q;exact q.elim
  ·exact q.elim
 refine wpAny_mono (hi pins s σ H _ I hw) (λ v s1 h1=>wpAny_mono h1 (λ itv s2 h2=>?_) λ _ _ e=>e) λ _ _ e=>e;obtain ⟨it,fp,tn,J,H2,rfl,I2,T,st,fok,xs,ys,sm,⟨Pd,pd0,pdk,apK,apJ⟩,hlx,hys,W⟩:=h2;refine wpAny_newObj_type (wpAny_newFunctionEnv co.cell (by intro y hy;simp at hy) (λ h₁ aiZ afg=>?_) co.kind);dsimp only at aiZ afg ⊢;have hC:(s2.heap.push {cls:= .type "list",dict:=none,data:= .seq ([]:List Value).toArray}).objs.size=s2.heap.objs.size+1:=Heap.size_push ..;rw[hC] at aiZ afg ⊢;have hk:∀b o,s2.heap.get? b=some o->h₁.get? b=some o:=λ b o e=>afg.extBut b o (Nat.ne_of_lt (Nat.lt_succ_of_lt (Heap.lt_size e))) (Heap.get?_push_of_some _ (Heap.get?_push_of_some _ e));have hD:h₁.get? s2.heap.objs.size=some {cls:= .type "list",data:= .seq #[]}:=afg.extBut _ _ (Nat.ne_of_lt (Nat.lt_succ_self _)) (Heap.get?_push_of_some _ (Heap.get?_push_size _ rfl));have hfo:∀b∈fp,∃o,s2.heap.get? b=some o:=λ b hb=>let ⟨o,ho,_⟩:=T.obj 0 _ st b hb;⟨o,ho⟩
 have I4:=afa (tk:=s2.toks+([]:List (Str×Value)).length) I2 co hfr fok hfo aiZ hk hD;have j2:=j.mono sm;let Xb:=JG X scope cl (s2.heap.objs.size+1) s2 H2 fp N'
 have N8:H2 s2.heap.objs.size=none:=I2.hok.fresh (Nat.le_refl _);have aau:az H2 (upd H2 s2.heap.objs.size (.lst [])):=bh N8 _;have tch:∀{σ1:St} {Ha Hb:Hp},L4.J X.K ct H2 (rH tm k caps Γ) σ1 Ha->aZ ct.f.cb Ha Hb->az H2 Hb->L4.J X.K ct H2 (rH tm k caps Γ) σ1 Hb:=λ j kp sm=>j.akX abJ kp (λ b o q _=>sm b o q) (λ b q=>sm.free q) (j2.lL.trans sm) (j2.lB.trans sm);have st4:tn 0 h₁:=T.keep 0 _ _ st λ b hb o e=>hk b o e;have aqB:∀b∈fp,b≠s2.heap.objs.size:=λ b hb=>let ⟨o,ho⟩:=hfo b hb;Nat.ne_of_lt (Heap.lt_size ho)
 have fpb:∀{H':Hp},(∀b∈fp,H' b=none)->∀b∈fp,FE Xb [] H' b:=λ hn b hb=>by obtain ⟨o,ho⟩:=hfo b hb;refine ⟨hn b hb,Nat.ne_of_lt (Nat.lt_succ_of_lt (Heap.lt_size ho)),I4.ok.aa8 b hb,.inl hb,λ x c e=>(I4.ok.exf b hb).2 x c e,λ p hp=>absurd (show p∈([]:List (Addr×Obj))++[] from hp) (by simp)⟩
 have loop:codeAny (model X.prog X.w) X.A (.compLoop (.ListComp elt [⟨tg,iter,ifs,0⟩] scope pos) 0 (.ref it) (.ref s2.heap.objs.size) (compEnvC scope cl (s2.heap.objs.size+1) X.env))
   (compPost (model X.prog X.w) X.A X.xe use Q' (.ref s2.heap.objs.size) (s2.heap.objs.size+1)) {s2 with heap:=h₁,toks:=s2.toks+([]:List (Str×Value)).length}:=by
  refine Jf (λ n s'=>∃(i:Nat) (σ1:St) (H1:Hp) (av:List V) (ad rest:List M) (T:Fp),n=xs.length- i/\i<=xs.length/\Inv Xb [] σ1 H1 s'/\L4.J X.K ct H2 (rH tm k caps Γ) σ1 H1/\tn i s'.heap/\(∀b∈fp,H1 b=none)/\az H2 H1/\H1 s2.heap.objs.size=some (.lst av)/\ez X.K ct H1 ad av T/\(∀b,T b->H2 b=none/\b≠s2.heap.objs.size/\H1 b≠none)/\av.length<=i/\mF (Xs t p fe (rH tm k caps Γ)) (xs.drop i)= .ok rest/\ad++rest=ys) ?_ xs.length ⟨0,_,_,[],[],ys,λ _=>False,rfl,Nat.zero_le _,I4,tch (ama j2 ht) (az.keep aau) aau,st4,λ b hb=>by rw[aE (aqB b hb)];exact (fok b hb).1,aau,aG,by simp only[ez],λ _ z=>z.elim,Nat.le_refl _,hys,rfl⟩
  rintro n s3 ⟨i,σ1,H1,av,ad,rest,Tf,hn,hil,I3,j3,st3,fr3,k3,hacc,YN,hT,hal,hrest,hall⟩
  have pd1:=pdk _ _ pd0 (az.keep k3) j3.lL j3.lB;by_cases hlt:i<xs.length
  ·-- one more item
   have hd:xs[i]? =some xs[i]:=List.getElem?_eq_getElem hlt;obtain ⟨go,yld⟩:=apK i _ H1 pd1 hd;rw[drop_one hd] at hrest;obtain ⟨o,rest',ho,hr',hro⟩:=OA hrest;refine wpAny_mono (T.item Xb rfl rfl rfl hc i [] s3 σ1 H1 (λ _ _=>False) I3 (fpb fr3) st3 go) (λ r s4 ⟨u,hr,h4⟩=>?_) λ _ _ e=>e;subst hr;refine wpAny_mono h4 (λ _ s5 ⟨x,H5,I5,r5,y5,st5,fr5⟩=>?_) λ _ _ e=>e;obtain ⟨sm5,tx⟩:=yld x H5 y5;replace j3:=j3.mono sm5;replace hacc:=sm5 _ _ hacc;replace YN:=YN.frame (az.keep sm5) (λ b o _ q=>sm5 b o q);replace hT:∀b,Tf b->H2 b=none/\b≠s2.heap.objs.size/\H5 b≠none:=λ b z=>⟨(hT b z).1,(hT b z).2.1,λ q=>(hT b z).2.2 (sm5.free q)⟩;replace k3:=k3.trans sm5;have I5':=I5.pinned (fpb fr5) (T.obj _ _ st5);unfold Xs at ho;cases e1:t xs[i] (rH tm k caps Γ) with
   |none=>rw[e1] at ho;cases ho
   |some Γ1=>
    rw[e1] at ho;dsimp only at ho;refine wpAny_mono (hg _ s2 H2 fp _ s5 σ1 H5 x u (λ σ2 H'=>H'=H5/\L4.J X.K ct H2 Γ1 σ2 H5) I5' r5 ⟨_,_,Γ1,j3,tx,e1,λ σ2 j6=>⟨rfl,j6⟩⟩) (λ _ s6 ⟨σ2,H6,I6,e6,j6⟩=>?_) λ _ _ e=>e;subst e6;have tnk:∀{σ7:St} {H7:Hp} {s7:Shared},Inv Xb ([]++B6 fp s5.heap) σ7 H7 s7->tn (i+1) s7.heap/\∀b∈fp,H7 b=none:=λ{σ7 H7 s7} I7=>by refine ⟨T.keep _ _ _ st5 λ b hb o e=>(I7.pin (b,o) (List.mem_append_right _ (List.mem_append_right _ (qC hb e)))).1,λ b hb=>?_⟩;obtain ⟨o,e,d⟩:=T.obj _ _ st5 b hb;exact (I7.pin (b,o) (List.mem_append_right _ (List.mem_append_right _ (qC hb e)))).2.1
    cases ep:p Γ1 with
    |bad=>rw[ep] at ho;cases ho
    |err c=>rw[ep] at ho;cases ho
    |ok c=>
     refine wpAny_mono (hp _ s2 H2 fp _ s6 σ2 H6 (λ b H'=>b=c/\az H6 H') I6 ⟨Γ1,j6,by rw[ep];exact λ H' s=>⟨rfl,s⟩⟩) (λ b s7 ⟨H7,I7,eb,Uq⟩=>?_) λ _ _ e=>e;subst eb;have j7:=j6.mono Uq;cases b with
     |false=>rw[ep] at ho;dsimp only at ho;cases ho;have aqg:rest=rest':=hro;rw[aqg] at hall;obtain ⟨tn7,fr7⟩:=tnk I7;rw[if_neg Bool.false_ne_true];exact ⟨xs.length-(i+1),by omega,i+1,σ2,H7,av,ad,rest',Tf,rfl,hlt,I7.rS,hf Γ _ Γ1 σ2 H7 H2 e1 j7,tn7,fr7,k3.trans Uq,Uq _ _ hacc,YN.frame (az.keep Uq) (λ b o _ q=>Uq b o q),λ b z=>⟨(hT b z).1,(hT b z).2.1,λ q=>(hT b z).2.2 (Uq.free q)⟩,Nat.le_succ_of_le hal,hr',hall⟩
     |true=>
      rw[ep] at ho;dsimp only at ho;rw[if_pos rfl];cases ee:fe Γ1 with
      |bad=>rw[ee] at ho;cases ho
      |err c=>rw[ee] at ho;cases ho
      |ok d=>
       rw[ee] at ho;dsimp only at ho;cases ho;subst hro;refine wpAny_mono (he _ s2 H2 fp _ s7 σ2 H7 (λ v H'=>∃S,az H7 H'/\Ow X.K ct H' d v S/\(∀b,S b->H7 b=none)/\∀b,S b->H' b≠none) I7 ⟨Γ1,j7,by rw[ee];exact λ v H' S s t n k=>⟨S,s,t,n,k⟩⟩) (λ yv s8 ⟨y,H8,I8,r8,S8,s8',t8,n8,h8⟩=>?_) λ _ _ e=>e;have ags:H8 s2.heap.objs.size=some (.lst av):=s8' _ _ (Uq _ _ hacc);refine wpAny_mono (Gh (X:=Xb) _ s8 σ2 H8 (.ref s2.heap.objs.size) [y] (.ref s2.heap.objs.size) [yv] (λ _ H'=>H'=upd H8 s2.heap.objs.size (.lst (av++[y]))) I8 rfl (.cons r8 .nil) ⟨_,av,y,rfl,rfl,ags,Nat.lt_trans (by omega) mW,rfl⟩) (λ _ s9 ⟨_,H9,I9,_,e9⟩=>?_) λ _ _ e=>e;subst e9;obtain ⟨tn9,fr9⟩:=tnk I9;have kp:aZ ct.f.cb H8 (upd H8 s2.heap.objs.size (.lst (av++[y]))):=aZ.lst ags;have k8:az H2 H8:=(k3.trans Uq).trans s8';have j8:=hf Γ _ Γ1 σ2 H8 H2 e1 (j7.mono s8');have sm9:az H2 (upd H8 s2.heap.objs.size (.lst (av++[y]))):=λ b o hb=>by have:b≠s2.heap.objs.size:=fH hb N8;rw[aE this];exact k8 b o hb
       have sne:∀b,S8 b->b≠s2.heap.objs.size:=λ b z=>by
        rintro rfl
        have:=n8 _ z;rw[Uq _ _ hacc] at this;cases this
       have T8:∀b,Tf b->H8 b≠none:=λ b z q=>(hT b z).2.2 (Uq.free (s8'.free q));have dis:∀b,Tf b->¬S8 b:=λ b z w=>(hT b z).2.2 (Uq.free (n8 b w));have up8:∀b,b≠s2.heap.objs.size->upd H8 s2.heap.objs.size (.lst (av++[y])) b=H8 b:=λ b z=>aE z;refine ⟨xs.length-(i+1),by omega,i+1,σ2,_,av++[y],ad++[d],rest',λ b=>Tf b\/S8 b,rfl,hlt,I9.rS,tch j8 kp sm9,tn9,fr9,sm9,aG,?_,λ b z=>?_,?_,hr',?_⟩
       ·have o1:=YN.frame (az.keep (Uq.trans s8')) (λ b o _ q=>(Uq.trans s8') b o q);exact (o1.af5 t8 dis).frame kp λ b o z q=>by rw[up8 b (z.elim (λ z=>(hT b z).2.1) (sne b))];exact q
       ·rcases z with z|z
        ·exact ⟨(hT b z).1,(hT b z).2.1,by rw[up8 b (hT b z).2.1];exact T8 b z⟩
        ·exact ⟨k3.free (Uq.free (n8 b z)),sne b z,by rw[up8 b (sne b z)];exact h8 b z⟩
       ·rw[List.length_append,List.length_singleton];omega
       ·rw[<-hall];simp
  ·-- through
   have hie:xs.length<=i:=Nat.le_of_not_lt hlt;refine wpAny_mono (T.done Xb rfl rfl rfl hc i [] s3 σ1 H1 (λ _ _=>False) I3 (fpb fr3) st3 (apJ i H1 pd1 hie)) (λ r s4 ⟨hr,I4'⟩=>?_) λ _ _ e=>e;subst hr;rw[List.drop_eq_nil_of_le hie] at hrest;cases hrest;rw[List.append_nil] at hall;subst hall;obtain ⟨m,hm,_⟩:=I4'.loc;have nC:H1 (s2.heap.objs.size+1)=none:=I4'.free;have un:Un (frs X.stack) fp H2 H1 s2.heap s4.heap:=by have u:=I4'.base;exact ⟨u.keep,u.slot,u.free,u.there,u.tups,u.xS,u.yD⟩
   have IE:Inv X pins σ H1 s4:=I2.Vd (s':=s4) (ch:=fp) I4'.os un I4'.hok I4'.bare λ b hb=>⟨(fok b hb).2.2.2.1,(fok b hb).2.1,(fok b hb).2.2.2.2.1,(fok b hb).2.2.2.2.2⟩;have old:∀{b:Addr} {o:Obj},s2.heap.get? b=some o->b≠s2.heap.objs.size+1:=λ e=>Nat.ne_of_lt (Nat.lt_succ_of_lt (Heap.lt_size e));refine fin _ _ av _ Tf H1 s4 m IE (sm.trans k3) (sm.free N8) hacc YN (λ b z=>⟨sm.free (hT b z).1,(hT b z).2.1,(hT b z).2.2⟩) W hm nC (Ne.symm (Nat.ne_of_lt (Nat.lt_succ_of_lt I2.lt))) (Nat.le_succ_of_le I2.sz) (λ x c e=>?_) λ p hp=>old (I2.pin p hp).1;obtain ⟨v,o,ho,_⟩:=I2.cell x c e;exact old ho
 exact codeAny_compStart_list loop (T.self _ 0 _ _ _ st4 loop)
def aju{H H1:Hp}{acc:Addr}{av:List V}{ys:List M}{T:Fp}(ha:H1 acc=some (.lst av))(ta:ez X.K ct H1 ys av T)(hT:∀b,T b->H b=none/\b≠acc/\H1 b≠none):Ow X.K ct H1 (.n ys) (.ref acc) (λ b=>T b\/b=acc):=by simp only[Ow];exact ⟨acc,av,rfl,.inr rfl,ha,ta.wide λ b z=>⟨.inl z,(hT b z).2.1⟩⟩
variable{fd:Sg->Res D}
def aeX(Γ:Sg):rz tm fi k caps t p (mD fd) Γ=(cA tm fi k caps t p fd Γ).bnd λ ds=> .ok (ds.map M.d):=by
 unfold rz cA;cases fi Γ with
 |ok xs=>
  simp only[Res.bw];split
  ·exact Ab xs
  ·rfl
 |err x=>rfl
 |bad=>rfl
def ael(ht:tm=true->ct.tm=true)(hc:X.calm=true)(hi:PID X ct tg iter fi)(co:zL X scope cl k caps N')(hfr:∀z∈scope.names,∀y,(y,NameKind.free)∈scope.names->z.1=y->z.2= .free) (hg:∀C s₀ H₀ ex,PGD (JG X scope cl C s₀ H₀ ex N') ct tg t) (hp:∀C s₀ H₀ ex,PTs (JG X scope cl C s₀ H₀ ex N') ct ifs p) (he:∀C s₀ H₀ ex,PD (JG X scope cl C s₀ H₀ ex N') ct elt fd) (hf:∀Γ x Γ1 σ H H₀,t x (rH tm k caps Γ)=some Γ1->J X.K ct H₀ Γ1 σ H->J X.K ct H₀ (rH tm k caps Γ) σ H) (hs:∀x,foldedSetIterable iter X.env x=pure x:=by intro _;rfl):PL X ct (.ListComp elt [⟨tg,iter,ifs,0⟩] scope pos) (cA tm fi k caps t p fd):=by
 intro pins s σ H Q I ⟨Γ,j,h⟩;rw[eval_ListComp];have h':Ok X ct σ H (rz tm fi k caps t p (mD fd) Γ) λ ms=>∃ds:List D,ms=ds.map M.d/\Wl X ct H Q ds:=by
  rw[aeX];cases z:cA tm fi k caps t p fd Γ with
  |ok ms=>rw[z] at h;exact ⟨ms,rfl,h⟩
  |err x=>rw[z] at h;exact h
  |bad=>rw[z] at h;exact h
 refine GK ht hc hi co hfr hg hp (λ C s₀ H₀ ex=>Zg (he C s₀ H₀ ex)) hf hs I j h' λ acc C av ys T H1 s4 m IE sm na ha ta hT W hm nC nl hz ncl npn=>?_;obtain ⟨ds,rfl,W⟩:=W;refine ⟨m,hm,λ h' hsb=>?_⟩;have I5:Inv X pins σ H1 {s4 with heap:=h',toks:=s4.toks}:=IE.turned (h':=h') (t':=s4.toks) (it:=C) (λ b o hb e=>(hsb.2 b hb).trans e) nC nl (.inr hz) ncl npn;exact ⟨.ref acc,H1,I5,rfl,W acc av H1 sm na ha ta.agy⟩
end
section
variable{X:Cx}{ct:Ct}{c:Cf}{elt iter tg:Expr}{ifs:List Expr}{scope:Scope}{cl:List (Str×Addr)}{pos:Pos}{k:Nat}{caps:List Nat}{N':List Str}{fi:Sg->Res (List D)}{t:Tg}{p:Sg->Res Bool}{fe:Sg->Res M}{fd:Sg->Res D}{tm:Bool}
def XH(i:Nat){x:Str}{px ps:Pos}{pins:List (Addr×Obj)}{σ:St}{H:Hp}{s:Shared}{Γ:Sg}{E:Ends}{Wk:List M->Prop}(ht:tm=true->ct.tm=true)(hN:X.N.Nodup)(hc:X.calm=true)(hi:PID X ct tg iter fi)(co:zL X scope cl k caps N')(hfr:∀z∈scope.names,∀y,(y,NameKind.free)∈scope.names->z.1=y->z.2= .free)
  (hg:∀C s₀ H₀ ex,PGD (JG X scope cl C s₀ H₀ ex N') ct tg t) (hp:∀C s₀ H₀ ex,PTs (JG X scope cl C s₀ H₀ ex N') ct ifs p) (he:∀C s₀ H₀ ex,PM (JG X scope cl C s₀ H₀ ex N') ct elt fe)
  (hf:∀Γ x Γ1 σ H H₀,t x (rH tm k caps Γ)=some Γ1->J X.K ct H₀ Γ1 σ H->J X.K ct H₀ (rH tm k caps Γ) σ H) (hs:∀x,foldedSetIterable iter X.env x=pure x)
  (hsw:swapsWith (.ListComp elt [⟨tg,iter,ifs,0⟩] scope pos) (some (.Name x px)) ps.line X.env=pure true) (hx:X.N[i]? =some x) (hl:X.env.scope.names.lookup x=some .local)
  (I:Inv X pins σ H s) (j:Jx X ct Γ σ H) (h:Ok X ct σ H (rz tm fi k caps t p fe Γ) Wk)
  (fin:∀(acc:Addr) (ys:List M) (av:List V) (T S:Fp) (H1:Hp) (s':Shared),Inv X pins (σ.set i (some (.ref acc))) H1 s'->az H H1->H1 acc=some (.lst av)->ez X.K ct H1 ys av T->Ow X.K ct H1 (.n ys) (.ref acc) S->H acc=none->(∀b,S b->H b=none)->(∀b,S b->H1 b≠none)->Wk ys->SP X pins E .next s'):
  wpAny (model X.prog X.w) X.A (exec (.Assign [.Name x px] (.ListComp elt [⟨tg,iter,ifs,0⟩] scope pos) ps) X.env) (SP X pins E) X.xe s:=by
 rw[exec_Assign_Name_used _ _ _ _ hsw]
 refine wpAny_bind (wpAny_standAt (wpAny_bind ?_))
 show wpAny _ X.A (do let _ <-comprehension (.ListComp elt [⟨tg,iter,ifs,0⟩] scope pos) scope X.env _ (newList []) false (eval iter X.env) (some (assign (.Name x px) X.env))) _ _ s
 refine wpAny_bind (wpAny_mono (GK (Q':=λ _ s'=>SP X pins E .next s') (Wk:=Wk) ht hc hi co hfr hg hp he hf hs I j h
  λ acc C av ys T H1 s4 m IE sm na ha ta hT W hm nC nl hz ncl npn=>?_) (λ _ s' hq=>wpAny_pure (wpAny_pure hq)) λ _ _ e=>e)
 show wpAny _ X.A (assign (.Name x px) X.env (.ref acc)) _ _ _
 refine wpAny_assign_Name (F0 IE hN hx (.inl hl) (v:= .ref acc) rfl (λ s5 I5 ⟨a,hsb,hor⟩=>?_) (.inr hl))
 have aC:C≠a:=by
  rcases hor with rfl|hor
  ·exact nl
  ·exact Ne.symm (ncl x a hor)
 refine ⟨m,hm.sameBut hsb aC,λ h' hs'=>?_⟩
 have I6:Inv X pins (σ.set i (some (.ref acc))) H1 {s5 with heap:=h',toks:=s5.toks}:=I5.turned (h':=h') (t':=s5.toks) (it:=C) (λ b o hb e=>(hs'.2 b hb).trans e) nC nl (.inr hz) ncl npn
 exact fin acc ys av T _ H1 _ I6 sm ha ta (aju ha ta hT) na (λ b z=>z.elim (λ z=>(hT b z).1) λ z=>z▸na) (λ b z=>z.elim (λ z=>(hT b z).2.2) λ z q=>by subst z;rw[ha] at q;cases q) W
def TgK(k:Nat)(t:Tg):Prop:=∀x Γ Γ1,t x Γ=some Γ1->Γ1.length=Γ.length/\∀i,k<=i->Γ1[i]? =Γ[i]?
def afT(k:Nat)(t:Vj):Prop:=∀x Γ Γ1,t x Γ=some Γ1->Γ1.length=Γ.length/\∀i,k<=i->Γ1[i]? =Γ[i]?
def je{k i:Nat}(h:i<k):TgK k (aD i):=λ x Γ Γ1 e=>by cases e;exact ⟨by simp,λ j hj=>by rw[List.getElem?_set_ne (by omega)]⟩
def ahz{k:Nat}:afT k kD:=λ x Γ Γ1 e=>by
 cases x with
 |nil=>cases e;exact ⟨rfl,λ _ _=>rfl⟩
 |cons a r=>cases e
def Uk{k:Nat}{t:Tg}{u:Vj}(h1:TgK k t)(h2:afT k u):afT k (bg t u):=λ x Γ Γ1 e=>by
 cases x with
 |nil=>cases e
 |cons d r=>simp only[bg,Option.bind_eq_some_iff] at e;obtain ⟨Γ2,e1,e2⟩:=e;obtain ⟨a1,a2⟩:=h1 _ _ _ e1;obtain ⟨b1,b2⟩:=h2 _ _ _ e2;exact ⟨b1.trans a1,λ i hi=>(b2 i hi).trans (a2 i hi)⟩
def ahy{k n:Nat}{t:Vj}(h:afT k t):TgK k (jy n t):=λ x Γ Γ1 e=>by
 cases x with
 |tup ds=>
  simp only[jy] at e;split at e
  ·exact h _ _ _ e
  ·cases e
 |_=>cases e
def FU{K:W.Frag}(hk:TgK k t):∀Γ x Γ1 σ H H₀,t x (rH tm k caps Γ)=some Γ1->J K ct H₀ Γ1 σ H->J K ct H₀ (rH tm k caps Γ) σ H:=λ Γ x Γ1 σ H H₀ e j=>by
 obtain ⟨h1,h2⟩:=hk _ _ _ e;refine j.weak h1 λ i=>?_;by_cases hik:i<k
 ·left;unfold rH;rw[List.getElem?_append_left (by simpa using hik),List.getElem?_replicate,if_pos hik]
 ·exact .inr (h2 i (Nat.le_of_not_lt hik)).symm
def U7(hfb:(scope.names.all λ z=>scope.names.all λ y=>!(y.2== .free&&z.1==y.1)||z.2== .free)=true):∀z∈scope.names,∀y,(y,NameKind.free)∈scope.names->z.1=y->z.2= .free:=λ z hz y hy e=>by have q:=List.all_eq_true.mp (List.all_eq_true.mp hfb z hz) _ hy;simp only[e,BEq.rfl,Bool.and_self,Bool.not_true,Bool.false_or] at q;exact eq_of_beq q
def iO(ht:tm=true->ct.tm=true)(hc:X.calm=true)(hi:WID X ct tg iter fi)(co:zL X scope cl k caps N')(hfb:(scope.names.all λ z=>scope.names.all λ y=>!(y.2== .free&&z.1==y.1)||z.2== .free)=true)(hg:∀C s₀ H₀ ex,WGD (JG X scope cl C s₀ H₀ ex N') ct tg t)(hp:∀C s₀ H₀ ex,WTs (JG X scope cl C s₀ H₀ ex N') ct ifs p)(he:∀C s₀ H₀ ex,WD (JG X scope cl C s₀ H₀ ex N') ct elt fd)(hk:TgK k t)(hs:∀x,foldedSetIterable iter X.env x=pure x:=by intro _;rfl):WL X ct (.ListComp elt [⟨tg,iter,ifs,0⟩] scope pos) (cA tm fi k caps t p fd):=by have hi:=hi.out;have hg:=λ C s₀ H₀ ex=>(hg C s₀ H₀ ex).out;have hp:=λ C s₀ H₀ ex=>(hp C s₀ H₀ ex).out;have he:=λ C s₀ H₀ ex=>(he C s₀ H₀ ex).out;exact ⟨ael ht hc hi co (U7 hfb) hg hp he (FU hk) hs⟩
def VC(i:Nat){x:Str}{px ps:Pos}(hN:X.N.Nodup)(hc:X.calm=true)(hi:∀B,WID X (c.at' B) tg iter fi)(co:zL X scope cl k caps N')(hfb:(scope.names.all λ z=>scope.names.all λ y=>!(y.2== .free&&z.1==y.1)||z.2== .free)=true)(hg:∀B C s₀ H₀ ex,WGD (JG X scope cl C s₀ H₀ ex N') (c.at' B) tg t)(hp:∀B C s₀ H₀ ex,WTs (JG X scope cl C s₀ H₀ ex N') (c.at' B) ifs p)(he:∀B C s₀ H₀ ex,WM (JG X scope cl C s₀ H₀ ex N') (c.at' B) elt fe)(hk:TgK k t)(hs:∀x,foldedSetIterable iter X.env x=pure x:=by intro _;rfl)(hsw:swapsWith (.ListComp elt [⟨tg,iter,ifs,0⟩] scope pos) (some (.Name x px)) ps.line X.env=pure true:=by rfl)(hx:X.N[i]? =some x:=by rfl)(hl:X.env.scope.names.lookup x=some .local:=by rfl):DL X c (.Assign [.Name x px] (.ListComp elt [⟨tg,iter,ifs,0⟩] scope pos) ps) (rj i (mN (rz tm fi k caps t p fe))):=by
 have hi:=λ B=>(hi B).out;have hg:=λ B C s₀ H₀ ex=>(hg B C s₀ H₀ ex).out;have hp:=λ B C s₀ H₀ ex=>(hp B C s₀ H₀ ex).out;have he:=λ B C s₀ H₀ ex=>(he B C s₀ H₀ ex).out;refine ⟨?_⟩;intro pins s σ H E I ⟨Γ,j,h⟩;have h':Ok X (c.at' H) σ H (rz tm fi k caps t p fe Γ) λ ms=>Bp (.n ms)=true/\Fn X c H (.nx (Γ.set i (.own (.n ms)))) E:=by
  unfold rj mN at h;cases z:rz tm fi k caps t p fe Γ with
  |ok ms=>
   rw[z] at h;simp only[Res.bw,pX] at h;split at h
   ·rename_i n;exact ⟨n,h⟩
   ·exact h.elim
  |err x=>rw[z] at h;exact λ e s' r=>h σ H e s' (aZ.refl H) j r
  |bad=>rw[z] at h;exact h.elim
 refine XH i (λ _=>rfl) hN hc (hi H) co (U7 hfb) (hg H) (hp H) (he H) (FU hk) hs hsw hx hl I j.lift h' λ acc ys av T S H1 s' I' sm _ _ o na new here W=>?_;exact ⟨_,H1,I',W.2 _ H1 (az.keep sm) (j.setM sm rfl (o.down W.1) new here)⟩
end
noncomputable abbrev OM:List Value:=[.type "ValueError",.type "Exception",.type "BaseException",.type "object"]
structure XC(K:W.Frag)(mg:Str->Option Value)(cb:Cb)(x:Str)(n:String)(C:Addr):Prop where
 bnd:mg x=some (.ref C)
 exc:W.excIn K C OM "ValueError.__new__"=true
 at':cb.exc n=some C
def ai6{K:W.Frag}{h:Heap}{C:Addr}{newId:String}(X:K.In h)(q:W.excIn K C OM newId=true):
  ∃bm N nm qn bs hdct sn sub ab col dd k0 k1 k2 k3 k5 mN,h.get? C=some (excClassObj nm qn C N bs bm hdct sn sub ab col dd k0 k1 k2 k3 k5 newId)/\h.Ns N mN/\mN "__init__"=none/\OwnTail h OM bm:=by
 unfold W.excIn at q;split at q;case h_2=>cases q
 case h_1 dd cd sl lk=>
  split at q;case h_2=>cases q
  case h_1 C' bm k0 k1 k2 k3 n k5 em es=>simp only[Bool.and_eq_true,beq_iff_eq,Bool.not_eq_true'] at q;obtain ⟨⟨⟨⟨⟨e1,e2⟩,e3⟩,e4⟩,e5⟩,e6⟩:=q;subst e1 e2;obtain ⟨nm,bs,mr,ns,qn,hd,sn,sub,ab,col,dl⟩:=cd;simp only at em e3 e5 e6;subst em e3;obtain ⟨sl⟩:=sl;simp only at es;subst es;exact ⟨bm,ns,nm,qn,bs,hd,sn,sub,ab,col,dd,k0,k1,k2,k3,k5,_,X _ _ lk,.of_isNs (W.isNs_of_in X e5),W.nsMap_none_of_in X e5 e6,W.tail_of_in X e4⟩
section
variable{X:Cx}{cf:Cf}{e₀:Expr}{rest:List Expr}{fa:Sg->Res (List D)}{x:Str}{c:String}{C:Addr}{np cpos pos:Pos}
def nB(g:Good X)(M:XC X.K X.mg cf.cb x c C)(ha:GW X cf.z (e₀::rest) fa)(hg:Gl X x:=by rfl)(hd:(x==("__debug__":Str))=false:=by decide)(he:starEach (e₀::rest) X.env=(false,eval e₀ X.env)::starEach rest X.env:=by rfl)(hpl:(backTo cpos (starEach rest X.env)).any (·.1)=false:=by rfl):DL X cf (.Raise (some (.Call (.Name x np) (e₀::rest) [] cpos)) none pos) (rZ c fa):=by
 have ha:=ha.out;refine ⟨?_⟩;intro pins s σ H E I ⟨Γ,j,h⟩;obtain ⟨tl,N,nm,q,bs,hdct,sn,sub,ab,col,dd,k0,k1,k2,k3,k5,mN,hC,hN,hni,T⟩:=ai6 I.ok.mod.kin M.exc;refine wpAny_Raise_call_subT (C:=C) (nm:=nm) (q:=q) (N:=N) (bs:=bs) (bm:=tl) (hdct:=hdct) (sn:=sn) (sub:=sub) (ab:=ab) (col:=col) (dd:=dd) (k0:=k0) (k1:=k1) (k2:=k2) (k3:=k3) (k5:=k5)
  PySem.F.excBase_ValueError (mN:=mN) (T.hasType PySem.F.excBase_ValueError.hasBase) (I.ok.hd g.calm) (by rw[he];show (false||(backTo cpos (starEach rest X.env)).any (·.1))=false;rw[hpl];rfl) hni (xB I hg M.bnd ⟨rfl,?_⟩ hd)
 have h':OX X cf.z fa σ H (λ vs H1=>az H H1/\vs.length<=1000/\Fn X cf H (.err c Γ) E):=⟨Γ,j,Fn.ok j h λ ds _ q vs H1 s1 t1=>by
   split at q
   ·rename_i hl;exact ⟨s1,by rw[<-t1.length];exact hl,q⟩
   ·exact q.elim⟩
 have hp:=ha cpos pins s σ H _ I h';rw[he] at hp ⊢;refine Calls.evalArgs_plain (wpAny_mono hp (λ us s1 ⟨vs,H1,I1,r,sm,hl,q⟩=>⟨rfl,?_,I1.bk _ _ hC,hN.keeps I1.bk,T.keeps I1.bk,λ h2 e hm=>?_⟩) λ _ _ y=>y)
 ·show us.length<=sizeLine;rw[<-r.length];exact Nat.le_of_lt (tR hl)
 ·exact q σ H1 _ _ (az.keep sm) (j.mono sm) ⟨pins,H1,s1,C,I1,az.refl H1,M.at',.inl ⟨e,us,h2,rfl,rfl,hm⟩⟩
end
section
variable{X:Cx}{ct:Ct}{pins:List (Addr×Obj)}{σ:St}{H:Hp}{s:Shared}
def BA{M:Model}{A:Around}{E:Value->Shared->Prop}{i:Nat}{n:Str}{pos:Pos}{Q:Unit->Shared->Prop}(I:Inv X pins σ H s)(hN:X.N.Nodup)(hi:X.N[i]? =some n)(hl:X.env.kindOf n=some .local)
  (h:∀s',Inv X pins (σ.set i none) H s'->Q () s'):wpAny M A (do bindName X.env n .none;unbindBehindTheSuite X.env n pos) Q E s:=by
 obtain ⟨m,hn,hlk⟩:=id I.loc
 have hcls:(X.env.scope.kind== .class||(X.env.scope.kind== .module&&X.env.locals !=X.env.globals))=false:=by rw[I.ok.kind];rfl
 refine wpAny_nameGoes_keeps hl hn hcls λ h' v hn' hs=>h _ ?_
 obtain ⟨oL,_,_,hoL,_⟩:=id hn
 have old:∀{b:Addr} {o:Obj},X.s₀.heap.get? b=some o->b≠X.env.locals:=λ e=>Nat.ne_of_lt (Nat.lt_of_lt_of_le (Heap.lt_size e) I.ok.above)
 have cne:=I.cne
 refine ⟨I.ok,I.os,I.bare,⟨λ b o e n hb hx=>(hs.2 b (old e)).trans (I.base.keep b o e n hb hx),λ b o e n hb hx=>?_,I.base.free,λ b o e hx=>?_,I.base.tups,I.base.xS,I.base.yD⟩,
  ⟨_,hn',λ k y v' e1 e2 e3=>?_⟩,λ y c e=>?_,I.free,I.mT,λ p hp=>?_,λ b ob e=>?_,by simpa using I.len⟩
 ·obtain ⟨sl,e1⟩:=I.base.slot b o e n hb hx
  exact ⟨sl,(hs.2 b (old e)).trans e1⟩
 ·obtain ⟨o',e1⟩:=I.base.there b o e hx
  exact ⟨o',(hs.2 b (old e)).trans e1⟩
 ·by_cases hk:k=i
  ·subst hk
   by_cases hlen:k<σ.length
   ·rw[List.getElem?_set_self hlen] at e2;cases e2
   ·rw[List.getElem?_eq_none (by rw[List.length_set];omega)] at e2;cases e2
  ·rw[List.getElem?_set_ne (Ne.symm hk)] at e2
   obtain ⟨u',r',q⟩:=hlk k y v' e1 e2 e3
   refine ⟨u',r',?_⟩
   rcases q with ⟨kk,e⟩|⟨kk,c,e,z⟩
   ·have:y≠n:=λ e=>hk (Cr hN e1 (e▸hi))
    exact .inl ⟨kk,by simp[this,e]⟩
   ·exact .inr ⟨kk,c,e,z.sameBut hs (cne y c e)⟩
 ·obtain ⟨w',z⟩:=I.cell y c e
  exact ⟨w',z.sameBut hs (cne y c e)⟩
 ·obtain ⟨e,n,ne,nf,d⟩:=I.pin p hp
  exact ⟨(hs.2 p.1 ne).trans e,n,ne,nf,d⟩
 ·refine (I.hok b ob e).stay (λ c w' hc q=>(hs.2 c ?_).trans q) (λ _ q=>q) λ _ _ q=>q
  rintro rfl
  rcases hc with rfl|hc
  ·rw[I.free] at e;cases e
  ·rw[I.free] at hc;cases hc
def Inv.akV{a:Addr}{φ:Heap->Prop}{s1:Shared}(I:Inv X pins σ H s)(ha:H a=none)(old:Inv X pins σ H1 s1)(nw:s1.heap.get? a=none)(new:dM X.prog X.w (upd H a (.ext φ)) s.heap a (.ext φ)):
  Inv X pins σ (upd H a (.ext φ)) s:=by
 have there:∀b o,X.s₀.heap.get? b=some o->b∉X.ex->b≠a:=λ b o e hx z=>by subst z;obtain ⟨o',q⟩:=old.base.there b o e hx;rw[nw] at q;cases q
 have nl:X.env.locals≠a:=λ z=>by obtain ⟨m,⟨o,_,_,ho,_⟩,_⟩:=old.loc;rw[z,nw] at ho;cases ho
 have nc:∀x c,X.env.cells.lookup x=some c->c≠a:=λ x c e z=>by obtain ⟨v,o,ho,_⟩:=old.cell x c e;rw[z,nw] at ho;cases ho
 have np:∀p∈X.pn++pins,p.1≠a:=λ p hp z=>by have:=(old.pin p hp).1;rw[z,nw] at this;cases this
 have ne:∀b u,H b=some u->b≠a:=λ b u e=>fH e ha;refine ⟨I.ok,I.os,I.bare,⟨I.base.keep,I.base.slot,λ b o e n hx=>?_,I.base.there,λ b xs e=>?_,λ b o u e=>?_,λ b ps e=>?_⟩,I.loc,I.cell,?_,λ x c e=>?_,λ p hp=>?_,λ b u e=>?_,I.len⟩
 ·rw[aE (there b o e hx)];exact I.base.free b o e n hx
 ·have q:=I.base.tups b xs e;rw[aE (ne _ _ q)];exact q
 ·have q:=I.base.xS b o u e;rw[aE (ne _ _ q)];exact q
 ·obtain ⟨more,q⟩:=I.base.yD b ps e;exact ⟨more,by rw[aE (ne _ _ q)];exact q⟩
 ·rw[aE nl];exact I.free
 ·rw[aE (nc x c e)];exact I.mT x c e
 ·obtain ⟨h1,h2,h3⟩:=I.pin p hp;exact ⟨h1,by rw[aE (np p hp)];exact h2,h3⟩
 ·by_cases hb:b=a
  ·subst hb;rw[aG] at e;cases e;exact new
  ·rw[aE hb] at e;exact (I.hok b u e).stay (λ _ _ _ q=>q) (λ c q=>by rw[aE (ne _ _ q)];exact q) λ c xs q=>by rw[aE (ne _ _ q)];exact q
end
section
variable{X:Cx}{cf:Cf}
noncomputable abbrev cxT(X:Cx)(pn:List (Addr×Obj))(xe:Value->Shared->Prop):Cx:={X with pn:=pn,xe:=xe}
abbrev cxE(X:Cx)(ev:Value)(pn:List (Addr×Obj)):Cx:={X with A:=X.A.mark (some ev),calm:=false,pn:=pn,xe:=λ _ _=>False}
def apN(ok:X.Ok)(pn:List (Addr×Obj))(xe:Value->Shared->Prop):(cxT X pn xe).Ok:=⟨ok.mod,ok.kind,ok.glob,ok.blt,ok.above,ok.inj,ok.has,ok.cab,ok.hd,ok.frames,ok.stk,ok.exf,ok.bs,ok.bsz,ok.ZQ,ok.aa8,ok.AW,ok.frf⟩
def apO(ok:X.Ok)(ev:Value)(pn:List (Addr×Obj)):(cxE X ev pn).Ok:=⟨ok.mod,ok.kind,ok.glob,ok.blt,ok.above,ok.inj,ok.has,ok.cab,λ z=>absurd z (by exact Bool.false_ne_true),ok.frames,ok.stk,ok.exf,ok.bs,ok.bsz,ok.ZQ,ok.aa8,ok.AW,ok.frf⟩
variable{pins:List (Addr×Obj)}{σ:St}{H:Hp}{s:Shared}
def Inv.toT(I:Inv X pins σ H s)(xe:Value->Shared->Prop):Inv (cxT X (X.pn++pins) xe) [] σ H s:=⟨apN I.ok _ _,I.os,I.bare,I.base,I.loc,I.cell,I.free,I.mT,λ p hp=>I.pin p (by simpa using hp),I.hok,I.len⟩
def Inv.ofT{Uw:List (Addr×Obj)}{xe:Value->Shared->Prop}(ok:X.Ok)(I:Inv (cxT X (X.pn++pins) xe) Uw σ H s):Inv X pins σ H s:=⟨ok,I.os,I.bare,I.base,I.loc,I.cell,I.free,I.mT,λ p hp=>I.pin p (List.mem_append_left _ hp),I.hok,I.len⟩
def Inv.toE(I:Inv X pins σ H s)(ev:Value):Inv (cxE X ev (X.pn++pins)) [] σ H s:=⟨apO I.ok _ _,I.os,I.bare,I.base,I.loc,I.cell,I.free,I.mT,λ p hp=>I.pin p (by simpa using hp),I.hok,I.len⟩
def Inv.ofE{ev:Value}(ok:X.Ok)(I:Inv (cxE X ev (X.pn++pins)) [] σ H s):Inv X pins σ H s:=⟨ok,I.os,I.bare,I.base,I.loc,I.cell,I.free,I.mT,λ p hp=>I.pin p (by simpa using hp),I.hok,I.len⟩
def aad{A:Around}{E:Value->Shared->Prop}{x:Str}{u:Value}{pos:Pos}{Q:Value->Shared->Prop}(I:Inv X pins σ H s)(hg:Gl X x)(hm:X.mg x=some u)(h:Q u s) (hd:(x==("__debug__":Str))=false:=by decide):wpAny (model X.prog X.w) A (eval (.Name x pos) X.env) Q E s:=Calls.Name_function_global I.ok.kind hg (Calls.loadGlobal_global (by rw[I.ok.glob];exact I.mod.glob.keeps I.bk) hm h) hd
def NC{M:Model}{A:Around}{E:Value->Shared->Prop}{base h:Heap}{env:Env}{outer:List Env}{L e:Addr}{cls:Value}{args:List Value}{s:Shared}{Q:Unit->Shared->Prop}(hfr:A.frames=some (env::outer))(hf:env.frame=some L) (hkb:base.StaysIn h) (hl:h.FunFrames base (env::outer)) (hx:Heap.MadeExcOf h s.heap e cls args) (hQ:∀h' t,Heap.HeldW base (env::outer) e cls (.ref t) L h'->s.heap.UpToSlots h'->Q () {s with heap:=h'}):wpAny M A (noteFrame (.ref e) env) Q E s:=by
 obtain ⟨t,he,htn,ht⟩:=hx.there;have nb:base.get? e=none:=by
  cases q:base.get? e with
  |none=>rfl
  |some o=>have:=hkb e o q;rw[hx.new] at this;cases this
 unfold noteFrame;simp only[hf];refine wpAny_bind (wpAny_field he rfl (x:= .none) rfl ?_);rw[if_neg (by simp)];refine wpAny_entryW (a0:= .ref t) hfr (hl.of_keeps λ b o q _=>⟨o,hx.keeps b o q,rfl⟩) hf he (λ b o q=>hx.keeps b o (hkb b o q)) nb rfl (by simp) rfl λ h' hN=>?_;obtain ⟨k1,k2,k3,k4⟩:=hN;exact hQ h' t ⟨k1,nb,k2,k3⟩ k4
def aaj{σ':St}{H':Hp}{c:String}{e:Value}{s':Shared}{E:Value->Shared->Prop}{Q:Unit->Shared->Prop}{xe:Value->Shared->Prop}(g:Good X)(ok:X.Ok)(r:ja (cxT X (X.pn++pins) xe) cf.cb σ' H' c e s') (k:∀(a C:Addr) (B:Heap) (a0:Value) (H1 H2:Hp) (s1:Shared) (h5:Heap),e= .ref a->cf.cb.exc c=some C->az H' H1->az H1 H2->Inv X pins σ' H1 s1->s1.heap.get? a=none->H2 a=none->s'.os=s1.os->AllBare s'.gens->Heap.FlyingW B (X.env::X.outer) a (.ref C) a0 h5->(∀h:Heap,B.StaysIn h->h5.UpToSlots h->Un (frs X.stack) [] H1 H2 s1.heap h/\uE X.prog X.w H2 h)->Q () {s' with heap:=h5}):
  wpAny (model X.prog X.w) X.A (noteFrame e X.env) (λ _ s₂=>wpAny (model X.prog X.w) X.A (setFlight e none) Q E s₂) E s':=by
 obtain ⟨arE,H1,s1,C,I1,sm,hc,r⟩:=r;have I1:Inv X pins σ' H1 s1:=Inv.ofT ok I1;obtain ⟨own,hf⟩:=g.own;have hfr:X.A.frames=some (X.env::X.outer):=by rw[<-own];exact ok.frames
 rcases r with ⟨a,args,h',rfl,rfl,hx⟩|⟨a,C',H2,B,a0,rfl,⟨q1,q2,q3⟩,q4,q5,fl,na,nw,cl⟩
 ·have hst:s1.heap.FunFrames X.base X.stack:=I1.stack;have hin:∀env∈X.stack,∀b,env.frame=some b->b∈frs X.stack:=λ env he b hb=>List.mem_filterMap.mpr ⟨env,he,hb⟩;have hkb:(W.hideAll s1.heap (frs X.stack)).StaysIn s1.heap:=λ b o q=>W.of_hideAll _ q;have na:H1 a=none:=by
   cases z:H1 a with
   |none=>rfl
   |some o=>obtain ⟨ob,hb⟩:=sF (I1.hok a o z);rw[hx.new] at hb;cases hb
  have hff:s1.heap.FunFrames (W.hideAll s1.heap (frs X.stack)) (X.env::X.outer):=by have z:=W.funFrames_hide hst hin;generalize W.hideAll s1.heap (frs X.stack)=B at z ⊢;rw[own] at z;exact z
  refine NC (s:={s1 with heap:=h'}) hfr hf hkb hff hx λ h4 t held up4=>?_;refine wpAny_landsW held λ h5 fl5 up5=>?_;refine k a C _ _ H1 H1 s1 h5 rfl hc sm (az.refl H1) I1 hx.new na rfl I1.bare fl5 λ h3 st3 up3=>?_;have keep:∀b o,s1.heap.get? b=some o->b∉frs X.stack->h3.get? b=some o:=λ b o q nb=>st3 b o (W.hideAll_get _ q nb);have slot:∀b o,s1.heap.get? b=some o->b∈frs X.stack->∃sl,h3.get? b=some {o with slots:=sl}:=λ b o q hb=>by obtain ⟨_,o',ho',hd⟩:=hst.mem hb;rw[q] at ho';cases ho';exact ((up4.trans up5).trans up3) b o (hx.keeps b o q) hd
  have un:Un (frs X.stack) [] H1 H1 s1.heap h3:=⟨λ b o q n nb _=>keep b o q nb,λ b o q n hb _=>slot b o q hb,λ b o q n _=>n,λ b o q _=>by
   by_cases hb:b∈frs X.stack
   ·obtain ⟨sl,z⟩:=slot b o q hb;exact ⟨_,z⟩
   ·exact ⟨o,keep b o q hb⟩,λ b xs q=>q,λ b o u q=>q,λ b ps q=>⟨#[],by rw[q];simp⟩⟩
  refine ⟨un,λ b o q=>(I1.hok b o q).stay (λ b' u hb' e'=>?_) (λ _ q=>q) λ _ _ q=>q⟩;have tr:H1 b'≠none:=by
   rcases hb' with rfl|hb'
   ·rw[q];exact λ z=>nomatch z
   ·rw[hb'];exact λ z=>nomatch z
  exact keep b' u e' λ z=>tr (I1.Bl b' z)
 ·cases q1;have fl:Heap.FlyingW B X.stack a (.ref C) a0 s'.heap:=fl;rw[own] at fl;refine wpAny_looks_onW hfr hf fl λ h4 held up4=>?_;refine wpAny_landsW held λ h5 fl5 up5=>?_;exact k a C B a0 H1 H2 s1 h5 rfl hc sm q3 I1 nw na q4 q5 fl5 λ h3 st3 up3=>cl h3 st3 ((up4.trans up5).trans up3)
end
section
variable{X:Cx}{cf:Cf}{body suite:List Stmt}{b₀:Stmt}{F G:Sg->Out}{t n:Str}{hit:String->Option Bool}{T:Value}{np hpos pos:Pos}
noncomputable def anF(K:W.Frag)(cb:Cb)(T:Value)(hit:String->Option Bool):Prop:=∀c C b,cb.exc c=some C->hit c=some b->W.exmOne K (.ref C) T=some b
def amr{P:Program}{w:World}{H:Hp}{h:Heap}{a C:Addr}(q:∃o,h.get? a=some o/\o.cls= .ref C):dM P w (upd H a (.ext (qm a C))) h a (.ext (qm a C)):=by obtain ⟨o,h1,h2⟩:=q;exact ⟨⟨o,h1,h2⟩,⟨o,h1⟩,λ hA hB ⟨o',e1,e2⟩ k=>⟨o',k o' e1,e2⟩⟩
def VB(i:Nat)(g:Good X)(hT:X.mg t=some T)(hh:anF X.K cf.cb T hit)(hb:∀pn xe,Good (cxT X pn xe)->zI (cxT X pn xe) cf body F)(hs:∀ev pn,zI (cxE X ev pn) cf (b₀::suite) G)(hg:Gl X t:=by rfl)(hd:(t==("__debug__":Str))=false:=by decide)(hi:X.N[i]? =some n:=by rfl)(hl:X.env.scope.names.lookup n=some .local:=by rfl)(hkl:X.env.kindOf n=some .local:=by rfl):DL X cf (.Try body [.ExceptHandler (some (.Name t np)) (some n) (b₀::suite) hpos] [] [] pos) (Hq i hit F G):=by
 have hb:=λ pn xe h_1=>(hb pn xe h_1).out;have hs:=λ ev pn=>(hs ev pn).out;refine ⟨?_⟩;intro pins s σ H E I ⟨Γ,j,h⟩;let E1:Value->Shared->Prop:=λ e s'=>wpAny (model X.prog X.w) X.A (noteFrame e X.env) (λ _ s₂=>wpAny (model X.prog X.w) X.A (setFlight e none) (λ _ s₃=>wpAny (model X.prog X.w) X.A (handleBy e X.env [.ExceptHandler (some (.Name t np)) (some n) (b₀::suite) hpos]) (SP X pins E) X.xe s₃) X.xe s₂) X.xe s'
 have g1:Good (cxT X (X.pn++pins) E1):=⟨PassesOwn.looking,g.calm,g.nd,g.own⟩;have hF:Fn (cxT X (X.pn++pins) E1) cf H (F Γ) E:=by
  simp only[Hq,tryD] at h;cases q:F Γ with
  |nx Γ'=>rw[q] at h;exact h
  |bk Γ'=>rw[q] at h;exact h
  |ct Γ'=>rw[q] at h;exact h
  |rt d=>rw[q] at h;exact λ v H' b t=>h v H' ⟨b.same,b.free⟩ t
  |Mz ds=>rw[q] at h;exact λ v H' S b=>h v H' S ⟨b.same,b.free⟩
  |rtG ds Γ9=>rw[q] at h;exact h
  |Hu ds Γ9=>rw[q] at h;exact h
  |bad=>rw[q] at h;exact h
  |err c Γ1=>
   rw[q] at h;intro σ' H' e s' kp j1 r;dsimp only at h;split at h
   ·rename_i hc';refine aaj g I.ok r λ a C B a0 H1 H2 s1 h5 ea hc sm1 sm2 I1 nw na os' bare fl cl=>?_;subst ea;have inv:∀h:Heap,B.StaysIn h->h5.UpToSlots h->Inv X pins σ' H2 {s' with heap:=h}:=λ h st up=>I1.Vd (s':={s' with heap:=h}) (ch:=[]) os' (cl h st up).1 (cl h st up).2 bare (λ b z=>absurd z (by simp));have I5:=inv h5 fl.1 (Heap.UpToSlots.refl h5);refine wpAny_handleBy_cons (codeAny_handlers_test (aad I5 hg hT ?_ hd)) (by intro z;cases z);have LT:W.Looks (model X.prog X.w) h5 (typeOf (.ref a)) (.ref C):=by obtain ⟨ob,hob,hcl⟩:=fl.there;rw[<-hcl];exact (W.Looks.ld hob).andThen .now
    refine (W.exm_one I5.zZ LT (hh c C true hc hc')).here ?_;refine codeAny_handlers_suite_as ?_;refine lands_againW fl λ h6 fl6 up6=>?_;have I6:=inv h6 fl6.1 up6;have I7:Inv X pins σ' (upd H2 a (.ext (qm a C))) {s' with heap:=h6}:=Inv.akV I6 na (I1.kept (h':=s1.heap) (t':=s1.toks) λ _ _ z=>z) nw (amr fl6.there);have k7:aZ cf.cb H (upd H2 a (.ext (qm a C))):=((kp.trans (az.keep sm1)).trans (az.keep sm2)).trans (az.keep (bh na _));refine BQ (A:=X.A.mark (some (.ref a))) (i:=i) (v:= .ref a) I7 g.nd hi (Or.inl hl) rfl (λ s8 I8=>?_) (.inr hl);have j7:Jx X cf.z (Γ1.set i (.val (.exc c))) (σ'.set i (some (.ref a))) (upd H2 a (.ext (qm a C))):=by refine ((j1.mono (sm1.trans sm2)).mono (bh na _)).set ?_;simp only[Tl];exact ⟨a,C,rfl,hc,aG⟩
    refine wpAny_mono (hs (.ref a) (X.pn++pins) [] s8 _ _ {nx:=λ σ9 H9=>E.nx (σ9.set i none) H9,bk:=λ σ9 H9=>E.bk (σ9.set i none) H9,ct:=λ σ9 H9=>E.ct (σ9.set i none) H9,rt:=E.rt} (Inv.toE I8 (.ref a)) ⟨_,j7,?_⟩) (λ f s9 q9=>?_) λ _ _ z=>z.elim
    ·cases qG:G (Γ1.set i (.val (.exc c))) with
     |nx Γ9=>rw[qG] at h;exact λ σ9 H9 k9 j9=>h _ H9 (k7.trans k9) j9.unset
     |bk Γ9=>rw[qG] at h;exact λ σ9 H9 k9 j9=>h _ H9 (k7.trans k9) j9.unset
     |ct Γ9=>rw[qG] at h;exact λ σ9 H9 k9 j9=>h _ H9 (k7.trans k9) j9.unset
     |rt d=>rw[qG] at h;exact λ v H' b t=>h v H' ⟨b.same,b.free⟩ t
     |Mz ds=>rw[qG] at h;exact λ v H' S b=>h v H' S ⟨b.same,b.free⟩
     |rtG ds Γ9=>rw[qG] at h;exact h
     |Hu ds Γ9=>rw[qG] at h;exact h.elim
     |err c' Γ9=>rw[qG] at h;exact h.elim
     |bad=>rw[qG] at h;exact h.elim
    ·cases f with
     |next=>obtain ⟨σ9,H9,I9,q⟩:=q9;exact BA (Inv.ofE I.ok I9) g.nd hi hkl λ s' I'=>⟨_,H9,I',q⟩
     |brk=>obtain ⟨σ9,H9,I9,q⟩:=q9;exact BA (Inv.ofE I.ok I9) g.nd hi hkl λ s' I'=>⟨_,H9,I',q⟩
     |cont=>obtain ⟨σ9,H9,I9,q⟩:=q9;exact BA (Inv.ofE I.ok I9) g.nd hi hkl λ s' I'=>⟨_,H9,I',q⟩
     |ret u=>obtain ⟨v,σ9,H9,I9,rv,q⟩:=q9;exact BA (Inv.ofE I.ok I9) g.nd hi hkl λ s' I'=>⟨v,_,H9,I',rv,q⟩
   ·exact h.elim
 refine wpAny_Try_except (wpAny_mono (hb (X.pn++pins) E1 g1 [] s σ H E (Inv.toT I E1) ⟨Γ,j,hF⟩) (λ f s1 q=>?_) λ e s1 q=>q);cases f with
 |next=>obtain ⟨σ',H',I',q⟩:=q;exact wpAny_execs_nil ⟨σ',H',Inv.ofT I.ok I',q⟩
 |brk=>obtain ⟨σ',H',I',q⟩:=q;exact ⟨σ',H',Inv.ofT I.ok I',q⟩
 |cont=>obtain ⟨σ',H',I',q⟩:=q;exact ⟨σ',H',Inv.ofT I.ok I',q⟩
 |ret u=>obtain ⟨v,σ',H',I',r,q⟩:=q;exact ⟨v,σ',H',Inv.ofT I.ok I',r,q⟩
end
structure XT(K:W.Frag)(C:Addr):Prop where
 ga:W.findIn K (.ref C) "__getattribute__"=some (some (.builtin "BaseException.__getattribute__"))
 gt:W.findIn K (.ref C) "__getattr__"=some none
 ca:W.findIn K (.ref C) "__class__"=some (some (.builtin "object.__class__"))
 mo:W.mroIn K C (.type "object")=some true
 mb:W.subIn K (.ref C) (.type "BaseException")=some true
 cl:(W.clsIn K C).isSome=true
section
open PySem.W Builtin Builtin.ObjectAttr Builtin.Getset_descriptor
variable{prog:Program}{w:World}{A:Around}{E:Value->Shared->Prop}{h:Heap}{g:Array GenState}{d:Drawn}{t:Nat}{os:OsState}{a C:Addr}{K:Frag}
def Ua{M:Model}(p:qm a C h):Looks M h (typeOf (.ref a)) (.ref C):=by obtain ⟨o,h1,h2⟩:=p;exact h2▸(Looks.ld h1).andThen .now
def ahc{R:Result->Shared->Prop}(X:K.In h)(T:XT K C)(p:qm a C h)(hq:R (.ok (.ret (.ref C))) ⟨h,g,d,t,os⟩):
  codeAny (model prog w) A (.call (.builtin "getset_descriptor.__get__") ⟨[.builtin "object.__class__",.ref a,.ref C],[]⟩) R ⟨h,g,d,t,os⟩:=by
 have la:=Ua (M:=model prog w) p;have lb:=looks_mroIn (M:=model prog w) X T.mo;refine codeAny_call_builtin KF.slot_gs.plain KF.entry_gs
  (KF.slot_gs.check _ _ _ _ _ _ _ _ KF.type_class (KF.args_gs _ _ _) ?_)
 unfold Builtin.«getset_descriptor.__get__» descrGet;rw[dga_obj];refine wpAny_bind (wpAny_pure ?_);unfold descrGetter descrCheckInstance descrNameAndClass isInstance;simp only[KF.owner_class];repeat lk
 refine ⟨Code.quiet_builtin _ (by decide+kernel),codeAny_builtin KF.entry_class ?_⟩;unfold Builtin.«object.__class__» shownTypeOf;repeat lk
 exact hq
def Yl{tk:Tok}{Q:Fin->Shared->Prop}(X:K.In h)(T:XT K C)(p:qm a C h)(hq:Q (.done (.ret (.ref C))) ⟨h,g,d,t,os⟩):
  wpAny (model prog w) A (Builtin.«object.__getattribute__» ⟨[.ref a,.str "__class__" tk],[]⟩) Q E ⟨h,g,d,t,os⟩:=by
 have hT5:(⟨h,g,d,t,os⟩:Shared).TypeIs (.builtin "object.__class__") "getset_descriptor":=F.typeOf_object_class;have f5:=F.typeOf_object_class;have f6:=F.slot_gs_get.lookup;have f7:=F.slot_gs_set.lookup;have la:=Ua (M:=model prog w) p;have lb:=looks_findIn (M:=model prog w) X T.ca;obtain ⟨o,h1,h2⟩:=p;repeat (any_goals (first|assumption|(with_reducible refine wpAny_loadPart_at h1 ?_;rw[h2])|with_reducible refine Looks.at lb ?_|wp_step))
 refine ahc X T ⟨o,h1,h2⟩ ?_;repeat (any_goals (first|assumption|wp_step))
def Ym{nameV:Value}{Q:Unit->Shared->Prop}(X:K.In h)(T:XT K C)(p:qm a C h)(hq:Q () ⟨h,g,d,t,os⟩):
  wpAny (model prog w) A (checkBuiltinCall "BaseException.__getattribute__" ⟨[.ref a,nameV],[]⟩) Q E ⟨h,g,d,t,os⟩:=by
 have hk:builtinKind "BaseException.__getattribute__"=some .slot:=by decide+kernel
 have LJ:splitId "BaseException.__getattribute__"=some ("BaseException","__getattribute__"):=by decide+kernel
 have hargs:=F.args_bexc_ga (.ref a) nameV;have la:=Ua (M:=model prog w) p;have lb:=looks_subIn (M:=model prog w) X T.mb;simp only[checkBuiltinCall,hk,LJ];refine wpAny_bind ?_;unfold isInstance;obtain ⟨o,h1,h2⟩:=p;repeat (first|(with_reducible refine wpAny_loadPart_at h1 ?_;rw[h2])|with_reducible refine Looks.at lb ?_|wp_step)
 exact hq
def adt{tk:Tok}{R:Result->Shared->Prop}(X:K.In h)(T:XT K C)(p:qm a C h)(hq:R (.ok (.ret (.ref C))) ⟨h,g,d,t,os⟩):
  codeAny (model prog w) A (.call (.builtin "BaseException.__getattribute__") ⟨[.ref a,.str "__class__" tk],[]⟩) R ⟨h,g,d,t,os⟩:=
 codeAny_call_builtin F.attr_ValueError.ga.plain F.entry_bexc_ga (Ym X T p (Yl X T p hq))
def akI{tk:Tok}{Q:Value->Shared->Prop}(X:K.In h)(T:XT K C)(p:qm a C h)(hq:Q (.ref C) ⟨h,g,d,t,os⟩):
  wpAny (model prog w) A (getAttrBy (.ref a) (.str "__class__" tk) false) Q E ⟨h,g,d,t,os⟩:=by
 have f3:=F.attr_ValueError.ga.bind (.ref a);have hx2:(Value.builtin "BaseException.__getattribute__"==Value.builtin "object.__getattribute__")=false:=by decide+kernel
 have hx1:(onTheHeap (Value.ref C)&&Value.builtin "BaseException.__getattribute__"==Value.builtin "object.__getattribute__")=false:=by rw[hx2];rfl
 have lb:=looks_findIn (M:=model prog w) X T.ga;have lc:=looks_findIn (M:=model prog w) X T.gt;obtain ⟨o,h1,h2⟩:=p;repeat (any_goals (first|assumption|(with_reducible refine wpAny_loadPart_at h1 ?_;rw[h2])|with_reducible refine Looks.at lb ?_|with_reducible refine Looks.at lc ?_|wp_step))
 refine adt X T ⟨o,h1,h2⟩ ?_;repeat (any_goals (first|assumption|wp_step))
def aat(T:XT K C):KitX K (.ref a) (.ref C) (qm a C) where
 ty:=λ _ _ _ p=>Ua p
 it:=λ _ _ X _=>by
  have z:=T.cl
  unfold clsIn at z
  split at z
  ·rename_i c' d' cd' sl' ho
   intro A' Q' E' s' k q
   unfold isType loadHead
   exact wpAny_bind (wpAny_loadPart (k _ _ (X _ _ ho))
    (wpAny_pure q))
  ·cases z
 ne:=λ h tp dd its n sl X htp=>by
  have z:=T.cl
  refine Bool.eq_false_iff.mpr λ q=>?_
  have e:C=tp:=Value.ref.inj (beq_iff_eq.mp q)
  subst e
  unfold clsIn at z
  split at z
  ·rename_i ho
   have z:=(X _ _ ho).symm.trans htp
   cases z
  ·cases z
 ca:=λ{_ _ _ _ _ s} X p k=>by
  obtain ⟨h,g,d,t,os⟩:=s
  unfold getAttr? getAttrBy?
  repeat (any_goals (first|assumption|with_reducible apply akI X T p|wp_step))
end
structure IC(K:W.Frag)(C:Addr):Prop where
 cl:FF K C
 ha:W.findIn K (.ref C) "__class__"=some (some (.builtin "object.__class__"))
 hn:W.specialIn K (.builtin "object.__class__") "__get__"=some (some (.builtin "getset_descriptor.__get__"))
 tk:W.takesIn K (.builtin "object.__class__")=some true
 hm:W.mroIn K C (.type "object")=some true
structure XTs(K:W.Frag)(cb:Cb)(mt:List (String×List String)):Prop where
 xt:∀c C,cb.exc c=some C->(mt.lookup c).isSome=true->XT K C
 ic:∀c C ns,cb.cls c=some (C,ns)->IC K C
structure TU(K:W.Frag)(cb:Cb)(mt:List (String×List String))(cv:Value)(n:String):Prop where
 nn:W.kitOne K (.type "NoneType") cv=some (["NoneType"].contains n)
 bb:W.kitOne K (.type "bool") cv=some (["bool","int"].contains n)
 ii:W.kitOne K (.type "int") cv=some (["int"].contains n)
 ss:W.kitOne K (.type "str") cv=some (["str"].contains n)
 tt:W.kitOne K (.type "tuple") cv=some (["tuple"].contains n)
 ll:W.kitOne K (.type "list") cv=some (["list"].contains n)
 dd:W.kitOne K (.type "dict") cv=some (["dict"].contains n)
 own:∀c C ks,cb.exc c=some C->mt.lookup c=some ks->W.kitOne K (.ref C) cv=some (ks.contains n)
 ins:∀c C ns ks,cb.cls c=some (C,ns)->mt.lookup c=some ks->W.kitOne K (.ref C) cv=some (ks.contains n)
def Gr{X:Cx}{ct:Ct}{mt:List (String×List String)}{pins:List (Addr×Obj)}{σ:St}{H:Hp}{s:Shared}{d:D}{v:V}{u:Value}{ks:List String}(I:Inv X pins σ H s)(lL:az ct.f.L H)(lB:az ct.B H)(t:Tl X.K ct H d v)(r:RelV v u)(hk:kinds mt d=some ks) (hx:XTs X.K ct.f.cb mt):
  u≠.builtin "__main__.__loader__#opaque"/\∃(ty:Value) (P:Heap->Prop),W.KitX X.K u ty P/\P s.heap/\∀cv n,TU X.K ct.f.cb mt cv n->W.kitOne X.K ty cv=some (ks.contains n):=by
 cases d with
 |fE=>simp only[Tl] at t;subst t;cases r;cases hk;exact ⟨(λ z=>nomatch z),_,_,W.kitx_none,trivial,λ cv n k=>k.nn⟩
 |bl b=>simp only[Tl] at t;subst t;cases r;cases hk;exact ⟨(λ z=>nomatch z),_,_,W.kitx_bool,trivial,λ cv n k=>k.bb⟩
 |int i=>simp only[Tl] at t;subst t;obtain ⟨tk,rfl⟩:=r;cases hk;exact ⟨(λ z=>nomatch z),_,_,W.kitx_int,trivial,λ cv n k=>k.ii⟩
 |str x=>simp only[Tl] at t;subst t;obtain ⟨tk,rfl⟩:=r;cases hk;exact ⟨(λ z=>nomatch z),_,_,W.kitx_str,trivial,λ cv n k=>k.ss⟩
 |tup ds=>simp only[Tl] at t;obtain ⟨a,vs,rfl,t1,_⟩:=t;cases r;cases hk;obtain ⟨its,_,⟨o,h1,h2,_⟩,_⟩:=I.tuple (pK t1);exact ⟨(λ z=>nomatch z),_,_,W.kitx_tuple,⟨o,h1,h2⟩,λ cv n k=>k.tt⟩
 |gt ds=>simp only[Tl] at t;obtain ⟨a,vs,rfl,t1,_⟩:=t;cases r;cases hk;obtain ⟨its,_,⟨o,h1,h2,_⟩,_⟩:=I.tuple t1.sq;exact ⟨(λ z=>nomatch z),_,_,W.kitx_tuple,⟨o,h1,h2⟩,λ cv n k=>k.tt⟩
 |lst ds=>simp only[Tl] at t;obtain ⟨a,vs,rfl,t1,_⟩:=t;cases r;cases hk;obtain ⟨its,_,⟨o,_,h1,h2,_⟩,_⟩:=I.list t1.sq;exact ⟨(λ z=>nomatch z),_,_,W.kitx_list,⟨o,h1,h2⟩,λ cv n k=>k.ll⟩
 |bor tm ds=>obtain ⟨a,vs,rfl,t1,_⟩:=t.oz lL lB rfl;cases r;cases hk;obtain ⟨its,_,⟨o,_,h1,h2,_⟩,_⟩:=I.list t1;exact ⟨(λ z=>nomatch z),_,_,W.kitx_list,⟨o,h1,h2⟩,λ cv n k=>k.ll⟩
 |uA ks' xs=>
  simp only[Tl] at t;obtain ⟨a,vs,rfl,⟨o,t1⟩,_⟩:=t;cases r;cases hk;cases ks' with
  |s _=>obtain ⟨_,_,_,vs',_,o',es,ep,h1,h2,_⟩:=I.hok a _ t1;exact ⟨(λ z=>nomatch z),_,_,W.kitx_dict,⟨o',h1,h2.1⟩,λ cv n k=>k.dd⟩
  |t _=>obtain ⟨_,_,_,vs',_,o',es,ep,h1,h2,_⟩:=I.hok a _ t1;exact ⟨(λ z=>nomatch z),_,_,W.kitx_dict,⟨o',h1,h2.1⟩,λ cv n k=>k.dd⟩
 |yw tm ks' xs=>
  simp only[Tl] at t;obtain ⟨a,vs,rfl,t1,_⟩:=t;cases r;cases hk;have t2:H a=some (ks'.ho vs):=by
   cases tm with
   |true=>exact lB a _ t1
   |false=>exact lL a _ t1
  cases ks' with
  |s _=>obtain ⟨_,_,vs',_,o',es,ep,h1,h2,_⟩:=I.hok a _ t2;exact ⟨(λ z=>nomatch z),_,_,W.kitx_dict,⟨o',h1,h2.1⟩,λ cv n k=>k.dd⟩
  |t _=>obtain ⟨_,_,vs',_,o',es,ep,h1,h2,_⟩:=I.hok a _ t2;exact ⟨(λ z=>nomatch z),_,_,W.kitx_dict,⟨o',h1,h2.1⟩,λ cv n k=>k.dd⟩
 |yu tm c ns xs=>cases hk
 |obj c ns xs=>simp only[Tl] at t;obtain ⟨a,C,dx,vs,rfl,hc,ha,_⟩:=t;cases r;have hk:mt.lookup c=some ks:=hk;obtain ⟨mA,O,_⟩:=Bw I.hok ha;obtain ⟨od,J,_⟩:=O.look;have ic:=hx.ic c C ns hc;exact ⟨(λ z=>nomatch z),_,_,W.kitx_own (ic.cl.get _) ic.cl.hd ic.ha ic.hn ic.tk ic.hm,J,λ cv n k=>k.ins c C ns ks hc hk⟩
 |exc c=>simp only[Tl] at t;obtain ⟨a,C,rfl,hc,ha⟩:=t;cases r;obtain ⟨p,_⟩:=I.hok a _ ha;have hk:mt.lookup c=some ks:=hk;exact ⟨(λ z=>nomatch z),_,_,aat (hx.xt c C hc (by rw[hk];rfl)),p,λ cv n k=>k.own c C ks hc hk⟩
section
variable{X:Cx}{ct:Ct}{mt:List (String×List String)}{a b e:Expr}{f g:Sg->Res D}{c:Str}{n:String}{cv:Value}{p p2 pos:Pos}
structure adg(X:Cx)(c:Str)(v:V)(u:Value):Prop where
 rel:RelV v u
 one:∀u',RelV v u'->u'=u
 ld:(X.mg c=some u)\/(X.mg c=none/\bootBuiltins c=some u/\c≠"__name__")
def yd{C:Addr}(h:X.mg c=some (.ref C)):adg X c (.ref C) (.ref C):=⟨rfl,λ _ z=>z,.inl h⟩
def yc{T:String}(h:X.mg c=none)(hv:bootBuiltins c=some (.type T))(hn:c≠"__name__"):adg X c (.ty T) (.type T):=⟨rfl,λ _ z=>z,.inr ⟨h,hv,hn⟩⟩
def Zv{v:V}{u:Value}{pos:Pos}(h:adg X c v u)(hg:Gl X c:=by rfl)(hd:(c==("__debug__":Str))=false:=by decide):PE X (.Name c pos) (tC v):=by
 rcases h.ld with q|⟨q1,q2,q3⟩
 ·exact Ux hg q h.rel hd
 ·exact aer hg q1 q2 h.rel q3 hd
def Yt{v:V}{u:Value}{pos:Pos}(h:adg X c v u)(hg:Gl X c:=by rfl)(hd:(c==("__debug__":Str))=false:=by decide):WE X (.Name c pos) (tC v):=⟨Zv (h:=h) (hg:=hg) (hd:=hd)⟩
def abB{y:V}(hx:XTs X.K ct.f.cb mt)(hk:TU X.K ct.f.cb mt cv n)(hy:∀u,RelV y u->u=cv):yr X (.builtin "isinstance") (λ xs H Q=>az ct.f.L H/\az ct.B H/\∃d v ks,xs=[v,y]/\Tl X.K ct H d v/\kinds mt d=some ks/\Q (.bl (ks.contains n)) H):=by
 intro pins s σ H xs us Q I r ⟨lL,lB,d,v,ks,ex,t,hd,q⟩;subst ex;cases r with
 |cons r1 r2=>
  cases r2 with
  |cons r2 r3=>cases r3;obtain ⟨nb,ty,P,Z,pp,k⟩:=Gr I lL lB t r1 hd hx;rw[hy _ r2];exact W.kia_one Z I.zZ pp (k cv n hk) nb λ tk=>⟨.bl _,H,I.tok tk,rfl,q⟩
def UW{cs:List String}{d x:D}(h:ur mt cs d= .ok x):∃ks,kinds mt d=some ks/\x= .bl (cs.any λ c=>ks.contains c):=by
 unfold ur at h;split at h
 ·rename_i ks hk;cases h;exact ⟨ks,hk,rfl⟩
 ·cases h
def UX{cs:List String}{d:D}{c:String}:ur mt cs d≠.err c:=by unfold ur;split<;>exact λ z=>nomatch z
def uZ{y:V}(hm:X.mg "isinstance"=none)(hx:XTs X.K ct.f.cb mt)(hk:TU X.K ct.f.cb mt cv n)(hc:adg X c y cv)(he:WD X ct e f)(hg:Gl X "isinstance":=by rfl)(hgc:Gl X c:=by rfl)(hdc:(c==("__debug__":Str))=false:=by decide)(hs:starEach [e,.Name c p2] X.env=(false,eval e X.env)::starEach [.Name c p2] X.env:=by rfl)(hs2:starEach [.Name c p2] X.env=(false,eval (.Name c p2) X.env)::starEach [] X.env:=by rfl)(hpl:(backTo pos (starEach [.Name c p2] X.env)).any (·.1)=false:=by rfl):WD X ct (.Call (.Name "isinstance" p) [e,.Name c p2] [] pos) (A3 mt [n] f):=by
 have he:=he.out;refine ⟨?_⟩;refine PE.imp (pU (abB hx hk hc.one) hg hm PyProof.Rows.boot_isinstance (oK he (oK (Zv hc hgc hdc) yN hs2) hs) (by decide) (by decide) hs hpl) λ σ H Q ⟨Γ,j,h⟩=>?_;refine rL.bnd j h λ d v H' s t j' h'=>?_;cases q:ur mt [n] d with
 |bad=>rw[q] at h';exact h'.elim
 |err c=>exact (UX q).elim
 |ok x=>rw[q] at h';obtain ⟨ks,hks,rfl⟩:=UW q;exact ⟨j'.lL,j'.lB,d,v,ks,rfl,t,hks,by simpa using h' (.bl _) H' s (by simp[Tl])⟩
def CV{K:W.Frag}{ty:Value}{ks:List String}:∀{cvs:List Value} {ns:List String},Paired (λ cv n=>W.kitOne K ty cv=some (ks.contains n)) cvs ns->W.kitAny K ty cvs=some (ns.any λ c=>ks.contains c)
 |_,_,.nil=>rfl
 |_,_,.cons r t=>by
  unfold W.kitAny;rw[r,List.any_cons];cases ks.contains _ with
  |true=>rfl
  |false=>simpa using CV t
def XN{ys:List V}{cvs:List Value}{ns:List String}(hx:XTs X.K ct.f.cb mt)(hk:Paired (TU X.K ct.f.cb mt) cvs ns)(hy:∀us,Vals ys us->us=cvs):
  yr X (.builtin "isinstance") (λ xs H Q=>az ct.f.L H/\az ct.B H/\∃d v ks a,xs=[v,.ref a]/\H a=some (.tup ys)/\Tl X.K ct H d v/\kinds mt d=some ks/\Q (.bl (ns.any λ c=>ks.contains c)) H):=by
 intro pins s σ H xs us Q I r ⟨lL,lB,d,v,ks,a,ex,ha,t,hd,q⟩;subst ex;cases r with
 |cons r1 r2=>
  cases r2 with
  |cons r2 r3=>cases r3;cases r2;obtain ⟨nb,ty,P,Z,pp,k⟩:=Gr I lL lB t r1 hd hx;obtain ⟨_,its,ri,o,h1,h2,m,h3⟩:=I.hok a _ ha;have e:=hy _ ri;subst e;obtain ⟨oc,od,odt,osl⟩:=o;simp only at h2 h3;subst h2 h3;exact W.kia_tup Z I.zZ pp h1 (CV (Paired.aeP hk λ cv n z=>k cv n z)) nb λ tk=>⟨.bl _,H,I.tok tk,rfl,q⟩
def adI{ys:List V}{cvs:List Value}{ns:List String}{cs:List Expr}{t:TA}{x1}(hm:X.mg "isinstance"=none)(hx:XTs X.K ct.f.cb mt)(hk:Paired (TU X.K ct.f.cb mt) cvs ns)(hy:∀us,Vals ys us->us=cvs)(he:WD X ct e f)(hc:WA X cs t)(ht:∀σ H Q,Q ys H->t σ H Q)(hl:ys.length<=100)(hg:Gl X "isinstance":=by rfl)(hs:starEach [e,.Tuple cs x1 p2] X.env=(false,eval e X.env)::starEach [.Tuple cs x1 p2] X.env:=by rfl)(hs2:starEach [.Tuple cs x1 p2] X.env=(false,eval (.Tuple cs x1 p2) X.env)::starEach [] X.env:=by rfl)(hpl:(backTo pos (starEach [.Tuple cs x1 p2] X.env)).any (·.1)=false:=by rfl):WD X ct (.Call (.Name "isinstance" p) [e,.Tuple cs x1 p2] [] pos) (A3 mt ns f):=by
 have he:=he.out;have hc:=hc.out;refine ⟨?_⟩;refine PE.imp (pU (XN hx hk hy) hg hm PyProof.Rows.boot_isinstance (oK he (oK (Zq hc) yN hs2) hs) (by decide) (by decide) hs hpl) λ σ H Q ⟨Γ,j,h⟩=>?_;refine rL.bnd j h λ d v H' s t' j' h'=>?_;cases q:ur mt ns d with
 |bad=>rw[q] at h';exact h'.elim
 |err c=>exact (UX q).elim
 |ok x=>rw[q] at h';obtain ⟨ks,hks,rfl⟩:=UW q;refine ht σ H' _ ⟨Nat.le_of_lt (tR (by omega)),λ a ha=>?_⟩;have s2:=bh ha (.tup ys);exact ⟨j'.lL.trans s2,j'.lB.trans s2,d,v,ks,a,rfl,aG,t'.keep (az.keep s2),hks,h' (.bl _) _ (s.trans s2) (by simp[Tl])⟩
def G6(x y:Bool):(Value.bool x==Value.bool y)=decide (x=y):=by cases x<;>cases y<;>rfl
def aie:qp X (compareOp .Is) (λ x y H Q=>∃b:Bool,(y= .fE\/∃c,y= .bl c)/\b=decide (x=y)/\Q (.bl b) H):=by
 intro pins s σ H x y v u Q I rx ry ⟨b,hy,hb,q⟩;have hp:plainIs v u=true/\(v==u)=b:=by
  subst hb;rcases hy with rfl|⟨c,rfl⟩<;>cases ry<;>cases x<;>first
   |(cases rx;refine ⟨rfl,?_⟩;first|(rw[G6];simp;done)|(simp;done))
   |(obtain ⟨t,rfl⟩:=rx;refine ⟨rfl,?_⟩;simp;done)
 exact wpAny_is_plain hp.1 (by rw[hp.2];exact ⟨.bl b,H,I,rfl,q⟩)
def akY{K:W.Frag}{H:Hp}{d y:D}{v u:V}{r:D}(t1:Tl K ct H d v)(t2:Tl K ct H y u)(h:isI d y= .ok r):(u= .fE\/∃c,u= .bl c)/\r= .bl (decide (v=u)):=by
 cases y with
 |fE=>
  simp only[Tl] at t2;subst t2;refine ⟨.inl rfl,?_⟩;cases d<;>simp only[isI,Res.ok.injEq] at h<;>subst h<;>simp only[Tl] at t1<;>first
   |(subst t1;simp)
   |(obtain ⟨a,z⟩:=t1;obtain ⟨b,z⟩:=z;obtain ⟨z,_⟩:=z;subst z;simp)
   |(obtain ⟨a,b,c,e,z,_⟩:=t1;subst z;simp)
 |bl b=>
  simp only[Tl] at t2;subst t2;refine ⟨.inr ⟨b,rfl⟩,?_⟩;cases d<;>simp only[isI,Res.ok.injEq] at h<;>subst h<;>simp only[Tl] at t1<;>first
   |(subst t1;simp;done)
   |(subst t1;rename_i c;cases c<;>cases b<;>rfl)
   |(obtain ⟨a,z⟩:=t1;obtain ⟨b,z⟩:=z;obtain ⟨z,_⟩:=z;subst z;simp)
   |(obtain ⟨a,b,c,e,z,_⟩:=t1;subst z;simp)
 |_=>cases h
def aim:JH X ct (λ x y H Q=>∃b:Bool,(y= .fE\/∃c,y= .bl c)/\b=decide (x=y)/\Q (.bl b) H) isI:=by
 intro σ H x y d1 d2 Q lL lB t1 t2 h;cases q:isI d1 d2 with
 |bad=>rw[q] at h;exact h.elim
 |err c=>cases d2<;>cases q
 |ok r=>rw[q] at h;obtain ⟨h1,rfl⟩:=akY t1 t2 q;exact ⟨_,h1,rfl,h _ H (az.refl H) (by simp[Tl])⟩
def aho(ha:WD X ct a f)(hb:WD X ct b g):TN X ct (.Compare a [.Is] [b] pos) (dT (bu isI f g)):=by have ha:=ha.out;have hb:=hb.out;exact ⟨tT aie aim ha hb (zd _)⟩
def GQ{K:W.Frag}{H:Hp}:∀{ds:List D} {bs:List Bool} {vs:List V},bools ds=some bs->aJ K ct H ds vs->vs=bs.map V.bl
 |[],_,vs,h,t=>by cases h;simpa[aJ] using t
 | .bl b::r,bs,vs,h,t=>by simp only[bools,Option.map_eq_some_iff] at h;obtain ⟨rs,h1,rfl⟩:=h;simp only[aJ,Tl] at t;obtain ⟨v,vr,rfl,rfl,t2⟩:=t;rw[GQ h1 t2];rfl
 | .fE::_,_,_,h,_=>by cases h
 | .int _::_,_,_,h,_=>by cases h
 | .str _::_,_,_,h,_=>by cases h
 | .tup _::_,_,_,h,_=>by cases h
 | .gt _::_,_,_,h,_=>by cases h
 | .lst _::_,_,_,h,_=>by cases h
 | .obj _ _ _::_,_,_,h,_=>by cases h
 | .exc _::_,_,_,h,_=>by cases h
 | .bor _ _::_,_,_,h,_=>by cases h
 | .uA _ _::_,_,_,h,_=>by cases h
 | .yw _ _ _::_,_,_,h,_=>by cases h
 | .yu _ _ _ _::_,_,_,h,_=>by cases h
def range_all(bs:List Bool):(List.range bs.length).all (λ i=>bs.getD i false)=bs.all id:=by
 rw[Bool.eq_iff_iff,List.all_eq_true,List.all_eq_true];constructor
 ·intro h b hb;obtain ⟨i,hi,rfl⟩:=List.getElem_of_mem hb;have:=h i (List.mem_range.mpr hi);simpa[List.getD_eq_getElem?_getD,hi] using this
 ·intro h i hi;have hi:=List.mem_range.mp hi;simpa[List.getD_eq_getElem?_getD,hi] using h bs[i] (List.getElem_mem hi)
def LX{pins:List (Addr×Obj)}{σ:St}{H:Hp}{s:Shared}{A:Around}{l:Addr}{bs:List Bool}{R:Value->Shared->Prop}{E:Value->Shared->Prop}(I:Inv X pins σ H s)(hA:A.handled=none)(hs:rJ X.K H l (bs.map V.bl)) (k:∀I' fp wr n P St tr it s₂,it= .ref I'->Walks X.prog X.w A I' fp wr n P St->St 0 s₂.heap->TruthOf X.prog X.w A P tr->n=bs.length->tr=(λ i=>bs.getD i false)->(∀h' tk,(∀b o,b∉wr->s₂.heap.get? b=some o->h'.get? b=some o)->Inv X pins σ H {s₂ with heap:=h',toks:=tk})->R it s₂):wpAny (model X.prog X.w) A (pyIter (.ref l)) R E s:=by
 obtain ⟨its,ri,⟨o,n,h1,h2,DX,h3⟩,_⟩:=I.list hs;have hl:s.heap.IsList l its.toArray:=⟨o,h1,h2,n,h3⟩;have hlen:its.length=bs.length:=by rw[<-ri.length,List.length_map]
 refine wpAny_pyIter_list hl ?_;have hne:l≠s.heap.objs.size:=Nat.ne_of_lt (Heap.lt_size h1);refine k _ _ _ _ _ _ (λ i=>bs.getD i false) _ _ rfl (Walks.list hA s.heap.objs.size l hne its.toArray) ⟨⟨_,Heap.get?_push_size _ rfl,rfl,rfl⟩,⟨o,Heap.get?_push_of_some _ h1,h2,n,h3⟩⟩ ?_ (by simpa using hlen) rfl λ h' tk kp=>?_
 ·intro i v s' Q' E' hP hq;have hP:its.toArray[i]? =some v:=hP;rw[List.getElem?_toArray] at hP;have hi:i<bs.length:=by rw[<-hlen];exact (List.getElem?_eq_some_iff.mp hP).1
  obtain ⟨u,e1,e2⟩:=ri.get (i:=i) (x:= .bl bs[i]) (by rw[List.getElem?_map,List.getElem?_eq_getElem hi];rfl);rw[hP] at e1;cases e1;cases e2;have:bs.getD i false=bs[i]:=by simp[List.getD_eq_getElem?_getD,hi]
  have hq:Q' (bs.getD i false) s':=hq;rw[this] at hq;exact wpAny_pure hq
 ·refine I.kept (h':=h') (t':=tk) λ b ob e=>kp b ob ?_ (Heap.get?_push_of_some _ e);simp only[List.mem_singleton];exact Nat.ne_of_lt (Heap.lt_size e)
def abC(hc:X.calm=true):yr X (.builtin "all") (λ xs H Q=>∃(l:Addr) (bs:List Bool),xs=[.ref l]/\rJ X.K H l (bs.map V.bl)/\Q (.bl (bs.all id)) H):=by intro pins s σ H xs us Q I r ⟨l,bs,ex,hs,q⟩;subst ex;obtain ⟨u,rfl,ru⟩:=vals1 r;cases ru;refine call_all_walk (LX I (I.ok.hd hc) hs λ I' fp wr n P St tr it s₂ e W st tt en et kp=>?_);subst en et;exact ⟨I',fp,wr,_,P,St,_,e,W,st,tt,λ h' tk k=>by rw[range_all];exact ⟨.bl _,H,kp h' tk k,rfl,q⟩⟩
def YE{fa:Sg->Res (List D)}(hc:X.calm=true)(hm:X.mg "all"=none)(ha:GW X ct [e] fa)(hg:Gl X "all":=by rfl)(he:starEach [e] X.env=(false,eval e X.env)::starEach [] X.env:=by rfl):WD X ct (.Call (.Name "all" p) [e] [] pos) (E9 Yb fa):=by
 have ha:=ha.out;refine ⟨?_⟩;refine PE.imp (pU (abC hc) hg hm PyProof.Rows.boot_all ha (by decide) (by decide) he rfl) (aby λ σ H vs ds Q lL lB t h=>?_);unfold Yb at h;split at h
 ·split at h
  ·rename_i es he';split at h
   ·rename_i bs hb;obtain ⟨v,rfl,tv⟩:=DY t;obtain ⟨l,us,rfl,h1,h2⟩:=tv.oz lL lB he';rw[GQ hb h2] at h1;exact ⟨l,bs,rfl,h1,h _ H (az.refl H) (by simp[Tl])⟩
   ·exact h.elim
  ·exact h.elim
 ·exact h.elim
end
def ajo:bootBuiltins "int"=some (.type "int"):=by decide+kernel
def afK:bootBuiltins "bool"=some (.type "bool"):=by decide+kernel
def abI:bootBuiltins "tuple"=some (.type "tuple"):=by decide+kernel
def afJ:bootBuiltins "list"=some (.type "list"):=by decide+kernel
def Fq:bootBuiltins "ValueError"=some (.type "ValueError"):=by decide+kernel
def aht:∀us,Vals [] us->us=[]:=λ us h=>by cases h;rfl
def YF{C:Addr}{ys:List V}{cvs:List Value}(t:∀us,Vals ys us->us=cvs):∀us,Vals (.ref C::ys) us->us= .ref C::cvs:=λ us r=>by
 cases r with
 |cons r1 r2=>cases r1;rw[t _ r2]
section
variable{X:Cx}{ct:Ct}{c:Cf}{k n:Nat}{f:Addr}{fd:FuncData}{ps:List Str}{F:List Slot->cO}{x:Str}{p pos:Pos}{e:Expr}{es:List Expr}{fa:Sg->Res (List D)}
def bx(G:jx X.prog X.w X.K X.mg X.base c.z.f.cb k f fd ps F)(hr:fD k X.A)(hm:X.mg x=some (.ref f))(hk:W.keepIn X.K (.ref f)=true)(hb:Binds X.K fd ps [])(ha:GW X c.z (e::es) fa)(hn:ps.length=n:=by rfl)(hg:Gl X x:=by rfl)(hdb:(x==("__debug__":Str))=false:=by decide)(he:starEach (e::es) X.env=(false,eval e X.env)::starEach es X.env:=by rfl)(hpl:(backTo pos (starEach es X.env)).any (·.1)=false:=by rfl):WD X c.z (.Call (.Name x p) (e::es) [] pos) (aR n F fa):=by have ha:=ha.out;refine ⟨?_⟩;subst hn;exact Zx (wW (bG c) G hr hm hk hb ha hg hdb he hpl)
def u9(G:jx X.prog X.w X.K X.mg X.base ct.f.cb k f fd ps F)(hr:fD k X.A)(hm:X.mg x=some (.ref f))(hk:W.keepIn X.K (.ref f)=true)(hb:Binds X.K fd ps [])(ha:GW X ct (e::es) fa)(hn:ps.length=n:=by rfl)(hg:Gl X x:=by rfl)(hdb:(x==("__debug__":Str))=false:=by decide)(he:starEach (e::es) X.env=(false,eval e X.env)::starEach es X.env:=by rfl)(hpl:(backTo pos (starEach es X.env)).any (·.1)=false:=by rfl):WD X ct (.Call (.Name x p) (e::es) [] pos) (cV n F fa):=by have ha:=ha.out;refine ⟨?_⟩;subst hn;exact Zz (wW (Ir ct) G hr hm hk hb ha hg hdb he hpl)
def LR(G:jx X.prog X.w X.K X.mg X.base ct.f.cb k f fd ps F)(hr:fD k X.A)(hm:X.mg x=some (.ref f))(hk:W.keepIn X.K (.ref f)=true)(hb:Binds X.K fd ps [])(ha:GW X ct (e::es) fa)(hn:ps.length=n:=by rfl)(hg:Gl X x:=by rfl)(hdb:(x==("__debug__":Str))=false:=by decide)(he:starEach (e::es) X.env=(false,eval e X.env)::starEach es X.env:=by rfl)(hpl:(backTo pos (starEach es X.env)).any (·.1)=false:=by rfl):WM X ct (.Call (.Name x p) (e::es) [] pos) (sQ n F fa):=by have ha:=ha.out;refine ⟨?_⟩;subst hn;exact Ka (wW (Ir ct) G hr hm hk hb ha hg hdb he hpl)
def YD(G:jx X.prog X.w X.K X.mg X.base ct.f.cb k f fd ps F)(hr:fD k X.A)(hm:X.mg x=some (.ref f))(hk:W.keepIn X.K (.ref f)=true)(hb:Binds X.K fd ps [])(ha:GW X ct (e::es) fa)(hn:ps.length=n:=by rfl)(hg:Gl X x:=by rfl)(hdb:(x==("__debug__":Str))=false:=by decide)(he:starEach (e::es) X.env=(false,eval e X.env)::starEach es X.env:=by rfl)(hpl:(backTo pos (starEach es X.env)).any (·.1)=false:=by rfl):WD X ct (.Call (.Name x p) (e::es) [] pos) (sX n F fa):=by have ha:=ha.out;refine ⟨?_⟩;subst hn;exact Zy (wW (UL ct) G hr hm hk hb ha hg hdb he hpl)
end
def spL(K:W.Frag):Sp:=λ vs H Q _=>∃(a:Addr) (ns:List Int),vs=[.ref a]/\FzL K H a (ns.map V.int)/\ns.length<=63/\∀H',Q (.bl true) H'
def JT{K:W.Frag}{ct:Ct}{H:Hp}:∀ns:List Int,aJ K ct H (ns.map D.int) (ns.map V.int)
 |[]=>by simp[aJ]
 |n::ns=>aJ.cons (by simp[Tl]) (JT ns)
def akT{l:W.OpenLaw}{q:Program}{loose:List Str}{XP:(Str->Option Value)->Heap->Prop}{YP:World->Heap->Prop}{d:DefRec}{K:Params->W.Frag}{k:Nat}{F:List Slot->cO}(hn:l.most=some 63)(hdf:d.params.defaults=[]) (h1:callerA.depth+3*k+5<recursionLimit) (h2:callerA.units+16*k+200<cLine) (hY:∀(w:World) (h:Heap),YP w h->(K w.params).In h) (hF:∀(w:World) (mg:Str->Option Value) (fa:Addr) (h:Heap),(K w.params).In h->h.Ns mainGlobals mg->mg d.name=some (.ref fa)->∃(cb:Cb) (fd:FuncData),(∀(s:Shared) (u:Value),BindsTo s fd ⟨[u],[]⟩ [("_law_script",u)])/\∀base:Heap,jx l.prog w (K w.params) mg base cb k fa fd ["_law_script"] F) (ht:∀ns:List Int,ns.length<=63->F [.val (.lst (ns.map D.int))]= .ok (.bl true)):W.WalkO q loose XP YP l.row.toRowW d [] (λ f vs=>PySem.call f vs):=by
 refine L2.adJ (n:=63) (k:=k) (x:="_law_script") (K:=K) (CX:=λ w=>JI l.prog w) (sp:=λ w=>spL (K w.params)) hn (by decide) hdf ⟨rfl,h1,h2⟩ hY (λ w mg fa h X G hm=>?_) (λ w H a ns hl hO hS=>⟨a,ns,rfl,?_,hl,λ _=>rfl⟩) (λ w H s e s' z=>?_)
 ·obtain ⟨cb,fd,hb,hf⟩:=hF w mg fa h X G hm;refine ⟨fd,hb,λ base _ _=>(hf base).imp λ vs H Q E ⟨a,ns,e1,fz,hl,hq⟩=>?_⟩;subst e1;refine ⟨rfl,kj cb (λ _=>none) [.ref a],[.val (.lst (ns.map D.int))],rfl,rfl,aaz (ds:=[.lst (ns.map D.int)]) (λ _ _ q=>nomatch q) (aJ.cons ?_ aJ.nil),?_⟩
  ·simp only[Tl];exact ⟨a,_,rfl,fz,JT ns⟩
  ·rw[ht ns hl];intro v H' _ _ tv;simp only[Tl] at tv;subst tv;exact hq H'
 ·rcases hS with (h|⟨o,h⟩)|h
  ·rcases hO a with z|⟨o,xs,z⟩
   ·rw[z] at h;cases h
   ·rw[z] at h;cases h
  ·exact .inl ⟨o,h⟩
  ·exact .inr h
 ·obtain ⟨_,_,_,_,_,_,z,_⟩:=z;exact z.elim
def walkZ{l:W.OpenLaw}{q:Program}{loose:List Str}{XP:(Str->Option Value)->Heap->Prop}{d:DefRec}{K:Params->W.Frag}{as:List Addr}{nz tz:Nat}{k:Nat}{F:List Slot->cO}(hn:l.most=some 63)(hdf:d.params.defaults=[]) (h1:callerA.depth+3*k+5<recursionLimit) (h2:callerA.units+16*k+200<cLine) (hK:∀P,as=(K P).map (·.1)) (hF:∀(w:World) (mg:Str->Option Value) (fa:Addr) (h:Heap),(K w.params).In h->h.Ns mainGlobals mg->mg d.name=some (.ref fa)->∃(cb:Cb) (fd:FuncData),(∀(s:Shared) (u:Value),BindsTo s fd ⟨[u],[]⟩ [("_law_script",u)])/\∀base:Heap,jx l.prog w (K w.params) mg base cb k fa fd ["_law_script"] F) (ht:∀ns:List Int,ns.length<=63->F [.val (.lst (ns.map D.int))]= .ok (.bl true)):W.WalkX q loose XP (W.X.obsZ as) (W.X.valZ K nz tz) l.row.toRowW d [] (λ f vs=>PySem.call f vs):=λ w s₀ s₁ mg mb G y a o pm cd doc dV kV ho hd hcd hD hmg hg args vals as' L hpre hlay hrd hwl hlo=>akT (YP:=λ w h=>(K w.params).In h) hn hdf h1 h2 (λ _ _ Y=>Y) hF ht w s₀ s₁ mg mb G (W.InK.keeps w s₀.heap s₁.heap (W.X.z_facts hK y).2.1 (W.Laid.keeps L)) a o pm cd doc dV kV ho hd hcd hD hmg hg args vals as' hpre hlay hrd hwl hlo
section
variable{X:Cx}{ct:Ct}{c:Cf}{o e:Expr}{es:List Expr}{f m:Str}{fo g:Sg->Res D}{fa:Sg->Res (List D)}{pos apos:Pos}
def FA(K:W.Frag)(cb:Cb)(f:Str):Prop:=∀C,((∃c,cb.ins c=some C)\/∃c ns,cb.cls c=some (C,ns))->FF K C/\tG K C f
def BE{K:W.Frag}{H:Hp}:∀{ns:List Str} {xs:List D} {vs:List V} {d:D},aJ K ct H xs vs->(ns.zip xs).lookup f=some d->∃v,(ns.zip vs).lookup f=some v/\Tl K ct H d v
 |[],xs,vs,d,t,h=>by simp at h
 |n::ns,[],vs,d,t,h=>by simp at h
 |n::ns,x::xs,vs,d,t,h=>by
  simp only[aJ] at t;obtain ⟨v,r,rfl,t1,t2⟩:=t;simp only[List.zip_cons_cons,List.lookup_cons] at h ⊢;split at h
  ·cases h;exact ⟨v,rfl,t1⟩
  ·exact BE t2 h
def vc(hf:FA X.K ct.f.cb f)(ho:WD X ct o fo)(hb:attributeBase o f X.env (eval o X.env)=eval o X.env:=by rfl):WD X ct (.Attribute o f pos) (Dk f fo):=by
 have ho:=ho.out;refine ⟨?_⟩;refine PE.imp (ah7 ho hb) λ σ H Q ⟨Γ,j,h⟩=>?_;refine rL.bnd j h λ d v H' s t j' h'=>?_;cases d with
 |obj c ns xs=>
  simp only[Tl] at t;obtain ⟨a,C,dx,vs,rfl,h1,h2,h3,h4⟩:=t;simp only[E2] at h';split at h'
  ·rename_i d hd;obtain ⟨v,q1,q2⟩:=BE h4 hd;obtain ⟨z1,z2⟩:=hf C (.inr ⟨c,ns,h1⟩);exact ⟨a,C,dx,_,v,rfl,h2,z1,z2,q1,h' v H' s q2⟩
  ·exact h'.elim
 |yu tm c ns xs=>
  simp only[Tl] at t;obtain ⟨a,C,dx,vs,rfl,h1,h2,h3,h4⟩:=t;have DX:H' a=some (.ins C dx (ns.zip vs)):=by
   cases tm with
   |true=>exact j'.lB a _ h2
   |false=>exact j'.lL a _ h2
  simp only[E2] at h';split at h'
  ·rename_i d hd;obtain ⟨v,q1,q2⟩:=BE h4 hd;obtain ⟨z1,z2⟩:=hf C (.inl ⟨c,h1⟩);exact ⟨a,C,dx,_,v,rfl,DX,z1,z2,q1,h' v H' s q2⟩
  ·exact h'.elim
 |_=>exact h'.elim
def DO(X:Cx)(cb:Cb)(m:Str)(n:Nat)(rK:List (String×(List Slot->cO))):Prop:=∀c C ns F,cb.cls c=some (C,ns)->rK.lookup c=some F->∃(k:Nat) (f:Addr) (fd:FuncData) (ps:List Str),FF X.K C/\Meth X.K C m f/\jx X.prog X.w X.K X.mg X.base cb k f fd ps F/\fD k X.A/\Binds X.K fd ps []/\ps.length=n+1/\m∉ns
def zk{α:Type}:∀{ns:List Str} {vs:List α},m∉ns->(ns.zip vs).lookup m=none
 |[],vs,_=>by simp
 |n::ns,[],_=>by simp
 |n::ns,v::vs,h=>by
  simp only[List.zip_cons_cons,List.lookup_cons];have:(m==n)=false:=by simp only[List.mem_cons,not_or] at h;simpa using h.1
  rw[this];exact zk λ z=>h (.tail _ z)
variable{md:List D->Option (List D)}{bk:D->Bool}{zF:M->Bool}{rK:List (String×(List Slot->cO))}{n:Nat}
def aeO(X:Cx)(ct:Ct)(md:List D->Option (List D))(bk:D->Bool)(zF:M->Bool)(n:Nat)(rK:List (String×(List Slot->cO)))(fo:Sg->Res D)(fa:Sg->Res (List D)):TE:=λ σ H Q=>∃Γ,Jx X ct Γ σ H/\Ok X ct σ H (fo Γ) λ d=>∃F,p6 rK d=some F/\Ok X ct σ H (fa Γ) λ ds=>ds.length=n/\∃ds',md (d::ds)=some ds'/\∀H',az H H'->TY X ct bk zF σ H' (F (ds'.map .val)) Q
def lW{pl:Sem Bool}(Z:DP ct md bk zF)(hm:DO X ct.f.cb m n rK)(ho:WD X ct o fo)(ha:GW X ct (e::es) fa)(hst:starEach (e::es) X.env=(false,eval e X.env)::starEach es X.env:=by rfl)(hpl:(backTo pos (starEach es X.env)).any (·.1)=false:=by rfl)(ht:eval (.Call (.Attribute o m apos) (e::es) [] pos) X.env=(do
   let ov <-eval o X.env
   standAt apos.atName
   let (f,first) <-holding [ov] (getMethod ov m pl)
   callWith pos f first (backTo pos (starEach (e::es) X.env)) (backToKw pos (keywordEach [] X.env))):=by rfl):WE X (.Call (.Attribute o m apos) (e::es) [] pos) (aeO X ct md bk zF n rK fo fa):=by
 have ho:=ho.out
 have ha:=ha.out
 refine ⟨?_⟩
 intro pins s σ H Q I ⟨Γ,j,h⟩
 have h1:rL X ct fo σ H (λ x H1=>∃d F,az H H1/\Tl X.K ct H1 d x/\p6 rK d=some F/\Ok X ct σ H (fa Γ) λ ds=>ds.length=n/\∃ds',md (d::ds)=some ds'/\∀H',az H H'->TY X ct bk zF σ H' (F (ds'.map .val)) Q):=
  ⟨Γ,j,Ok.mono (az.refl H) h λ d ⟨F,hF,q⟩ v H1 s1 t1=>⟨d,F,s1,t1,hF,q⟩⟩
 refine W.methodCall_KW (pl:=pl) (gC (ho pins s σ H _ I h1) λ u s1 ⟨x,H1,I1,rx,d,F,sm,t,hF,q⟩=>?_) ht
 cases d with
 |obj c ns xs=>
  have t0:=t
  simp only[Tl] at t
  obtain ⟨a,C,dx,vs0,rfl,g1,g2,g3,g4⟩:=t
  cases rx
  obtain ⟨kk,f,fd,ps,c1,c2,c3,c4,c5,c6,c7⟩:=hm c C ns F g1 hF
  refine C7 I1 g2 c1 c2 (zk c7) ?_
  have h2:OX X ct fa σ H1 (λ vs H2=>∃ds ds',az H1 H2/\aJ X.K ct H2 ds vs/\ds.length=n/\md (.obj c ns xs::ds)=some ds'/\TY X ct bk zF σ H2 (F (ds'.map .val)) Q):=
   ⟨Γ,j.mono sm,Ok.mono sm q λ ds ⟨q1,ds',q2,q3⟩ vs H2 s2 t2=>⟨ds,ds',s2,t2,q1,q2,q3 H2 (sm.trans s2)⟩⟩
  refine W.callWith_K (first:=[.ref a]) (h₀:=X.base) I.ok.mod.kin c2.kp (gC (ha pos pins s1 σ H1 _ I1 h2) λ us s2 ⟨vs,H2,I2,r,ds,ds',s12,tl,hl,hd,q⟩=>⟨I2.zZ,?_⟩) hst hpl
  have j2:=j.mono (sm.trans s12)
  obtain ⟨L,l,t2,q1,q2⟩:=Z.go X.K H2 (.obj c ns xs::ds) (.ref a::vs) ds' j2.lL j2.lB (aJ.cons (t0.keep (az.keep s12)) tl) hd
  exact Ht (us:= .ref a::us) (vs:= .ref a::vs) c3 c4 c5 I2 (.cons rfl r) l t2 (by simp[<-tl.length,hl,c6]) (Jv q q1 q2)
 |_=>cases hF
def pH{pl:Sem Bool}(Z:DP ct md bk zF)(hm:DO X ct.f.cb m n rK)(ho:WD X ct o fo)(ht:eval (.Call (.Attribute o m apos) [] [] pos) X.env=(do
   let ov <-eval o X.env
   standAt apos.atName
   let (f,first) <-holding [ov] (getMethod ov m pl)
   callWith pos f first (backTo pos (starEach [] X.env)) (backToKw pos (keywordEach [] X.env))):=by rfl):WE X (.Call (.Attribute o m apos) [] [] pos) (aeO X ct md bk zF n rK fo aB):=by
 have ho:=ho.out
 refine ⟨?_⟩
 intro pins s σ H Q I ⟨Γ,j,h⟩
 have h1:rL X ct fo σ H (λ x H1=>∃d F,az H H1/\Tl X.K ct H1 d x/\p6 rK d=some F/\0=n/\∃ds',md [d]=some ds'/\∀H',az H H'->TY X ct bk zF σ H' (F (ds'.map .val)) Q):=
  ⟨Γ,j,Ok.mono (az.refl H) h λ d ⟨F,hF,q⟩ v H1 s1 t1=>⟨d,F,s1,t1,hF,q⟩⟩
 refine W.methodCall_KW (pl:=pl) (gC (ho pins s σ H _ I h1) λ u s1 ⟨x,H1,I1,rx,d,F,sm,t,hF,hl,ds',hd,q⟩=>?_) ht
 cases d with
 |obj c ns xs=>
  have t0:=t
  simp only[Tl] at t
  obtain ⟨a,C,dx,vs0,rfl,g1,g2,g3,g4⟩:=t
  cases rx
  obtain ⟨kk,f,fd,ps,c1,c2,c3,c4,c5,c6,c7⟩:=hm c C ns F g1 hF
  refine C7 I1 g2 c1 c2 (zk c7) ?_
  have j2:=j.mono sm
  obtain ⟨L,l,t2,q1,q2⟩:=Z.go X.K H1 [.obj c ns xs] [.ref a] ds' j2.lL j2.lB (aJ.cons t0 aJ.nil) hd
  exact W.callWith_K0 (first:=[.ref a]) I1.zZ c2.kp (Ht (us:=[.ref a]) (vs:=[.ref a]) c3 c4 c5 I1 (.cons rfl .nil) l t2 (by simp[c6, <-hl]) (Jv (q H1 sm) q1 q2))
 |_=>cases hF
def aeh{gm:Sg->Res M}(h:PE X e (aeO X ct md bk zF n rK fo fa))(hg:∀Γ,gm Γ=(fo Γ).bnd λ o=>match p6 rK o with
  |some F=>(fa Γ).bnd λ ds=>if ds.length=n then (match md (o::ds) with
   |some ds'=>(match F (ds'.map .val) with
    | .ok d=>if bk d=true then .ok (.d d) else .bad
    | .new m=>if zF m=true then .ok m else .bad
    | .err x=> .err x
    |_=> .bad)
   |none=> .bad) else .bad
  |none=> .bad):PM X ct e gm:=by
 refine PE.imp h λ σ H Q ⟨Γ,j,q⟩=>⟨Γ,j,?_⟩;rw[hg] at q;refine q.bnd λ o _ q=>?_;split at q
 ·rename_i F hF;refine ⟨F,hF,q.bnd λ ds _ q=>?_⟩;split at q
  ·rename_i hl;split at q
   ·rename_i ds' hd;refine ⟨hl,ds',hd,λ H' s=>?_⟩;cases z:F (ds'.map .val) with
    |ok d=>
     rw[z] at q;dsimp only at q;split at q
     ·rename_i hb;exact ⟨hb,(Wm.data q).mono s⟩
     ·exact q.elim
    |new m=>
     rw[z] at q;dsimp only at q;split at q
     ·rename_i hb;exact ⟨hb,Wm.mono s q⟩
     ·exact q.elim
    |err x=>rw[z] at q;exact λ e s' r=>q e s' (r.mono s)
    |okG d os=>rw[z] at q;exact q.elim
    |Ng d os=>rw[z] at q;exact q.elim
    |bad=>rw[z] at q;exact q.elim
   ·exact q.elim
  ·exact q.elim
 ·exact q.elim
def Z6(a:cO):rG a=(match a with
    | .ok d=>if true=true then .ok (.d d) else .bad
    | .new m=>if true=true then .ok m else .bad
    | .err x=> .err x
    |_=> .bad):=by cases a<;>simp[rG]
def fh(h:WE X e (aeO X c.z some (λ _=>true) (λ _=>true) n rK fo fa)):WM X c.z e (kE n rK fo fa):=by
 have h:=h.out;exact ⟨aeh h λ Γ=>by
 unfold kE;cases fo Γ with
 |ok o=>
  simp only[Res.bw];cases p6 rK o with
  |none=>rfl
  |some F=>
   simp only;cases fa Γ with
   |ok ds=>
    simp only[Res.bw];by_cases hl:ds.length=n
    ·simp only[hl,if_true];exact Z6 _
    ·simp[hl]
   |err x=>rfl
   |bad=>rfl
 |err x=>rfl
 |bad=>rfl⟩
def J5{α:Type}{y:V}:∀{ns:List Str} {vs:List V},ns.length=vs.length->f∉ns->qx f y (ns.zip vs)=(ns++[f]).zip (vs++[y])
 |[],[],_,_=>rfl
 |[],_::_,h,_=>by simp at h
 |n::ns,[],h,_=>by simp at h
 |n::ns,v::vs,h,hn=>by simp only[List.mem_cons,not_or] at hn;have:¬n=f:=λ z=>hn.1 z.symm;simp only[List.zip_cons_cons,qx,this,if_false,List.cons_append];rw[J5 (α:=α) (by simpa using h) hn.2]
noncomputable def ajP(cb:Cb)(ft:List (String×List Str)):Prop:=∀c C full,cb.ins c=some C->ft.lookup c=some full->∀c' ns',cb.cls c'=some (C,ns')->ns'=full
def BH(i:Nat){x:Str}{px pa:Pos}{ft:List (String×List Str)}(hf:FA X.K c.cb f)(ht:ajP c.cb ft)(he:∀B,WD X (c.at' B) e g)(hN:X.N[i]? =some x:=by rfl)(hv:Yj X.env.scope x:=by first|exact Or.inl rfl|exact Or.inr (Or.inl rfl)|exact Or.inr (Or.inr rfl))(hd:(x==("__debug__":Str))=false:=by decide)(hcd:(x==("__classdict__":Str))=false:=by decide)(hs:swapsWith e (some (.Attribute (.Name x px) f pa)) pos.line X.env=pure false:=by rfl):DL X c (.Assign [.Attribute (.Name x px) f pa] e pos) (zP i ft f g):=by
 have he:=λ B=>(he B).out;refine ⟨?_⟩;intro pins s σ H E I ⟨Γ,j,h⟩;refine ahX (Us (ct:=c.at' H) i hN hv hd hcd) (he H) hs pins s σ H E I ?_;refine ⟨Γ,j.lift,Fn.ok j h λ d _ q y H1 s1 t=>?_⟩;refine ⟨Γ,j.lift.mono s1,Ok.mono (H:=H) s1 (Fn.ok (tm:=true) (B:=H) j q λ ks _ q v H2 s2 pa=>?_) λ _ z=>z⟩;have sm:=s1.trans s2;have j2:=j.mono sm;have ty:=t.keep (az.keep s2);obtain ⟨sl,m,v0,m',p1,p2,p3,p4,p5⟩:=pa;have e1:DW i ks (MA ft f d) Γ=(MA ft f d m').map λ jm=>Γ.set i (reS sl (qw m ks jm)):=by unfold DW;rw[p1,Option.bind_some,p2,Option.bind_some,p5,Option.bind_some]
 rw[e1] at q;cases z:MA ft f d m' with
 |none=>rw[z] at q;exact q.elim
 |some jm=>
  rw[z] at q;cases m' with
  |o cn ns xs=>
   simp only[MA,Option.bind_eq_some_iff] at z;obtain ⟨full,zf,z⟩:=z;split at z
   ·rename_i hc;cases z;obtain ⟨vv,S,g1,o1⟩:=j2.ofM p1 p2;rw[p3] at g1;cases g1;obtain ⟨S',o',_⟩:=o1.Xq p4 p5;simp only[Ow] at o';obtain ⟨a,C,dx,vs,rfl,q2,q3,q4,q5,q6⟩:=o';obtain ⟨c1,c2⟩:=hf C (.inl ⟨cn,q3⟩);have kp:aZ c.cb H2 (upd H2 a (.ins C dx (qx f y (ns.zip vs)))):=λ b o hb st=>by
     have:b≠a:=by
      rintro rfl
      rw[q4] at hb;cases hb;obtain ⟨c',ns',w1,w2⟩:=st;have w3:=ht cn C full q3 zf c' ns' w1;rw[BF q5] at w2;rw[w2,w3] at hc;omega
     rw[aE this];exact hb
    refine ⟨a,C,dx,_,rfl,q4,c1,c2,by rw[List.length_zip];omega,?_⟩;refine q σ _ ((az.keep sm).trans kp) (j2.up p1 p2 p3 p4 p5 kp λ S' o=>?_);simp only[Ow] at o ⊢;obtain ⟨a',C',dx',us,w1,w2,w3,w4,w5,w6⟩:=o;cases w1;rw[q4] at w4;simp only[Option.some.injEq,HO.ins.injEq] at w4;obtain ⟨rfl,rfl,w4⟩:=w4;have euv:us=vs:=by have:=congrArg (List.map Prod.snd) w4;rw[List.map_snd_zip (by omega),List.map_snd_zip (by omega)] at this;exact this.symm
    subst euv;refine ⟨w2,a,C,dx,us++[y],rfl,w2,w3,?_,by simp[q5],(w6.append (aJ.cons (Tl.down (B:=H) (tm:=true) ty hc.1) aJ.nil)).keep kp⟩;rw[aG,J5 (α:=V) q5 hc.2.2.2]
   ·cases z
  |_=>cases z
end
section
variable{X:Cx}{ct:Ct}{c:Cf}{o e:Expr}{es:List Expr}{x:Str}{fa:Sg->Res (List D)}{p pos:Pos}{md:List D->Option (List D)}{bk:D->Bool}{zF:M->Bool}{n k:Nat}{F:List Slot->cO}{cn:String}{ns:List Str}{C f:Addr}{fd:FuncData}{ps:List Str}
def Yc(X:Cx)(ct:Ct)(bk:D->Bool)(cn:String)(ns:List Str)(σ:St)(H:Hp)(a:cO)(Q:VK):Prop:=match zV cn ns a with
 | .ok d=>bk d=true/\Wd X ct H Q d
 | .err x=>∀e s',ja X ct.f.cb σ H x e s'->X.xe e s'
 | .bad=>False
def V4{m:M}:∀{Γ:Sg},iM 0 Γ=[(0,m)]->Γ[0]? =some (.par m)
 |[],h=>by cases h
 | .par m'::r,h=>by simp only[iM,List.cons.injEq,Prod.mk.injEq] at h;obtain ⟨⟨_,rfl⟩,_⟩:=h;rfl
 | .no::r,h=>by simp only[iM] at h;exact absurd h (pV r 0)
 | .val d::r,h=>by simp only[iM] at h;exact absurd h (pV r 0)
 | .own d::r,h=>by simp only[iM] at h;exact absurd h (pV r 0)
where pV {m:M}:∀(Γ:Sg) (i:Nat),iM (i+1) Γ≠[(0,m)]
 |[],i,h=>by cases h
 | .par m'::r,i,h=>by
  simp only[iM,List.cons.injEq,Prod.mk.injEq] at h
  omega
 | .no::r,i,h=>by simp only[iM] at h;exact pV r (i+1) h
 | .val _::r,i,h=>by simp only[iM] at h;exact pV r (i+1) h
 | .own _::r,i,h=>by simp only[iM] at h;exact pV r (i+1) h
def aiR{K:W.Frag}{cb:Cb}{L H:Hp}{ds:List D}{vs:List V}{a dx:Addr}(l:az L H)(t:aJ K (kj cb L vs).z H ds vs)(ha:H a=none)(hd:H dx=none)(ne:dx≠a)(hc:cb.ins cn=some C):
  J K (Cf.z ⟨cb,L,λ b=>b=a,.ref a::vs⟩) (upd (upd H dx (.own a)) a (.ins C dx [])) (.par (.o cn [] [])::ds.map .val) ((V.ref a::vs).map some) (upd (upd H dx (.own a)) a (.ins C dx [])):=by
 have sm:az H (upd (upd H dx (.own a)) a (.ins C dx [])):=(bh hd _).trans (bh (by rw[aE (Ne.symm ne)];exact ha) _);refine ⟨λ _ _ q _=>q,λ _ q=>q,l.trans sm,λ _ _ q=>(nomatch q),by simp[t.length],λ i b=>i=0/\b=a,λ i sl ov h1 h2=>?_,λ i j b hij z z'=>hij (z.1.trans z'.1.symm),λ i b z q=>?_⟩
 ·cases i with
  |zero=>
   cases h1;cases h2;refine ⟨.ref a,rfl,?_,⟨λ b z=> .inr z.2,λ b z q=>?_,λ b z=>?_,λ b z t=>nomatch t⟩,rfl⟩
   ·simp only[Ow];exact ⟨a,C,dx,[],rfl,by simp,hc,aG,rfl,aJ.nil⟩
   ·rw[z.2,aG] at q;cases q
   ·cases w:L b with
    |none=>exact w
    |some o=>have:=l b o w;rw[z.2,ha] at this;cases this
  |succ i=>
   simp only[List.getElem?_cons_succ,List.getElem?_map,List.map_cons] at h1 h2;cases q:ds[i]? with
   |none=>rw[q] at h1;cases h1
   |some d=>obtain ⟨v,e1,e2⟩:=t.get q;rw[q] at h1;rw[e1] at h2;cases h1;cases h2;refine ⟨⟨v,rfl,Bh (ct:=(kj cb L vs).z) (iZ:=Cf.z ⟨cb,L,λ b=>b=a,.ref a::vs⟩) rfl (λ t a o z=>by cases t<;>exact z) (e2.keep (az.keep sm))⟩,λ b z=>absurd z.1 (by simp)⟩
 ·rw[z.2,aG] at q;cases q
def VS{pins:List (Addr×Obj)}{σ:St}{H L:Hp}{s:Shared}{Q:VK}{us:List Value}{vs:List V}{ds:List D}(Mc:Mk X.K C f)(G:jx X.prog X.w X.K X.mg X.base ct.f.cb k f fd ps F)(hr:fD (k+1) X.A)(hb:Binds X.K fd ps [])(hci:ct.f.cb.ins cn=some C)(hcc:ct.f.cb.cls cn=some (C,ns)) (I:Inv X pins σ H s) (r:Vals vs us) (l:az L H) (t:aJ X.K (kj ct.f.cb L vs).z H ds vs) (hn:vs.length+1=ps.length) (q1:∀H' d v,bk d=true->Tl X.K (kj ct.f.cb L vs).z H' d v->Tl X.K ct H' d v) (h:Yc X ct bk cn ns σ H (F (.par (.o cn [] [])::ds.map .val)) Q):wpAny (model X.prog X.w) X.A (call (.ref C) us) (EP X pins σ Q) X.xe s:=by
 have hx0:H (s.heap.objs.size+1)=none:=I.hok.fresh (Nat.le_succ _);have hd0:H s.heap.objs.size=none:=I.hok.fresh (Nat.le_refl _);have hne:s.heap.objs.size≠s.heap.objs.size+1:=Nat.ne_of_lt (Nat.lt_succ_self _);have I2:=Inv.made (C:=C) I;have smm:az H (upd (upd H s.heap.objs.size (.own (s.heap.objs.size+1))) (s.heap.objs.size+1) (.ins C s.heap.objs.size [])):=(bh hd0 _).trans (bh (by rw[aE (Ne.symm hne)];exact hx0) _);have r2:Vals (V.ref (s.heap.objs.size+1)::vs) (Value.ref (s.heap.objs.size+1)::us):= .cons rfl r;have hl:(Value.ref (s.heap.objs.size+1)::us).length=ps.length:=by rw[<-r2.length];exact hn
 have hb':=hb {s with heap:=(s.heap.push W.emptyDict).push (W.instObj C s.heap.objs.size)} (Value.ref (s.heap.objs.size+1)::us) I2.zZ (by rw[List.append_nil];exact hl);rw[List.append_nil] at hb';let E:XK:=λ cls od H'=>∃x C',F (.par (.o cn [] [])::ds.map .val)= .err x/\ct.f.cb.exc x=some C'/\cls= .ref C'/\od=none/\az H H'
 have LJ:spD X.K ct.f.cb ps.length F (V.ref (s.heap.objs.size+1)::vs) (upd (upd H s.heap.objs.size (.own (s.heap.objs.size+1))) (s.heap.objs.size+1) (.ins C s.heap.objs.size [])) (λ v H2=>v= .fE/\Q (.ref (s.heap.objs.size+1)) H2) E:=by
  refine ⟨hn,⟨ct.f.cb,L,λ b=>b=s.heap.objs.size+1,_⟩,_,rfl,rfl,aiR l t hx0 hd0 hne hci,?_⟩;unfold Yc at h;cases z:F (.par (.o cn [] [])::ds.map .val) with
  |ok d=>rw[z] at h;exact h.elim
  |new d=>rw[z] at h;exact h.elim
  |Ng d os=>rw[z] at h;exact h.elim
  |bad=>rw[z] at h;exact h.elim
  |err x=>refine λ C' H' e sm=>⟨x,C',z,e,rfl,rfl,λ b o w=>sm b o (smm b o w) ?_⟩;intro w2;have w2:b=s.heap.objs.size+1:=w2;rw[w2,hx0] at w;cases w
  |okG d os=>
   rw[z] at h;unfold zV at h;split at h
   ·rename_i d' hm;split at hm
    ·rename_i c' ns' xs e1;split at hm
     ·rename_i hc;obtain ⟨rfl,rfl⟩:=hc;cases hm;cases e1;intro v Γ' σ' H' j' ho tv;simp only[Tl] at tv;refine ⟨tv,?_⟩;have hz:=V4 ho;obtain ⟨v',S,g1,g2,g3,g4⟩:=j'.par hz;simp only[Ow] at g2;obtain ⟨a,C',dx,us',e1,w2,w3,w4,w5,w6⟩:=g2;subst e1;have:a=s.heap.objs.size+1:=by have:=g4;simp only[Cf.z,List.getElem?_cons_zero,Option.some.injEq,V.ref.injEq] at this;exact this.symm
      subst this;have hCC:C'=C:=by have w3:ct.f.cb.ins c'=some C':=w3;rw[hci] at w3;exact (Option.some.inj w3).symm
      subst hCC;refine h.2 _ H' (λ b o w=>j'.same b o (smm b o w) ?_) (q1 H' _ _ h.1 ?_)
      ·intro w2';have w2':b=s.heap.objs.size+1:=w2';rw[w2',hx0] at w;cases w
      ·simp only[Tl];refine ⟨_,C',dx,us',rfl,hcc,w4,w5,?_⟩;exact wI (ct:=Cf.z ⟨ct.f.cb,L,λ b=>b=s.heap.objs.size+1,.ref (s.heap.objs.size+1)::vs⟩) (iZ:=(kj ct.f.cb L vs).z) rfl (λ t a o z=>by cases t<;>exact z) w6
     ·cases hm
    ·cases hm
    ·cases hm
   ·rename_i x hm;split at hm
    ·split at hm<;>cases hm
    ·rename_i y e1;cases e1
    ·cases hm
   ·exact h.elim
 refine wpAny_call (Z3 (f:=f) I.zZ Mc.makes Mc.init (beq_iff_eq.mp Mc.fn) (codeAny_mono (G.run _ X.stack _ _ ⟨Value.ref (s.heap.objs.size+1)::us,[]⟩ (Value.ref (s.heap.objs.size+1)::us) _ _ E (hr.make C us [])
  (I2.amt.make C us []) hb' r2 LJ) λ r s' hq=>?_))
 cases r with
 |error e=>
  obtain ⟨a,C',H',B,a0,h1,⟨x,C2,w1,w2,w3,w4,w5⟩,h3,h4,h5,h6,h6',h7⟩:=hq;unfold Yc at h;rw[w1] at h;cases w3;have nw:s.heap.get? a=none:=by
   cases z:s.heap.get? a with
   |none=>rfl
   |some ob=>have:((s.heap.push W.emptyDict).push (W.instObj C s.heap.objs.size)).get? a=some ob:=Heap.get?_push_of_some _ (Heap.get?_push_of_some _ z);rw[this] at h6';cases h6'
  refine h e s' ⟨pins,H,s,C',I,az.refl H,w2,.inr ⟨a,C',H',B,a0,h1,⟨rfl,rfl,w5⟩,h3,h4,h5,h6,nw,λ h' st up=>?_⟩⟩;obtain ⟨un,hok⟩:=h7 h' st up;have push:∀b o,s.heap.get? b=some o->((s.heap.push W.emptyDict).push (W.instObj C s.heap.objs.size)).get? b=some o:=λ b o q=>Heap.get?_push_of_some _ (Heap.get?_push_of_some _ q);have nn:∀b o,s.heap.get? b=some o->H b=none->upd (upd H s.heap.objs.size (.own (s.heap.objs.size+1))) (s.heap.objs.size+1) (.ins C s.heap.objs.size []) b=none:=λ b o q n=>by have lt:=Heap.lt_size q;rw[aE (Nat.ne_of_lt (Nat.lt_succ_of_lt lt)),aE (Nat.ne_of_lt lt)];exact n
  exact ⟨⟨λ b o q n hb hx=>un.keep b o (push b o q) (nn b o q n) hb hx,λ b o q n hb hx=>un.slot b o (push b o q) (nn b o q n) hb hx,λ b o q n hx=>un.free b o (push b o q) (nn b o q n) hx,λ b o q hx=>un.there b o (push b o q) hx,λ b xs q=>un.tups b xs (smm b _ q),λ b o u q=>un.xS b o u (smm b _ q),λ b ps q=>un.yD b ps (smm b _ q)⟩,hok⟩
 |ok fl=>
  cases fl with
  |ret u=>obtain ⟨v,H',I3,rv,ev,q3⟩:=I2.after hq;subst ev;exact ⟨rv,⟨V.ref (s.heap.objs.size+1),H',I3,rfl,q3⟩⟩
  |next=>exact False.elim hq
  |brk=>exact False.elim hq
  |cont=>exact False.elim hq
def aeI(X:Cx)(ct:Ct)(md:List D->Option (List D))(bk:D->Bool)(cn:String)(ns:List Str)(n:Nat)(F:List Slot->cO)(fa:Sg->Res (List D)):TE:=λ σ H Q=>∃Γ,Jx X ct Γ σ H/\Ok X ct σ H (fa Γ) λ ds=>ds.length=n/\∃ds',md ds=some ds'/\∀H',az H H'->Yc X ct bk cn ns σ H' (F (.par (.o cn [] [])::ds'.map .val)) Q
def JM(Z:DP ct md bk zF)(Mc:Mk X.K C f)(G:jx X.prog X.w X.K X.mg X.base ct.f.cb k f fd ps F)(hr:fD (k+1) X.A)(hb:Binds X.K fd ps [])(hci:ct.f.cb.ins cn=some C)(hcc:ct.f.cb.cls cn=some (C,ns))(hm:X.mg x=some (.ref C))(ha:GW X ct (e::es) fa)(hn:ps.length=n+1)(hg:Gl X x:=by rfl)(hdb:(x==("__debug__":Str))=false:=by decide)(he:starEach (e::es) X.env=(false,eval e X.env)::starEach es X.env:=by rfl)(hpl:(backTo pos (starEach es X.env)).any (·.1)=false:=by rfl):WE X (.Call (.Name x p) (e::es) [] pos) (aeI X ct md bk cn ns n F fa):=by
 have ha:=ha.out;refine ⟨?_⟩;intro pins s σ H Q I ⟨Γ,j,h⟩;refine wpAny_Call_Name_kw (xB I hg hm ?_ hdb);have h':OX X ct fa σ H (λ vs H1=>∃ds ds',az H H1/\aJ X.K ct H1 ds vs/\ds.length=n/\md ds=some ds'/\Yc X ct bk cn ns σ H1 (F (.par (.o cn [] [])::ds'.map .val)) Q):=
  ⟨Γ,j,Ok.mono (az.refl H) h λ ds ⟨q1,ds',q2,q3⟩ vs H1 s1 t1=>⟨ds,ds',s1,t1,q1,q2,q3 H1 s1⟩⟩
 refine W.callWith_K (h₀:=X.base) I.ok.mod.kin Mc.kp (gC (ha pos pins s σ H _ I h') λ us s1 ⟨vs,H1,I1,r,ds,ds',sm,t1,hl,hd,q⟩=>⟨I1.zZ,?_⟩) he hpl;have j1:=j.mono sm;obtain ⟨L,l,t2,q1,_⟩:=Z.go X.K H1 ds vs ds' j1.lL j1.lB t1 hd;exact VS Mc G hr hb hci hcc I1 r l t2 (by rw[<-t1.length,hl,hn]) q1 q
def Uy{gd:Sg->Res D}(h:PE X e (aeI X ct md bk cn ns n F fa))(hg:∀Γ,gd Γ=(fa Γ).bnd λ ds=>if ds.length=n then (match md ds with
   |some ds'=>(match zV cn ns (F (.par (.o cn [] [])::ds'.map .val)) with
    | .ok d=>if bk d=true then .ok d else .bad
    | .err x=> .err x
    | .bad=> .bad)
   |none=> .bad) else .bad):PD X ct e gd:=by
 refine PE.imp h λ σ H Q ⟨Γ,j,q⟩=>⟨Γ,j,?_⟩;rw[hg] at q;refine q.bnd λ ds _ q=>?_;split at q
 ·rename_i hl;split at q
  ·rename_i ds' hd;refine ⟨hl,ds',hd,λ H' s=>?_⟩;unfold Yc;cases z:zV cn ns (F (.par (.o cn [] [])::ds'.map .val)) with
   |ok d=>
    rw[z] at q;dsimp only at q ⊢;split at q
    ·rename_i hb;exact ⟨hb,Wd.mono s q⟩
    ·exact q.elim
   |err x=>rw[z] at q;exact λ e s' r=>q e s' (r.mono s)
   |bad=>rw[z] at q;exact q.elim
  ·exact q.elim
 ·exact q.elim
def ad5(r:Res D):r=(match r with
    | .ok d=>if true=true then .ok d else .bad
    | .err x=> .err x
    | .bad=> .bad):=by cases r<;>simp
def ahQ(r:Res D):nbX cn ns r=(match r with
    | .ok d=>if nb d=true then .ok d else .bad
    | .err x=> .err x
    | .bad=> .bad):=by cases r<;>simp[nbX]
def YB(h:WE X e (aeI X ct (λ ds=>if m6 ds=true then some ds else none) (λ _=>true) cn ns n F fa)):WD X ct e (Di n cn ns F fa):=by
 have h:=h.out;exact ⟨Uy h λ Γ=>by
 unfold Di;cases fa Γ with
 |ok ds=>
  simp only[Res.bw];by_cases hl:ds.length=n
  ·by_cases hn:m6 ds=true
   ·simp only[hl,hn,and_self,if_true];exact ad5 _
   ·simp[hl,hn]
  ·simp[hl]
 |err x=>rfl
 |bad=>rfl⟩
def YA(h:WE X e (aeI X ct (λ ds=>some (wu ds)) nb cn ns n F fa)):WD X ct e (Dh n cn ns F fa):=by
 have h:=h.out;exact ⟨Uy h λ Γ=>by
 unfold Dh;cases fa Γ with
 |ok ds=>
  simp only[Res.bw];by_cases hl:ds.length=n
  ·simp only[hl,if_true];exact ahQ _
  ·simp[hl]
 |err x=>rfl
 |bad=>rfl⟩
end
section
variable{P:Program}{w:World}{K:W.Frag}{mg:Str->Option Value}{base:Heap}{cb:Cb}
def ai4{x qual:Str}{st:Stmt}{f:Addr}{fd:FuncData}{N ps:List Str}{k:Nat}{F:List Slot->cO}{B:Nat->Sg->Out}(Ye:mH K x qual st f fd)(S:oY N ps (ay st)) (hbody:∀(c:Cf) (cdv:Value) (A:Around) (outer:List Env) (s:Shared) (H:Hp) (E:XK),c.cb=cb->fD k (A.deeper (envOfC qual (ay st) s.heap.objs.size f cdv))->Good (pD (JI P w) P w K mg base N qual (ay st) f cdv A outer s H E)->∀n,anw (pD (JI P w) P w K mg base N qual (ay st) f cdv A outer s H E) c (aF st) (B n)) (hF:∀as,as.length=ps.length->F as≠.bad->∃n,abO (B n (ck N as))=F as):jx P w K mg base cb (k+1) f fd ps F:=by
 obtain ⟨oc,od,kV,doc,pm,an,cdv,iZ,osl,rfl,lk,hcd⟩:=Ye.ex;refine agu lk hcd S (λ vs H Q E h=>h.1) λ A outer s H vs Q E hr LJ=>?_;obtain ⟨hn,c,as,ecb,amw,j,h⟩:=LJ;have hl:as.length=vs.length:=by have:=j.len;simpa using this
 have hb:F as≠.bad:=λ z=>by rw[z] at h;exact h
 obtain ⟨n,hF⟩:=hF as (by rw[hl];exact hn) hb;refine ⟨_,hbody c cdv A outer s H E ecb hr ⟨PassesOwn.leaving,rfl,S.nd,rfl,rfl⟩ n,ck N as,UR j,?_⟩;rw[<-hF] at h;cases q:B n (ck N as) with
 |nx Γ=>rw[q] at h;exact λ σ' H' _ j=>h .fE Γ σ' H' j rfl (by simp[Tl])
 |bk Γ=>rw[q] at h;exact h.elim
 |ct Γ=>rw[q] at h;exact h.elim
 |rt d=>rw[q] at h;exact λ v H' b t=>h v H' b.same b.free t
 |Mz m=>rw[q] at h;exact λ v H' S b o n k=>h v H' S b.same b.free o n k
 |rtG d Γ=>rw[q] at h;exact λ v σ' H' j t=>h v Γ σ' H' j rfl t
 |Hu d Γ=>rw[q] at h;exact h.elim
 |err x Γ=>rw[q] at h;exact λ σ' H' e s' _ j r=>KS (ecb▸r) λ C H2 hc s=>h C H2 hc λ b o z n=>s b o (j.same b o z n)
 |bad=>rw[q] at h;exact h.elim
def adG{x qual:Str}{st:Stmt}{f:Addr}{fd:FuncData}{N ps:List Str}{k:Nat}{F:List Slot->cO}{B:Nat->Sg->Out}(Ye:mH K x qual st f fd)(S:oY N ps (ay st))(hbody:∀(c:Cf) (cdv:Value) (A:Around) (outer:List Env) (s:Shared) (H:Hp) (E:XK),c.cb=cb->fD k (A.deeper (envOfC qual (ay st) s.heap.objs.size f cdv))->Good (pD (JI P w) P w K mg base N qual (ay st) f cdv A outer s H E)->∀n,zI (pD (JI P w) P w K mg base N qual (ay st) f cdv A outer s H E) c (aF st) (B n)) (hF:∀as,as.length=ps.length->F as≠.bad->∃n,abO (B n (ck N as))=F as):jx P w K mg base cb (k+1) f fd ps F:=ai4 (Ye:=Ye) (S:=S) (hbody:=(λ c cdv A outer s H E h_1 h_2 h_3 n=>(hbody c cdv A outer s H E h_1 h_2 h_3 n).out)) (hF:=hF)
end
section
variable{K:W.Frag}{ct:Ct}{H:Hp}
end
section
variable{X:Cx}{c:Cf}{x:Str}{e:Expr}{es:List Expr}{i q n k:Nat}{f:Sg->Res D}{r fa:Sg->Res (List D)}{p pos:Pos}{F:List Slot->cO}{fn:Addr}{fd:FuncData}{ps:List Str}
variable{g:Sg->Res (D×Sg)}{Γ:Sg}{σ:St}{H:Hp}
end
section
variable{X:Cx}{ct:Ct}{a b e:Expr}{f g:Sg->Res D}{fa:Sg->Res (List D)}{p pos:Pos}
def Tl.JZ{K:W.Frag}{H:Hp}{d:D}{v:V}{ds:List D}(l:az ct.f.L H)(b:az ct.B H)(h:Tl K ct H d v)(e:L4.JZ d=some ds):∃a vs,v= .ref a/\(rJ K H a vs\/yx K H a vs)/\aJ K ct H ds vs:=by
 cases d with
 |lst xs=>cases e;obtain ⟨a,vs,h1,h2,h3⟩:=h.oz l b rfl;exact ⟨a,vs,h1,.inl h2,h3⟩
 |bor t xs=>cases e;obtain ⟨a,vs,h1,h2,h3⟩:=h.oz l b rfl;exact ⟨a,vs,h1,.inl h2,h3⟩
 |tup xs=>cases e;simp only[Tl] at h;obtain ⟨a,vs,h1,h2,h3⟩:=h;exact ⟨a,vs,h1,.inr (pK h2),h3⟩
 |gt xs=>cases e;simp only[Tl] at h;obtain ⟨a,vs,h1,h2,h3⟩:=h;exact ⟨a,vs,h1,.inr h2.sq,h3⟩
 |_=>cases e
def U8{K:W.Frag}{H:Hp}{d:D}{v:V}(h:Tl K ct H d v)(e:xU d=true):uL v=true:=by cases d<;>first|(simp only[Tl] at h;subst h;rfl)|cases e
def ai7{K:W.Frag}{H:Hp}{d d':D}{v v':V}(h:Tl K ct H d v)(h':Tl K ct H d' v')(e:xU d=true)(e':xU d'=true):eqF d d'=eqV v v':=by cases d<;>cases d'<;>first|cases e;done|cases e';done|(simp only[Tl] at h h';subst h h';rfl)
def Ld{K:W.Frag}{H:Hp}:∀{ds:List D} {vs:List V},aJ K ct H ds vs->ds.all xU=true->vs.all uL=true
 |[],vs,h,_=>by simp only[aJ] at h;subst h;rfl
 |d::ds,vs,h,e=>by simp only[aJ] at h;obtain ⟨v,r,rfl,t1,t2⟩:=h;simp only[List.all_cons,Bool.and_eq_true] at e ⊢;exact ⟨U8 t1 e.1,Ld t2 e.2⟩
def aaN{K:W.Frag}{H:Hp}{x:D}{y:V}(h:Tl K ct H x y)(e:xU x=true):∀{ds:List D} {vs:List V},aJ K ct H ds vs->ds.all xU=true->inF x ds=inV y vs
 |[],vs,t,_=>by simp only[aJ] at t;subst t;rfl
 |d::ds,vs,t,q=>by simp only[aJ] at t;obtain ⟨v,r,rfl,t1,t2⟩:=t;simp only[List.all_cons,Bool.and_eq_true] at q;have ih:=aaN h e t2 q.2;simp only[inF,inV,List.any_cons] at ih ⊢;rw[ih,ai7 t1 h q.1 e]
def V5:JH X ct (rIn X.K true) sG:=by
 intro σ H x y d1 d2 Q lL lB t1 t2 h;unfold sG at h;split at h
 ·rename_i xs hs;split at h
  ·rename_i hc;obtain ⟨a,vs,rfl,q1,q2⟩:=t2.JZ lL lB hs;refine ⟨a,vs,rfl,q1,U8 t1 hc.1,Ld q2 hc.2,?_⟩;have:=h (.bl (!inF d1 xs)) H (az.refl H) (by simp[Tl]);rw[aaN t1 hc.1 q2 hc.2] at this;simpa using this
  ·exact h.elim
 ·exact h.elim
def FH(ha:WD X ct a f)(hb:WD X ct b g)(hm:behindInMarks .NotIn b=false:=by rfl):TN X ct (.Compare a [.NotIn] [b] pos) (dT (bu sG f g)):=by have ha:=ha.out;have hb:=hb.out;exact ⟨tT HK V5 ha hb hm⟩
variable{cc:Expr}{h:Sg->Res D}
def Ls{r2 r2':R2}{r r':D->D->Res D}(ho:JH X ct r2 r)(ho':JH X ct r2' r'):∀σ H Q,rL X ct (kW r r' f g h) σ H Q->Mh r2 r2' (rL X ct f) (rL X ct g) (rL X ct h) σ H Q:=by
 rintro σ H Q ⟨Γ,j,q⟩
 refine rL.bnd j q λ x v H1 s1 t1 j1 q1=>?_;refine rL.bnd (W:=Wd X ct H Q) j1 (Ok.mono s1 q1 λ _ z=>z) λ y u H2 s2 t2 j2 q2=>?_;have t1':=t1.keep (az.keep s2);refine ho σ H2 v u x y _ j2.lL j2.lB t1' t2 ?_;have q3:Ok X ct σ H2 ((r x y).bnd λ z=>match z with
  | .bl true=>(h Γ).bnd λ w=>r' y w
  | .bl false=> .ok (.bl false)
  |_=> .bad) (Wd X ct H Q):=Ok.mono s2 q2 λ _ z=>z
 refine q3.bnd λ z _ q4 zv H3 s3 tz=>?_;cases z with
 |bl k=>
  simp only[Tl] at tz;refine ⟨k,tz,?_⟩;have j3:=j2.mono s3;cases k with
  |false=>exact aaC (q4 (.bl false) H3 ((s1.trans s2).trans s3) (by simp[Tl]))
  |true=>refine aaB ?_;refine rL.bnd (f:=h) (r:=λ w=>r' y w) (W:=Wd X ct H Q) j3 (Ok.mono s3 q4 λ _ z=>z) λ w wv H4 s4 t4 j4 q5=>?_;exact ho' σ H4 u wv y w Q j4.lL j4.lB (t2.keep (az.keep (s3.trans s4))) t4 (Ok.mono s4 q5 λ d z=>z.mono (((s1.trans s2).trans s3).trans s4))
 |_=>exact q4.elim
def wG{op op':CmpOp}{r2 r2':R2}{r r':D->D->Res D}(hr:qp X (compareOp op) r2)(hr':qp X (compareOp op') r2')(ho:JH X ct r2 r)(ho':JH X ct r2' r')(ha:WD X ct a f)(hb:WD X ct b g)(hc:WD X ct cc h)(hm:lastMarks [op,op'] [b,cc]=false:=by with_unfolding_all rfl):WD X ct (.Compare a [op,op'] [b,cc] pos) (kW r r' f g h):=by have ha:=ha.out;have hb:=hb.out;have hc:=hc.out;exact ⟨PE.imp (Zw hr hr' ha hb hc hm) (Ls ho ho')⟩
def FI{op op':CmpOp}{r2 r2':R2}{r r':D->D->Res D}(hr:qp X (compareOp op) r2)(hr':qp X (compareOp op') r2')(ho:JH X ct r2 r)(ho':JH X ct r2' r')(ha:WD X ct a f)(hb:WD X ct b g)(hc:WD X ct cc h)(hm:lastMarks [op,op'] [b,cc]=false:=by with_unfolding_all rfl):TN X ct (.Compare a [op,op'] [b,cc] pos) (dT (kW r r' f g h)):=by have ha:=ha.out;have hb:=hb.out;have hc:=hc.out;exact ⟨PT.imp (Y9 hr hr' ha hb hc hm) (Mb (Ls ho ho'))⟩
variable{es:List Expr}
def JO(hm:X.mg "tuple"=none)(ha:GW X ct (e::es) fa)(hg:Gl X "tuple":=by rfl)(he:starEach (e::es) X.env=(false,eval e X.env)::starEach es X.env:=by rfl)(hpl:(backTo pos (starEach es X.env)).any (·.1)=false:=by rfl):WD X ct (.Call (.Name "tuple" p) (e::es) [] pos) (E9 qu fa):=by
 have ha:=ha.out;refine ⟨?_⟩;refine PE.imp (V3 Fi hg hm (by decide+kernel) ha (by decide) (by decide) he hpl) (aby λ σ H vs ds Q lL lB t h=>?_);unfold qu at h;split at h
 ·rename_i x;split at h
  ·rename_i xs hs;obtain ⟨v,rfl,t1⟩:=DY t;have lst:∀{ys:List D} {a:Addr} {us:List V},rJ X.K H a us->aJ X.K ct H ys us->Wd X ct H Q (.tup ys)->∀l,H l=none->Q (.ref l) (upd H l (.tup us)):=λ q1 q2 h l hl=>by rename_i ys a us;have s2:=bh hl (.tup us);refine h _ _ s2 ?_;simp only[Tl];exact ⟨l,us,rfl,aG,q2.keep (az.keep s2)⟩
   cases x with
   |tup ys=>cases hs;simp only[Tl] at t1;obtain ⟨a,us,rfl,q1,q2⟩:=t1;refine ⟨a,us,rfl,.inr ⟨pK q1,h _ H (az.refl H) ?_⟩⟩;simp only[Tl];exact ⟨a,us,rfl,q1,q2⟩
   |gt ys=>cases hs;simp only[Tl] at t1;obtain ⟨a,us,rfl,q1,q2⟩:=t1;refine ⟨a,us,rfl,.inr ⟨q1.sq,h _ H (az.refl H) ?_⟩⟩;simp only[Tl];exact ⟨a,us,rfl,q1,q2⟩
   |lst ys=>cases hs;obtain ⟨a,us,rfl,q1,q2⟩:=t1.oz lL lB rfl;exact ⟨a,us,rfl,.inl ⟨q1,lst q1 q2 h⟩⟩
   |bor _ ys=>cases hs;obtain ⟨a,us,rfl,q1,q2⟩:=t1.oz lL lB rfl;exact ⟨a,us,rfl,.inl ⟨q1,lst q1 q2 h⟩⟩
   |_=>cases hs
  ·exact h.elim
 ·exact h.elim
end
section
variable{X:Cx}{ct:Ct}{a b e:Expr}{f g:Sg->Res D}{pos:Pos}
def ae1{K:W.Frag}{H:Hp}{d:D}{v:V}{k:Key}(h:Tl K ct H d v)(e:aiP d=some k):v=kV k:=by
 cases d with
 |int i=>cases e;simp only[Tl] at h;exact h
 |str x=>cases e;simp only[Tl] at h;exact h
 |_=>cases e
end
section
variable{X:Cx}{c:Cf}{r ix e:Expr}{i:Nat}{g:Sg->Res (List Nat)}{f fk:Sg->Res D}{pos:Pos}{Γ:Sg}{σ:St}{H:Hp}
end
section
variable{X:Cx}{ct:Ct}{pos:Pos}{e:Expr}{f:Sg->Res D}{fa:Sg->Res (List D)}{keys:List (Option Expr)}{values:List Expr}{ks:List Key}
end
section
variable{X:Cx}{c:Cf}{tg iter:Expr}{fi:Sg->Res (List D)}{t:Tg}{B:Sg->Out}{body:List Stmt}{pos:Pos}
def gM(g:Good X)(hi:WID X c.z tg iter fi)(hg:WGD X c.z tg t)(hb:zI X c body B)(hs:∀x,foldedSetIterable iter X.env x=pure x:=by intro _;rfl):DL X c (.For tg iter body [] pos) (gE fi t B):=by
 have hi:=hi.out;have hg:=hg.out;have hb:=hb.out;refine ⟨?_⟩;refine PS.imp (ahW g.po g.calm hi hg hb hs) λ E σ H ⟨Γ,j,h⟩=>⟨Γ,j,Fn.ok j h λ xs _ q J H' s it=>?_⟩;obtain ⟨P,p0,pk,pg,pst⟩:=it;have h':Fn X c H' (gn t B xs Γ) E:=q.mono (az.keep s);refine ⟨λ i m σ1 H1=>i+m=xs.length/\P H1/\∃Γ1,Jx X c.z Γ1 σ1 H1/\aZ c.cb H' H1/\gn t B (xs.drop i) Γ1=gn t B xs Γ,⟨xs.length,by simp,p0,Γ,j.mono s,aZ.refl H',rfl⟩,?_⟩
 rintro i m σ1 H1 ⟨hm,p1,Γ1,j1,k1,e1⟩
 cases hd:xs[i]? with
 |none=>
  have hl:xs.length<=i:=by simpa using hd
  refine .inl ⟨pst i H1 p1 hl,?_⟩;rw[List.drop_eq_nil_of_le hl] at e1;rw[<-e1] at h';exact h' σ1 H1 k1 j1
 |some d=>
  obtain ⟨g1,g2⟩:=pg i d H1 p1 hd;have hl:i<xs.length:=(List.getElem?_eq_some_iff.mp hd).1;refine .inr ⟨g1,λ σ3 H3=>P H3/\∃Γ3,Jx X c.z Γ3 σ3 H3/\aZ c.cb H' H3/\gn t B (xs.drop (i+1)) Γ3=gn t B xs Γ,λ σ3 H3 ⟨p3,z⟩=>⟨m- 1,by omega,by omega,p3,z⟩,λ x H2 y=>?_⟩;obtain ⟨sm2,td⟩:=g2 x H2 y;have k2:aZ c.cb H' H2:=k1.trans (az.keep sm2);rw[drop_one hd] at e1;cases e2:t d Γ1 with
  |none=>exact (aeH e2 e1 h').elim
  |some Γ2=>exact ⟨Γ1,d,Γ2,j1.mono sm2,td,e2,λ σ2 j2=>⟨Γ2,j2,adM k2 e2 e1 h' λ Γ3 σ3 H3 k3 j3 e3=>⟨pk H' H3 p0 k3 j3.lL j3.lB,Γ3,j3,k3,e3⟩⟩⟩
end
section
variable{X:Cx}{ct:Ct}{a b e:Expr}{f g:Sg->Res D}{fa:Sg->Res (List D)}{p pos:Pos}
end
section
variable{X:Cx}{ct:Ct}{x:Str}{p pos:Pos}{C a:Addr}{cn:String}
def YL{K:W.Frag}{H:Hp}{ds:List D}{vs:List V}{o:Obj}{its:Array Value}{n:Nat}(hl:K.lookup a=some o)(hc:o.cls= .type "tuple")(hd:o.data= .seq its n)(hz:its.size<=sizeLine)(r:Vals vs its.toList)(t:aJ K ct H ds vs):Tl K ct H (.gt ds) (.ref a):=by simp only[Tl];exact ⟨a,vs,rfl,⟨o,its,n,hl,hc,hd,hz,r⟩,t⟩
def GlT(K:W.Frag)(u:Value)(d:D):Prop:=∃v:V,RelV v u/\∀(ct:Ct) (H:Hp),Tl K ct H d v
def gc{u:Value}{d:D}(hm:X.mg x=some u)(ht:GlT X.K u d)(hg:Gl X x:=by rfl)(hd:(x==("__debug__":Str))=false:=by decide):WD X ct (.Name x pos) (dC d):=by refine ⟨?_⟩;obtain ⟨v,r,t⟩:=ht;exact aes (v:=v) hg hm r (λ H=>t ct H) hd
def jj{K:W.Frag}{i:Int}{t:Tok}:GlT K (.int i t) (.int i):=⟨.int i,⟨t,rfl⟩,λ _ _=>by simp[Tl]⟩
def afY(K:W.Frag)(us:List Value)(ds:List D):Prop:=∃vs:List V,Vals vs us/\∀(ct:Ct) (H:Hp),aJ K ct H ds vs
def C6{K:W.Frag}:afY K [] []:=⟨[],.nil,λ _ _=>aJ.nil⟩
def jE{K:W.Frag}{u:Value}{us:List Value}{d:D}{ds:List D}(h:GlT K u d)(t:afY K us ds):afY K (u::us) (d::ds):=by obtain ⟨v,r,q⟩:=h;obtain ⟨vs,rs,qs⟩:=t;exact ⟨v::vs,.cons r rs,λ ct H=>aJ.cons (q ct H) (qs ct H)⟩
def IT{K:W.Frag}{us:List Value}{ds:List D}{od:Option Addr}{sl:Array (Option Value)}{n:Nat}(hl:K.lookup a=some ⟨.type "tuple",od,.seq us.toArray n,sl⟩)(hz:us.length<=1000)(h:afY K us ds):GlT K (.ref a) (.gt ds):=by obtain ⟨vs,rs,qs⟩:=h;exact ⟨.ref a,rfl,λ ct H=>YL hl rfl rfl (by rw[sizeLine_eq];simp;omega) (by simpa using rs) (qs ct H)⟩
structure Mk0(K:W.Frag)(C:Addr):Prop where
 makes:W.makesIn K C=true
 init:W.findIn K (.ref C) "__init__"=some (some (.builtin "object.__init__"))
 kp:W.keepIn K (.ref C)=true
def JP(Mc:Mk0 X.K C)(hcc:ct.f.cb.cls cn=some (C,[]))(hm:X.mg x=some (.ref C))(hg:Gl X x:=by rfl)(hdb:(x==("__debug__":Str))=false:=by decide):WD X ct (.Call (.Name x p) [] [] pos) (dC (.obj cn [] [])):=by
 refine ⟨?_⟩;intro pins s σ H Q I ⟨Γ,j,h⟩;refine wpAny_Call_Name_kw (xB I hg hm ?_ hdb);refine W.callWith_K0 I.zZ Mc.kp (wpAny_call ?_);have hx0:H (s.heap.objs.size+1)=none:=I.hok.fresh (Nat.le_succ _);have hd0:H s.heap.objs.size=none:=I.hok.fresh (Nat.le_refl _);have hne:s.heap.objs.size≠s.heap.objs.size+1:=Nat.ne_of_lt (Nat.lt_succ_self _);have I2:=Inv.made (C:=C) I;have smm:az H (upd (upd H s.heap.objs.size (.own (s.heap.objs.size+1))) (s.heap.objs.size+1) (.ins C s.heap.objs.size [])):=(bh hd0 _).trans (bh (by rw[aE (Ne.symm hne)];exact hx0) _);have z:EP X pins σ Q (.ref (s.heap.objs.size+1)) {s with heap:=(s.heap.push W.emptyDict).push (W.instObj C s.heap.objs.size)}:=by refine ⟨.ref (s.heap.objs.size+1),_,I2,rfl,h _ _ smm ?_⟩;simp only[Tl];exact ⟨_,C,s.heap.objs.size,[],rfl,hcc,aG,rfl,aJ.nil⟩
 obtain ⟨hh,gs,dd,t,os⟩:=s;have Y:=W.makes_of (M:=model X.prog X.w) I.zZ Mc.makes;refine W.make_core Y (W.looks_findIn I.zZ Mc.init) (λ self=>W.Looks.of_pure (W.oi_bind self)) (.inr ⟨rfl,rfl⟩) ?_;have e1:((hh.push W.emptyDict).push (W.instObj C hh.objs.size)).get? (hh.objs.size+1)=some (W.instObj C hh.objs.size):=by have:=Heap.get?_push_size (hh.push W.emptyDict) (o:=W.instObj C hh.objs.size) rfl;rwa [Heap.size_push] at this
 have t1:W.Looks (model X.prog X.w) ((hh.push W.emptyDict).push (W.instObj C hh.objs.size)) (typeOf (.ref (hh.objs.size+1))) (.ref C):=(W.Looks.ld e1).andThen .now;have t2:W.Looks (model X.prog X.w) ((hh.push W.emptyDict).push (W.instObj C hh.objs.size)) (isInstance (.ref (hh.objs.size+1)) (.type "object")) true:=t1.andThen (Y.top.keeps λ b o e=>Heap.get?_push_of_some _ (Heap.get?_push_of_some _ e));refine codeAny_call_builtin W.oi_plain W.entry_oi (@W.check_slot (model X.prog X.w) _ _ _ "object.__init__" "object" "__init__" (.ref (hh.objs.size+1)) [] [] _ W.oi_kind W.oi_split t2 (W.oi_args (.ref (hh.objs.size+1))) ?_);exact wpAny_of_eq (W.oi_run _) (And.intro rfl z)
end
section
variable{X:Cx}{c:Cf}{e:Expr}{f:Sg->Res D}{p:Sg->Res Bool}{F G B:Sg->Out}{pos:Pos}{body:List Stmt}
def kF(he:WD X c.z e f)(hs:swapsWith e none pos.line X.env=pure false:=by rfl):DL X c (.Expr e pos) (rm f):=by have he:=he.out;refine ⟨?_⟩;intro pins s σ H E I ⟨Γ,j,h⟩;exact wU he hs pins s σ H E I ⟨Γ,j,Fn.ok j h λ d _ q v H' s t=>q σ H' (az.keep s) (j.mono s)⟩
def bJ{ce:Expr}{a b:List Stmt}(hc:TN X c.z ce p)(ha:zI X c a F)(hb:zI X c b G):DL X c (.If ce a b pos) (yK p F G):=by
 have hc:=hc.out;have ha:=ha.out;have hb:=hb.out;refine ⟨?_⟩;intro pins s σ H E I ⟨Γ,j,h⟩;refine alz hc ha hb pins s σ H E I ⟨Γ,j,Fn.ok j h λ x _ q H' s=>?_⟩;cases x with
 |true=>exact aaB ⟨Γ,j.mono s,Fn.mono (az.keep s) q⟩
 |false=>exact aaC ⟨Γ,j.mono s,Fn.mono (az.keep s) q⟩
end
section
variable{X:Cx}{ct:Ct}
def UA:JH X ct (rI (λ _ _=>True) λ i j=> .bl (decide (i<j))) ltI:=lM (λ _ _ _=>trivial) λ _ _ _ _ _=>by simp[Tl]
def zS:JH X ct (rI (λ _ _=>True) λ i j=> .bl (decide (i<=j))) Yi:=lM (λ _ _ _=>trivial) λ _ _ _ _ _=>by simp[Tl]
end
def Me{α:Type}{a c:String}{A C:α}{r:List (String×α)}(h:((a,A)::r).lookup c=some C):(c=a/\C=A)\/r.lookup c=some C:=by
 rw[List.lookup_cons] at h;by_cases q:(c==a)=true
 ·rw[q] at h;exact .inl ⟨by simpa using q,(Option.some.inj h).symm⟩
 ·rw[Bool.not_eq_true] at q;rw[q] at h;exact .inr h
def gu{α:Type}{c:String}{C:α}:∀{r:List (String×α)},r.lookup c=some C->(c,C)∈r
 |[],h=>by cases h
 |(a,A)::r,h=>by
  rcases Me h with ⟨rfl,rfl⟩|h
  ·exact List.mem_cons_self ..
  ·exact List.mem_cons_of_mem _ (gu h)
noncomputable abbrev qo:=List (String×(Addr×List Str))
abbrev abz(E:List (String×Addr))(T:qo):Cb:=⟨λ c=>E.lookup c,λ c=>T.lookup c,λ c=>(T.lookup c).map (·.1)⟩
def aaJ{T:qo}{c:String}{C:Addr}(h:(T.lookup c).map (·.1)=some C):∃ns,T.lookup c=some (C,ns):=by
 cases q:T.lookup c with
 |none=>rw[q] at h;cases h
 |some x=>rw[q] at h;cases h;exact ⟨x.2,rfl⟩
def Wh{T:qo}(hn:(T.map (·.2.1)).Nodup){a b:String×(Addr×List Str)}(ha:a∈T)(hb:b∈T)(e:a.2.1=b.2.1):a=b:=by
 induction T with
 |nil=>cases ha
 |cons x r ih=>
  simp only[List.map_cons,List.nodup_cons,List.mem_map,not_exists,not_and] at hn;rcases List.mem_cons.mp ha with ea|ha'
  ·rcases List.mem_cons.mp hb with eb|hb'
   ·rw[ea,eb]
   ·rw[ea] at e;exact absurd e.symm (hn.1 b hb')
  ·rcases List.mem_cons.mp hb with eb|hb'
   ·rw[eb] at e;exact absurd e (hn.1 a ha')
   ·exact ih hn.2 ha' hb'
def Z7{T:qo}{c:String}{full:List Str}:((T.map λ e=>(e.1,e.2.2)).lookup c=some full)->∃C,T.lookup c=some (C,full):=by
 induction T with
 |nil=>intro h;cases h
 |cons x r ih=>
  intro h;obtain ⟨a,A,ns⟩:=x;by_cases q:(c==a)=true
  ·rw[List.map_cons,List.lookup_cons] at h;simp only[q] at h;cases h;exact ⟨A,by rw[List.lookup_cons,q]⟩
  ·rw[Bool.not_eq_true] at q;rw[List.map_cons,List.lookup_cons] at h;simp only[q] at h;obtain ⟨C,e⟩:=ih h;exact ⟨C,by rw[List.lookup_cons,q];exact e⟩
def afq{E:List (String×Addr)}{T:qo}(hn:(T.map (·.2.1)).Nodup):ajP (abz E T) (T.map λ e=>(e.1,e.2.2)):=by intro c C full hi hf c' ns' hc;obtain ⟨ns,h1⟩:=aaJ hi;obtain ⟨C2,h2⟩:=Z7 hf;rw[h1] at h2;cases h2;have m1:=gu h1;have m2:=gu (show T.lookup c'=some (C,ns') from hc);have:=Wh hn m1 m2 rfl;cases this;rfl
def aa5{K:W.Frag}{f:Str}{E:List (String×Addr)}{T:qo}(h:∀e∈T,FF K e.2.1/\tG K e.2.1 f):FA K (abz E T) f:=by
 intro C hc;rcases hc with ⟨c,hc⟩|⟨c,ns,hc⟩
 ·obtain ⟨ns,h1⟩:=aaJ hc;exact h _ (gu h1)
 ·exact h _ (gu (show T.lookup c=some (C,ns) from hc))
def fC{α:Type}{p:α->Prop}:∀e∈([]:List α),p e:=λ e h=>nomatch h
def aK{α:Type}{p:α->Prop}{a:α}{r:List α}(h:p a)(t:∀e∈r,p e):∀e∈a::r,p e:=λ e he=>by
 rcases List.mem_cons.mp he with rfl|he
 ·exact h
 ·exact t e he
def aa9{E:List (String×Addr)}{P:String->Addr->Prop}(h:∀e∈E,P e.1 e.2){c:String}{C:Addr}(hc:E.lookup c=some C):P c C:=h _ (gu hc)
def aiW{T:qo}{P:String->Addr->Prop}(h:∀e∈T,P e.1 e.2.1){c:String}{C:Addr}{ns:List Str}(hc:T.lookup c=some (C,ns)):P c C:=h _ (gu hc)
def hb1{f:String->Option Bool}{c:String}{b:Bool}(e:f c=some b){P:Bool->Prop}(h:P b):∀b',f c=some b'->P b':=λ b' q=>by rw[e] at q;cases q;exact h
def Yh{cb:Cb}{c:String}{C0:Addr}{ns0:List Str}(q:cb.cls c=some (C0,ns0)){P:Addr->List Str->Prop}(h:P C0 ns0):∀C ns,cb.cls c=some (C,ns)->P C ns:=λ C ns z=>by rw[q] at z;cases z;exact h
def sI{X:Cx}{cb:Cb}{m:Str}{n:Nat}{rK:List (String×(List Slot->cO))}(h:∀e∈rK,∀C ns,cb.cls e.1=some (C,ns)->∃(k:Nat) (f:Addr) (fd:FuncData) (ps:List Str),FF X.K C/\Meth X.K C m f/\jx X.prog X.w X.K X.mg X.base cb k f fd ps e.2/\fD k X.A/\Binds X.K fd ps []/\ps.length=n+1/\m∉ns):DO X cb m n rK:=λ c C ns F hc hF=>h _ (gu hF) C ns hc
def len0{us:List Value}(h:us.length=0):us=[]:=List.eq_nil_of_length_eq_zero h
def qH{us:List Value}(h:us.length=1):∃u0,us=[u0]:=by
 cases us with
 |nil=>cases h
 |cons a r=>obtain rfl:=len0 (us:=r) (Nat.succ.inj h);exact ⟨a,rfl⟩
def vK{us:List Value}(h:us.length=2):∃u0 u1,us=[u0,u1]:=by
 cases us with
 |nil=>cases h
 |cons a r=>obtain ⟨v0,rfl⟩:=qH (us:=r) (Nat.succ.inj h);exact ⟨a,v0,rfl⟩
def AK{us:List Value}(h:us.length=3):∃u0 u1 u2,us=[u0,u1,u2]:=by
 cases us with
 |nil=>cases h
 |cons a r=>obtain ⟨v0,v1,rfl⟩:=vK (us:=r) (Nat.succ.inj h);exact ⟨a,v0,v1,rfl⟩
def ap5{us:List Value}(h:us.length=4):∃u0 u1 u2 u3,us=[u0,u1,u2,u3]:=by
 cases us with
 |nil=>cases h
 |cons a r=>obtain ⟨v0,v1,v2,rfl⟩:=AK (us:=r) (Nat.succ.inj h);exact ⟨a,v0,v1,v2,rfl⟩
end L4
end
section
namespace L4
open PySem PySem.Spec PyProof.Rows L2 PySem.W
noncomputable def IJ{α:Type}(lt:Nat->Nat->Bool):KasT α->α
 | .ret a=>a
 | .ask i j k=>IJ lt (k (lt i j))
noncomputable def zZ{α:Type}(n:Nat):KasT α->Prop
 | .ret _=>True
 | .ask i j k=>i<n/\j<n/\i≠j/\∀b,zZ n (k b)
def CY{α:Type}{n:Nat}{lt:Nat->Nat->Bool}{cmp:Nat->Nat->(Bool->Shared->Prop)->Shared->Prop}{s:Shared}{Q:α->Shared->Prop}(hc:∀i j C,i<n->j<n->i≠j->C (lt i j) s->cmp i j C s):
  ∀(t:KasT α),zZ n t->Q (IJ lt t) s->t.kasWp cmp Q s
 | .ret a,_,h=>h
 | .ask i j k,hi,h=>hc i j _ hi.1 hi.2.1 hi.2.2.1 (CY hc (k (lt i j)) (hi.2.2.2 _) h)
def jK(lt:Nat->Nat->Bool)(n:Nat):List Nat:=if n<2 then List.range n else (IJ lt (kas_sort n)).toList
def Gs:kas_sort 2= .ask 1 0 (λ c=>if c=true then .ret #[1,0] else .ret #[0,1]):=by show KasT.ask 1 0 _=KasT.ask 1 0 _;congr 1;funext c;cases c<;>rfl
def ae5:zZ 2 (kas_sort 2):=by rw[Gs];exact ⟨by decide,by decide,by decide,λ b=>by cases b<;>exact trivial⟩
section
variable{prog:Program}{w:World}{A:Around}{E:Value->Shared->Prop}{s:Shared}
def range_getD(vs:List Value):((List.range vs.length).map λ i=>vs.getD i Value.none)=vs:=by
 apply List.ext_getElem
 ·simp
 ·intro i h1 h2;simp at h1;simp[h1]
def CM{a:Addr}{vs:List Value}{n:Nat}{lt:Nat->Nat->Bool}{κ:SortKind}{P:PySem.Fin->Shared->Prop}(ho:s.heap.get? a=some (seqObj "list" vs.toArray n))(h64:vs.length<64)(hw:2<=vs.length->zZ vs.length (kas_sort vs.length))
  (hk:2<=vs.length->∀(h':Heap) (Q:SortKind->Shared->Prop),(∀b o,b≠a->s.heap.get? b=some o->h'.get? b=some o)->Q κ {s with heap:=h'}->wpAny (model prog w) A (keyKind' vs.toArray) Q E {s with heap:=h'})
  (hc:∀(h':Heap) (i j:Nat) (Q:Bool->Shared->Prop),(∀b o,b≠a->s.heap.get? b=some o->h'.get? b=some o)->2<=vs.length->i<vs.length->j<vs.length->i≠j->Q (lt i j) {s with heap:=h'}->wpAny (model prog w) A (keyLt' κ (vs.getD i .none) (vs.getD j .none)) Q (λ _ _=>False) {s with heap:=h'})
  (h:∀h' e,(∀b o,b≠a->s.heap.get? b=some o->h'.get? b=some o)->h'.get? a=some (seqObj "list" ((jK lt vs.length).map λ i=>vs.getD i Value.none).toArray e)->(jK lt vs.length).length=vs.length->P (.done (.ret .none)) {s with heap:=h'}):
  wpAny (model prog w) A (Builtin.«list.sort» ⟨[.ref a],[]⟩) P E s:=by
 rw[list_sort_plain]
 have ha:a<s.heap.objs.size:=Heap.lt_size ho
 refine wpAny_bind (listItems_at ho rfl ?_)
 refine wpAny_bind (listUpdate_at ho rfl ?_ (by rw[List.size_toArray,sizeLine_eq];omega) (Nat.zero_le _))
 obtain ⟨e1,ho1⟩:∃e1,(s.heap.update a (Obj.mapSeq λ _=> #[])).get? a=some (seqObj "list" #[] e1):=⟨_,get?_update_seq ho (λ _=> #[])⟩
 refine wpAny_bind (seqEpoch_at ho1 rfl ?_)
 refine wpAny_bind (wpAny_newTuple ?_ (by show vs.length<=_;rw[sizeLine_eq];omega))
 refine wpAny_bind (wpAny_newList ?_ (Nat.zero_le _))
 refine wpAny_holding ?_
 have s1:=Heap.SameBut.update s.heap a (Obj.mapSeq λ _=>(#[]:Array Value))
 have ho6:(((s.heap.update a (Obj.mapSeq λ _=> #[])).push (seqObj "tuple" vs.toArray 0)).push (seqObj "list" #[] 0)).get? a=some (seqObj "list" #[] e1):=Heap.get?_push_of_some _ (Heap.get?_push_of_some _ ho1)
 have kp:∀b o,b≠a->s.heap.get? b=some o->(((s.heap.update a (Obj.mapSeq λ _=>(#[]:Array Value))).push (seqObj "tuple" vs.toArray 0)).push (seqObj "list" #[] 0)).get? b=some o:=λ b o hb q=>
  Heap.get?_push_of_some _ (Heap.get?_push_of_some _ ((s1.2 b hb).trans q))
 show wpAny (model prog w) A _ P E {s with heap:=((s.heap.update a (Obj.mapSeq λ _=> #[])).push (seqObj "tuple" vs.toArray 0)).push (seqObj "list" #[] 0)}
 dsimp only
 generalize hh:((s.heap.update a (Obj.mapSeq λ _=>(#[]:Array Value))).push (seqObj "tuple" vs.toArray 0)).push (seqObj "list" #[] 0)=h1 at*
 have fin:∀(st:SortSt) (out:List Value),(arrOf st).map (·.2)=out.toArray->failedOf st=none->out=((jK lt vs.length).map λ i=>vs.getD i Value.none)->out.length=vs.length->(jK lt vs.length).length=vs.length->wpAny (model prog w) A (do
   let touched:=(<-seqEpoch a) !=e1
   Builtin.List.listUpdate (.ref a) λ _=>(arrOf st).map (·.2)
   if let some e:=failedOf st then rule "list.sort.comparison-raised";throw e
   if touched then rule "list.sort.modified";raiseError "ValueError" "list modified during sort"
   ret .none) P E {s with heap:=h1}:=by
  intro st out har hf eo hl hl2
  refine wpAny_bind (seqEpoch_at ho6 rfl ?_)
  rw[har,hf]
  refine wpAny_bind (listUpdate_at ho6 rfl ?_ (Nat.zero_le _) (by rw[List.size_toArray,sizeLine_eq];omega))
  simp only[bne_self_eq_false,Bool.false_eq_true,if_false]
  have s2:=Heap.SameBut.update h1 a (Obj.mapSeq λ _=>out.toArray)
  refine wpAny_pure (h _ _ (λ b o hb q=>(s2.2 b hb).trans (kp b o hb q)) (by rw[<-eo];exact get?_update_seq ho6 λ _=>out.toArray) hl2)
 by_cases h2:vs.toArray.size<2
 ·rw[if_pos h2,if_pos h2]
  have DX:vs.length<2:=by simpa using h2
  refine wpAny_bind (wpAny_pure ?_)
  rw[StateT.run_pure]
  refine wpAny_bind (wpAny_pure ?_)
  have es:jK lt vs.length=List.range vs.length:=by simp[jK,DX]
  exact fin (SortSt.mk' general' (vs.toArray.zip vs.toArray) #[] 7 none) vs (by
   show (vs.toArray.zip vs.toArray).map (·.2)=vs.toArray
   apply Array.toList_inj.mp
   simp[List.map_snd_zip]) rfl (by rw[es,range_getD]) rfl (by rw[es];simp)
 ·rw[if_neg h2,if_neg h2]
  have DX:2<=vs.length:=by simp at h2;omega
  have hn2:¬vs.length<2:=by omega
  refine wpAny_bind (hk DX h1 _ kp ?_)
  refine wpAny_bind (wpAny_mono (kat_run (E:=E) (Q:=λ st' s'=>s'={s with heap:=h1}/\(IJ lt (kas_sort vs.length)).size=vs.length/\arrOf st'=(IJ lt (kas_sort vs.length)).map (kas_item (vs.toArray.zip vs.toArray))/\failedOf st'=none) (G:=λ p s'=>p=IJ lt (kas_sort vs.length)/\s'={s with heap:=h1})
   rfl DX h64 (λ p' st' s' a1 a2 a3 a4=>⟨a4.2,by rw[<-a4.1];exact a1,by rw[<-a4.1];exact a2,a3⟩) (CY (n:=vs.length) (lt:=lt) (λ i j C hi hj hij hq=>hc h1 i j C kp DX hi hj hij hq) _ (hw DX) ⟨rfl,rfl⟩)) ?_ λ _ _ e=>e)
  rintro ⟨⟨⟩,st'⟩ s' ⟨es,hp,har,hf⟩
  subst es
  have es:jK lt vs.length=(IJ lt (kas_sort vs.length)).toList:=by simp[jK,hn2]
  exact fin st' _ (kat_snds rfl har) hf (by rw[es]) (by simp[hp]) (by rw[es];simp[hp])
def zO{l:Addr}{vs:List Value}{lt:Nat->Nat->Bool}{κ:SortKind}{Q:Value->Shared->Prop}(hl:s.heap.IsList l vs.toArray)(h64:vs.length<64)(hw:2<=vs.length->zZ vs.length (kas_sort vs.length)) (hk:2<=vs.length->∀(A':Around) (h':Heap) (E':Value->Shared->Prop) (Q:SortKind->Shared->Prop),(∀b o,s.heap.get? b=some o->h'.get? b=some o)->Q κ {s with heap:=h'}->wpAny (model prog w) A' (keyKind' vs.toArray) Q E' {s with heap:=h'}) (hc:∀(A':Around) (h':Heap) (i j:Nat) (Q:Bool->Shared->Prop),(∀b o,s.heap.get? b=some o->h'.get? b=some o)->2<=vs.length->i<vs.length->j<vs.length->i≠j->Q (lt i j) {s with heap:=h'}->wpAny (model prog w) A' (keyLt' κ (vs.getD i .none) (vs.getD j .none)) Q (λ _ _=>False) {s with heap:=h'}) (h:∀h' e,(∀b o,s.heap.get? b=some o->h'.get? b=some o)->h'.get? (s.heap.objs.size+1)=some (seqObj "list" ((jK lt vs.length).map λ i=>vs.getD i Value.none).toArray e)->(jK lt vs.length).length=vs.length->Q (.ref (s.heap.objs.size+1)) {s with heap:=h'}):
  wpAny (model prog w) A (call (.builtin "sorted") [.ref l]) Q E s:=by
 refine Calls.call_function_entry kind_sorted plain_sorted entry_sorted (args_sorted1 _) ?_;unfold Builtin.«sorted»;refine wpAny_bind (m:=checkCount "sorted" 1 1 _) (wpAny_pure ?_);refine wpAny_bind (collect_list hl ?_ (by rw[sizeLine_eq];omega));refine wpAny_bind (wpAny_newList ?_ (by rw[sizeLine_eq];omega));have hsz:((s.heap.push (seqObj "list" #[] 0)).update s.heap.objs.size (Obj.mapSeq (· ++vs.toArray))).objs.size=s.heap.objs.size+1:=by rw[Heap.size_update,size_push']
 have hoL:(((s.heap.push (seqObj "list" #[] 0)).update s.heap.objs.size (Obj.mapSeq (· ++vs.toArray))).push (seqObj "list" vs.toArray 0)).get? (s.heap.objs.size+1)=some (seqObj "list" vs.toArray 0):=by rw[<-hsz];exact Heap.get?_push_size _ rfl
 have keep:∀b o,s.heap.get? b=some o->(((s.heap.push (seqObj "list" #[] 0)).update s.heap.objs.size (Obj.mapSeq (· ++vs.toArray))).push (seqObj "list" vs.toArray 0)).get? b=some o:=λ b o q=>by have hlt:b<s.heap.objs.size:=Heap.lt_size q;rw[Heap.get?_push_ne _ _ _ (by rw[hsz];exact Nat.ne_of_lt (Nat.lt_succ_of_lt hlt)),Heap.get?_update_ne _ _ _ _ (Nat.ne_of_lt hlt),Heap.get?_push_ne _ _ _ (Nat.ne_of_lt hlt)];exact q
 have nb:∀b o,s.heap.get? b=some o->b≠s.heap.objs.size+1:=λ b o q=>Nat.ne_of_lt (Nat.lt_succ_of_lt (Heap.lt_size q));show wpAny _ _ _ _ _ {s with heap:=((s.heap.push (seqObj "list" #[] 0)).update s.heap.objs.size (Obj.mapSeq (· ++vs.toArray))).push (seqObj "list" vs.toArray 0)};rw[hsz];refine wpAny_bind (wpAny_holding (wpAny_call_entry slot_list_sort ⟨_,hoL,rfl⟩ entry_list_sort ?body (args_list_sort _)));case body=>
  refine CM (s:={s with heap:=((s.heap.push (seqObj "list" #[] 0)).update s.heap.objs.size (Obj.mapSeq (· ++vs.toArray))).push (seqObj "list" vs.toArray 0)}) (lt:=lt) (κ:=κ) hoL h64 hw
   (λ h2 h' Q' k q=>hk h2 _ h' _ Q' (λ b o z=>k b o (nb b o z) (keep b o z)) q) (λ h' i j Q' k h2 hi hj hij q=>hc _ h' i j Q' (λ b o z=>k b o (nb b o z) (keep b o z)) h2 hi hj hij q) λ h' e k ea el=>⟨_,rfl,?_⟩
  exact wpAny_pure ⟨_,rfl,h h' e (λ b o z=>k b o (nb b o z) (keep b o z)) ea el⟩
end
section
variable{X:Cx}{ct:Ct}{e:Expr}{es:List Expr}{fa:Sg->Res (List D)}{p pos:Pos}
def Gp{M:Model}{h:Heap}{i:Int}{t:Tok}:Looks M h (typeOf (.int i t)) (.type "int"):=Looks.of_pure rfl
def ae2(lt:Nat->Nat->Bool):jK lt 2=if lt 1 0=true then [1,0] else [0,1]:=by simp only[jK,Gs,IJ];cases lt 1 0<;>simp[IJ]
def Jj:yr X (.builtin "sorted") (λ xs H Q=>∃(l:Addr) (vs:List V),xs=[.ref l]/\rJ X.K H l vs/\((vs.length<2/\∀p,H p=none->Q (.ref p) (upd H p (.lst vs)))\/∃p q x y m n,vs=[.ref p,.ref q]/\yx X.K H p (.int m::x)/\yx X.K H q (.int n::y)/\m≠n/\∀r,H r=none->Q (.ref r) (upd H r (.lst (if n<m then [.ref q,.ref p] else [.ref p,.ref q]))))):=by
 intro pins s σ H xs us Q I r ⟨l,vs,ex,hs,h⟩;subst ex;obtain ⟨u,rfl,ru⟩:=vals1 r;cases ru;obtain ⟨its,rv,pl,hz⟩:=I.list hs;have hlen:=rv.length;have fin:∀(ys:List V) (out:List Value) (h':Heap) (e:Nat),Vals ys out->ys.length<64->(∀b o,s.heap.get? b=some o->h'.get? b=some o)->h'.get? (s.heap.objs.size+1)=some (seqObj "list" out.toArray e)->(∀p,H p=none->Q (.ref p) (upd H p (.lst ys)))->
   EP X pins σ Q (.ref (s.heap.objs.size+1)) {s with heap:=h'}:=λ ys out h' e r' hz' kp ea q=>
  ⟨.ref (s.heap.objs.size+1),_,I.laid (t':=s.toks) kp (Nat.le_succ _) (show dM X.prog X.w _ h' _ (.lst ys) from ⟨by rw[sizeLine_eq];omega,out,e,r',ea⟩),rfl,q _ (I.hok.fresh (Nat.le_succ _))⟩
 rcases h with ⟨h2,q⟩|⟨p,q,x,y,m,n,rfl,hp,hq,hmn,qq⟩
 ·refine zO (lt:=λ _ _=>false) (κ:=general') pl.isList (by omega) (λ z=>by omega) (λ z=>by omega) (λ A' h' i j Q' k z=>by omega) λ h' e k ea el=>?_;have es:jK (λ _ _=>false) its.length=List.range its.length:=by
   have:its.length<2:=by omega
   simp[jK,this]
  rw[es,range_getD] at ea;exact fin vs its h' e rv (by omega) k ea q
 ·obtain ⟨ip,rp,pp,hzp⟩:=I.tuple hp;obtain ⟨iq,rq,pq,hzq⟩:=I.tuple hq;cases rv with
  |cons r1 rv=>
  cases rv with
  |cons r2 rv=>
  cases rv;obtain rfl:=r1;obtain rfl:=r2;cases rp with
  |cons m1 rp=>
  cases rq with
  |cons n1 rq=>
  obtain ⟨tm,rfl⟩:=m1;obtain ⟨tn,rfl⟩:=n1;rename_i zp zq;obtain ⟨op,hop,hcp,np,hdp⟩:=id pp;obtain ⟨oq,hoq,hcq,nq,hdq⟩:=id pq;have ask:∀(A':Around) (h':Heap) (Q':Bool->Shared->Prop) (a b:Addr) (oa ob:Obj) (za zb:List Value) (na nb:Nat) (k l:Int) (tk tl:Tok),h'.get? a=some oa->oa.data= .seq (Value.int k tk::za).toArray na->h'.get? b=some ob->ob.data= .seq (Value.int l tl::zb).toArray nb->k≠l->
    Q' (decide (k<l)) {s with heap:=h'}->wpAny (model X.prog X.w) A' (keyLt' (tuples' true) (.ref a) (.ref b)) Q' (λ _ _=>False) {s with heap:=h'}:=by
   intro A' h' Q' a b oa ob za zb na nb k l tk tl ha hda hb hdb hkl hq';refine kat_lt (s:={s with heap:=h'}) ha hda hb hdb ?_;refine kat_cons ?_;refine wpAny_eqBool_int (kat_go (λ z=>?_) (λ z=>kat_no ?_))
   ·exact absurd (by simpa using z) hkl
   ·exact kat_lt_int hq'
  refine zO (lt:=λ i j=>if i=1 then decide (n<m) else decide (m<n)) (κ:=tuples' true) pl.isList (by simp) (λ _=>ae5) (λ _ A' h' E' Q' k z=>?_) (λ A' h' i j Q' k _ hi hj hij z=>?_) λ h' e k ea el=>?_
  ·exact kat_kind (fs:=[.int m tm,.int n tn]) (T:= .type "int") (KatTups.cons (k _ _ hop) hcp hdp rfl (KatTups.cons (k _ _ hoq) hcq hdq rfl KatTups.nil)) (by simp) (λ v hv=>by simp only[List.mem_cons,List.mem_nil_iff,or_false] at hv;rcases hv with rfl|rfl<;>exact Gp) rfl z
  ·simp only[List.length_cons,List.length_nil] at hi hj;match i,j,hi,hj,hij with
   |0,1,_,_,_=>exact ask A' h' Q' _ _ op oq zp zq np nq m n tm tn (k _ _ hop) hdp (k _ _ hoq) hdq hmn z
   |1,0,_,_,_=>exact ask A' h' Q' _ _ oq op zq zp nq np n m tn tm (k _ _ hoq) hdq (k _ _ hop) hdp (Ne.symm hmn) z
   |0,0,_,_,h=>exact absurd rfl h
   |1,1,_,_,h=>exact absurd rfl h
  ·simp only[List.length_cons,List.length_nil,Nat.zero_add,Nat.reduceAdd] at ea;rw[ae2] at ea;have hnm:=qq (s.heap.objs.size+1);by_cases hlt:n<m
   ·simp only[if_true,hlt,decide_true] at ea qq;exact fin [.ref q,.ref p] [.ref q,.ref p] h' e (.cons rfl (.cons rfl .nil)) (by simp) k (by simpa using ea) qq
   ·simp only[if_true,hlt,decide_false,Bool.false_eq_true,if_false] at ea qq;exact fin [.ref p,.ref q] [.ref p,.ref q] h' e (.cons rfl (.cons rfl .nil)) (by simp) k (by simpa using ea) qq
def LS(hm:X.mg "sorted"=none)(ha:GW X ct (e::es) fa)(hg:Gl X "sorted":=by rfl)(he:starEach (e::es) X.env=(false,eval e X.env)::starEach es X.env:=by rfl)(hpl:(backTo pos (starEach es X.env)).any (·.1)=false:=by rfl):WL X ct (.Call (.Name "sorted" p) (e::es) [] pos) (lCB yG fa):=by
 have ha:=ha.out;refine ⟨?_⟩;refine PE.imp (pU Jj hg hm (by decide+kernel) ha (by decide) (by decide) he hpl) λ σ H Q ⟨Γ,j,h⟩=>?_;refine OX.bnd j h λ ds vs H' s t j' h'=>?_;unfold yG at h';split at h'
 ·rename_i x;obtain ⟨v,rfl,t1⟩:=DY t;split at h'
  ·rename_i hs;obtain ⟨a,us,rfl,q1,q2⟩:=t1.oz j'.lL j'.lB hs;have:us=[]:=by simpa[aJ] using q2
   subst this;refine ⟨a,[],rfl,q1,.inl ⟨by simp,λ l hl=>?_⟩⟩;have s2:=bh hl (.lst []);exact h' l [] _ (s.trans s2) (s.free hl) aG (q2.keep (az.keep s2))
  ·rename_i d hs;obtain ⟨a,us,rfl,q1,q2⟩:=t1.oz j'.lL j'.lB hs;refine ⟨a,us,rfl,q1,.inl ⟨by rw[<-q2.length];simp,λ l hl=>?_⟩⟩;have s2:=bh hl (.lst us);exact h' l us _ (s.trans s2) (s.free hl) aG (q2.keep (az.keep s2))
  ·rename_i d1 d2 hs;obtain ⟨a,us,rfl,q1,q2⟩:=t1.oz j'.lL j'.lB hs;obtain ⟨v1,v2,rfl,w1,w2⟩:=apj q2;have key:∀b,ltT d2 d1=some b->∃p q x y m n,v1= .ref p/\v2= .ref q/\yx X.K H' p (.int m::x)/\yx X.K H' q (.int n::y)/\m≠n/\b=decide (n<m):=by
    intro b hb;unfold ltT at hb;split at hb
    ·rename_i i r1 j2 r2;split at hb
     ·cases hb
     ·rename_i hne;cases hb;simp only[Tl,aJ] at w1 w2;obtain ⟨p,vs1,rfl,sq1,z1,y1,rfl,rfl,u1⟩:=w1;obtain ⟨q,vs2,rfl,sq2,z2,y2,rfl,rfl,u2⟩:=w2;exact ⟨p,q,y1,y2,j2,i,rfl,rfl,pK sq1,pK sq2,λ z=>hne z.symm,rfl⟩
    ·cases hb
   split at h'
   ·rename_i hb;obtain ⟨p,q,x,y,m,n,rfl,rfl,sq1,sq2,hmn,hb2⟩:=key _ hb;refine ⟨a,_,rfl,q1,.inr ⟨p,q,x,y,m,n,rfl,sq1,sq2,hmn,λ l hl=>?_⟩⟩;rw[if_pos (of_decide_eq_true hb2.symm)];have s2:=bh hl (.lst [V.ref q,V.ref p]);exact h' l _ _ (s.trans s2) (s.free hl) aG ((aJ.cons w2 (aJ.cons w1 aJ.nil)).keep (az.keep s2))
   ·rename_i hb;obtain ⟨p,q,x,y,m,n,rfl,rfl,sq1,sq2,hmn,hb2⟩:=key _ hb;refine ⟨a,_,rfl,q1,.inr ⟨p,q,x,y,m,n,rfl,sq1,sq2,hmn,λ l hl=>?_⟩⟩;rw[if_neg (of_decide_eq_false hb2.symm)];have s2:=bh hl (.lst [V.ref p,V.ref q]);exact h' l _ _ (s.trans s2) (s.free hl) aG (q2.keep (az.keep s2))
   ·exact h'.elim
  ·exact h'.elim
 ·exact h'.elim
end
end L4
end
section
namespace L4
open PySem
noncomputable abbrev DQ:=Sum Int Str
def UN:List D->Option (List DQ)
 |[]=>some []
 |d::ds=>match aiP d,UN ds with
  |some k,some ks=>some (k::ks)
  |_,_=>none
def aiO:D->Option (List DQ)
 | .tup ds=>UN ds
 |_=>none
def dcT:D->Option (List (List DQ)×List D)
 | .uA (.t ks) xs=>some (ks,xs)
 | .yw _ (.t ks) xs=>some (ks,xs)
 |_=>none
def IV(ks:List (List DQ))(xs:List D)(k:List DQ):Option D:=((ks.zip xs).find? λ kv=>decide (kv.1=k)).map (·.2)
def Um(ks:List (List DQ))(k:List DQ):List (List DQ):=if (ks.any λ n=>decide (n=k))=true then ks else ks++[k]
def YZ(ks:List (List DQ))(xs:List D)(k:List DQ)(d:D):List D:=if (ks.any λ n=>decide (n=k))=true then (ks.zip xs).map (λ kv=>if kv.1=k then d else kv.2) else xs++[d]
def F4(k:List DQ)(d:D):M->Option M
 | .k (.t ks) xs=>if nt d=true/\ks.length<1000000 then some (.k (.t (Um ks k)) (YZ ks xs k d)) else none
 |_=>none
def Y5(i:Nat)(g:Sg->Res (List Nat))(fk f:Sg->Res D):Sg->Out:=λ Γ=>oE (f Γ) Γ λ d=>oE (g Γ) Γ λ ks=>oE (fk Γ) Γ λ z=>match aiO z with
 |some k=>oUp (DW i ks (F4 k d) Γ)
 |none=> .bad
def iN:List Int->List Int->Bool
 |[],[]=>false
 |[],_::_=>true
 |_::_,[]=>false
 |x::xs,y::ys=>if x=y then iN xs ys else decide (x<y)
def CO:∀(x y:List Int),x≠y->iN x y=!iN y x
 |[],[],h=>absurd rfl h
 |[],_::_,_=>rfl
 |_::_,[],_=>rfl
 |a::x,b::y,h=>by
  simp only[iN];by_cases e:a=b
  ·subst e;simp only[if_true];exact CO x y λ z=>h (by rw[z])
  ·have e':b≠a:=λ z=>e z.symm;simp only[e,e',if_false];by_cases q:a<b
   ·have:¬b<a:=by omega
    simp[q,this]
   ·have:b<a:=by omega
    simp[q,this]
def Bt:∀(x y z:List Int),iN x y=true->iN y z=true->iN x z=true
 |[],[],_,h,_=>by simp[iN] at h
 |[],_::_,[],_,h=>by simp[iN] at h
 |[],_::_,_::_,_,_=>rfl
 |_::_,[],_,h,_=>by simp[iN] at h
 |_::_,_::_,[],_,h=>by simp[iN] at h
 |a::x,b::y,c::z,h1,h2=>by
  simp only[iN] at h1 h2 ⊢;by_cases e1:a=b
  ·subst e1;simp only[if_true] at h1;by_cases e2:a=c
   ·subst e2;simp only[if_true] at h2 ⊢;exact Bt x y z h1 h2
   ·simp only[e2,if_false] at h2 ⊢;exact h2
  ·simp only[e1,if_false] at h1;have h1:a<b:=by simpa using h1
   by_cases e2:b=c
   ·subst e2;simp only[e1,if_false];simpa using h1
   ·simp only[e2,if_false] at h2;have h2:b<c:=by simpa using h2
    have e3:a≠c:=by omega
    simp only[e3,if_false];have:a<c:=by omega
    simpa using this
noncomputable abbrev KD:=List Int×D
def VH(x:KD):List KD->List KD
 |[]=>[x]
 |y::l=>if iN x.1 y.1=true then x::y::l else y::VH x l
def srt:List KD->List KD
 |[]=>[]
 |x::l=>VH x (srt l)
def yE(x:KD):∀l,(VH x l).Perm (x::l)
 |[]=> .refl _
 |y::l=>by
  unfold VH;split
  ·exact .refl _
  ·exact ((yE x l).cons y).trans (.swap x y l)
def wJ:∀l,(srt l).Perm l
 |[]=> .refl _
 |x::l=>(yE x (srt l)).trans ((wJ l).cons x)
def LtK(a b:KD):Prop:=iN a.1 b.1=true
def Ul{x:KD}:∀{l:List KD},l.Pairwise LtK->(∀y∈l,x.1≠y.1)->(VH x l).Pairwise LtK
 |[],_,_=>List.pairwise_singleton _ _
 |y::l,h,hn=>by
  unfold VH;have h1:=(List.pairwise_cons.mp h).1;have h2:=(List.pairwise_cons.mp h).2;split
  ·rename_i q;refine List.pairwise_cons.mpr ⟨λ z hz=>?_,h⟩;rcases List.mem_cons.mp hz with rfl|hz
   ·exact q
   ·exact Bt _ _ _ q (h1 z hz)
  ·rename_i q;refine List.pairwise_cons.mpr ⟨λ z hz=>?_,Ul h2 λ y' hy'=>hn y' (.tail _ hy')⟩;have hz:=(yE x l).mem_iff.mp hz;rcases List.mem_cons.mp hz with rfl|hz
   ·show iN y.1 z.1=true;rw[CO _ _ (λ e=>hn y (.head _) e.symm)];simpa using q
   ·exact h1 z hz
def Mj:∀{l:List KD},(l.map (·.1)).Nodup->(srt l).Pairwise LtK
 |[],_=>List.Pairwise.nil
 |x::l,h=>Ul (Mj (List.nodup_cons.mp h).2) λ y hy e=>by have hy:=(wJ l).mem_iff.mp hy;exact (List.nodup_cons.mp h).1 (List.mem_map.mpr ⟨y,hy,e.symm⟩)
def KP(x:List Int):iN x x=false:=by
 induction x with
 |nil=>rfl
 |cons a x ih=>simp[iN,ih]
def yC:∀{l m:List KD},l.Perm m->l.Pairwise LtK->m.Pairwise LtK->l=m
 |[],m,p,_,_=>(List.nil_perm.mp p).symm▸rfl
 |x::l,[],p,_,_=>by simpa using p.length_eq
 |x::l,y::m,p,h1,h2=>by
  have e:x=y:=by
   have hx:=p.mem_iff.mp (.head (a:=x) l);have hy:=p.mem_iff.mpr (.head (a:=y) m);rcases List.mem_cons.mp hx with e|hx
   ·exact e
   ·rcases List.mem_cons.mp hy with e|hy
    ·exact e.symm
    ·have a1:iN y.1 x.1=true:=(List.pairwise_cons.mp h2).1 x hx;have a2:iN x.1 y.1=true:=(List.pairwise_cons.mp h1).1 y hy;have:=Bt _ _ _ a1 a2;rw[KP] at this;cases this
  subst e;rw[yC (List.Perm.cons_inv p) (List.pairwise_cons.mp h1).2 (List.pairwise_cons.mp h2).2]
def aiz{α β:Type}{n:Nat}{f:Nat->β}{l:List α}{g:α->β}(hl:l.length=n)(h:∀i a,l[i]? =some a->f i=g a):(List.range n).map f=l.map g:=by
 apply List.ext_getElem?;intro i;rw[List.getElem?_map,List.getElem?_map];by_cases hi:i<n
 ·rw[List.getElem?_range hi,List.getElem?_eq_getElem (by rw[hl];exact hi)];exact congrArg some (h i _ (List.getElem?_eq_getElem (by rw[hl];exact hi)))
 ·rw[List.getElem?_eq_none (by simp;omega),List.getElem?_eq_none (by omega)];rfl
def ahH{ns:List (List Int)}{xs:List D}{ix:List Nat}(hl:xs.length=ns.length)(nd:ns.Nodup)(hp:ix.Perm (List.range ns.length))(pw:ix.Pairwise (λ i j=>iN (ns.getD i []) (ns.getD j [])=true)):
  (ix.map λ i=>((ns.getD i [],xs.getD i .fE):KD))=srt (ns.zip xs):=by
 have e1:(ns.zip xs).map (·.1)=ns:=List.map_fst_zip (by omega);refine yC ?_ (List.pairwise_map.mpr (pw.imp λ h=>h)) (Mj (by rw[e1];exact nd));refine (hp.map _).trans (List.Perm.trans ?_ (wJ _).symm);rw[aiz (l:=ns.zip xs) (g:=id) (by rw[List.length_zip,hl];exact Nat.min_self _) λ i a e=>?_]
 ·rw[List.map_id]
 ·rw[List.getElem?_zip_eq_some] at e;rw[List.getD_eq_getElem?_getD,List.getD_eq_getElem?_getD,e.1,e.2];rfl
noncomputable def tupI(n:List Int):D:= .tup (n.map D.int)
def wN(fm:Sg->Res M):Sg->Out:=λ Γ=>oE (fm Γ) Γ λ m=>match m with
 | .l _=> .nx Γ
 |_=> .bad
end L4
end
section
namespace L4
open PySem PySem.Spec PyProof.Rows L2
open AutoSeq1 (wpAny_loadPart')
section
variable{prog:Program}{w:World}{A:Around}{E:Value->Shared->Prop}{s:Shared}
def xo{it l:Addr}{i:Nat}{items:Array Value}{x:Value}{Q:Value->Shared->Prop}(hit:s.heap.IsTupleIter it l i)(hl:s.heap.IsTuple l items)(hx:items[i]? =some x) (hQ:∀h',h'.IsTupleIter it l (i+1)->Heap.SameBut it s.heap h'->Q x {s with heap:=h'}):wpAny (model prog w) A (Builtin.SmallTypes.nextOf (.ref it)) Q E s:=by
 obtain ⟨o,ho,hc,hd⟩:=id hit;obtain ⟨ol,hol,_,nl,hdl⟩:=hl;unfold Builtin.SmallTypes.nextOf;refine wpAny_bind (wpAny_callSpecial?_slot (name:=Str.ofString "__next__") hit.typeIs PySem.F.slot_tuple_iterator_next
  (wpAny_call_entry PySem.F.slot_tuple_iterator_next hit.typeIs PySem.F.entry_tuple_iterator_next ?_ (PySem.F.args_tuple_iterator_next_1 _)))
 show wpAny _ _ (field (.ref it) 0>>=_) _ _ s;refine wpAny_bind (wpAny_field ho hd (x:= .ref l) rfl ?_);show wpAny _ _ (if (Value.ref l==Value.none)=true then _ else _) _ _ s;rw[if_neg (show ¬((Value.ref l==Value.none)=true) from Bool.false_ne_true)];show wpAny _ _ (field (.ref it) 1>>=_) _ _ s;refine wpAny_bind (wpAny_field ho hd (x:= .int i 0) rfl ?_);show wpAny _ _ (seqItems? (.ref l)>>=_) _ _ s;refine wpAny_bind (wpAny_seqItems hol hdl ?_);simp only[Int.toNat_natCast,hx];refine wpAny_bind (wpAny_setField ho hd (by simp) (wpAny_pure ⟨x,rfl,wpAny_pure (hQ _ ?_ (Heap.SameBut.update ..))⟩));exact ⟨_,Heap.get?_update_self _ ho (Obj.isFreed_of_fields (Obj.data_mapFields hd _)),(Obj.cls_mapFields ..).trans hc,by rw[Obj.data_mapFields hd];simp[rawInt]⟩
def ze{it l:Addr}{i:Nat}{items:Array Value}{Q:Value->Shared->Prop}(hh:A.handled=none)(hit:s.heap.IsTupleIter it l i)(hl:s.heap.IsTuple l items)(hx:items[i]? =none) (hE:∀h' e,Heap.ExtBut it s.heap h'->(∃o,h'.get? e=some o/\o.cls= .type "StopIteration")->E (.ref e) {s with heap:=h'}):wpAny (model prog w) A (Builtin.SmallTypes.nextOf (.ref it)) Q E s:=by
 obtain ⟨o,ho,hc,hd⟩:=id hit;obtain ⟨ol,hol,_,nl,hdl⟩:=hl;unfold Builtin.SmallTypes.nextOf;refine wpAny_bind (wpAny_callSpecial?_slot (name:=Str.ofString "__next__") hit.typeIs PySem.F.slot_tuple_iterator_next
  (wpAny_call_entry PySem.F.slot_tuple_iterator_next hit.typeIs PySem.F.entry_tuple_iterator_next ?_ (PySem.F.args_tuple_iterator_next_1 _)))
 show wpAny _ _ (field (.ref it) 0>>=_) _ _ s;refine wpAny_bind (wpAny_field ho hd (x:= .ref l) rfl ?_);show wpAny _ _ (if (Value.ref l==Value.none)=true then _ else _) _ _ s;rw[if_neg (show ¬((Value.ref l==Value.none)=true) from Bool.false_ne_true)];show wpAny _ _ (field (.ref it) 1>>=_) _ _ s;refine wpAny_bind (wpAny_field ho hd (x:= .int i 0) rfl ?_);show wpAny _ _ (seqItems? (.ref l)>>=_) _ _ s;refine wpAny_bind (wpAny_seqItems hol hdl ?_);simp only[Int.toNat_natCast,hx];refine wpAny_bind (wpAny_rule (wpAny_bind (wpAny_setField ho hd (by simp) ?_)));show wpAny _ _ (newExc (.type "StopIteration") []>>=_) _ _ _;refine wpAny_bind ?_;simp only[newExc,newTuple];refine wpAny_bind (wpAny_newObj_type ?_ (by size_fits));refine wpAny_bind (m:=firstArgMember _ _) (wpAny_of_eq (a:=Value.none) (by first|rfl|(simp only[firstArgMember];rfl)) ?_);refine wpAny_newObj_type ?_ (by size_fits);simp only[raiseNew];refine wpAny_bind (wpAny_handled ?_);first|rw[show A.in1.handled=none from hh]|rw[hh]
 refine wpAny_bind (wpAny_pure (wpAny_throw ?_));exact hE _ _ (((Heap.SameBut.update ..).extBut.push _).push _) ⟨_,Heap.get?_push_size _ rfl,rfl⟩
def xN{h h':Heap}{l:Addr}{items:Array Value}(t:h.IsTuple l items)(k:∀o,h.get? l=some o->h'.get? l=some o):h'.IsTuple l items:=let ⟨o,ho,r⟩:=t;⟨o,k o ho,r⟩
def abf(hh:A.handled=none)(it l:Addr)(hne:l≠it)(items:Array Value):Draws prog w A it [it,l] items.size (λ i v=>items[i]? =some v) (λ i h=>h.IsTupleIter it l i/\h.IsTuple l items) where
 live:=λ _ _ st=>let ⟨o,ho,_⟩:=st.1;⟨o,ho⟩
 frame:=λ _ _ _ st hk=>⟨st.1.at λ o e=>hk it (by simp) o e,xN st.2 λ o e=>hk l (by simp) o e⟩
 item:=λ i s Q E hi st hQ=>xo st.1 st.2 (x:=items[i]) (by simp[hi]) λ h' aql hs'=>hQ _ h' s.toks (by simp[hi]) ⟨aql,xN st.2 λ o e=>(hs'.2 l hne).trans e⟩ hs'
 done:=λ s Q E st hE=>ze hh st.1 st.2 (by simp) hE
def KL(l:Addr)(items:Array Value)(n:Nat)(dct:Option Addr)(sl:Array (Option Value)):
  Meets (Builtin.«enumerate.__new__» ⟨[.type "enumerate",.ref l],[]⟩) (λ _ R s=>s.heap.get? l=some {cls:= .type "tuple",dict:=dct,data:= .seq items n,slots:=sl}/\R (.ok (.ret (.ref (s.heap.push {cls:= .type "tuple_iterator",data:= .fields #[.ref l,.int 0 0]}).objs.size))) {s with heap:=(s.heap.push {cls:= .type "tuple_iterator",data:= .fields #[.ref l,.int 0 0]}).push {cls:= .type "enumerate",data:= .fields #[.none,.bool false,.ref s.heap.objs.size,rawInt 0,.none,.none]}}):=
 .of_wp λ prog w A R s h=>by
  obtain ⟨hp,g,d,tk,os⟩:=s;obtain ⟨hl,h⟩:=h;have hsub:=sub_enumerate;have hL:Heap.IsTuple (Shared.heap ⟨hp,g,d,tk,os⟩) l items:=⟨_,hl,rfl,n,rfl⟩;wp_walk using wpAny_loadPart' hl;refine wpAny_stack_any λ st=>wpAny_pure ?_;split
  ·rename_i c _ _ _ _ _;cases (c==Value.type "enumerate")
   ·wp_walk using wpAny_loadPart' hl,wpAny_pyIter_tuple hL;exact ⟨_,rfl,h⟩
   ·wp_walk using wpAny_loadPart' hl,wpAny_pyIter_tuple hL;exact ⟨_,rfl,h⟩
  ·wp_walk using wpAny_loadPart' hl,wpAny_pyIter_tuple hL;exact ⟨_,rfl,h⟩
def OE{l:Addr}{items:Array Value}{Q:Value->Shared->Prop}(hL:s.heap.IsTuple l items) (h:∀h',IsEnum h' (s.heap.objs.size+1) s.heap.objs.size 0 .none->h'.IsTupleIter s.heap.objs.size l 0->(∀b o,s.heap.get? b=some o->h'.get? b=some o)->Q (.ref (s.heap.objs.size+1)) {s with heap:=h'}):
  wpAny (model prog w) A (call (.type "enumerate") [.ref l]) Q E s:=by
 obtain ⟨⟨c,dct,dt,sl⟩,hl,hc,n,hd⟩:=hL;obtain rfl:c= .type "tuple":=hc;obtain rfl:dt= .seq items n:=hd;refine callType_new PySem.F.called_enumerate (by decide) (PySem.F.typeCall_enumerate_1 _) (PySem.F.newCall_enumerate_1 _) (λ obj=>PySem.F.args_object_init_2 obj _) PySem.F.entry_enumerate_new (KL l items n dct sl) ⟨hl,?_⟩;have hz:(s.heap.push {cls:= .type "tuple_iterator",data:= .fields #[.ref l,.int 0 0]}).objs.size=s.heap.objs.size+1:=Heap.size_push ..;show _/\_;rw[hz];have he:IsEnum ((s.heap.push {cls:= .type "tuple_iterator",data:= .fields #[.ref l,.int 0 0]}).push
   {cls:= .type "enumerate",data:= .fields #[.none,.bool false,.ref s.heap.objs.size,rawInt 0,.none,.none]}) (s.heap.objs.size+1) s.heap.objs.size 0 .none:=by
  have:=Heap.get?_push_size (s.heap.push {cls:= .type "tuple_iterator",data:= .fields #[.ref l,.int 0 0]}) (o:={cls:= .type "enumerate",data:= .fields #[.none,.bool false,.ref s.heap.objs.size,rawInt 0,.none,.none]}) rfl;rw[hz] at this;exact this
 exact ⟨⟨_,he,rfl⟩,h _ he ⟨_,Heap.get?_push_of_some _ (Heap.get?_push_size _ rfl),rfl,rfl⟩ λ b o x=>Heap.get?_push_of_some _ (Heap.get?_push_of_some _ x)⟩
end
section
variable{X:Cx}{pins:List (Addr×Obj)}{σ:St}{H:Hp}{s:Shared}
def adL{t':Nat}{h':Heap}{ch:List Addr}(I:Inv X pins σ H s)(k:∀b o,b∉ch->s.heap.get? b=some o->h'.get? b=some o)(hf:∀b∈ch,FE X pins H b):Inv X pins σ H {s with heap:=h',toks:=t'}:=by
 have nit:∀b u,H b=some u->b∉ch:=λ b u e z=>by rw[(hf b z).1] at e;cases e
 have hL:X.env.locals∉ch:=λ z=>(hf _ z).2.1 rfl;refine I.step (g':=s.gens) (d':=s.drawn) (ch:=ch) (λ b hb=>?_) (λ b o _ _ hc e _=>k b o hc e) (λ b o _ _ hc e _=>⟨o.slots,k b o hc e⟩) (λ _ _ _ _ n=>n)
  (λ b o hc e=>⟨o,k b o hc e⟩) (λ _ _ e=>e) (λ _ _ _ e=>e) (λ b ps e=>⟨#[],by rw[e];simp⟩) (λ m hm=>?_) (λ b u e=>?_) I.bare
 ·obtain ⟨_,f1,_,f3,f4,f5⟩:=hf b hb;exact ⟨f3,f1,f4,f5⟩
 ·obtain ⟨o,es,ep,ho,r⟩:=hm;exact ⟨o,es,ep,k _ o hL ho,r⟩
 ·refine (I.hok b u e).stay (λ c v hc q=>k c v ?_ q) (λ _ q=>q) λ _ _ q=>q;rcases hc with z|z
  ·rw[z];exact nit b u e
  ·exact nit c _ z
end
section
variable{X:Cx}{ct:Ct}{a b e:Expr}{f g h:Sg->Res D}{pos:Pos}
def K2{K:W.Frag}{H:Hp}:∀{ds:List D} {vs:List V} {ks:List Key},aJ K ct H ds vs->UN ds=some ks->vs=ks.map kV
 |[],vs,ks,h,e=>by cases e;simp only[aJ] at h;subst h;rfl
 |d::ds,vs,ks,h,e=>by
  simp only[aJ] at h;obtain ⟨v,r,rfl,t1,t2⟩:=h;simp only[UN] at e;split at e
  ·rename_i k ks' e1 e2;cases e;rw[ae1 t1 e1,K2 t2 e2];rfl
  ·cases e
def UO{K:W.Frag}{H:Hp}{d:D}{v:V}{k:List Key}(h:Tl K ct H d v)(e:aiO d=some k):∃p,v= .ref p/\H p=some (.tup (k.map kV)):=by
 cases d with
 |tup ds=>simp only[Tl] at h;obtain ⟨p,vs,rfl,h2,h3⟩:=h;rw[K2 h3 e] at h2;exact ⟨p,rfl,h2⟩
 |_=>cases e
def IU{K:W.Frag}{H:Hp}{k:List Key}:∀{ks:List (List Key)} {xs:List D} {vs:List V},aJ K ct H xs vs->ks.length=vs.length->(∀d,IV ks xs k=some d->∃v,rR (ks.zip vs) k=some v/\Tl K ct H d v)/\(IV ks xs k=none->rR (ks.zip vs) k=none)
 |[],xs,vs,t,_=>⟨λ d h=>by simp[IV] at h,λ _=>by simp[rR]⟩
 |n::ks,[],vs,t,hl=>by simp only[aJ] at t;subst t;simp at hl
 |n::ks,x::xs,vs,t,hl=>by
  simp only[aJ] at t;obtain ⟨v,r,rfl,t1,t2⟩:=t;obtain ⟨g1,g2⟩:=IU (k:=k) t2 (by simpa using hl);by_cases q:n=k
  ·subst q;refine ⟨λ d h=>?_,λ h=>?_⟩
   ·simp only[IV,List.zip_cons_cons,List.find?_cons,decide_true,Option.map_some,Option.some.injEq] at h;subst h;exact ⟨v,by simp[rR,List.find?_cons],t1⟩
   ·simp[IV,List.find?_cons] at h
  ·refine ⟨λ d h=>?_,λ h=>?_⟩
   ·simp only[IV,List.zip_cons_cons,List.find?_cons,q,decide_false] at h;obtain ⟨v',w1,w2⟩:=g1 d h;exact ⟨v',by simpa[rR,List.find?_cons,q] using w1,w2⟩
   ·simp only[IV,List.zip_cons_cons,List.find?_cons,q,decide_false] at h;simpa[rR,List.find?_cons,q] using g2 h
def Tl.agv{K:W.Frag}{H:Hp}{d:D}{v:V}{ks:List (List Key)}{xs:List D}(l:az ct.f.L H)(b:az ct.B H)(h:Tl K ct H d v)(e:dcT d=some (ks,xs)):∃a vs,v= .ref a/\Rd H a (.dT (ks.zip vs))/\ks.length=vs.length/\aJ K ct H xs vs:=by
 cases d with
 |uA ks' xs'=>
  cases ks' with
  |s _=>cases e
  |t ks'=>
  cases e;simp only[Tl] at h;obtain ⟨a,vs,h1,⟨o,h2⟩,h3,h4⟩:=h;exact ⟨a,vs,h1,.inr ⟨o,h2⟩,h3,h4⟩
 |yw t ks' xs'=>
  cases ks' with
  |s _=>cases e
  |t ks'=>
  cases e;simp only[Tl] at h;obtain ⟨a,vs,h1,h2,h3,h4⟩:=h;refine ⟨a,vs,h1,.inl ?_,h3,h4⟩;cases t with
  |true=>exact b a _ h2
  |false=>exact l a _ h2
 |_=>cases e
def Ub:WM X ct (.Dict [] [] pos) (λ _=> .ok (.k (.t []) [])):=by
 refine ⟨?_⟩;refine PE.imp Zt λ σ H Q ⟨Γ,j,h⟩=>?_;intro p hp;refine h (.ref p) _ (λ b=>b=p) (bh hp _) ?_ (λ b z=>z▸hp) λ b z q=>by subst z;rw[aG] at q;cases q
 simp only[Ow];exact ⟨p,[],rfl,rfl,aG,rfl,aJ.nil⟩
end
def Yk{ks:List (List Key)}{vs:List V}{k:List Key}(h:ks.length=vs.length):((ks.zip vs).any λ kv=>decide (kv.1=k))=ks.any λ n=>decide (n=k):=by
 induction ks generalizing vs with
 |nil=>simp
 |cons n ks ih=>
  cases vs with
  |nil=>simp at h
  |cons v vs=>simp only[List.zip_cons_cons,List.any_cons];rw[ih (by simpa using h)]
def Y8{K:W.Frag}{ct:Ct}{H:Hp}{ks:List (List Key)}{xs:List D}{vs:List V}{k:List Key}{d:D}{v:V}(h:ks.length=vs.length)(t:aJ K ct H xs vs)(td:Tl K ct H d v):
  ∃us,putK (ks.zip vs) k v=(Um ks k).zip us/\(Um ks k).length=us.length/\aJ K ct H (YZ ks xs k d) us:=by
 unfold putK Um YZ;rw[Yk h];by_cases q:(ks.any λ n=>decide (n=k))=true
 ·simp only[q,if_true];clear q;induction ks generalizing xs vs with
  |nil=>
   cases vs with
   |nil=>exact ⟨[],by simp,rfl,by simp[aJ]⟩
   |cons v vs=>simp at h
  |cons n ks ih=>
   cases vs with
   |nil=>simp at h
   |cons w vs=>
    cases xs with
    |nil=>simp only[aJ] at t;cases t
    |cons x xs=>
     simp only[aJ] at t;obtain ⟨w',r,e,t1,t2⟩:=t;cases e;obtain ⟨us,u1,u2,u3⟩:=ih (by simpa using h) t2;simp only[List.zip_cons_cons,List.map_cons];by_cases q:n=k
     ·subst q;exact ⟨v::us,by simp[u1],by simp[u2],by simpa using aJ.cons td u3⟩
     ·exact ⟨w::us,by simp[q,u1],by simp[u2],by simpa[q] using aJ.cons t1 u3⟩
 ·simp only[q,if_false,Bool.false_eq_true];exact ⟨vs++[v],by rw[List.zip_append h];simp,by simp[h],t.append (aJ.cons td aJ.nil)⟩
section
variable{X:Cx}{c:Cf}{r ix e:Expr}{i:Nat}{g:Sg->Res (List Nat)}{f fk:Sg->Res D}{pos:Pos}{Γ:Sg}{σ:St}{H:Hp}
def Ur{K:W.Frag}{d:D}{y:V}{k:List Key}{v:V}{B:Hp}{m' jm:M}{S':Fp}(t:Tl K (c.at' B) H d y)(e:F4 k d m'=some jm)(o:Ow K c.z H m' v S'):
  ∃a kvs,v= .ref a/\H a=some (.dT kvs)/\kvs.length<1000000/\S' a/\Ow K c.z (upd H a (.dT (putK kvs k y))) jm (.ref a) S':=by
 cases m' with
 |k ks xs=>
  cases ks with
  |s _=>cases e
  |t ks=>
  simp only[F4] at e;split at e
  ·rename_i hc;cases e;simp only[Ow] at o ⊢;obtain ⟨a,vs,rfl,o2,o3,o4,o5⟩:=o;have o3:H a=some (.dT (ks.zip vs)):=o3;obtain ⟨us,u1,u2,u3⟩:=Y8 (k:=k) o4 o5 (Tl.down (B:=B) (tm:=true) t hc.1);refine ⟨a,_,rfl,o3,by rw[List.length_zip];omega,o2,a,us,rfl,o2,?_,u2,u3.keep (aZ.dT o3)⟩;rw[aG,u1];rfl
  ·cases e
 |_=>cases e
def JN{pt:Pos}(hu:X.A.units+1<cLine)(hr:∀B,WP X (c.at' B) r i g)(hk:∀B,WD X (c.at' B) ix fk)(he:∀B,WD X (c.at' B) e f)(hs:swapsWith e (some (.Subscript r ix pt)) pos.line X.env=pure false:=by rfl):DL X c (.Assign [.Subscript r ix pt] e pos) (Y5 i g fk f):=by
 have hr:=λ B=>(hr B).out;have hk:=λ B=>(hk B).out;have he:=λ B=>(he B).out;refine ⟨?_⟩;intro pins s σ H E I ⟨Γ,j,h⟩;refine aed hu (hr H) (hk H) (he H) hs pins s σ H E I ?_;refine ⟨Γ,j.lift,Fn.ok j h λ d _ q y H1 s1 t=>?_⟩;refine ⟨Γ,j.lift.mono s1,Ok.mono (H:=H) s1 (Fn.ok (tm:=true) (B:=H) j q λ ks _ q v H2 s2 pa=>?_) λ _ z=>z⟩;refine ⟨Γ,(j.lift.mono s1).mono s2,Ok.mono (H:=H) (s1.trans s2) (Fn.ok (tm:=true) (B:=H) j q λ z _ q u H3 s3 t3=>?_) λ _ z=>z⟩;split at q
 ·rename_i k hk';have sm:=(s1.trans s2).trans s3;have j3:=j.mono sm;obtain ⟨sl,m,v0,m',p1,p2,p3,p4,p5⟩:=pa.same s3;have ty:=t.keep (az.keep (s2.trans s3));have e1:DW i ks (F4 k d) Γ=(F4 k d m').map λ jm=>Γ.set i (reS sl (qw m ks jm)):=by unfold DW;rw[p1,Option.bind_some,p2,Option.bind_some,p5,Option.bind_some]
  rw[e1] at q;cases z:F4 k d m' with
  |none=>rw[z] at q;exact q.elim
  |some jm=>rw[z] at q;obtain ⟨vv,S,g1,o1⟩:=j3.ofM p1 p2;rw[p3] at g1;cases g1;obtain ⟨S',o',_⟩:=o1.Xq p4 p5;obtain ⟨a,kvs,rfl,ha,hl,_⟩:=Ur ty z o';obtain ⟨p,rfl,hp⟩:=UO t3 hk';refine ⟨a,_,rfl,.inr ⟨kvs,k,p,ha,rfl,hp,Nat.lt_trans hl mW,rfl⟩,?_⟩;have kp:aZ c.cb H3 (upd H3 a (.dT (putK kvs k y))):=aZ.dT ha;refine q σ _ ((az.keep sm).trans kp) (j3.up p1 p2 p3 p4 p5 kp λ S' o=>?_);obtain ⟨a',kvs',e2,ha',_,w1,w2⟩:=Ur ty z o;cases e2;rw[ha] at ha';cases ha';exact ⟨w1,w2⟩
 ·exact q.elim
end
end L4
end
section
namespace L4
open PySem PySem.W PyProof.Rows
structure Ord(lt:Nat->Nat->Bool)(n:Nat):Prop where
 tot:∀i j,i<n->j<n->i≠j->lt i j=!lt j i
 tr:∀i j k,i<n->j<n->k<n->lt i j=true->lt j k=true->lt i k=true
structure Pm(n:Nat)(p:Array Nat):Prop where
 size:p.size=n
 low:∀k,k<n->p.getD k 0<n
 inj:∀i j,i<n->j<n->p.getD i 0=p.getD j 0->i=j
section
variable{lt:Nat->Nat->Bool}{n:Nat}
def Up(lt:Nat->Nat->Bool)(p:Array Nat)(r:Nat):Prop:=∀i j,i<j->j<r->lt (p.getD i 0) (p.getD j 0)=true
end
end L4
end
section
namespace L4
open PySem PySem.Calls PyProof.Rows PySem.W PyProof.V PySem.Spec
noncomputable def Ent(h:Heap)(d:Addr)(es:Array DictEntry)(ep:Nat):Prop:=∃o,h.get? d=some o/\o.data= .dict es ep
abbrev itO(x y:Value)(d:Addr)(i n ep:Nat)(p q:Value):Obj:={cls:= .type "dict_itemiterator",dict:=none,data:= .fields #[x,y,.ref d,.int i 0,.int n 0,.int ep 0,p,q],slots:= #[]}
noncomputable abbrev prO(a b:Value):Obj:={cls:= .type "tuple",data:= .seq #[a,b]}
section
variable{prog:Program}{w:World}{A:Around}{E:Value->Shared->Prop}{s:Shared}
def air{it d:Addr}{i ep:Nat}{es:Array DictEntry}{x y p q:Value}{Q:Option Value->Shared->Prop}(hh:A.handled=none)(hit:s.heap.get? it=some (itO x y d i es.size ep p q))(hd:Ent s.heap d es ep)(hi:es.size<=i) (hQ:∀h',Heap.ExtBut it s.heap h'->Q none {s with heap:=h'}):wpAny (model prog w) A (pyNext (.ref it)) Q E s:=by
 obtain ⟨od,ho,hdd⟩:=hd;have ty:s.TypeIs (.ref it) "dict_itemiterator":=⟨_,hit,rfl⟩;unfold pyNext;refine wpAny_bind (wpAny_attempt (wpAny_callSpecial?_slot (name:=Str.ofString "__next__") ty PySem.F.slot_dict_itemiterator_next (wpAny_call_entry PySem.F.slot_dict_itemiterator_next ty PySem.F.entry_dict_itemiterator_next ?_ (PySem.F.args_dict_itemiterator_next_1 _))));refine wpAny_bind (wpAny_pure (wpAny_bind (wpAny_bind ?_)));first|refine wpAny_bind (wpAny_typeNameOfWhole_itemiter ty (wpAny_pure (wpAny_bind (wpAny_fieldsOf hit rfl ?_))))|refine wpAny_bind (wpAny_typeNameOf_itemiter ty (wpAny_pure (wpAny_bind (wpAny_fieldsOf hit rfl ?_))))
 have own:Builtin.Dict_items.ownsTuple "dict_itemiterator"=true:=by decide
 simp only[own,if_true];show wpAny _ _ (if (Value.ref d==Value.none)=true then _ else _) _ _ s;rw[if_neg (λ z:(Value.ref d==Value.none)=true=>Bool.false_ne_true z)];refine wpAny_bind (wpAny_pure (wpAny_bind (wpAny_dictEntries ho hdd ?_)));rw[if_neg (by simp)];refine wpAny_bind (wpAny_pure (wpAny_bind (wpAny_dictEpoch ho hdd ?_)));rw[if_neg (by simp)];refine wpAny_pure ?_;simp only[show ¬((i:Int)<0) from by omega,if_false,Int.toNat_natCast,Array.getElem?_eq_none hi];refine wpAny_bind ?_;first|refine wpAny_bind (wpAny_typeNameOfWhole_itemiter ty (wpAny_pure ?_))|refine wpAny_bind (wpAny_typeNameOf_itemiter ty (wpAny_pure ?_))
 show wpAny _ _ (setField (.ref it) 2 .none>>=_) _ _ s;refine wpAny_bind (wpAny_setField hit rfl (by simp) ?_);show wpAny _ _ (newExc (.type "StopIteration") []>>=_) _ _ _;refine wpAny_bind ?_;simp only[newExc,newTuple];refine wpAny_bind (wpAny_newObj_type (wpAny_bind (m:=firstArgMember _ _) (wpAny_of_eq (a:=Value.none) (by first|rfl|(simp only[firstArgMember];rfl)) (wpAny_newObj_type ?_ (by size_fits)))) (by size_fits));simp only[raiseNew];refine wpAny_bind (wpAny_handled ?_);rw[show A.in1.handled=none from hh];refine wpAny_bind (wpAny_pure (wpAny_throw ?_));refine wpAny_bind (wpAny_isInstance (T:="StopIteration") (b:=true) ⟨_,Heap.get?_push_size _ rfl,rfl⟩ isSubtype_stop ?_);exact wpAny_pure (hQ _ (((Heap.SameBut.update ..).extBut.push _).push _))
structure Told(h:Heap)(es:Array DictEntry)(lo:Addr)(as:List Addr):Prop where
 above:∀a∈as,lo<a/\a<h.objs.size
 nd:as.Pairwise (· < ·)
 pair:∀(j:Nat) (a:Addr),as[j]? =some a->∃e:DictEntry,es[j]? =some e/\h.get? a=some (prO e.key e.val)
noncomputable abbrev vwO(d:Addr):Obj:={cls:= .type "dict_items",data:= .fields #[.ref d]}
def NV{v d:Addr}{es:Array DictEntry}{ep:Nat}{Q:Value->Shared->Prop}(hv:s.heap.get? v=some (vwO d))(hd:Ent s.heap d es ep) (hQ:Q (.ref s.heap.objs.size) {s with heap:=s.heap.push (itO .none (.bool false) d 0 es.size ep .none .none)}):wpAny (model prog w) A (pyIter (.ref v)) Q E s:=by
 obtain ⟨od,ho,hdd⟩:=hd;have ty:s.TypeIs (.ref v) "dict_items":=⟨_,hv,rfl⟩;refine wpAny_pyIter_slot ty PySem.F.slot_dict_items_iter (wpAny_call_entry PySem.F.slot_dict_items_iter ty PySem.F.entry_dict_items_iter ?_ (PySem.F.args_dict_items_iter_1 _));unfold Builtin.«dict_items.__iter__»;refine wpAny_bind (wpAny_pure (wpAny_bind ?_));unfold Builtin.Dict_items.dictOf;refine wpAny_bind (wpAny_field hv rfl (x:= .ref d) rfl (wpAny_pure (wpAny_bind ?_)));unfold Builtin.Dict_items.newIterator;refine wpAny_bind (wpAny_dictEntries ho hdd (wpAny_bind (wpAny_dictEpoch ho hdd ?_)));have own:Builtin.Dict_items.ownsTuple "dict_itemiterator"=true:=by decide
 simp only[own,if_true];refine wpAny_newObj_type (wpAny_pure ⟨_,rfl,"dict_itemiterator",_,⟨_,Heap.get?_push_size _ rfl,rfl⟩,PySem.F.slot_dict_itemiterator_next.lookup,?_⟩) (by simp only[sizeOk,Builtin.Dict_items.ownedTupleFields,List.size_toArray,List.length_append,List.length_cons,List.length_nil,sizeLine_eq];omega);simpa[rawInt,itO,Builtin.Dict_items.ownedTupleFields] using hQ
end
end L4
end
section
namespace LM
open PySem PySem.W PyProof.Rows
noncomputable abbrev SS:=StateT SortSt Sem
def abK(left:Bool)(key:Keyed)(arr:Array Keyed)(base i:Nat):SS (Option Bool):=do
 let x <-elem' arr (base+i)
 if left then lt' x key
 else do
  let r <-lt' key x
  pure (r.map λ x=>!x)
def ajq(left:Bool)(key:Keyed)(arr:Array Keyed)(base n lo hi:Nat):SS (Option Nat):=do
 let s <-forIn [:n] ((none:Option (Option Nat)),lo,hi) λ _ s=>
  if s.2.1>=s.2.2 then pure (ForInStep.done (none,s.2.1,s.2.2))
  else do
   let x <-abK left key arr base (s.2.1+(s.2.2- s.2.1)/ 2)
   match x with
   |some more=>if more=true then pure (ForInStep.yield (none,s.2.1+(s.2.2- s.2.1)/ 2+1,s.2.2)) else pure (ForInStep.yield (none,s.2.1,s.2.1+(s.2.2- s.2.1)/ 2))
   |_=>pure (ForInStep.done (some none,s.2.1,s.2.2))
 match s.1 with
 |some r=>pure r
 |none=>pure (some s.2.2)
def qK(left:Bool)(key:Keyed)(arr:Array Keyed)(base n hint:Nat):SS (Option Nat):=do
 let x <-abK left key arr base hint
 match x with
 |some right=>
  if right=true then do
   let s <-forIn [:n] ((none:Option (Option Nat)),0,1) λ _ s=>
    if s.2.2>=n- hint then pure (ForInStep.done (none,s.2.1,s.2.2))
    else do
     let x <-abK left key arr base (hint+s.2.2)
     match x with
     |some more=>if (!more)=true then pure (ForInStep.done (none,s.2.1,s.2.2)) else pure (ForInStep.yield (none,s.2.2,2*s.2.2+1))
     |_=>pure (ForInStep.done (some none,s.2.1,s.2.2))
   match s.1 with
   |some r=>pure r
   |none=>ajq left key arr base n (hint+s.2.1+1) (hint+min s.2.2 (n- hint))
  else do
   let s <-forIn [:n] ((none:Option (Option Nat)),0,1) λ _ s=>
    if s.2.2>=hint+1 then pure (ForInStep.done (none,s.2.1,s.2.2))
    else do
     let x <-abK left key arr base (hint- s.2.2)
     match x with
     |some found=>if found=true then pure (ForInStep.done (none,s.2.1,s.2.2)) else pure (ForInStep.yield (none,s.2.2,2*s.2.2+1))
     |_=>pure (ForInStep.done (some none,s.2.1,s.2.2))
   match s.1 with
   |some r=>pure r
   |none=>ajq left key arr base n (hint+1- min s.2.2 (hint+1)) (hint- s.2.1)
 |_=>pure none
def sgX(g:Nat):SS Unit:=modify λ st=>SortSt.mk' (kindOf st) (arrOf st) (pendingOf st) g (failedOf st)
noncomputable abbrev afU:=Option (Array Keyed)×Array Keyed×Nat×Nat×Nat×Nat
noncomputable abbrev JD:=Option (Array Keyed)×Array Keyed×Nat×Nat×Nat×Nat×Nat
noncomputable def pA(a b out:Array Keyed)(ia ib:Nat):Array Keyed:=out++a.extract ia++b.extract ib
noncomputable def zl(a b out:Array Keyed)(ia ib:Nat):Array Keyed:=out++b.extract ib++a.extract ia
def lo1(a b:Array Keyed)(mg:Nat)(_:Nat)(s:afU):SS (ForInStep afU):=do
 let y <-elem' b s.2.2.2.1
 let x <-elem' a s.2.2.1
 let r <-lt' y x
 match r with
 |some amW=>
  if amW=true then do
   let y <-elem' b s.2.2.2.1
   if (s.2.2.2.1+1==b.size)=true then pure (ForInStep.done (some (pA a b (s.2.1.push y) s.2.2.1 (s.2.2.2.1+1)),s.2.1.push y,s.2.2.1,s.2.2.2.1+1,0,s.2.2.2.2.2+1))
   else if s.2.2.2.2.2+1>=mg then pure (ForInStep.done (none,s.2.1.push y,s.2.2.1,s.2.2.2.1+1,0,s.2.2.2.2.2+1))
   else pure (ForInStep.yield (none,s.2.1.push y,s.2.2.1,s.2.2.2.1+1,0,s.2.2.2.2.2+1))
  else do
   let x <-elem' a s.2.2.1
   if (s.2.2.1+1+1==a.size)=true then pure (ForInStep.done (some (zl a b (s.2.1.push x) (s.2.2.1+1) s.2.2.2.1),s.2.1.push x,s.2.2.1+1,s.2.2.2.1,s.2.2.2.2.1+1,0))
   else if s.2.2.2.2.1+1>=mg then pure (ForInStep.done (none,s.2.1.push x,s.2.2.1+1,s.2.2.2.1,s.2.2.2.2.1+1,0))
   else pure (ForInStep.yield (none,s.2.1.push x,s.2.2.1+1,s.2.2.2.1,s.2.2.2.2.1+1,0))
 |_=>pure (ForInStep.done (some (pA a b s.2.1 s.2.2.1 s.2.2.2.1),s.2.1,s.2.2.1,s.2.2.2.1,s.2.2.2.2.1,s.2.2.2.2.2))
def aeS(a b:Array Keyed)(mg ac bc:Nat)(out:Array Keyed)(ia ib:Nat):SS (ForInStep JD):=do
 let x <-elem' a ia
 if (ia+1+1==a.size)=true then pure (ForInStep.done (some (zl a b (out.push x) (ia+1) ib),out.push x,ia+1,ib,mg,ac,bc))
 else if (decide (ac<7)&&decide (bc<7))=true then pure (ForInStep.done (none,out.push x,ia+1,ib,mg,ac,bc))
 else pure (ForInStep.yield (none,out.push x,ia+1,ib,mg,ac,bc))
def aeT(a b:Array Keyed)(mg ac LL:Nat)(out:Array Keyed)(ia ib:Nat):SS (ForInStep JD):=do
 let y <-elem' b ib
 if (ib+1==b.size)=true then pure (ForInStep.done (some (pA a b (out.push y) ia (ib+1)),out.push y,ia,ib+1,mg,ac,LL))
 else do
  let x <-elem' a ia
  let r <-qK true x b (ib+1) (b.size-(ib+1)) 0
  match r with
  |some k=>
   if k>0 then
    if (ib+1+k==b.size)=true then pure (ForInStep.done (some (pA a b (out.push y++b.extract (ib+1) (ib+1+k)) ia (ib+1+k)),out.push y++b.extract (ib+1) (ib+1+k),ia,ib+1+k,mg,ac,k))
    else aeS a b mg ac k (out.push y++b.extract (ib+1) (ib+1+k)) ia (ib+1+k)
   else aeS a b mg ac k (out.push y) ia (ib+1)
  |_=>pure (ForInStep.done (some (pA a b (out.push y) ia (ib+1)),out.push y,ia,ib+1,mg,ac,LL))
def aeU(a b:Array Keyed)(ac0 LL:Nat)(out:Array Keyed)(ia ib mg:Nat):SS (ForInStep JD):=do
 sgX mg
 let y <-elem' b ib
 let r <-qK false y a ia (a.size- ia) 0
 match r with
 |some k=>
  if k>0 then
   if (ia+k+1==a.size)=true then pure (ForInStep.done (some (zl a b (out++a.extract ia (ia+k)) (ia+k) ib),out++a.extract ia (ia+k),ia+k,ib,mg,k,LL))
   else if (ia+k==a.size)=true then pure (ForInStep.done (some (pA a b (out++a.extract ia (ia+k)) (ia+k) ib),out++a.extract ia (ia+k),ia+k,ib,mg,k,LL))
   else aeT a b mg k LL (out++a.extract ia (ia+k)) (ia+k) ib
  else aeT a b mg k LL out ia ib
 |_=>pure (ForInStep.done (some (pA a b out ia ib),out,ia,ib,mg,ac0,LL))
def lo2(a b:Array Keyed)(_:Nat)(s:JD):SS (ForInStep JD):=if s.2.2.2.2.1>1 then aeU a b s.2.2.2.2.2.1 s.2.2.2.2.2.2 s.2.1 s.2.2.1 s.2.2.2.1 (s.2.2.2.2.1- 1)
 else aeU a b s.2.2.2.2.2.1 s.2.2.2.2.2.2 s.2.1 s.2.2.1 s.2.2.2.1 s.2.2.2.2.1
noncomputable abbrev ajK:=Option (Array Keyed)×Array Keyed×Nat×Nat×Nat
def lo0(a b:Array Keyed)(_:Nat)(s:ajK):SS (ForInStep ajK):=do
 let t <-forIn [:a.size+b.size] ((none,s.2.1,s.2.2.1,s.2.2.2.1,0,0):afU) (lo1 a b s.2.2.2.2)
 match t.1 with
 |some r=>pure (ForInStep.done (some r,t.2.1,t.2.2.1,t.2.2.2.1,s.2.2.2.2))
 |none=>do
  liftM (rule "list.sort.gallop")
  let u <-forIn [:a.size+b.size] ((none,t.2.1,t.2.2.1,t.2.2.2.1,s.2.2.2.2+1,t.2.2.2.2.1,t.2.2.2.2.2):JD) (lo2 a b)
  match u.1 with
  |some r=>pure (ForInStep.done (some r,u.2.1,u.2.2.1,u.2.2.2.1,u.2.2.2.2.1))
  |none=>do
   sgX (u.2.2.2.2.1+1)
   pure (ForInStep.yield (none,u.2.1,u.2.2.1,u.2.2.2.1,u.2.2.2.2.1+1))
def CD(a b:Array Keyed):SS (Array Keyed):=do
 liftM (rule "list.sort.merge-lo")
 let y <-elem' b 0
 if (1==b.size)=true then pure (pA a b #[y] 0 1)
 else if (0+1==a.size)=true then pure (zl a b #[y] 0 1)
 else do
  let st <-get
  let s <-forIn [:a.size+b.size] ((none, #[y],0,1,gallopOf st):ajK) (lo0 a b)
  match s.1 with
  |some r=>pure r
  |none=>liftM (unsupported "internal:list.sort.merge-bound")
noncomputable abbrev afX:=Option (Array Keyed)×Nat×Nat×Array Keyed×Nat×Nat
noncomputable abbrev JE:=Option (Array Keyed)×Nat×Nat×Array Keyed×Nat×Nat×Nat
def pC(a b out:Array Keyed)(na nb:Nat):Array Keyed:=a.extract 0 na++b.extract 0 nb++out.reverse
def tX(a b out:Array Keyed)(na nb:Nat):Array Keyed:=b.extract 0 nb++a.extract 0 na++out.reverse
def hi1(a b:Array Keyed)(mg:Nat)(_:Nat)(s:afX):SS (ForInStep afX):=do
 let y <-elem' b (s.2.2.1- 1)
 let x <-elem' a (s.2.1- 1)
 let r <-lt' y x
 match r with
 |some amZ=>
  if amZ=true then do
   let x <-elem' a (s.2.1- 1)
   if (s.2.1- 1==0)=true then pure (ForInStep.done (some (pC a b (s.2.2.2.1.push x) (s.2.1- 1) s.2.2.1),s.2.1- 1,s.2.2.1,s.2.2.2.1.push x,s.2.2.2.2.1+1,0))
   else if s.2.2.2.2.1+1>=mg then pure (ForInStep.done (none,s.2.1- 1,s.2.2.1,s.2.2.2.1.push x,s.2.2.2.2.1+1,0))
   else pure (ForInStep.yield (none,s.2.1- 1,s.2.2.1,s.2.2.2.1.push x,s.2.2.2.2.1+1,0))
  else do
   let y <-elem' b (s.2.2.1- 1)
   if (s.2.2.1- 1==1)=true then pure (ForInStep.done (some (tX a b (s.2.2.2.1.push y) s.2.1 (s.2.2.1- 1)),s.2.1,s.2.2.1- 1,s.2.2.2.1.push y,0,s.2.2.2.2.2+1))
   else if s.2.2.2.2.2+1>=mg then pure (ForInStep.done (none,s.2.1,s.2.2.1- 1,s.2.2.2.1.push y,0,s.2.2.2.2.2+1))
   else pure (ForInStep.yield (none,s.2.1,s.2.2.1- 1,s.2.2.2.1.push y,0,s.2.2.2.2.2+1))
 |_=>pure (ForInStep.done (some (pC a b s.2.2.2.1 s.2.1 s.2.2.1),s.2.1,s.2.2.1,s.2.2.2.1,s.2.2.2.2.1,s.2.2.2.2.2))
def afi(a b:Array Keyed)(mg ac bc na nb:Nat)(out:Array Keyed):SS (ForInStep JE):=do
 let x <-elem' a (na- 1)
 if (na- 1==0)=true then pure (ForInStep.done (some (pC a b (out.push x) (na- 1) nb),na- 1,nb,out.push x,mg,ac,bc))
 else if (decide (ac<7)&&decide (bc<7))=true then pure (ForInStep.done (none,na- 1,nb,out.push x,mg,ac,bc))
 else pure (ForInStep.yield (none,na- 1,nb,out.push x,mg,ac,bc))
def afj(a b:Array Keyed)(mg ac LL na nb:Nat)(out:Array Keyed):SS (ForInStep JE):=do
 let y <-elem' b (nb- 1)
 if (nb- 1==1)=true then pure (ForInStep.done (some (tX a b (out.push y) na (nb- 1)),na,nb- 1,out.push y,mg,ac,LL))
 else do
  let x <-elem' a (na- 1)
  let r <-qK true x b 0 (nb- 1) (nb- 1- 1)
  match r with
  |some at_=>
   if nb- 1- at_>0 then
    if (at_==1)=true then pure (ForInStep.done (some (tX a b (out.push y++(b.extract at_ (nb- 1)).reverse) na at_),na,at_,out.push y++(b.extract at_ (nb- 1)).reverse,mg,ac,nb- 1- at_))
    else if (at_==0)=true then pure (ForInStep.done (some (pC a b (out.push y++(b.extract at_ (nb- 1)).reverse) na at_),na,at_,out.push y++(b.extract at_ (nb- 1)).reverse,mg,ac,nb- 1- at_))
    else afi a b mg ac (nb- 1- at_) na at_ (out.push y++(b.extract at_ (nb- 1)).reverse)
   else afi a b mg ac (nb- 1- at_) na (nb- 1) (out.push y)
  |_=>pure (ForInStep.done (some (pC a b (out.push y) na (nb- 1)),na,nb- 1,out.push y,mg,ac,LL))
def afk(a b:Array Keyed)(ac0 LL na nb:Nat)(out:Array Keyed)(mg:Nat):SS (ForInStep JE):=do
 sgX mg
 let y <-elem' b (nb- 1)
 let r <-qK false y a 0 na (na- 1)
 match r with
 |some at_=>
  if na- at_>0 then
   if (at_==0)=true then pure (ForInStep.done (some (pC a b (out++(a.extract at_ na).reverse) at_ nb),at_,nb,out++(a.extract at_ na).reverse,mg,na- at_,LL))
   else afj a b mg (na- at_) LL at_ nb (out++(a.extract at_ na).reverse)
  else afj a b mg (na- at_) LL na nb out
 |_=>pure (ForInStep.done (some (pC a b out na nb),na,nb,out,mg,ac0,LL))
def hi2(a b:Array Keyed)(_:Nat)(s:JE):SS (ForInStep JE):=if s.2.2.2.2.1>1 then afk a b s.2.2.2.2.2.1 s.2.2.2.2.2.2 s.2.1 s.2.2.1 s.2.2.2.1 (s.2.2.2.2.1- 1)
 else afk a b s.2.2.2.2.2.1 s.2.2.2.2.2.2 s.2.1 s.2.2.1 s.2.2.2.1 s.2.2.2.2.1
noncomputable abbrev ajM:=Option (Array Keyed)×Nat×Nat×Array Keyed×Nat
def hi0(a b:Array Keyed)(_:Nat)(s:ajM):SS (ForInStep ajM):=do
 let t <-forIn [:a.size+b.size] ((none,s.2.1,s.2.2.1,s.2.2.2.1,0,0):afX) (hi1 a b s.2.2.2.2)
 match t.1 with
 |some r=>pure (ForInStep.done (some r,t.2.1,t.2.2.1,t.2.2.2.1,s.2.2.2.2))
 |none=>do
  liftM (rule "list.sort.gallop")
  let u <-forIn [:a.size+b.size] ((none,t.2.1,t.2.2.1,t.2.2.2.1,s.2.2.2.2+1,t.2.2.2.2.1,t.2.2.2.2.2):JE) (hi2 a b)
  match u.1 with
  |some r=>pure (ForInStep.done (some r,u.2.1,u.2.2.1,u.2.2.2.1,u.2.2.2.2.1))
  |none=>do
   sgX (u.2.2.2.2.1+1)
   pure (ForInStep.yield (none,u.2.1,u.2.2.1,u.2.2.2.1,u.2.2.2.2.1+1))
def CF(a b:Array Keyed):SS (Array Keyed):=do
 liftM (rule "list.sort.merge-hi")
 let x <-elem' a (a.size- 1)
 if (a.size- 1==0)=true then pure (pC a b #[x] (a.size- 1) b.size)
 else if (b.size==1)=true then pure (tX a b #[x] (a.size- 1) b.size)
 else do
  let st <-get
  let s <-forIn [:a.size+b.size] ((none,a.size- 1,b.size, #[x],gallopOf st):ajM) (hi0 a b)
  match s.1 with
  |some r=>pure r
  |none=>liftM (unsupported "internal:list.sort.merge-bound")
def aaf(sa:Nat)(merged:Array Keyed):SS Bool:=do
 modify λ st=>SortSt.mk' (kindOf st) (List.foldl (λ a x=>match x with|(p,j)=>a.setIfInBounds (sa+j) p) (arrOf st) merged.toList.zipIdx) (pendingOf st) (gallopOf st) (failedOf st)
 let st <-get
 pure (failedOf st).isNone
def KJ(i:Nat):SS Bool:=do
 let s <-get
 match (pendingOf s)[i]?,(pendingOf s)[i+1]? with
 |some (sa,na,pw),some (sb,nb,_)=>do
  set (SortSt.mk' (kindOf s) (arrOf s) (((pendingOf s).setIfInBounds i (sa,na+nb,pw)).eraseIdxIfInBounds (i+1)) (gallopOf s) (failedOf s))
  let y <-elem' (arrOf s) sb
  let r <-qK false y (arrOf s) sa na 0
  match r with
  |some k=>
   if (na- k==0)=true then pure true
   else do
    let x <-elem' (arrOf s) (sa+k+(na- k) - 1)
    let r <-qK true x (arrOf s) sb nb (nb- 1)
    match r with
    |some nb=>
     if (nb==0)=true then pure true
     else if na- k<=nb then do
      let m <-CD ((arrOf s).extract (sa+k) sb) ((arrOf s).extract sb (sb+nb))
      aaf (sa+k) m
     else do
      let m <-CF ((arrOf s).extract (sa+k) sb) ((arrOf s).extract sb (sb+nb))
      aaf (sa+k) m
    |_=>pure false
  |_=>pure false
 |_,_=>liftM (unsupported "internal:list.sort.pending")
def Nr:mergeAt'=KJ:=by kernel_rfl
end LM
end
section
namespace LM
open PySem PySem.W PyProof.Rows L4
structure Mg(R:Nat->Nat->Prop)(o X Y T:List Nat):Prop where
 perm:(o++(X++Y)).Perm T
 uo:o.Pairwise R
 lo:∀x∈o,∀y∈X++Y,R x y
 ux:X.Pairwise R
 uy:Y.Pairwise R
namespace Mg
variable{R:Nat->Nat->Prop}{o X X1 X2 Y T:List Nat}{x y:Nat}
def swap(h:Mg R o X Y T):Mg R o Y X T:=⟨(List.Perm.append_left o List.perm_append_comm).trans h.perm,h.uo,λ x hx z hz=>h.lo x hx z (by simp only[List.mem_append] at*;exact hz.symm),h.uy,h.ux⟩
def mem(h:Mg R o X Y T){z:Nat}(hz:z∈o\/z∈X\/z∈Y):z∈T:=h.perm.mem_iff.mp (by simp only[List.mem_append];exact hz)
def step(tr:∀a b c,a∈T->b∈T->c∈T->R a b->R b c->R a c)(h:Mg R o (X1++X2) (y::Y) T)(hx:∀x∈X1,R x y):Mg R (o++X1) X2 (y::Y) T:=by
 have u:=List.pairwise_append.mp h.ux;have v:=List.pairwise_cons.mp h.uy;refine ⟨?_,?_,?_,u.2.1,h.uy⟩
 ·have:=h.perm;simpa[List.append_assoc] using this
 ·refine List.pairwise_append.mpr ⟨h.uo,u.1,λ a ha b hb=>h.lo a ha b (by simp[hb])⟩
 ·intro a ha b hb;rcases List.mem_append.mp ha with ha|ha
  ·exact h.lo a ha b (by simp only[List.mem_append] at*;rcases hb with hb|hb;exact .inl (.inr hb);exact .inr hb)
  ·rcases List.mem_append.mp hb with hb|hb
   ·exact u.2.2 a ha b hb
   ·rcases List.mem_cons.mp hb with rfl|hb
    ·exact hx a ha
    ·exact tr a y b (h.mem (.inr (.inl (by simp[ha])))) (h.mem (.inr (.inr (by simp)))) (h.mem (.inr (.inr (by simp[hb])))) (hx a ha) (v.1 b hb)
def fin(h:Mg R o X [] T):(o++X).Perm T/\(o++X).Pairwise R:=by refine ⟨by simpa using h.perm,List.pairwise_append.mpr ⟨h.uo,h.ux,λ a ha b hb=>h.lo a ha b (by simp[hb])⟩⟩
def amq(h:Mg R o [x] Y T)(hx:∀y∈Y,R y x):(o++(Y++[x])).Perm T/\(o++(Y++[x])).Pairwise R:=by refine ⟨h.swap.perm,List.pairwise_append.mpr ⟨h.uo,List.pairwise_append.mpr ⟨h.uy,by simp,λ a ha b hb=>?_⟩,λ a ha b hb=>h.swap.lo a ha b hb⟩⟩;rw[List.mem_singleton] at hb;subst hb;exact hx a ha
end Mg
section
variable{prog:Program}{w:World}{A:Around}{E:Value->Shared->Prop}{s:Shared}{κ:SortKind}{it:Array Keyed}{lt:Nat->Nat->Bool}{n:Nat}
noncomputable def aT(it:Array Keyed)(l:List Nat):Array Keyed:=(l.map (kas_item it)).toArray
def cB{l:List Nat}:(aT it l).size=l.length:=by simp[aT]
def cj{l:List Nat}{i:Nat}(h:i<l.length):(aT it l)[i]? =some (kas_item it l[i]):=by simp[aT,h]
def qI{l:List Nat}{i j:Nat}:(aT it l).extract i j=aT it ((l.drop i).take (j- i)):=by simp[aT,List.extract_toArray,List.extract_eq_take_drop,List.map_take,List.map_drop]
def ji{l m:List Nat}:aT it l++aT it m=aT it (l++m):=by simp[aT]
def mE{l:List Nat}{i:Nat}:(aT it l).push (kas_item it i)=aT it (l++[i]):=by simp[aT]
def UP{i:Nat}: #[kas_item it i]=aT it [i]:=by simp[aT]
def Bu{l:List Nat}:(aT it l).reverse=aT it l.reverse:=by simp[aT,List.map_reverse]
noncomputable abbrev fZ(κ:SortKind)(a:Array Keyed)(pe:Array (Nat×Nat×Nat))(mg:Nat):SortSt:=SortSt.mk' κ a pe mg none
def GY(prog:Program)(w:World)(A:Around)(s:Shared)(κ:SortKind)(it:Array Keyed)(lt:Nat->Nat->Bool)(n:Nat):Prop:=∀(i j:Nat) (Q:Bool->Shared->Prop),i<n->j<n->i≠j->Q (lt i j) s->kas_cmp prog w A κ it i j Q s
def lt_eq:lt'=λ x y=>(get>>=λ st=>liftM (keyLt' (kindOf st) x.1 y.1).attempt>>=λ r=>(match r with
  | .ok b=>pure (some b)
  | .error e=>(modify λ x=>SortSt.mk' (kindOf x) (arrOf x) (pendingOf x) (gallopOf x) (some e))>>=λ _=>pure none):SS (Option Bool)):=by kernel_rfl
def afu:elem'=λ arr i=>(match arr[i]? with
  |some p=>pure p
  |none=>liftM (unsupported "internal:list.sort.index"):SS Keyed):=by kernel_rfl
def dH{arr:Array Keyed}{i:Nat}{x:Keyed}{st:SortSt}{Q:Keyed->SortSt->Prop}(h:arr[i]? =some x)(q:Q x st):wpS (model prog w) A E s (elem' arr i) Q st:=by rw[afu];simp only[h];exact wpS_pure q
def V_lt(hc:GY prog w A s κ it lt n){i j:Nat}{a:Array Keyed}{pe:Array (Nat×Nat×Nat)}{mg:Nat}{Q:Option Bool->SortSt->Prop}(hi:i<n)(hj:j<n)(ne:i≠j)(q:Q (some (lt i j)) (fZ κ a pe mg)):
  wpS (model prog w) A E s (lt' (kas_item it i) (kas_item it j)) Q (fZ κ a pe mg):=by
 rw[lt_eq];refine wpS_bind (wpS_get ?_);refine wpS_bind (wpS_lift (wpAny_attempt ?_));exact wpAny_mono (hc i j (λ b s'=>s'=s/\Q (some b) (fZ κ a pe mg)) hi hj ne ⟨rfl,q⟩) (λ b s' h=>⟨h.1,wpS_pure h.2⟩) (λ _ _ h=>h.elim)
structure Cut(lt:Nat->Nat->Bool)(it:Array Keyed)(n:Nat)(arr:Array Keyed)(base N k B:Nat):Prop where
 g:∀i,i<N->∃x,arr[base+i]? =some (kas_item it x)/\x<n/\x≠k/\lt x k=decide (i<B)
 le:B<=N
 kn:k<n
def Vi(O:Ord lt n)(hc:GY prog w A s κ it lt n){left:Bool}{arr a:Array Keyed}{pe:Array (Nat×Nat×Nat)}{base N k B mg i:Nat}(C:Cut lt it n arr base N k B)(hi:i<N){Q:Option Bool->SortSt->Prop}(q:Q (some (decide (i<B))) (fZ κ a pe mg)):
  wpS (model prog w) A E s (abK left (kas_item it k) arr base i) Q (fZ κ a pe mg):=by
 obtain ⟨x,e,hx,ne,hl⟩:=C.g i hi;refine wpS_bind (dH e ?_);cases left with
 |true=>simp only[if_true];refine V_lt hc hx C.kn ne ?_;rw[hl];exact q
 |false=>
  simp only[Bool.false_eq_true,if_false];refine wpS_bind (V_lt hc C.kn hx (Ne.symm ne) (wpS_pure ?_));have:lt k x=!decide (i<B):=by rw[O.tot k x C.kn hx (Ne.symm ne),hl]
  rw[this];simpa using q
def GX(O:Ord lt n)(hc:GY prog w A s κ it lt n){left:Bool}{arr a:Array Keyed}{pe:Array (Nat×Nat×Nat)}{base N k B mg l h:Nat}(C:Cut lt it n arr base N k B)(hl:l<=B)(hh:B<=h)(hN:h<=N){Q:Option Nat->SortSt->Prop}(q:Q (some B) (fZ κ a pe mg)):
  wpS (model prog w) A E s (ajq left (kas_item it k) arr base N l h) Q (fZ κ a pe mg):=by
 refine wpS_bind (wpS_forRange (λ i c st=>st=fZ κ a pe mg/\c.1=none/\c.2.1<=B/\B<=c.2.2/\c.2.2<=N/\(c.2.2- c.2.1)+i<=N) ?_ ?_ ⟨rfl,rfl,hl,hh,hN,by dsimp only;omega⟩)
 ·rintro i ⟨c1,c2,c3⟩ st _ hi ⟨rfl,h1,h2,h3,h4,h5⟩
  simp only at h1 h2 h3 h4 h5 ⊢;subst h1;by_cases e:c2>=c3
  ·rw[if_pos e];refine wpS_pure ?_;have:c3=B:=by omega
   subst this;exact wpS_pure q
  ·rw[if_neg e];refine wpS_bind (Vi O hc C (by omega) ?_);by_cases m:c2+(c3- c2)/ 2<B
   ·simp only[m,decide_true,if_true];exact wpS_pure ⟨rfl,rfl,by simp only;omega,h3,h4,by simp only;omega⟩
   ·simp only[m,decide_false,Bool.false_eq_true,if_false];exact wpS_pure ⟨rfl,rfl,h2,by simp only;omega,by simp only;omega,by simp only;omega⟩
 ·rintro ⟨c1,c2,c3⟩ st ⟨rfl,h1,h2,h3,h4,h5⟩
  simp only at h1 h2 h3 h4 h5 ⊢;subst h1;have:c3=B:=by have:=Nat.le_max_right 0 N;omega
  subst this;exact wpS_pure q
def ql(O:Ord lt n)(hc:GY prog w A s κ it lt n){left:Bool}{arr a:Array Keyed}{pe:Array (Nat×Nat×Nat)}{base N k B mg hint:Nat}(C:Cut lt it n arr base N k B)(hh:hint<N){Q:Option Nat->SortSt->Prop}(q:Q (some B) (fZ κ a pe mg)):
  wpS (model prog w) A E s (qK left (kas_item it k) arr base N hint) Q (fZ κ a pe mg):=by
 have hB:=C.le;refine wpS_bind (Vi O hc C hh ?_);by_cases r:hint<B
 ·simp only[r,decide_true,if_true];refine wpS_bind (wpS_forRange (λ i c st=>st=fZ κ a pe mg/\c.1=none/\hint+c.2.1<B/\c.2.1<c.2.2/\i<=c.2.2) ?_ ?_ ⟨rfl,rfl,by simp only;omega,by simp,by simp⟩)
  ·rintro i ⟨c1,c2,c3⟩ st _ hi ⟨rfl,h1,h2,h3,h4⟩
   simp only at h1 h2 h3 h4 ⊢;subst h1;by_cases e:c3>=N- hint
   ·rw[if_pos e];refine wpS_pure ?_;exact GX O hc C (by first|omega|(dsimp only;omega)) (by first|omega|(dsimp only;omega)) (by first|omega|(dsimp only;omega)) q
   ·rw[if_neg e];refine wpS_bind (Vi O hc C (by omega) ?_);by_cases m:hint+c3<B
    ·simp only[m,decide_true,Bool.not_true,Bool.false_eq_true,if_false];exact wpS_pure ⟨rfl,rfl,m,by simp only;omega,by simp only;omega⟩
    ·simp only[m,decide_false,Bool.not_false,if_true];refine wpS_pure ?_;exact GX O hc C (by first|omega|(dsimp only;omega)) (by first|omega|(dsimp only;omega)) (by first|omega|(dsimp only;omega)) q
  ·rintro ⟨c1,c2,c3⟩ st ⟨rfl,h1,h2,h3,h4⟩
   simp only at h1 h2 h3 h4 ⊢;subst h1;have:=Nat.le_max_right 0 N;exact GX O hc C (by first|omega|(dsimp only;omega)) (by first|omega|(dsimp only;omega)) (by first|omega|(dsimp only;omega)) q
 ·simp only[r,decide_false,Bool.false_eq_true,if_false];refine wpS_bind (wpS_forRange (λ i c st=>st=fZ κ a pe mg/\c.1=none/\c.2.1<=hint/\B<=hint- c.2.1/\c.2.1<c.2.2/\i<=c.2.2) ?_ ?_ ⟨rfl,rfl,by simp,by simp only;omega,by simp,by simp⟩)
  ·rintro i ⟨c1,c2,c3⟩ st _ hi ⟨rfl,h1,h2,h3,h4,h5⟩
   simp only at h1 h2 h3 h4 h5 ⊢;subst h1;by_cases e:c3>=hint+1
   ·rw[if_pos e];refine wpS_pure ?_;exact GX O hc C (by first|omega|(dsimp only;omega)) (by first|omega|(dsimp only;omega)) (by first|omega|(dsimp only;omega)) q
   ·rw[if_neg e];refine wpS_bind (Vi O hc C (by omega) ?_);by_cases m:hint- c3<B
    ·simp only[m,decide_true,if_true];refine wpS_pure ?_;exact GX O hc C (by first|omega|(dsimp only;omega)) (by first|omega|(dsimp only;omega)) (by first|omega|(dsimp only;omega)) q
    ·simp only[m,decide_false,Bool.false_eq_true,if_false];exact wpS_pure ⟨rfl,rfl,by simp only;omega,by simp only;omega,by simp only;omega,by simp only;omega⟩
  ·rintro ⟨c1,c2,c3⟩ st ⟨rfl,h1,h2,h3,h4,h5⟩
   simp only at h1 h2 h3 h4 h5 ⊢;subst h1;have:=Nat.le_max_right 0 N;exact GX O hc C (by first|omega|(dsimp only;omega)) (by first|omega|(dsimp only;omega)) (by first|omega|(dsimp only;omega)) q
def afR{g mg:Nat}{a:Array Keyed}{pe:Array (Nat×Nat×Nat)}{Q:Unit->SortSt->Prop}(q:Q () (fZ κ a pe g)):wpS (model prog w) A E s (sgX g) Q (fZ κ a pe mg):=wpS_modify q
def zJ{t:String}{st:SortSt}{Q:Unit->SortSt->Prop}(q:Q () st):wpS (model prog w) A E s (liftM (rule t)) Q st:=wpS_lift (wpAny_rule ⟨rfl,q⟩)
def vZ(O:Ord lt n){k:Nat}(hk:k<n):∀(l:List Nat),(∀x∈l,x<n/\x≠k)->l.Pairwise (λ a b=>lt a b=true)->∃B,B<=l.length/\∀(i:Nat) (h:i<l.length),lt l[i] k=decide (i<B)
 |[],_,_=>⟨0,Nat.le_refl _,λ i h=>absurd h (Nat.not_lt_zero _)⟩
 |x::t,hl,hp=>by
  have Xg:=List.pairwise_cons.mp hp;by_cases e:lt x k=true
  ·obtain ⟨B,h1,h2⟩:=vZ O hk t (λ y hy=>hl y (List.mem_cons_of_mem _ hy)) Xg.2;refine ⟨B+1,by simpa using h1,λ i h=>?_⟩;cases i with
   |zero=>simpa using e
   |succ i=>simpa using h2 i (by simpa using h)
  ·refine ⟨0,Nat.zero_le _,λ i h=>?_⟩;have xk:=hl x (by simp);have kx:lt k x=true:=by rw[O.tot k x hk xk.1 (Ne.symm xk.2)];simpa using e
   cases i with
   |zero=>simpa using e
   |succ i=>
    have hi:i<t.length:=by simpa using h
    have ti:=hl t[i] (List.mem_cons_of_mem _ (List.getElem_mem hi));have kt:lt k t[i]=true:=O.tr k x t[i] hk xk.1 ti.1 kx (Xg.1 _ (List.getElem_mem hi));have:lt t[i] k=!lt k t[i]:=O.tot _ _ ti.1 hk ti.2;simp only[List.getElem_cons_succ,this,kt];simp
def Cut.xh{l:List Nat}{k B:Nat}{arr:Array Keyed}{base:Nat}(hk:k<n)(hl:∀x∈l,x<n/\x≠k)(hB:B<=l.length)(h:∀(i:Nat) (h:i<l.length),lt l[i] k=decide (i<B))(ha:∀(i:Nat) (h:i<l.length),arr[base+i]? =some (kas_item it l[i])):Cut lt it n arr base l.length k B:=⟨λ i hi=>⟨l[i],ha i hi,(hl _ (List.getElem_mem hi)).1,(hl _ (List.getElem_mem hi)).2,h i hi⟩,hB,hk⟩
noncomputable abbrev Rl(lt:Nat->Nat->Bool)(a b:Nat):Prop:=lt a b=true
structure zK(lt:Nat->Nat->Bool)(n:Nat)(la lb:List Nat):Prop where
 hn:∀x∈la++lb,x<n
 nd:(la++lb).Nodup
 ua:la.Pairwise (Rl lt)
 ub:lb.Pairwise (Rl lt)
def Good(lt:Nat->Nat->Bool)(it:Array Keyed)(la lb:List Nat)(r:Array Keyed):Prop:=∃l,r=aT it l/\l.Perm (la++lb)/\l.Pairwise (Rl lt)
def xG{l:List Nat}{i:Nat}:(aT it l).extract i=aT it (l.drop i):=by rw[qI,cB];congr 1;exact List.take_of_length_le (by simp)
def Mg.goX{R:Nat->Nat->Prop}{o X Y T:List Nat}(tr:∀a b c,a∈T->b∈T->c∈T->R a b->R b c->R a c)(h:Mg R o X Y T)(hY:0<Y.length)(k:Nat)(hx:∀(i:Nat) (h:i<X.length),i<k->R X[i] Y[0]):Mg R (o++X.take k) (X.drop k) Y T:=by
 match Y,hY with
 |y::Y',_=>rw[<-List.take_append_drop k X] at h;refine h.step tr λ x hxm=>?_;obtain ⟨i,hi,e⟩:=List.mem_iff_getElem.mp hxm;rw[List.getElem_take] at e;rw[<-e];rw[List.length_take] at hi;exact hx i (by omega) (by omega)
def Mg.goY{R:Nat->Nat->Prop}{o X Y T:List Nat}(tr:∀a b c,a∈T->b∈T->c∈T->R a b->R b c->R a c)(h:Mg R o X Y T)(hX:0<X.length)(k:Nat)(hy:∀(i:Nat) (h:i<Y.length),i<k->R Y[i] X[0]):Mg R (o++Y.take k) X (Y.drop k) T:=(h.swap.goX tr hX k hy).swap
def take_one{l:List Nat}(h:0<l.length):l.take 1=[l[0]]:=by
 match l,h with
 |x::t,_=>rfl
section
variable{la lb:List Nat}
def zK.tr(O:Ord lt n)(T:zK lt n la lb):∀a b c,a∈la++lb->b∈la++lb->c∈la++lb->Rl lt a b->Rl lt b c->Rl lt a c:=λ a b c ha hb hc h1 h2=>O.tr a b c (T.hn a ha) (T.hn b hb) (T.hn c hc) h1 h2
def zK.ne(T:zK lt n la lb){i j:Nat}(hi:i<la.length)(hj:j<lb.length):la[i]≠lb[j]:=by have:=(List.nodup_append.mp T.nd).2.2;exact this _ (List.getElem_mem hi) _ (List.getElem_mem hj)
def zK.EI(T:zK lt n la lb){i:Nat}(hi:i<la.length):la[i]<n:=T.hn _ (by simp)
def zK.EH(T:zK lt n la lb){i:Nat}(hi:i<lb.length):lb[i]<n:=T.hn _ (by simp)
structure LI(lt:Nat->Nat->Bool)(la lb o:List Nat)(ia ib:Nat):Prop where
 m:Mg (Rl lt) o (la.drop ia) (lb.drop ib) (la++lb)
 ha:ia+1<la.length
 hb:ib<lb.length
def Bs{o:List Nat}{ia ib:Nat}(m:Mg (Rl lt) o (la.drop ia) (lb.drop ib) (la++lb))(h:ib=lb.length):Good lt it la lb (pA (aT it la) (aT it lb) (aT it o) ia ib):=by subst h;unfold pA;rw[xG,xG,ji,ji];rw[List.drop_length] at m ⊢;rw[List.append_nil];exact ⟨_,rfl,m.fin⟩
def Br{o:List Nat}{ia ib:Nat}(hl:∀y∈lb,∀(h:la≠[]),Rl lt y (la.getLast h))(m:Mg (Rl lt) o (la.drop ia) (lb.drop ib) (la++lb))(h:ia+1=la.length):Good lt it la lb (zl (aT it la) (aT it lb) (aT it o) ia ib):=by
 have e:la.drop ia=[la.getLast (by intro z;rw[z] at h;simp at h)]:=by rw[List.drop_eq_getElem_cons (by omega),List.drop_eq_nil_of_le (by omega:la.length<=ia+1),List.getLast_eq_getElem];simp only[show la.length- 1=ia by omega]
 unfold zl;rw[xG,xG,ji,ji,List.append_assoc];rw[e] at m ⊢;exact ⟨_,rfl,m.amq λ y hy=>hl y (List.mem_of_mem_drop hy) _⟩
def z7{l:List Nat}{i:Nat}(h:i<l.length):(l.drop i)[0]'(by simp;omega)=l[i]:=by simp
def LI.pb(O:Ord lt n)(T:zK lt n la lb){o:List Nat}{ia ib:Nat}(h:LI lt la lb o ia ib)(c:Rl lt (lb[ib]'h.hb) (la[ia]'(by have:=h.ha;omega))):Mg (Rl lt) (o++[lb[ib]'h.hb]) (la.drop ia) (lb.drop (ib+1)) (la++lb):=by
 have ha:=h.ha;have hb:=h.hb;have:=h.m.goY (T.tr O) (by simp;omega) 1 (λ i hi h1=>by
  have:i=0:=by omega
  subst this;rw[z7 hb,z7 (by omega)];exact c)
 rw[take_one (by simp;omega),z7 hb,List.drop_drop] at this;exact this
def LI.pa(O:Ord lt n)(T:zK lt n la lb){o:List Nat}{ia ib:Nat}(h:LI lt la lb o ia ib)(c:Rl lt (la[ia]'(by have:=h.ha;omega)) (lb[ib]'h.hb)):Mg (Rl lt) (o++[la[ia]'(by have:=h.ha;omega)]) (la.drop (ia+1)) (lb.drop ib) (la++lb):=by
 have ha:=h.ha;have hb:=h.hb;have:=h.m.goX (T.tr O) (by simp;omega) 1 (λ i hi h1=>by
  have:i=0:=by omega
  subst this;rw[z7 hb,z7 (by omega)];exact c)
 rw[take_one (by simp;omega),z7 (by omega),List.drop_drop] at this;exact this
def anC(lt:Nat->Nat->Bool)(it:Array Keyed)(la lb:List Nat)(c0:Nat)(c:afU):Prop:=(∃r,c.1=some r/\Good lt it la lb r)\/(∃o ia ib ac bc,c=(none,aT it o,ia,ib,ac,bc)/\LI lt la lb o ia ib/\c0+1<=ia+ib)
def anq(O:Ord lt n)(hc:GY prog w A s κ it lt n)(T:zK lt n la lb)(hl:∀y∈lb,∀(h:la≠[]),Rl lt y (la.getLast h)){a:Array Keyed}{pe:Array (Nat×Nat×Nat)}{mg g x i c0 ia ib ac bc:Nat}{o:List Nat}(h:LI lt la lb o ia ib)(hi:c0+i<=ia+ib):
  wpS (model prog w) A E s (lo1 (aT it la) (aT it lb) g x (none,aT it o,ia,ib,ac,bc)) (λ r st'=>st'=fZ κ a pe mg/\match r with
   | .done c=>anC lt it la lb c0 c
   | .yield c=>∃o ia ib ac bc,c=(none,aT it o,ia,ib,ac,bc)/\LI lt la lb o ia ib/\c0+(i+1)<=ia+ib) (fZ κ a pe mg):=by
 have ha:=h.ha;have hb:=h.hb;unfold lo1;dsimp only;refine wpS_bind (dH (cj hb) (wpS_bind (dH (cj (by omega:ia<la.length)) (wpS_bind (V_lt hc (T.EH hb) (T.EI (by omega)) (Ne.symm (T.ne (by omega) hb)) ?_)))));cases e:lt lb[ib] la[ia] with
 |true=>
  simp only[if_true];refine wpS_bind (dH (cj hb) ?_);have m:=h.pb O T e;rw[mE,cB];by_cases e1:ib+1=lb.length
  ·rw[if_pos (by simpa using e1)];exact wpS_pure ⟨rfl,.inl ⟨_,rfl,Bs m e1⟩⟩
  ·rw[if_neg (by simpa using e1)];have li:LI lt la lb (o++[lb[ib]]) ia (ib+1):=⟨m,ha,by omega⟩;by_cases e2:bc+1>=g
   ·rw[if_pos e2];exact wpS_pure ⟨rfl,.inr ⟨_,_,_,_,_,rfl,li,by omega⟩⟩
   ·rw[if_neg e2];exact wpS_pure ⟨rfl,_,_,_,_,_,rfl,li,by omega⟩
 |false=>
  simp only[Bool.false_eq_true,if_false];have e':Rl lt la[ia] lb[ib]:=by show lt la[ia] lb[ib]=true;rw[O.tot _ _ (T.EI (by omega)) (T.EH hb) (T.ne (by omega) hb),e];rfl
  refine wpS_bind (dH (cj (by omega:ia<la.length)) ?_);have m:=h.pa O T e';rw[mE,cB];by_cases e1:ia+1+1=la.length
  ·rw[if_pos (by simpa using e1)];exact wpS_pure ⟨rfl,.inl ⟨_,rfl,Br hl m e1⟩⟩
  ·rw[if_neg (by simpa using e1)];have li:LI lt la lb (o++[la[ia]]) (ia+1) ib:=⟨m,by omega,hb⟩;by_cases e2:ac+1>=g
   ·rw[if_pos e2];exact wpS_pure ⟨rfl,.inr ⟨_,_,_,_,_,rfl,li,by omega⟩⟩
   ·rw[if_neg e2];exact wpS_pure ⟨rfl,_,_,_,_,_,rfl,li,by omega⟩
abbrev Any(κ:SortKind)(a:Array Keyed)(pe:Array (Nat×Nat×Nat))(st:SortSt):Prop:=∃mg,st=fZ κ a pe mg
def anB(lt:Nat->Nat->Bool)(it:Array Keyed)(la lb:List Nat)(c0:Nat)(c:JD):Prop:=(∃r,c.1=some r/\Good lt it la lb r)\/(∃o ia ib mg ac bc,c=(none,aT it o,ia,ib,mg,ac,bc)/\LI lt la lb o ia ib/\c0<=ia+ib)
def anA(lt:Nat->Nat->Bool)(it:Array Keyed)(la lb:List Nat)(c0:Nat)(c:JD):Prop:=∃o ia ib mg ac bc,c=(none,aT it o,ia,ib,mg,ac,bc)/\LI lt la lb o ia ib/\c0<=ia+ib
abbrev ajL(lt:Nat->Nat->Bool)(it:Array Keyed)(la lb:List Nat)(c0:Nat)(κ:SortKind)(a:Array Keyed)(pe:Array (Nat×Nat×Nat))(r:ForInStep JD)(st':SortSt):Prop:=Any κ a pe st'/\match r with
   | .done c=>anB lt it la lb c0 c
   | .yield c=>anA lt it la lb c0 c
def ac4(O:Ord lt n)(T:zK lt n la lb)(hl:∀y∈lb,∀(h:la≠[]),Rl lt y (la.getLast h)){a:Array Keyed}{pe:Array (Nat×Nat×Nat)}{mg g c0 ia ib ac bc:Nat}{o:List Nat}(h:LI lt la lb o ia ib)(c:Rl lt (la[ia]'(by have:=h.ha;omega)) (lb[ib]'h.hb))(hi:c0<=ia+ib):
  wpS (model prog w) A E s (aeS (aT it la) (aT it lb) g ac bc (aT it o) ia ib) (ajL lt it la lb c0 κ a pe) (fZ κ a pe mg):=by
 have ha:=h.ha;have hb:=h.hb;unfold aeS;refine wpS_bind (dH (cj (by omega:ia<la.length)) ?_);have m:=h.pa O T c;rw[mE,cB];by_cases e1:ia+1+1=la.length
 ·rw[if_pos (by simpa using e1)];exact wpS_pure ⟨⟨_,rfl⟩,.inl ⟨_,rfl,Br hl m e1⟩⟩
 ·rw[if_neg (by simpa using e1)];have li:LI lt la lb (o++[la[ia]]) (ia+1) ib:=⟨m,by omega,hb⟩;split
  ·exact wpS_pure ⟨⟨_,rfl⟩,.inr ⟨_,_,_,_,_,_,rfl,li,by omega⟩⟩
  ·exact wpS_pure ⟨⟨_,rfl⟩,_,_,_,_,_,_,rfl,li,by omega⟩
def ac5(O:Ord lt n)(hc:GY prog w A s κ it lt n)(T:zK lt n la lb)(hl:∀y∈lb,∀(h:la≠[]),Rl lt y (la.getLast h)){a:Array Keyed}{pe:Array (Nat×Nat×Nat)}{mg g c0 ia ib ac bc:Nat}{o:List Nat}(h:LI lt la lb o ia ib)(c:Rl lt (lb[ib]'h.hb) (la[ia]'(by have:=h.ha;omega)))(hi:c0<=ia+ib):
  wpS (model prog w) A E s (aeT (aT it la) (aT it lb) g ac bc (aT it o) ia ib) (ajL lt it la lb c0 κ a pe) (fZ κ a pe mg):=by
 have ha:=h.ha;have hb:=h.hb;unfold aeT;refine wpS_bind (dH (cj hb) ?_);have m:=h.pb O T c;rw[mE,cB];by_cases e1:ib+1=lb.length
 ·rw[if_pos (by simpa using e1)];exact wpS_pure ⟨⟨_,rfl⟩,.inl ⟨_,rfl,Bs m e1⟩⟩
 ·rw[if_neg (by simpa using e1)];have li:LI lt la lb (o++[lb[ib]]) ia (ib+1):=⟨m,ha,by omega⟩;refine wpS_bind (dH (cj (by omega:ia<la.length)) ?_);have kn:=T.EI (i:=ia) (by omega);have hD:∀x∈lb.drop (ib+1),x<n/\x≠la[ia]:=λ x hx=>by have hx':=List.mem_of_mem_drop hx;refine ⟨T.hn x (by simp[hx']),λ z=>?_⟩;obtain ⟨j,hj,e⟩:=List.mem_iff_getElem.mp hx';exact T.ne (by omega:ia<la.length) hj (by rw[e,z])
  obtain ⟨B,hB,qh⟩:=vZ O kn (lb.drop (ib+1)) hD (T.ub.sublist (List.drop_sublist _ _));have C:Cut lt it n (aT it lb) (ib+1) (lb.drop (ib+1)).length la[ia] B:=Cut.xh kn hD hB qh λ i h=>by rw[cj (by simp at h;omega)];simp
  rw[List.length_drop] at C hB;refine wpS_bind (ql O hc C (by omega) ?_);dsimp only;have m2:=li.m.goY (T.tr O) (by simp;omega) B λ i h1 h2=>by rw[z7 (by omega:ia<la.length)];show lt _ _=true;rw[qh i h1];simpa using h2
  rw[List.drop_drop] at m2;by_cases e2:B>0
  ·rw[if_pos e2,qI,ji,Nat.add_sub_cancel_left];by_cases e3:ib+1+B=lb.length
   ·rw[if_pos (by simpa using e3)];exact wpS_pure ⟨⟨_,rfl⟩,.inl ⟨_,rfl,Bs m2 e3⟩⟩
   ·rw[if_neg (by simpa using e3)];have WB:LI lt la lb (o++[lb[ib]]++(lb.drop (ib+1)).take B) ia (ib+1+B):=⟨m2,ha,by omega⟩;refine ac4 O T hl WB ?_ (by omega);have:=qh B (by simp;omega);simp only[List.getElem_drop,Nat.lt_irrefl,decide_false] at this;show lt _ _=true;rw[O.tot _ _ kn (T.EH (by omega)) (T.ne (by omega) (by omega)),this];rfl
  ·rw[if_neg e2];have:B=0:=by omega
   subst this;refine ac4 O T hl li ?_ (by omega);have:=qh 0 (by simp;omega);simp only[List.getElem_drop,Nat.lt_irrefl,decide_false,Nat.add_zero] at this;show lt _ _=true;rw[O.tot _ _ kn (T.EH (by omega)) (T.ne (by omega) (by omega)),this];rfl
def ac6(O:Ord lt n)(hc:GY prog w A s κ it lt n)(T:zK lt n la lb)(hl:∀y∈lb,∀(h:la≠[]),Rl lt y (la.getLast h)){a:Array Keyed}{pe:Array (Nat×Nat×Nat)}{mg g c0 ia ib ac bc:Nat}{o:List Nat}(h:LI lt la lb o ia ib)(hi:c0<=ia+ib):
  wpS (model prog w) A E s (aeU (aT it la) (aT it lb) ac bc (aT it o) ia ib g) (ajL lt it la lb c0 κ a pe) (fZ κ a pe mg):=by
 have ha:=h.ha;have hb:=h.hb;unfold aeU;refine wpS_bind (afR (wpS_bind (dH (cj hb) ?_)));have kn:=T.EH (i:=ib) hb;have hD:∀x∈la.drop ia,x<n/\x≠lb[ib]:=λ x hx=>by have hx':=List.mem_of_mem_drop hx;refine ⟨T.hn x (by simp[hx']),λ z=>?_⟩;obtain ⟨j,hj,e⟩:=List.mem_iff_getElem.mp hx';exact T.ne hj hb (by rw[e,z])
 obtain ⟨B,hB,qh⟩:=vZ O kn (la.drop ia) hD (T.ua.sublist (List.drop_sublist _ _));have C:Cut lt it n (aT it la) ia (la.drop ia).length lb[ib] B:=Cut.xh kn hD hB qh λ i h=>by rw[cj (by simp at h;omega)];simp
 rw[List.length_drop] at C hB;rw[cB];refine wpS_bind (ql O hc C (by omega) ?_);dsimp only;have aaS:=qh (la.length- 1- ia) (by simp;omega);simp only[List.getElem_drop] at aaS;have hB2:B<la.length- ia:=by
  have ne:la≠[]:=by intro z;rw[z] at ha;simp at ha
  have h1:=hl lb[ib] (List.getElem_mem hb) ne;rw[List.getLast_eq_getElem] at h1;have h2:lt la[ia+(la.length- 1- ia)] lb[ib]=false:=by
   rw[O.tot _ _ (T.EI (by omega)) kn (T.ne (by omega) hb)];have:ia+(la.length- 1- ia)=la.length- 1:=by omega
   simp only[this];rw[show lt lb[ib] la[la.length- 1]=true from h1];rfl
  rw[h2] at aaS;have:=(decide_eq_false_iff_not.mp aaS.symm);omega
 have m2:=h.m.goX (T.tr O) (by simp;omega) B λ i h1 h2=>by rw[z7 hb];show lt _ _=true;rw[qh i h1];simpa using h2
 rw[List.drop_drop] at m2;have nx:=qh B (by simp;omega);simp only[List.getElem_drop,Nat.lt_irrefl,decide_false] at nx;have nx':Rl lt lb[ib] (la[ia+B]'(by omega)):=by show lt _ _=true;rw[O.tot _ _ kn (T.EI (by omega)) (Ne.symm (T.ne (by omega) hb)),nx];rfl
 by_cases e2:B>0
 ·rw[if_pos e2,qI,ji,Nat.add_sub_cancel_left];by_cases e3:ia+B+1=la.length
  ·rw[if_pos (by simpa using e3)];exact wpS_pure ⟨⟨_,rfl⟩,.inl ⟨_,rfl,Br hl m2 e3⟩⟩
  ·rw[if_neg (by simpa using e3),if_neg (by simp;omega)];exact ac5 O hc T hl (⟨m2,by omega,hb⟩:LI lt la lb (o++(la.drop ia).take B) (ia+B) ib) nx' (by omega)
 ·rw[if_neg e2];have:B=0:=by omega
  subst this;exact ac5 O hc T hl h nx' (by omega)
def aqU(O:Ord lt n)(hc:GY prog w A s κ it lt n)(T:zK lt n la lb)(hl:∀y∈lb,∀(h:la≠[]),Rl lt y (la.getLast h))(h1:0<la.length)(h2:0<lb.length)(hf:Rl lt lb[0] la[0]){a:Array Keyed}{pe:Array (Nat×Nat×Nat)}{mg:Nat}:
  wpS (model prog w) A E s (CD (aT it la) (aT it lb)) (λ r st'=>Any κ a pe st'/\Good lt it la lb r) (fZ κ a pe mg):=by
 unfold CD;refine wpS_bind (zJ (wpS_bind (dH (cj h2) ?_)));have m0:Mg (Rl lt) [] la lb (la++lb):=⟨List.Perm.refl _,List.Pairwise.nil,λ _ h=>(nomatch h),T.ua,T.ub⟩;have m:=m0.goY (T.tr O) h1 1 (λ i hi h=>by
  have:i=0:=by omega
  subst this;exact hf)
 rw[take_one h2,List.nil_append] at m;rw[UP,cB,cB];have md:Mg (Rl lt) [lb[0]] (la.drop 0) (lb.drop 1) (la++lb):=by rw[List.drop_zero];exact m
 by_cases e1:1=lb.length
 ·rw[if_pos (by simpa using e1)];exact wpS_pure ⟨⟨_,rfl⟩,Bs md e1⟩
 ·rw[if_neg (by simpa using e1)];by_cases e2:0+1=la.length
  ·rw[if_pos (by simpa using e2)];exact wpS_pure ⟨⟨_,rfl⟩,Br hl md e2⟩
  ·rw[if_neg (by simpa using e2)];refine wpS_bind (wpS_get ?_);refine wpS_bind (wpS_forRange (λ i c st=>Any κ a pe st/\∃o ia ib g,c=(none,aT it o,ia,ib,g)/\LI lt la lb o ia ib/\1+i<=ia+ib) ?_ ?_ ⟨⟨_,rfl⟩,_,_,_,_,rfl,⟨md,by omega,by omega⟩,by omega⟩)
   ·rintro i c st _ hi ⟨⟨mg,rfl⟩,o,ia,ib,g,rfl,li,hp⟩
    unfold lo0;rw[cB,cB];refine wpS_bind (wpS_mono (wpS_forRange (λ i c st=>st=fZ κ a pe mg/\∃o' ia' ib' ac bc,c=(none,aT it o',ia',ib',ac,bc)/\LI lt la lb o' ia' ib'/\(ia+ib)+i<=ia'+ib') (Q:=λ c st=>st=fZ κ a pe mg/\anC lt it la lb (ia+ib) c) ?_ ?_ ⟨rfl,_,_,_,_,_,rfl,li,by dsimp only;omega⟩) ?_)
    ·rintro j c st _ hj ⟨rfl,o',ia',ib',ac,bc,rfl,Z9,Xg⟩
     refine wpS_mono (anq O hc T hl Z9 Xg) λ r st' hr=>?_;obtain ⟨hr1,hr2⟩:=hr;cases r with
     |done c=>exact ⟨hr1,hr2⟩
     |yield c=>exact ⟨hr1,hr2⟩
    ·rintro c st ⟨rfl,o',ia',ib',ac,bc,rfl,Z9,Xg⟩
     have:=Nat.le_max_right 0 (la.length+lb.length);exact ⟨rfl,.inr ⟨_,_,_,_,_,rfl,Z9,by omega⟩⟩
    ·rintro c st ⟨rfl,hd⟩
     rcases hd with ⟨r,hr,gd⟩|⟨o',ia',ib',ac,bc,rfl,Z9,Xg⟩
     ·obtain ⟨c1,c2⟩:=c;simp only at hr;subst hr;exact wpS_pure (wpS_pure ⟨⟨_,rfl⟩,gd⟩)
     ·refine wpS_bind (zJ ?_);refine wpS_bind (wpS_mono (wpS_forRange (λ i c st=>Any κ a pe st/\anA lt it la lb (ia+ib+1) c) (Q:=λ c st=>Any κ a pe st/\anB lt it la lb (ia+ib+1) c) ?_ ?_ ⟨⟨_,rfl⟩,_,_,_,_,_,_,rfl,Z9,Xg⟩) ?_)
      ·rintro j c st _ hj ⟨⟨mg,rfl⟩,o2,ia2,ib2,g2,ac2,bc2,rfl,WB,hp2⟩
       unfold lo2;dsimp only;split
       ·refine wpS_mono (ac6 O hc T hl WB hp2) λ r st' hr=>?_;obtain ⟨hr1,hr2⟩:=hr;cases r with
        |done c=>exact ⟨hr1,hr2⟩
        |yield c=>exact ⟨hr1,hr2⟩
       ·refine wpS_mono (ac6 O hc T hl WB hp2) λ r st' hr=>?_;obtain ⟨hr1,hr2⟩:=hr;cases r with
        |done c=>exact ⟨hr1,hr2⟩
        |yield c=>exact ⟨hr1,hr2⟩
      ·rintro c st ⟨hs,hy⟩
       exact ⟨hs,.inr hy⟩
      ·rintro c st ⟨⟨mg,rfl⟩,hd⟩
       rcases hd with ⟨r,hr,gd⟩|⟨o2,ia2,ib2,g2,ac2,bc2,rfl,WB,hp2⟩
       ·obtain ⟨c1,c2⟩:=c;simp only at hr;subst hr;exact wpS_pure (wpS_pure ⟨⟨_,rfl⟩,gd⟩)
       ·refine wpS_bind (afR (wpS_pure ⟨⟨_,rfl⟩,_,_,_,_,rfl,WB,by dsimp only;omega⟩))
   ·rintro c st ⟨_,o,ia,ib,g,rfl,li,hp⟩
    have:=Nat.le_max_right 0 (la.length+lb.length);have ha:=li.ha;have hb:=li.hb;exfalso;omega
end
end
section
variable{prog:Program}{w:World}{A:Around}{E:Value->Shared->Prop}{s:Shared}{κ:SortKind}{it:Array Keyed}{lt:Nat->Nat->Bool}{n:Nat}
noncomputable abbrev Rg(lt:Nat->Nat->Bool)(a b:Nat):Prop:=lt b a=true
noncomputable abbrev tr(l:List Nat)(k:Nat):List Nat:=(l.take k).reverse
def nL{l:List Nat}{k:Nat}(h:k<=l.length):(tr l k).length=k:=by simp;omega
def kG{l:List Nat}{k i:Nat}(h:k<=l.length)(hi:i<k):(tr l k)[i]'(by rw[nL h];exact hi)=l[k- 1- i]'(by omega):=by simp only[tr,List.getElem_reverse,List.length_take,List.getElem_take,Nat.min_eq_left h]
def Ui{l:List Nat}{k B:Nat}(h:k<=l.length)(hB:B<=k):(tr l k).take (k- B)=((l.drop B).take (k- B)).reverse:=by rw[tr,List.take_reverse,List.length_take,Nat.min_eq_left h,show k-(k- B)=B by omega,List.drop_take]
def wH{l:List Nat}{k B:Nat}(h:k<=l.length)(hB:B<=k):(tr l k).drop (k- B)=tr l B:=by rw[tr,List.drop_reverse,List.length_take,Nat.min_eq_left h,show k-(k- B)=B by omega,List.take_take,Nat.min_eq_left hB]
section
variable{la lb:List Nat}
def zK.tr'(O:Ord lt n)(T:zK lt n la lb):∀a b c,a∈la++lb->b∈la++lb->c∈la++lb->Rg lt a b->Rg lt b c->Rg lt a c:=λ a b c ha hb hc h1 h2=>O.tr c b a (T.hn c hc) (T.hn b hb) (T.hn a ha) h2 h1
structure HI(lt:Nat->Nat->Bool)(la lb o:List Nat)(na nb:Nat):Prop where
 m:Mg (Rg lt) o (tr la na) (tr lb nb) (la++lb)
 a1:1<=na
 a2:na<=la.length
 b1:2<=nb
 b2:nb<=lb.length
def xH{l:List Nat}{k:Nat}:(aT it l).extract 0 k=aT it (l.take k):=by rw[qI];rfl
def J3{l:List Nat}(h:l.Perm (la++lb)/\l.Pairwise (Rg lt)):l.reverse.Perm (la++lb)/\l.reverse.Pairwise (Rl lt):=⟨(List.reverse_perm l).trans h.1,List.pairwise_reverse.mpr h.2⟩
def By{o:List Nat}{na nb:Nat}(h0:na=0)(m:Mg (Rg lt) o (tr la na) (tr lb nb) (la++lb)):Good lt it la lb (pC (aT it la) (aT it lb) (aT it o) na nb):=by subst h0;unfold pC;rw[xH,xH,Bu,ji,ji];have h:=J3 (m.swap.fin);simp only[tr,List.reverse_append,List.reverse_reverse] at h;exact ⟨_,rfl,by simpa using h⟩
def xR{o:List Nat}{na nb:Nat}(hf:∀(h:0<lb.length),∀x∈la,Rl lt lb[0] x)(hb:0<lb.length)(h0:nb=1)(m:Mg (Rg lt) o (tr la na) (tr lb nb) (la++lb)):Good lt it la lb (tX (aT it la) (aT it lb) (aT it o) na nb):=by subst h0;unfold tX;rw[xH,xH,Bu,ji,ji];have e:lb.take 1=[lb[0]]:=take_one hb;have m':=m.swap;simp only[tr,e,List.reverse_singleton] at m';have h:=J3 (m'.amq λ y hy=>hf hb y (List.mem_of_mem_take (List.mem_reverse.mp hy)));simp only[List.reverse_append,List.reverse_reverse,List.reverse_singleton] at h;rw[e];exact ⟨_,rfl,h⟩
def HI.pa(O:Ord lt n)(T:zK lt n la lb){o:List Nat}{na nb:Nat}(h:HI lt la lb o na nb)(c:Rl lt (lb[nb- 1]'(by have:=h.b1;have:=h.b2;omega)) (la[na- 1]'(by have:=h.a1;have:=h.a2;omega))):Mg (Rg lt) (o++[la[na- 1]'(by have:=h.a1;have:=h.a2;omega)]) (tr la (na- 1)) (tr lb nb) (la++lb):=by
 have a1:=h.a1;have a2:=h.a2;have b1:=h.b1;have b2:=h.b2;have hb:0<(tr lb nb).length:=by rw[nL b2];omega
 have hx:0<(tr la na).length:=by rw[nL a2];omega
 have:=h.m.goX (T.tr' O) hb 1 (λ i hi h1=>by
  have:i=0:=by omega
  subst this;rw[kG b2 (by omega),kG a2 (by omega)];exact c)
 rw[take_one hx,kG a2 (by omega)] at this;have e:=wH (l:=la) (k:=na) (B:=na- 1) a2 (by omega);rw[show na-(na- 1)=1 by omega] at e;rw[e] at this;exact this
def HI.pb(O:Ord lt n)(T:zK lt n la lb){o:List Nat}{na nb:Nat}(h:HI lt la lb o na nb)(c:Rl lt (la[na- 1]'(by have:=h.a1;have:=h.a2;omega)) (lb[nb- 1]'(by have:=h.b1;have:=h.b2;omega))):Mg (Rg lt) (o++[lb[nb- 1]'(by have:=h.b1;have:=h.b2;omega)]) (tr la na) (tr lb (nb- 1)) (la++lb):=by
 have a1:=h.a1;have a2:=h.a2;have b1:=h.b1;have b2:=h.b2;have hb:0<(tr lb nb).length:=by rw[nL b2];omega
 have hx:0<(tr la na).length:=by rw[nL a2];omega
 have:=h.m.goY (T.tr' O) hx 1 (λ i hi h1=>by
  have:i=0:=by omega
  subst this;rw[kG b2 (by omega),kG a2 (by omega)];exact c)
 rw[take_one hb,kG b2 (by omega)] at this;have e:=wH (l:=lb) (k:=nb) (B:=nb- 1) b2 (by omega);rw[show nb-(nb- 1)=1 by omega] at e;rw[e] at this;exact this
def anI(lt:Nat->Nat->Bool)(it:Array Keyed)(la lb:List Nat)(c0:Nat)(c:afX):Prop:=(∃r,c.1=some r/\Good lt it la lb r)\/(∃o na nb ac bc,c=(none,na,nb,aT it o,ac,bc)/\HI lt la lb o na nb/\na+nb+1<=c0)
def anu(O:Ord lt n)(hc:GY prog w A s κ it lt n)(T:zK lt n la lb)(hf:∀(h:0<lb.length),∀x∈la,Rl lt lb[0] x){a:Array Keyed}{pe:Array (Nat×Nat×Nat)}{mg g x i c0 na nb ac bc:Nat}{o:List Nat}(h:HI lt la lb o na nb)(hi:na+nb+i<=c0):
  wpS (model prog w) A E s (hi1 (aT it la) (aT it lb) g x (none,na,nb,aT it o,ac,bc)) (λ r st'=>st'=fZ κ a pe mg/\match r with
   | .done c=>anI lt it la lb c0 c
   | .yield c=>∃o na nb ac bc,c=(none,na,nb,aT it o,ac,bc)/\HI lt la lb o na nb/\na+nb+(i+1)<=c0) (fZ κ a pe mg):=by
 have a1:=h.a1;have a2:=h.a2;have b1:=h.b1;have b2:=h.b2;have ha:na- 1<la.length:=by omega
 have hb:nb- 1<lb.length:=by omega
 unfold hi1;dsimp only;refine wpS_bind (dH (cj hb) (wpS_bind (dH (cj ha) (wpS_bind (V_lt hc (T.EH hb) (T.EI ha) (Ne.symm (T.ne ha hb)) ?_)))));cases e:lt lb[nb- 1] la[na- 1] with
 |true=>
  simp only[if_true];refine wpS_bind (dH (cj ha) ?_);have m:=h.pa O T e;rw[mE];by_cases e1:na- 1=0
  ·rw[if_pos (by simpa using e1)];exact wpS_pure ⟨rfl,.inl ⟨_,rfl,By e1 m⟩⟩
  ·rw[if_neg (by simpa using e1)];have li:HI lt la lb (o++[la[na- 1]]) (na- 1) nb:=⟨m,by omega,by omega,b1,b2⟩;by_cases e2:ac+1>=g
   ·rw[if_pos e2];exact wpS_pure ⟨rfl,.inr ⟨_,_,_,_,_,rfl,li,by omega⟩⟩
   ·rw[if_neg e2];exact wpS_pure ⟨rfl,_,_,_,_,_,rfl,li,by omega⟩
 |false=>
  simp only[Bool.false_eq_true,if_false];have e':Rl lt la[na- 1] lb[nb- 1]:=by show lt la[na- 1] lb[nb- 1]=true;rw[O.tot _ _ (T.EI ha) (T.EH hb) (T.ne ha hb),e];rfl
  refine wpS_bind (dH (cj hb) ?_);have m:=h.pb O T e';rw[mE];by_cases e1:nb- 1=1
  ·rw[if_pos (by simpa using e1)];exact wpS_pure ⟨rfl,.inl ⟨_,rfl,xR hf (by omega) e1 m⟩⟩
  ·rw[if_neg (by simpa using e1)];have li:HI lt la lb (o++[lb[nb- 1]]) na (nb- 1):=⟨m,a1,a2,by omega,by omega⟩;by_cases e2:bc+1>=g
   ·rw[if_pos e2];exact wpS_pure ⟨rfl,.inr ⟨_,_,_,_,_,rfl,li,by omega⟩⟩
   ·rw[if_neg e2];exact wpS_pure ⟨rfl,_,_,_,_,_,rfl,li,by omega⟩
def anH(lt:Nat->Nat->Bool)(it:Array Keyed)(la lb:List Nat)(c0:Nat)(c:JE):Prop:=(∃r,c.1=some r/\Good lt it la lb r)\/(∃o na nb mg ac bc,c=(none,na,nb,aT it o,mg,ac,bc)/\HI lt la lb o na nb/\na+nb<=c0)
def anG(lt:Nat->Nat->Bool)(it:Array Keyed)(la lb:List Nat)(c0:Nat)(c:JE):Prop:=∃o na nb mg ac bc,c=(none,na,nb,aT it o,mg,ac,bc)/\HI lt la lb o na nb/\na+nb<=c0
abbrev ajN(lt:Nat->Nat->Bool)(it:Array Keyed)(la lb:List Nat)(c0:Nat)(κ:SortKind)(a:Array Keyed)(pe:Array (Nat×Nat×Nat))(r:ForInStep JE)(st':SortSt):Prop:=Any κ a pe st'/\match r with
   | .done c=>anH lt it la lb c0 c
   | .yield c=>anG lt it la lb c0 c
def ac7(O:Ord lt n)(T:zK lt n la lb){a:Array Keyed}{pe:Array (Nat×Nat×Nat)}{mg g c0 na nb ac bc:Nat}{o:List Nat}(h:HI lt la lb o na nb)(c:Rl lt (lb[nb- 1]'(by have:=h.b1;have:=h.b2;omega)) (la[na- 1]'(by have:=h.a1;have:=h.a2;omega)))(hi:na+nb<=c0):
  wpS (model prog w) A E s (afi (aT it la) (aT it lb) g ac bc na nb (aT it o)) (ajN lt it la lb c0 κ a pe) (fZ κ a pe mg):=by
 have a1:=h.a1;have a2:=h.a2;have b1:=h.b1;have b2:=h.b2;have ha:na- 1<la.length:=by omega
 unfold afi;refine wpS_bind (dH (cj ha) ?_);have m:=h.pa O T c;rw[mE];by_cases e1:na- 1=0
 ·rw[if_pos (by simpa using e1)];exact wpS_pure ⟨⟨_,rfl⟩,.inl ⟨_,rfl,By e1 m⟩⟩
 ·rw[if_neg (by simpa using e1)];have li:HI lt la lb (o++[la[na- 1]]) (na- 1) nb:=⟨m,by omega,by omega,b1,b2⟩;split
  ·exact wpS_pure ⟨⟨_,rfl⟩,.inr ⟨_,_,_,_,_,_,rfl,li,by omega⟩⟩
  ·exact wpS_pure ⟨⟨_,rfl⟩,_,_,_,_,_,_,rfl,li,by omega⟩
def Ll(O:Ord lt n){l:List Nat}{k N:Nat}(hk:k<n)(hN:N<=l.length)(hl:∀x∈l,x<n/\x≠k)(hp:l.Pairwise (Rl lt)):∃B,Cut lt it n (aT it l) 0 N k B/\B<=N/\∀(i:Nat) (h:i<N),lt (l[i]'(by omega)) k=decide (i<B):=by
 have hl':∀x∈l.take N,x<n/\x≠k:=λ x hx=>hl x (List.mem_of_mem_take hx);obtain ⟨B,hB,qh⟩:=vZ O hk (l.take N) hl' (hp.sublist (List.take_sublist _ _));have C:Cut lt it n (aT it l) 0 (l.take N).length k B:=Cut.xh hk hl' hB qh λ i h=>by rw[Nat.zero_add,cj (by simp at h;omega),List.getElem_take]
 rw[List.length_take,Nat.min_eq_left hN] at C hB;refine ⟨B,C,hB,λ i h=>?_⟩;have:=qh i (by simp;omega);rwa [List.getElem_take] at this
def ac8(O:Ord lt n)(hc:GY prog w A s κ it lt n)(T:zK lt n la lb)(hf:∀(h:0<lb.length),∀x∈la,Rl lt lb[0] x){a:Array Keyed}{pe:Array (Nat×Nat×Nat)}{mg g c0 na nb ac bc:Nat}{o:List Nat}(h:HI lt la lb o na nb)(c:Rl lt (la[na- 1]'(by have:=h.a1;have:=h.a2;omega)) (lb[nb- 1]'(by have:=h.b1;have:=h.b2;omega)))(hi:na+nb<=c0):
  wpS (model prog w) A E s (afj (aT it la) (aT it lb) g ac bc na nb (aT it o)) (ajN lt it la lb c0 κ a pe) (fZ κ a pe mg):=by
 have a1:=h.a1;have a2:=h.a2;have b1:=h.b1;have b2:=h.b2;have ha:na- 1<la.length:=by omega
 have hb:nb- 1<lb.length:=by omega
 unfold afj;refine wpS_bind (dH (cj hb) ?_);have m:=h.pb O T c;rw[mE];by_cases e1:nb- 1=1
 ·rw[if_pos (by simpa using e1)];exact wpS_pure ⟨⟨_,rfl⟩,.inl ⟨_,rfl,xR hf (by omega) e1 m⟩⟩
 ·rw[if_neg (by simpa using e1)];have li:HI lt la lb (o++[lb[nb- 1]]) na (nb- 1):=⟨m,a1,a2,by omega,by omega⟩;refine wpS_bind (dH (cj ha) ?_);have kn:=T.EI ha;have hD:∀x∈lb,x<n/\x≠la[na- 1]:=λ x hx=>by refine ⟨T.hn x (by simp[hx]),λ z=>?_⟩;obtain ⟨j,hj,e⟩:=List.mem_iff_getElem.mp hx;exact T.ne ha hj (by rw[e,z])
  obtain ⟨B,C,hB,qh⟩:=Ll (it:=it) O kn (by omega:nb- 1<=lb.length) hD T.ub;refine wpS_bind (ql O hc C (by omega) ?_);dsimp only;have B1:1<=B:=by have h0:=qh 0 (by omega);rw[show lt lb[0] la[na- 1]=true from hf (by omega) _ (List.getElem_mem ha)] at h0;have:=of_decide_eq_true h0.symm;omega
  have hx:0<(tr la na).length:=by rw[nL a2];omega
  have m2:=li.m.goY (T.tr' O) hx (nb- 1- B) λ i h1 h2=>by rw[nL (by omega)] at h1;rw[kG (by omega) h1,kG a2 (by omega)];show lt la[na- 1- 0] _=true;have:=qh (nb- 1- 1- i) (by omega);simp only[Nat.sub_zero];rw[O.tot _ _ kn (T.EH (by omega)) (T.ne ha (by omega)),this];simp;omega
  rw[Ui (by omega) hB,wH (by omega) hB] at m2;have nx:Rl lt (lb[B- 1]'(by omega)) la[na- 1]:=by show lt _ _=true;rw[qh (B- 1) (by omega)];simp;omega
  by_cases e2:nb- 1- B>0
  ·rw[if_pos e2,qI,Bu,ji];by_cases e3:B=1
   ·rw[if_pos (by simpa using e3)];exact wpS_pure ⟨⟨_,rfl⟩,.inl ⟨_,rfl,xR hf (by omega) e3 m2⟩⟩
   ·rw[if_neg (by simpa using e3),if_neg (by simp;omega)];have WB:HI lt la lb (o++[lb[nb- 1]]++((lb.drop B).take (nb- 1- B)).reverse) na B:=⟨m2,a1,a2,by omega,by omega⟩;exact ac7 O T WB nx (by omega)
  ·rw[if_neg e2];have eB:B=nb- 1:=by omega
   subst eB;exact ac7 O T li nx (by omega)
def ac9(O:Ord lt n)(hc:GY prog w A s κ it lt n)(T:zK lt n la lb)(hf:∀(h:0<lb.length),∀x∈la,Rl lt lb[0] x){a:Array Keyed}{pe:Array (Nat×Nat×Nat)}{mg g c0 na nb ac bc:Nat}{o:List Nat}(h:HI lt la lb o na nb)(hi:na+nb<=c0):
  wpS (model prog w) A E s (afk (aT it la) (aT it lb) ac bc na nb (aT it o) g) (ajN lt it la lb c0 κ a pe) (fZ κ a pe mg):=by
 have a1:=h.a1;have a2:=h.a2;have b1:=h.b1;have b2:=h.b2;have ha:na- 1<la.length:=by omega
 have hb:nb- 1<lb.length:=by omega
 unfold afk;refine wpS_bind (afR (wpS_bind (dH (cj hb) ?_)));have kn:=T.EH hb;have hD:∀x∈la,x<n/\x≠lb[nb- 1]:=λ x hx=>by refine ⟨T.hn x (by simp[hx]),λ z=>?_⟩;obtain ⟨j,hj,e⟩:=List.mem_iff_getElem.mp hx;exact T.ne hj hb (by rw[e,z])
 obtain ⟨B,C,hB,qh⟩:=Ll (it:=it) O kn a2 hD T.ua;refine wpS_bind (ql O hc C (by omega) ?_);dsimp only;have hy:0<(tr lb nb).length:=by rw[nL b2];omega
 have m2:=h.m.goX (T.tr' O) hy (na- B) λ i h1 h2=>by rw[nL a2] at h1;rw[kG a2 h1,kG b2 (by omega)];show lt lb[nb- 1- 0] _=true;have:=qh (na- 1- i) (by omega);simp only[Nat.sub_zero];rw[O.tot _ _ kn (T.EI (by omega)) (Ne.symm (T.ne (by omega) hb)),this];simp;omega
 rw[Ui a2 hB,wH a2 hB] at m2;by_cases e2:na- B>0
 ·rw[if_pos e2,qI,Bu,ji];by_cases e3:B=0
  ·rw[if_pos (by simpa using e3)];exact wpS_pure ⟨⟨_,rfl⟩,.inl ⟨_,rfl,By e3 m2⟩⟩
  ·rw[if_neg (by simpa using e3)];refine ac8 O hc T hf (⟨m2,by omega,by omega,b1,b2⟩:HI lt la lb (o++((la.drop B).take (na- B)).reverse) B nb) ?_ (by omega);show lt _ _=true;rw[qh (B- 1) (by omega)];simp;omega
 ·rw[if_neg e2];have eB:B=na:=by omega
  subst eB;refine ac8 O hc T hf h ?_ (by omega);show lt _ _=true;rw[qh (B- 1) (by omega)];simp;omega
def aqW(O:Ord lt n)(hc:GY prog w A s κ it lt n)(T:zK lt n la lb)(hl:∀y∈lb,∀(h:la≠[]),Rl lt y (la.getLast h))(h1:0<la.length)(h2:0<lb.length)(hf:∀(h:0<lb.length),∀x∈la,Rl lt lb[0] x){a:Array Keyed}{pe:Array (Nat×Nat×Nat)}{mg:Nat}:
  wpS (model prog w) A E s (CF (aT it la) (aT it lb)) (λ r st'=>Any κ a pe st'/\Good lt it la lb r) (fZ κ a pe mg):=by
 unfold CF;rw[cB,cB];have ha:la.length- 1<la.length:=by omega
 refine wpS_bind (zJ (wpS_bind (dH (cj ha) ?_)));have m0:Mg (Rg lt) [] (tr la la.length) (tr lb lb.length) (la++lb):=by
  refine ⟨?_,List.Pairwise.nil,λ _ h=>(nomatch h),?_,?_⟩
  ·simp only[tr,List.take_length,List.nil_append];exact List.Perm.append (List.reverse_perm _) (List.reverse_perm _)
  ·simp only[tr,List.take_length];exact List.pairwise_reverse.mpr T.ua
  ·simp only[tr,List.take_length];exact List.pairwise_reverse.mpr T.ub
 have hy:0<(tr lb lb.length).length:=by rw[nL (Nat.le_refl _)];omega
 have hx:0<(tr la la.length).length:=by rw[nL (Nat.le_refl _)];omega
 have m:=m0.goX (T.tr' O) hy 1 (λ i hi h=>by
  have:i=0:=by omega
  subst this;rw[kG (Nat.le_refl _) (by omega),kG (Nat.le_refl _) (by omega)];have:=hl (lb[lb.length- 1]'(by omega)) (List.getElem_mem _) (by intro z;rw[z] at h1;simp at h1);rw[List.getLast_eq_getElem] at this;exact this)
 rw[take_one hx,kG (Nat.le_refl _) (by omega),List.nil_append] at m;have e:=wH (l:=la) (k:=la.length) (B:=la.length- 1) (Nat.le_refl _) (by omega);rw[show la.length-(la.length- 1)=1 by omega] at e;rw[e] at m;simp only[Nat.sub_zero] at m;rw[UP];by_cases e1:la.length- 1=0
 ·rw[if_pos (by simpa using e1)];exact wpS_pure ⟨⟨_,rfl⟩,By e1 m⟩
 ·rw[if_neg (by simpa using e1)];by_cases e2:lb.length=1
  ·rw[if_pos (by simpa using e2)];exact wpS_pure ⟨⟨_,rfl⟩,xR hf (by omega) e2 m⟩
  ·rw[if_neg (by simpa using e2)];refine wpS_bind (wpS_get ?_);refine wpS_bind (wpS_forRange (λ i c st=>Any κ a pe st/\∃o na nb g,c=(none,na,nb,aT it o,g)/\HI lt la lb o na nb/\na+nb+1+i<=la.length+lb.length) ?_ ?_ ⟨⟨_,rfl⟩,_,_,_,_,rfl,⟨m,by omega,by omega,by omega,by omega⟩,by omega⟩)
   ·rintro i c st _ hi ⟨⟨mg,rfl⟩,o,na,nb,g,rfl,li,hp⟩
    unfold hi0;rw[cB,cB];refine wpS_bind (wpS_mono (wpS_forRange (λ i c st=>st=fZ κ a pe mg/\∃o' na' nb' ac bc,c=(none,na',nb',aT it o',ac,bc)/\HI lt la lb o' na' nb'/\na'+nb'+i<=na+nb) (Q:=λ c st=>st=fZ κ a pe mg/\anI lt it la lb (na+nb) c) ?_ ?_ ⟨rfl,_,_,_,_,_,rfl,li,by dsimp only;omega⟩) ?_)
    ·rintro j c st _ hj ⟨rfl,o',na',nb',ac,bc,rfl,Z9,Xg⟩
     refine wpS_mono (anu O hc T hf Z9 Xg) λ r st' hr=>?_;obtain ⟨hr1,hr2⟩:=hr;cases r with
     |done c=>exact ⟨hr1,hr2⟩
     |yield c=>exact ⟨hr1,hr2⟩
    ·rintro c st ⟨rfl,o',na',nb',ac,bc,rfl,Z9,Xg⟩
     have:=Nat.le_max_right 0 (la.length+lb.length);exact ⟨rfl,.inr ⟨_,_,_,_,_,rfl,Z9,by omega⟩⟩
    ·rintro c st ⟨rfl,hd⟩
     rcases hd with ⟨r,hr,gd⟩|⟨o',na',nb',ac,bc,rfl,Z9,Xg⟩
     ·obtain ⟨c1,c2⟩:=c;simp only at hr;subst hr;exact wpS_pure (wpS_pure ⟨⟨_,rfl⟩,gd⟩)
     ·refine wpS_bind (zJ ?_);refine wpS_bind (wpS_mono (wpS_forRange (λ i c st=>Any κ a pe st/\anG lt it la lb (na+nb- 1) c) (Q:=λ c st=>Any κ a pe st/\anH lt it la lb (na+nb- 1) c) ?_ ?_ ⟨⟨_,rfl⟩,_,_,_,_,_,_,rfl,Z9,by dsimp only;omega⟩) ?_)
      ·rintro j c st _ hj ⟨⟨mg,rfl⟩,o2,na2,nb2,g2,ac2,bc2,rfl,WB,hp2⟩
       unfold hi2;dsimp only;split
       ·refine wpS_mono (ac9 O hc T hf WB hp2) λ r st' hr=>?_;obtain ⟨hr1,hr2⟩:=hr;cases r with
        |done c=>exact ⟨hr1,hr2⟩
        |yield c=>exact ⟨hr1,hr2⟩
       ·refine wpS_mono (ac9 O hc T hf WB hp2) λ r st' hr=>?_;obtain ⟨hr1,hr2⟩:=hr;cases r with
        |done c=>exact ⟨hr1,hr2⟩
        |yield c=>exact ⟨hr1,hr2⟩
      ·rintro c st ⟨hs,hy⟩
       exact ⟨hs,.inr hy⟩
      ·rintro c st ⟨⟨mg,rfl⟩,hd⟩
       rcases hd with ⟨r,hr,gd⟩|⟨o2,na2,nb2,g2,ac2,bc2,rfl,WB,hp2⟩
       ·obtain ⟨c1,c2⟩:=c;simp only at hr;subst hr;exact wpS_pure (wpS_pure ⟨⟨_,rfl⟩,gd⟩)
       ·have:=li.a1;refine wpS_bind (afR (wpS_pure ⟨⟨_,rfl⟩,_,_,_,_,rfl,WB,by dsimp only;omega⟩))
   ·rintro c st ⟨_,o,na,nb,g,rfl,li,hp⟩
    have:=Nat.le_max_right 0 (la.length+lb.length);exfalso;omega
end
end
section
variable{prog:Program}{w:World}{A:Around}{E:Value->Shared->Prop}{s:Shared}{κ:SortKind}{it:Array Keyed}{lt:Nat->Nat->Bool}{n:Nat}
def adF{M:Model}{σ:Type}{x:σ}{Q:PUnit->σ->Prop}{st:σ}(q:Q ⟨⟩ x):wpS M A E s (set x) Q st:=wpS_modify (f:=λ _=>x) q
def aae:∀(l:List Keyed) (k sa:Nat) (X Y Z:List Keyed) (arr:Array Keyed),arr.toList=X++Y++Z->X.length=sa+k->Y.length=l.length->(List.foldl (λ(a:Array Keyed) (x:Keyed×Nat)=>match x with|(p,j)=>a.setIfInBounds (sa+j) p) arr (l.zipIdx k)).toList=X++l++Z
 |[],k,sa,X,Y,Z,arr,h,hX,hY=>by have:Y=[]:=List.eq_nil_of_length_eq_zero hY;subst this;simpa using h
 |p::l,k,sa,X,Y,Z,arr,h,hX,hY=>by
  match Y,hY with
  |y::Y',hY=>rw[List.zipIdx_cons,List.foldl_cons];have:=aae l (k+1) sa (X++[p]) Y' Z (arr.setIfInBounds (sa+k) p) (by rw[Array.toList_setIfInBounds,h, <-hX];simp[List.set_append]) (by simp;omega) (by simpa using hY);dsimp only;rw[this];simp
def anr{lp ls lm lq:List Nat}{pe:Array (Nat×Nat×Nat)}{mg sa:Nat}{Q:Bool->SortSt->Prop}(hp:lp.length=sa)(hl:ls.length=lm.length)(q:Q true (fZ κ (aT it (lp++lm++lq)) pe mg)):
  wpS (model prog w) A E s (aaf sa (aT it lm)) Q (fZ κ (aT it (lp++ls++lq)) pe mg):=by
 unfold aaf;refine wpS_bind (wpS_modify (wpS_bind (wpS_get (wpS_pure ?_))));have e:List.foldl (λ(a:Array Keyed) (x:Keyed×Nat)=>match x with|(p,j)=>a.setIfInBounds (sa+j) p) (aT it (lp++ls++lq)) (aT it lm).toList.zipIdx=aT it (lp++lm++lq):=by apply Array.toList_inj.mp;rw[aae (aT it lm).toList 0 sa (lp.map (kas_item it)) (ls.map (kas_item it)) (lq.map (kas_item it)) _ (by simp[aT]) (by simpa using hp) (by simpa[aT] using hl)];simp[aT]
 show Q true (fZ κ (List.foldl (λ(a:Array Keyed) (x:Keyed×Nat)=>match x with|(p,j)=>a.setIfInBounds (sa+j) p) (aT it (lp++ls++lq)) (aT it lm).toList.zipIdx) pe mg);rw[e];exact q
def at3{X Y Z:List Nat}{i:Nat}(h:i<Y.length):(aT it (X++Y++Z))[X.length+i]? =some (kas_item it Y[i]):=by rw[cj (by simp;omega)];congr 2;rw[List.getElem_append_left (by simp;omega),List.getElem_append_right (by omega)];simp
def ext3{X Y Z:List Nat}:(aT it (X++Y++Z)).extract X.length (X.length+Y.length)=aT it Y:=by rw[qI];congr 1;rw[List.append_assoc,List.drop_left,Nat.add_sub_cancel_left,List.take_left]
def V_at(O:Ord lt n)(hc:GY prog w A s κ it lt n){pre la lb post:List Nat}{l1 l2:List (Nat×Nat×Nat)}{pw pw2 mg:Nat}(T:zK lt n la lb)(h1:0<la.length)(h2:0<lb.length){Q:Bool->SortSt->Prop} (q:∀lm g,lm.Perm (la++lb)->lm.Pairwise (Rl lt)->Q true (fZ κ (aT it (pre++lm++post)) (l1++(pre.length,la.length+lb.length,pw)::l2).toArray g)):
  wpS (model prog w) A E s (mergeAt' l1.length) Q (fZ κ (aT it (pre++(la++lb)++post)) (l1++(pre.length,la.length,pw)::(pre.length+la.length,lb.length,pw2)::l2).toArray mg):=by
 rw[Nr];unfold KJ;refine wpS_bind (wpS_get ?_);have e1:(l1++(pre.length,la.length,pw)::(pre.length+la.length,lb.length,pw2)::l2).toArray[l1.length]? =some (pre.length,la.length,pw):=by simp
 have e2:(l1++(pre.length,la.length,pw)::(pre.length+la.length,lb.length,pw2)::l2).toArray[l1.length+1]? =some (pre.length+la.length,lb.length,pw2):=by simp only[List.getElem?_toArray];rw[List.getElem?_append_right (by omega)];simp
 have e3:((l1++(pre.length,la.length,pw)::(pre.length+la.length,lb.length,pw2)::l2).toArray.setIfInBounds l1.length (pre.length,la.length+lb.length,pw)).eraseIdxIfInBounds (l1.length+1)=(l1++(pre.length,la.length+lb.length,pw)::l2).toArray:=by apply Array.toList_inj.mp;rw[Array.toList_eraseIdxIfInBounds,Array.toList_setIfInBounds];simp[List.set_append,List.eraseIdx_append];intro h;omega
 rw[e1,e2];dsimp only;refine wpS_bind (adF ?_);rw[e3];have gb:∀i (h:i<lb.length),(aT it (pre++(la++lb)++post))[pre.length+la.length+i]? =some (kas_item it lb[i]):=λ i h=>by have:=at3 (it:=it) (X:=pre++la) (Y:=lb) (Z:=post) h;rw[List.length_append] at this;rw[<-this];simp[List.append_assoc]
 have ga:∀i (h:i<la.length),(aT it (pre++(la++lb)++post))[pre.length+i]? =some (kas_item it la[i]):=λ i h=>by have:=at3 (it:=it) (X:=pre) (Y:=la) (Z:=lb++post) h;rw[<-this];simp[List.append_assoc]
 refine wpS_bind (dH (gb 0 h2) ?_);have kn:=T.EH h2;have hD:∀x∈la,x<n/\x≠lb[0]:=λ x hx=>by refine ⟨T.hn x (by simp[hx]),λ z=>?_⟩;obtain ⟨j,hj,e⟩:=List.mem_iff_getElem.mp hx;exact T.ne hj h2 (by rw[e,z])
 obtain ⟨B1,hB1,aji⟩:=vZ O kn la hD T.ua;have C1:Cut lt it n (aT it (pre++(la++lb)++post)) pre.length la.length lb[0] B1:=Cut.xh kn hD hB1 aji ga;refine wpS_bind (ql O hc C1 h1 ?_);dsimp only;have ub0:∀y∈lb,y=lb[0]\/Rl lt lb[0] y:=λ y hy=>by
  obtain ⟨j,hj,e⟩:=List.mem_iff_getElem.mp hy;cases j with
  |zero=>exact .inl e.symm
  |succ j=>exact .inr (e▸(List.pairwise_iff_getElem.mp T.ub) 0 (j+1) h2 hj (by omega))
 have H1:∀x∈la.take B1,∀y∈lb,Rl lt x y:=λ x hx y hy=>by
  obtain ⟨i,hi,e⟩:=List.mem_iff_getElem.mp hx;rw[List.getElem_take] at e;rw[List.length_take] at hi;have c:Rl lt x lb[0]:=by show lt _ _=true;rw[<-e,aji i (by omega)];simp;omega
  rcases ub0 y hy with rfl|h
  ·exact c
  ·exact T.tr O x lb[0] y (by simp[List.mem_of_mem_take hx]) (by simp) (by simp[hy]) c h
 by_cases z1:la.length- B1=0
 ·rw[if_pos (by simpa using z1)];refine wpS_pure (q (la++lb) _ (List.Perm.refl _) (List.pairwise_append.mpr ⟨T.ua,T.ub,λ x hx y hy=>H1 x ?_ y hy⟩));rw[List.take_of_length_le (by omega)];exact hx
 ·rw[if_neg (by simpa using z1)];have hl1:la.length- 1<la.length:=by omega
  refine wpS_bind (dH (x:=kas_item it la[la.length- 1]) (by rw[show pre.length+B1+(la.length- B1) - 1=pre.length+(la.length- 1) by omega];exact ga _ hl1) ?_);have kn2:=T.EI hl1;have hD2:∀x∈lb,x<n/\x≠la[la.length- 1]:=λ x hx=>by refine ⟨T.hn x (by simp[hx]),λ z=>?_⟩;obtain ⟨j,hj,e⟩:=List.mem_iff_getElem.mp hx;exact T.ne hl1 hj (by rw[e,z])
  obtain ⟨B2,hB2,afE⟩:=vZ O kn2 lb hD2 T.ub;have C2:Cut lt it n (aT it (pre++(la++lb)++post)) (pre.length+la.length) lb.length la[la.length- 1] B2:=Cut.xh kn2 hD2 hB2 afE gb;refine wpS_bind (ql O hc C2 (by omega) ?_);dsimp only;have ula:∀x∈la,x=la[la.length- 1]\/Rl lt x la[la.length- 1]:=λ x hx=>by
   obtain ⟨j,hj,e⟩:=List.mem_iff_getElem.mp hx;by_cases c:j=la.length- 1
   ·subst c;exact .inl e.symm
   ·exact .inr (e▸(List.pairwise_iff_getElem.mp T.ua) j (la.length- 1) hj hl1 (by omega))
  -- FW last of FW first list is above FW first of FW second
  have lf:∀x∈la.drop B1,Rl lt lb[0] x:=λ x hx=>by obtain ⟨i,hi,e⟩:=List.mem_iff_getElem.mp hx;rw[List.getElem_drop] at e;rw[List.length_drop] at hi;have:=aji (B1+i) (by omega);have nx:=hD x (List.mem_of_mem_drop hx);show lt _ _=true;rw[O.tot _ _ kn nx.1 (Ne.symm nx.2), <-e,this];simp
  have B2p:1<=B2:=by
   have h0:=afE 0 h2;have:la[la.length- 1]∈la.drop B1:=by refine List.mem_iff_getElem.mpr ⟨la.length- 1- B1,by simp;omega,?_⟩;rw[List.getElem_drop];congr 1;omega
   rw[show lt lb[0] la[la.length- 1]=true from lf _ this] at h0;have:=of_decide_eq_true h0.symm;omega
  rw[if_neg (by simp;omega)];have H2:∀x∈la,∀y∈lb.drop B2,Rl lt x y:=λ x hx y hy=>by
   obtain ⟨i,hi,e⟩:=List.mem_iff_getElem.mp hy;rw[List.getElem_drop] at e;rw[List.length_drop] at hi;have:=afE (B2+i) (by omega);have ny:=hD2 y (List.mem_of_mem_drop hy);have c:Rl lt la[la.length- 1] y:=by show lt _ _=true;rw[O.tot _ _ kn2 ny.1 (Ne.symm ny.2), <-e,this];simp
   rcases ula x hx with rfl|h
   ·exact c
   ·exact T.tr O x _ y (by simp[hx]) (by simp) (by simp[List.mem_of_mem_drop hy]) h c
  have H3:∀y∈lb.take B2,Rl lt y la[la.length- 1]:=λ y hy=>by obtain ⟨i,hi,e⟩:=List.mem_iff_getElem.mp hy;rw[List.getElem_take] at e;rw[List.length_take] at hi;show lt _ _=true;rw[<-e,afE i (by omega)];simp;omega
  have T':zK lt n (la.drop B1) (lb.take B2):=by have sub:(la.drop B1++lb.take B2).Sublist (la++lb):=List.Sublist.append (List.drop_sublist _ _) (List.take_sublist _ _);exact ⟨λ x hx=>T.hn x (sub.subset hx),T.nd.sublist sub,T.ua.sublist (List.drop_sublist _ _),T.ub.sublist (List.take_sublist _ _)⟩
  have hl:∀y∈lb.take B2,∀(h:la.drop B1≠[]),Rl lt y ((la.drop B1).getLast h):=λ y hy h=>by rw[List.getLast_drop,List.getLast_eq_getElem];exact H3 y hy
  have n1:0<(la.drop B1).length:=by simp;omega
  have n2:0<(lb.take B2).length:=by simp;omega
  have ex1:(aT it (pre++(la++lb)++post)).extract (pre.length+B1) (pre.length+la.length)=aT it (la.drop B1):=by
   have:=ext3 (it:=it) (X:=pre++la.take B1) (Y:=la.drop B1) (Z:=lb++post);have e:pre++la.take B1++la.drop B1++(lb++post)=pre++(la++lb)++post:=by simp only[List.append_assoc];rw[<-List.append_assoc (la.take B1),List.take_append_drop]
   rw[e] at this;rw[<-this];congr 1<;>simp<;>omega
  have ex2:(aT it (pre++(la++lb)++post)).extract (pre.length+la.length) (pre.length+la.length+B2)=aT it (lb.take B2):=by
   have:=ext3 (it:=it) (X:=pre++la) (Y:=lb.take B2) (Z:=lb.drop B2++post);have e:pre++la++lb.take B2++(lb.drop B2++post)=pre++(la++lb)++post:=by simp only[List.append_assoc];rw[<-List.append_assoc (lb.take B2),List.take_append_drop]
   rw[e] at this;rw[<-this];congr 1<;>simp;omega
  have ew:pre++(la++lb)++post=(pre++la.take B1)++(la.drop B1++lb.take B2)++(lb.drop B2++post):=by simp only[List.append_assoc];rw[<-List.append_assoc (lb.take B2),List.take_append_drop, <-List.append_assoc (la.take B1),List.take_append_drop]
  have done:∀(m:Array Keyed) (g:Nat),Good lt it (la.drop B1) (lb.take B2) m->wpS (model prog w) A E s (aaf (pre.length+B1) m) Q (fZ κ (aT it (pre++(la++lb)++post)) (l1++(pre.length,la.length+lb.length,pw)::l2).toArray g):=by
   rintro m g ⟨lm,rfl,pm,um⟩
   rw[ew];refine anr (by simp;omega) (by rw[pm.length_eq]) ?_;have:=q (la.take B1++(lm++lb.drop B2)) g ?_ ?_
   ·simpa only[List.append_assoc] using this
   ·have p1:(la.take B1++(lm++lb.drop B2)).Perm (la.take B1++((la.drop B1++lb.take B2)++lb.drop B2)):=List.Perm.append_left _ (List.Perm.append_right _ pm);refine p1.trans (List.Perm.of_eq ?_);simp only[List.append_assoc,List.take_append_drop];rw[<-List.append_assoc,List.take_append_drop]
   ·have ua:=List.pairwise_append.mp (by rw[List.take_append_drop];exact T.ua:(la.take B1++la.drop B1).Pairwise (Rl lt));have ub:=List.pairwise_append.mp (by rw[List.take_append_drop];exact T.ub:(lb.take B2++lb.drop B2).Pairwise (Rl lt));refine List.pairwise_append.mpr ⟨ua.1,List.pairwise_append.mpr ⟨um,ub.2.1,λ x hx y hy=>?_⟩,λ x hx y hy=>?_⟩
    ·rcases List.mem_append.mp (pm.mem_iff.mp hx) with h|h
     ·exact H2 x (List.mem_of_mem_drop h) y hy
     ·exact ub.2.2 x h y hy
    ·rcases List.mem_append.mp hy with h|h
     ·rcases List.mem_append.mp (pm.mem_iff.mp h) with h|h
      ·exact ua.2.2 x hx y h
      ·exact H1 x hx y (List.mem_of_mem_take h)
     ·exact H1 x hx y (List.mem_of_mem_drop h)
  rw[ex1,ex2];have f0:Rl lt ((lb.take B2)[0]'n2) ((la.drop B1)[0]'n1):=by rw[List.getElem_take];exact lf _ (List.getElem_mem _)
  split
  ·refine wpS_bind (wpS_mono (aqU O hc T' hl n1 n2 f0) ?_)
   rintro m st ⟨⟨g,rfl⟩,gd⟩
   exact done m g gd
  ·refine wpS_bind (wpS_mono (aqW O hc T' hl n1 n2 (λ h x hx=>by rw[List.getElem_take];exact lf x hx)) ?_)
   rintro m st ⟨⟨g,rfl⟩,gd⟩
   exact done m g gd
def afM(lo:Nat)(_:Nat)(s:Option (Option Nat)×Nat):SS (ForInStep (Option (Option Nat)×Nat)):=do
 let x <-ltAt' (lo+s.2) (lo+s.2- 1)
 match x with
 |some sm=>if sm=true then pure (ForInStep.done (none,s.2)) else pure (ForInStep.yield (none,s.2+1))
 |_=>pure (ForInStep.done (some none,s.2))
def Ox(lo nrem n:Nat):SS (Option Nat):=do
 reverseSlice' lo (lo+n)
 let s <-forIn [n:nrem] ((none:Option (Option Nat)),n) (afM lo)
 match s.1 with
 |some r=>pure r
 |none=>pure (some s.2)
noncomputable abbrev DS:=Option (Option Nat)×Nat×Nat
def agw(lo:Nat)(_:Nat)(s:DS):SS (ForInStep DS):=do
 let x <-ltAt' (lo+s.2.1) (lo+s.2.1- 1)
 match x with
 |some smaller=>
  if smaller=true then
   if s.2.2>0 then do
    reverseSlice' (lo+s.2.1-(s.2.2+1)) (lo+s.2.1)
    pure (ForInStep.yield (none,s.2.1+1,0))
   else pure (ForInStep.yield (none,s.2.1+1,0))
  else do
   let x <-ltAt' (lo+s.2.1- 1) (lo+s.2.1)
   match x with
   |some aiG=>if aiG=true then pure (ForInStep.done (none,s.2.1,s.2.2)) else pure (ForInStep.yield (none,s.2.1+1,s.2.2+1))
   |_=>pure (ForInStep.done (some none,s.2.1,s.2.2))
 |_=>pure (ForInStep.done (some none,s.2.1,s.2.2))
def Oz(lo nrem n:Nat):SS (Option Nat):=do
 liftM (rule "list.sort.descending-run")
 let s <-forIn [n+1:nrem] ((none,n+1,0):DS) (agw lo)
 match s.1 with
 |some r=>pure r
 |none=>
  if s.2.2>0 then do
   reverseSlice' (lo+s.2.1-(s.2.2+1)) (lo+s.2.1)
   Ox lo nrem s.2.1
  else Ox lo nrem s.2.1
def abv(lo nrem:Nat):SS (Option Nat):=do
 let s <-forIn [1:nrem] ((none:Option (Option Nat)),1) (afM lo)
 match s.1 with
 |some r=>pure r
 |none=>
  if (s.2==nrem)=true then pure (some s.2)
  else if s.2>1 then do
   let x <-ltAt' lo (lo+s.2- 1)
   match x with
   |some apB=>if apB=true then pure (some s.2) else do
     reverseSlice' lo (lo+s.2)
     Oz lo nrem s.2
   |_=>pure none
  else Oz lo nrem s.2
def count_eq:countRun'=abv:=by kernel_rfl
def bsS(lo k:Nat)(_:Nat)(s:Option Bool×Nat×Nat):SS (ForInStep (Option Bool×Nat×Nat)):=
 if s.2.1>=s.2.2 then pure (ForInStep.done (none,s.2.1,s.2.2))
 else do
  let x <-ltAt' (lo+k) (lo+(s.2.1+s.2.2)/ 2)
  match x with
  |some less=>if less=true then pure (ForInStep.yield (none,s.2.1,(s.2.1+s.2.2)/ 2)) else pure (ForInStep.yield (none,(s.2.1+s.2.2)/ 2+1,s.2.2))
  |_=>pure (ForInStep.done (some false,s.2.1,s.2.2))
def bsB(lo:Nat)(k:Nat)(_:Option Bool×Unit):SS (ForInStep (Option Bool×Unit)):=do
 let t <-forIn [:k] ((none:Option Bool),0,k) (bsS lo k)
 match t.1 with
 |some r=>pure (ForInStep.done (some r,()))
 |none=>do
  moveDown' (lo+k) (lo+t.2.1)
  pure (ForInStep.yield (none,()))
def bsX(lo n ok:Nat):SS Bool:=do
 let s <-forIn [max ok 1:n] ((none:Option Bool),()) (bsB lo)
 match s.1 with
 |some r=>pure r
 |none=>pure true
def amU:binarySort'=bsX:=by kernel_rfl
def aeQ:ltAt'=λ i j=>(get>>=λ st=>elem' (arrOf st) i>>=λ x=>elem' (arrOf st) j>>=λ y=>lt' x y:SS (Option Bool)):=by kernel_rfl
structure Nd(n:Nat)(l:List Nat):Prop where
 hn:∀x∈l,x<n
 nd:l.Nodup
def Nd.perm{l m:List Nat}(h:Nd n l)(p:m.Perm l):Nd n m:=⟨λ x hx=>h.hn x (p.mem_iff.mp hx),p.nodup_iff.mpr h.nd⟩
def gD(l:List Nat)(d:Nat){i:Nat}(h:i<l.length):l.getD i d=l[i]:=by simp[List.getD_eq_getElem?_getD,h]
def mid{Z F R:List Nat}{c:Nat}(h:c<F.length):(Z++(F++R))[Z.length+c]? =F[c]? :=by rw[List.getElem?_append_right (by omega),Nat.add_sub_cancel_left,List.getElem?_append_left h]
def Nd.g{l:List Nat}(h:Nd n l){i:Nat}(hi:i<l.length):l.getD i 0<n:=by rw[gD _ _ hi];exact h.hn _ (List.getElem_mem hi)
def Nd.ne{l:List Nat}(h:Nd n l){i j:Nat}(hi:i<l.length)(hj:j<l.length)(ne:i≠j):l.getD i 0≠l.getD j 0:=by rw[gD _ _ hi,gD _ _ hj];intro e;exact ne ((List.getElem_inj h.nd).mp e)
def aav{X Y:List Nat}{i:Nat}(h:i<Y.length):(aT it (X++Y))[X.length+i]? =some (kas_item it (Y.getD i 0)):=by have:=at3 (it:=it) (X:=X) (Y:=Y) (Z:=[]) h;rw[List.append_nil] at this;rw[this,gD _ _ h]
def DM(hc:GY prog w A s κ it lt n){pre rest:List Nat}{pe:Array (Nat×Nat×Nat)}{mg i j a b:Nat}{Q:Option Bool->SortSt->Prop}(N:Nd n rest)(ei:a=pre.length+i)(ej:b=pre.length+j)(hi:i<rest.length)(hj:j<rest.length)(ne:i≠j)(q:Q (some (lt (rest.getD i 0) (rest.getD j 0))) (fZ κ (aT it (pre++rest)) pe mg)):
  wpS (model prog w) A E s (ltAt' a b) Q (fZ κ (aT it (pre++rest)) pe mg):=by
 subst ei ej;rw[aeQ];exact wpS_bind (wpS_get (wpS_bind (dH (aav hi) (wpS_bind (dH (aav hj) (V_lt hc (N.g hi) (N.g hj) (N.ne hi hj ne) q))))))
def FP(O:Ord lt n){l:List Nat}{m:Nat}(N:Nd n l)(hm:m<=l.length)(h:∀j,1<=j->j<m->lt (l.getD j 0) (l.getD (j- 1) 0)=false):(l.take m).Pairwise (Rl lt):=by
 have adj:∀k,k+1<m->lt (l.getD k 0) (l.getD (k+1) 0)=true:=λ k hk=>by have h1:=h (k+1) (by omega) hk;rw[O.tot _ _ (N.g (by omega)) (N.g (by omega)) (N.ne (by omega) (by omega) (by omega))];simpa using h1
 have all:∀d i,i+d+1<m->lt (l.getD i 0) (l.getD (i+d+1) 0)=true:=by
  intro d;induction d with
  |zero=>intro i hi;exact adj i hi
  |succ d ih=>intro i hi;exact O.tr _ _ _ (N.g (by omega)) (N.g (by omega:i+d+1<l.length)) (N.g (by omega)) (ih i (by omega)) (adj (i+d+1) (by omega))
 rw[List.pairwise_iff_getElem];intro i j hi hj hij;rw[List.length_take] at hi hj;have:=all (j- i- 1) i (by omega);rw[show i+(j- i- 1)+1=j by omega] at this;rw[List.getElem_take,List.getElem_take];rwa [gD _ _ (by omega),gD _ _ (by omega)] at this
def aha(hc:GY prog w A s κ it lt n){pre rest:List Nat}{pe:Array (Nat×Nat×Nat)}{mg lo nrem a:Nat}{Q:Option (Option Nat)×Nat->SortSt->Prop}(N:Nd n rest)(hlo:pre.length=lo)(hr:rest.length=nrem)(ha:1<=a)(han:a<=nrem)(h0:∀j,1<=j->j<a->lt (rest.getD j 0) (rest.getD (j- 1) 0)=false) (q:∀m,a<=m->m<=nrem->(∀j,1<=j->j<m->lt (rest.getD j 0) (rest.getD (j- 1) 0)=false)->(m<nrem->lt (rest.getD m 0) (rest.getD (m- 1) 0)=true)->Q (none,m) (fZ κ (aT it (pre++rest)) pe mg)):
  wpS (model prog w) A E s (forIn [a:nrem] ((none:Option (Option Nat)),a) (afM lo)) Q (fZ κ (aT it (pre++rest)) pe mg):=by
 refine wpS_forRange (λ i c st=>st=fZ κ (aT it (pre++rest)) pe mg/\c=(none,i)/\∀j,1<=j->j<i->lt (rest.getD j 0) (rest.getD (j- 1) 0)=false) ?_ ?_ ⟨rfl,rfl,h0⟩
 ·rintro i c st hai hi ⟨rfl,rfl,h⟩
  unfold afM;dsimp only;refine wpS_bind (DM hc N (i:=i) (j:=i- 1) (by omega) (by omega) (by omega) (by omega) (by omega) ?_);cases e:lt (rest.getD i 0) (rest.getD (i- 1) 0) with
  |true=>simp only[if_true];exact wpS_pure (q i hai (by omega) h λ _=>e)
  |false=>
   simp only[Bool.false_eq_true,if_false];refine wpS_pure ⟨rfl,rfl,λ j j1 j2=>?_⟩;by_cases z:j=i
   ·subst z;exact e
   ·exact h j j1 (by omega)
 ·rintro c st ⟨rfl,rfl,h⟩
  rw[Nat.max_eq_right han] at*;exact q nrem han (Nat.le_refl _) h λ h=>absurd h (Nat.lt_irrefl _)
def Ww{Z F R:List Nat}{i j:Nat}(hi:i=Z.length)(hj:j=Z.length+F.length):mirror (aT it (Z++F++R)) i j ((j- i)/ 2)=aT it (Z++F.reverse++R):=by
 apply Array.ext_getElem?;intro k;rw[getElem?_mirror_all (by rw[cB];simp;omega) k];simp only[aT,List.getElem?_toArray,List.getElem?_map];subst hi hj;split
 ·rename_i h;obtain ⟨d,rfl⟩:∃d,k=Z.length+d:=⟨k- Z.length,by omega⟩;congr 1;rw[List.append_assoc,List.append_assoc,show Z.length+(Z.length+F.length) - 1-(Z.length+d)=Z.length+(F.length- 1- d) by omega,mid (by omega),mid (by simp;omega),List.getElem?_reverse (by omega)]
 ·rename_i h;congr 1;by_cases c:k<Z.length
  ·rw[List.append_assoc,List.append_assoc,List.getElem?_append_left c,List.getElem?_append_left c]
  ·rw[List.getElem?_append_right (by simp;omega),List.getElem?_append_right (by simp;omega)];simp
def X3{Z F R:List Nat}{x i d:Nat}(hi:i=Z.length+F.length)(hd:d=F.length):bubble (aT it (Z++(F++x::R))) i d=aT it (Z++(x::F++R)):=by
 apply Array.ext_getElem?;intro k;rw[getElem?_bubble (by rw[cB];simp;omega) d (by omega) k];simp only[aT,List.getElem?_toArray,List.getElem?_map];subst hi hd;rw[Nat.add_sub_cancel];split
 ·rename_i h;subst h;congr 1;have l1:(Z++(F++x::R))[Z.length+F.length]? =some x:=by rw[List.getElem?_append_right (by omega),List.getElem?_append_right (by omega)];simp
  have l2:(Z++(x::F++R))[Z.length]? =some x:=by rw[List.getElem?_append_right (by omega)];simp
  rw[l1,l2]
 ·split
  ·rename_i h;obtain ⟨c,rfl⟩:∃c,k=Z.length+(c+1):=⟨k- Z.length- 1,by omega⟩;congr 1;rw[show Z.length+(c+1) - 1=Z.length+c by omega,mid (by omega),mid (by simp;omega),List.getElem?_cons_succ]
  ·congr 1;by_cases c:k<Z.length
   ·rw[List.getElem?_append_left c,List.getElem?_append_left c]
   ·obtain ⟨e,rfl⟩:∃e,k=Z.length+(F.length+1+e):=⟨k- Z.length- F.length- 1,by omega⟩;have l1:(Z++(F++x::R))[Z.length+(F.length+1+e)]? =R[e]? :=by rw[List.getElem?_append_right (by omega),List.getElem?_append_right (by omega),show Z.length+(F.length+1+e) - Z.length- F.length=e+1 by omega,List.getElem?_cons_succ]
    have l2:(Z++(x::F++R))[Z.length+(F.length+1+e)]? =R[e]? :=by rw[List.getElem?_append_right (by omega),List.getElem?_append_right (by simp)];congr 1;simp
    rw[l1,l2]
def anp{Z F R:List Nat}{pe:Array (Nat×Nat×Nat)}{mg i j:Nat}{Q:Unit->SortSt->Prop}(hi:i=Z.length)(hj:j=Z.length+F.length)(q:Q () (fZ κ (aT it (Z++F.reverse++R)) pe mg)):
  wpS (model prog w) A E s (reverseSlice' i j) Q (fZ κ (aT it (Z++F++R)) pe mg):=by
 refine wpS_reverse ?_;show Q () (fZ κ (mirror (aT it (Z++F++R)) i j ((j- i)/ 2)) pe mg);rw[Ww hi hj];exact q
def ajG{Z F R:List Nat}{x:Nat}{pe:Array (Nat×Nat×Nat)}{mg i j:Nat}{Q:Unit->SortSt->Prop}(hi:i=Z.length+F.length)(hj:j=Z.length)(q:Q () (fZ κ (aT it (Z++(x::F++R))) pe mg)):
  wpS (model prog w) A E s (moveDown' i j) Q (fZ κ (aT it (Z++(F++x::R))) pe mg):=by
 rw[moveDown'_eq];refine wpS_modify ?_;show Q () (fZ κ (bubble (aT it (Z++(F++x::R))) i (i- j)) pe mg);rw[X3 hi (by omega)];exact q
def afS(O:Ord lt n)(hc:GY prog w A s κ it lt n){pre rest:List Nat}{pe:Array (Nat×Nat×Nat)}{mg lo nrem:Nat}{Q:Option Nat->SortSt->Prop}(N:Nd n rest)(hlo:pre.length=lo)(hr:rest.length=nrem)(h1:1<=nrem) (q:∀m rest',rest'.Perm rest->1<=m->m<=nrem->(rest'.take m).Pairwise (Rl lt)->Q (some m) (fZ κ (aT it (pre++rest')) pe mg)):
  wpS (model prog w) A E s (countRun' lo nrem) Q (fZ κ (aT it (pre++rest)) pe mg):=by
 rw[count_eq];unfold abv;refine wpS_bind (aha hc N hlo hr (Nat.le_refl _) h1 (λ j a b=>by omega) λ m m1 m2 hm hd=>?_);dsimp only;have up:=FP O N (by omega:m<=rest.length) hm;by_cases e:m=nrem
 ·rw[if_pos (by simpa using e)];exact wpS_pure (q m rest (List.Perm.refl _) m1 m2 up)
 ·rw[if_neg (by simpa using e)];by_cases e1:m>1
  ·rw[if_pos e1];have rise:lt (rest.getD 0 0) (rest.getD (m- 1) 0)=true:=by have:=(List.pairwise_iff_getElem.mp up) 0 (m- 1) (by simp;omega) (by simp;omega) (by omega);rw[List.getElem_take,List.getElem_take] at this;rw[gD _ _ (by omega),gD _ _ (by omega)];exact this
   refine wpS_bind (DM hc N (i:=0) (j:=m- 1) (by omega) (by omega) (by omega) (by omega) (by omega) ?_);rw[rise];simp only[if_true];exact wpS_pure (q m rest (List.Perm.refl _) m1 m2 up)
  ·rw[if_neg e1];have e1:m=1:=by omega
   subst e1;unfold Oz;refine wpS_bind (zJ (wpS_bind ?_));refine wpS_mono (Q:=λ c st=>st=fZ κ (aT it (pre++rest)) pe mg/\∃m,c=(none,m,0)/\2<=m/\m<=nrem/\∀j,1<=j->j<m->lt (rest.getD j 0) (rest.getD (j- 1) 0)=true) (wpS_forRange (λ i c st=>st=fZ κ (aT it (pre++rest)) pe mg/\c=(none,i,0)/\∀j,1<=j->j<i->lt (rest.getD j 0) (rest.getD (j- 1) 0)=true) ?_ ?_ ⟨rfl,rfl,λ j j1 j2=>?_⟩) ?_
   ·rintro i c st hai hi ⟨rfl,rfl,h⟩
    unfold agw;dsimp only;refine wpS_bind (DM hc N (i:=i) (j:=i- 1) (by omega) (by omega) (by omega) (by omega) (by omega) ?_);cases e:lt (rest.getD i 0) (rest.getD (i- 1) 0) with
    |true=>
     simp only[if_true,gt_iff_lt,Nat.lt_irrefl,if_false];refine wpS_pure ⟨rfl,rfl,λ j j1 j2=>?_⟩;by_cases z:j=i
     ·subst z;exact e
     ·exact h j j1 (by omega)
    |false=>
     simp only[Bool.false_eq_true,if_false];refine wpS_bind (DM hc N (i:=i- 1) (j:=i) (by omega) (by omega) (by omega) (by omega) (by omega) ?_);have:lt (rest.getD (i- 1) 0) (rest.getD i 0)=true:=by rw[O.tot _ _ (N.g (by omega)) (N.g (by omega)) (N.ne (by omega) (by omega) (by omega)),e];rfl
     rw[this];simp only[if_true];exact wpS_pure ⟨rfl,i,rfl,hai,by omega,h⟩
   ·rintro c st ⟨rfl,rfl,h⟩
    rw[Nat.max_eq_right (by omega)] at*;exact ⟨rfl,nrem,rfl,by omega,Nat.le_refl _,h⟩
   ·have:j=1:=by omega
    subst this;exact hd (by omega)
   ·rintro c st ⟨rfl,m,rfl,hm1,hm2,hds⟩
    simp only[gt_iff_lt,Nat.lt_irrefl,if_false];unfold Ox;have e:pre++rest=pre++rest.take m++rest.drop m:=by rw[List.append_assoc,List.take_append_drop]
    rw[e];refine wpS_bind (anp hlo.symm (by simp;omega) ?_);rw[List.append_assoc];have p':((rest.take m).reverse++rest.drop m).Perm rest:=by have:=(List.Perm.append_right (rest.drop m) (List.reverse_perm (rest.take m)));rwa [List.take_append_drop] at this
    have N':=N.perm p';have lr:((rest.take m).reverse++rest.drop m).length=nrem:=by rw[p'.length_eq,hr]
    refine wpS_bind (aha hc N' hlo lr (by omega) hm2 ?_ λ m' h1 h2 h3 _=>?_)
    ·intro j j1 j2;have g1:∀i,i<m->((rest.take m).reverse++rest.drop m).getD i 0=rest.getD (m- 1- i) 0:=λ i hi=>by rw[List.getD_eq_getElem?_getD,List.getElem?_append_left (by simp;omega),List.getElem?_reverse (by simp;omega),List.length_take,Nat.min_eq_left (by omega),List.getElem?_take_of_lt (by omega),List.getD_eq_getElem?_getD]
     rw[g1 j j2,g1 (j- 1) (by omega)];have:=hds (m- 1-(j- 1)) (by omega) (by omega);rw[show m- 1-(j- 1) - 1=m- 1- j by omega] at this;rw[O.tot _ _ (N.g (by omega)) (N.g (by omega)) (N.ne (by omega) (by omega) (by omega)),this];rfl
    ·exact wpS_pure (q m' _ p' (by omega) h2 (FP O N' (by omega) h3))
def ant(O:Ord lt n)(hc:GY prog w A s κ it lt n){pre rest:List Nat}{pe:Array (Nat×Nat×Nat)}{mg lo m ok:Nat}{Q:Bool->SortSt->Prop}(N:Nd n rest)(hlo:pre.length=lo)(hm:m<=rest.length)(h1:1<=ok)(hok:ok<=m)(up:(rest.take ok).Pairwise (Rl lt)) (q:∀rest',rest'.Perm rest->(rest'.take m).Pairwise (Rl lt)->Q true (fZ κ (aT it (pre++rest')) pe mg)):
  wpS (model prog w) A E s (binarySort' lo m ok) Q (fZ κ (aT it (pre++rest)) pe mg):=by
 rw[amU];unfold bsX;rw[show max ok 1=ok by omega];refine wpS_bind (wpS_forRange (λ k c st=>c=(none,())/\∃l,st=fZ κ (aT it (pre++l)) pe mg/\l.Perm rest/\(l.take k).Pairwise (Rl lt)) ?_ ?_ ⟨rfl,rest,rfl,List.Perm.refl _,up⟩)
 ·rintro k c st hk1 hk2 ⟨rfl,l,rfl,pl,ul⟩
  have Nl:=N.perm pl;have ll:=pl.length_eq;have hk:k<l.length:=by omega
  unfold bsB;have kx:=Nl.g hk;have hD:∀x∈l.take k,x<n/\x≠l.getD k 0:=λ x hx=>by obtain ⟨i,hi,e⟩:=List.mem_iff_getElem.mp hx;rw[List.getElem_take] at e;rw[List.length_take] at hi;refine ⟨Nl.hn x (List.mem_of_mem_take hx),?_⟩;rw[<-e, <-gD l 0 (by omega)];exact Nl.ne (by omega) hk (by omega)
  obtain ⟨B,hB,cut⟩:=vZ O kx (l.take k) hD ul;rw[List.length_take,Nat.min_eq_left (by omega)] at hB;have amM:∀i,i<k->lt (l.getD k 0) (l.getD i 0)=!decide (i<B):=λ i hi=>by have:=cut i (by simp;omega);rw[List.getElem_take, <-gD l 0 (by omega)] at this;rw[O.tot _ _ kx (Nl.g (by omega)) (Nl.ne hk (by omega) (by omega)),this]
  refine wpS_bind (wpS_mono (Q:=λ c st=>st=fZ κ (aT it (pre++l)) pe mg/\c.1=none/\c.2.1=B) (wpS_forRange (λ i c st=>st=fZ κ (aT it (pre++l)) pe mg/\c.1=none/\c.2.1<=B/\B<=c.2.2/\c.2.2<=k/\(c.2.2- c.2.1)+i<=k) ?_ ?_ ⟨rfl,rfl,by simp,by simpa using hB,by simp,by simp⟩) ?_)
  ·rintro i ⟨c1,c2,c3⟩ st _ hi ⟨rfl,h1,h2,h3,h4,h5⟩
   simp only at h1 h2 h3 h4 h5;subst h1;unfold bsS;dsimp only;by_cases e:c2>=c3
   ·rw[if_pos e];exact wpS_pure ⟨rfl,rfl,by dsimp only;omega⟩
   ·rw[if_neg e];refine wpS_bind (DM hc Nl (i:=k) (j:=(c2+c3)/ 2) (by omega) (by omega) hk (by omega) (by omega) ?_);rw[amM _ (by omega)];by_cases z:(c2+c3)/ 2<B
    ·simp only[z,decide_true,Bool.not_true,Bool.false_eq_true,if_false];exact wpS_pure ⟨rfl,rfl,by dsimp only;omega,h3,h4,by dsimp only;omega⟩
    ·simp only[z,decide_false,Bool.not_false,if_true];exact wpS_pure ⟨rfl,rfl,h2,by dsimp only;omega,by dsimp only;omega,by dsimp only;omega⟩
  ·rintro ⟨c1,c2,c3⟩ st ⟨rfl,h1,h2,h3,h4,h5⟩
   simp only at h1 h2 h3 h4 h5;have:=Nat.le_max_right 0 k;exact ⟨rfl,h1,by dsimp only;omega⟩
  ·rintro ⟨c1,c2,c3⟩ st ⟨rfl,h1,h2⟩
   simp only at h1 h2;subst h1 h2;dsimp only;have e:pre++l=(pre++l.take c2)++((l.take k).drop c2++l.getD k 0::l.drop (k+1)):=by
    have e1:l.getD k 0::l.drop (k+1)=l.drop k:=by rw[gD _ _ hk];exact (List.drop_eq_getElem_cons hk).symm
    rw[e1,List.append_assoc];congr 1;have e2:l.take c2++(l.take k).drop c2=l.take k:=by have:=List.take_append_drop c2 (l.take k);rwa [List.take_take,Nat.min_eq_left hB] at this
    rw[<-List.append_assoc,e2,List.take_append_drop]
   rw[e];refine wpS_bind (ajG (by simp;omega) (by simp;omega) (wpS_pure ⟨rfl,l.take c2++(l.getD k 0::(l.take k).drop c2++l.drop (k+1)),by simp[List.append_assoc],?_,?_⟩))
   ·have:(pre++l).Perm (pre++(l.take c2++(l.getD k 0::(l.take k).drop c2++l.drop (k+1)))):=by rw[e,List.append_assoc];refine List.Perm.append_left _ (List.Perm.append_left _ ?_);rw[List.cons_append];exact List.perm_middle
    exact ((List.perm_append_left_iff pre).mp this).symm.trans pl
   ·have e3:(l.take c2++(l.getD k 0::(l.take k).drop c2++l.drop (k+1))).take (k+1)=l.take c2++(l.getD k 0::(l.take k).drop c2):=by rw[<-List.append_assoc,List.take_append_of_le_length (by simp;omega)];exact List.take_of_length_le (by simp;omega)
    rw[e3];have e2:l.take c2++(l.take k).drop c2=l.take k:=by have:=List.take_append_drop c2 (l.take k);rwa [List.take_take,Nat.min_eq_left hB] at this
    have ul':=ul;rw[<-e2] at ul';have uu:=List.pairwise_append.mp ul';refine List.pairwise_append.mpr ⟨uu.1,List.pairwise_cons.mpr ⟨λ y hy=>?_,uu.2.1⟩,λ x hx y hy=>?_⟩
    ·obtain ⟨i,hi,e⟩:=List.mem_iff_getElem.mp hy;rw[List.getElem_drop,List.getElem_take] at e;rw[List.length_drop,List.length_take] at hi;have:=amM (c2+i) (by omega);rw[gD l 0 (by omega:c2+i<l.length),e] at this;show lt _ _=true;rw[this];simp
    ·rcases List.mem_cons.mp hy with rfl|hy
     ·obtain ⟨i,hi,e⟩:=List.mem_iff_getElem.mp hx;rw[List.getElem_take] at e;rw[List.length_take] at hi;have:=cut i (by simp;omega);rw[List.getElem_take,e] at this;show lt _ _=true;rw[this];simp;omega
     ·exact uu.2.2 x hx y hy
 ·rintro c st ⟨rfl,l,rfl,pl,ul⟩
  rw[Nat.max_eq_right hok] at ul;exact wpS_pure (q l pl ul)
def BR(lo n:Nat):SS (ForInStep (Option Unit×Nat)):=do
 modify λ s=>setPending s ((pendingOf s).push (lo,n,0))
 pure (ForInStep.yield (none,lo+n))
def af4(pw:Nat)(_:Nat)(_:Option Unit×Unit):SS (ForInStep (Option Unit×Unit)):=do
 let st <-get
 match if (pendingOf st).size>1 then (pendingOf st)[(pendingOf st).size- 2]? else none with
 |some (_,_,older)=>
  if older<=pw then pure (ForInStep.done (none,()))
  else do
   let b <-mergeAt' ((pendingOf st).size- 2)
   if (!b)=true then pure (ForInStep.done (some (),()))
   else pure (ForInStep.yield (none,()))
 |_=>pure (ForInStep.done (none,()))
def YT(size lo n:Nat):SS (ForInStep (Option Unit×Nat)):=do
 let st <-get
 match (pendingOf st).back? with
 |some (s1,n1,_)=>do
  let t <-forIn [:size] ((none:Option Unit),()) (af4 (power' size (2*s1+n1) (2*s1+n1+n1+n) size))
  match t.1 with
  |some r=>pure (ForInStep.done (some r,lo))
  |none=>do
   modify λ s=>setPending s ((pendingOf s).modify ((pendingOf s).size- 1) λ x=>match x with|(st,len,_)=>(st,len,power' size (2*s1+n1) (2*s1+n1+n1+n) size))
   BR lo n
 |_=>BR lo n
def YU(size Nq:Nat)(_:Nat)(s:Option Unit×Nat):SS (ForInStep (Option Unit×Nat)):=
 if s.2>=size then pure (ForInStep.done (none,s.2))
 else do
  let x <-countRun' s.2 (size- s.2)
  match x with
  |some n=>
   if n<Nq then do
    liftM (rule "list.sort.binary-insertion")
    let b <-binarySort' s.2 (min (size- s.2) Nq) n
    if (!b)=true then pure (ForInStep.done (some (),s.2))
    else YT size s.2 (min (size- s.2) Nq)
   else YT size s.2 n
  |_=>pure (ForInStep.done (some (),s.2))
def af3(_:Nat)(_:Option Unit×Unit):SS (ForInStep (Option Unit×Unit)):=do
 let st <-get
 if (pendingOf st).size<=1 then pure (ForInStep.done (none,()))
 else do
  let b <-mergeAt' (if Option.any (λ x=>decide (x<(pendingOf st)[(pendingOf st).size- 2+1]?.elim 0 λ x=>x.2.1)) (if (pendingOf st).size- 2>0 then Option.map (λ x=>x.2.1) (pendingOf st)[(pendingOf st).size- 2- 1]? else none)=true then (pendingOf st).size- 2- 1 else (pendingOf st).size- 2)
  if (!b)=true then pure (ForInStep.done (some (),()))
  else pure (ForInStep.yield (none,()))
def srX:SS Unit:=do
 let st <-get
 let t <-forIn [:(arrOf st).size] ((none:Option Unit),0) (YU (arrOf st).size (minRun' (arrOf st).size (arrOf st).size 0))
 match t.1 with
 |some r=>pure r
 |none=>do
  let u <-forIn [:(arrOf st).size] ((none:Option Unit),()) af3
  match u.1 with
  |some r=>pure r
  |none=>pure ()
def ak9:sortRuns'=srX:=by rw[sortRuns'_eq];kernel_rfl
def PR(lt:Nat->Nat->Bool):List (Nat×Nat×Nat)->Nat->List (List Nat)->Prop
 |[],_,[]=>True
 |(a,k,_)::t,b,r::rs=>a=b/\k=r.length/\0<r.length/\r.Pairwise (Rl lt)/\PR lt t (b+r.length) rs
 |_,_,_=>False
def PR.split:∀{t1 t2:List (Nat×Nat×Nat)} {a:Nat} {rs:List (List Nat)},PR lt (t1++t2) a rs->∃r1 r2,rs=r1++r2/\PR lt t1 a r1/\PR lt t2 (a+r1.flatten.length) r2
 |[],t2,a,rs,h=>⟨[],rs,rfl,trivial,by simpa using h⟩
 |(x,k,z)::t1,t2,a,[],h=>(nomatch h)
 |(x,k,z)::t1,t2,a,r::rs,⟨h1,h2,h3,h4,h5⟩=>by obtain ⟨r1,r2,e,p1,p2⟩:=PR.split h5;exact ⟨r::r1,r2,by rw[e];rfl,⟨h1,h2,h3,h4,p1⟩,by simpa[Nat.add_assoc] using p2⟩
def PR.join:∀{t1 t2:List (Nat×Nat×Nat)} {a:Nat} {r1 r2:List (List Nat)},PR lt t1 a r1->PR lt t2 (a+r1.flatten.length) r2->PR lt (t1++t2) a (r1++r2)
 |[],t2,a,[],r2,_,h=>by simpa using h
 |[],t2,a,_::_,r2,h,_=>(nomatch h)
 |(x,k,z)::t1,t2,a,[],r2,h,_=>(nomatch h)
 |(x,k,z)::t1,t2,a,r::r1,r2,⟨h1,h2,h3,h4,h5⟩,h=>⟨h1,h2,h3,h4,PR.join h5 (by simpa[Nat.add_assoc] using h)⟩
def PR.pw:∀{t:List (Nat×Nat×Nat)} {a:Nat} {rs:List (List Nat)} {i:Nat} {pw:Nat},PR lt t a rs->PR lt (t.modify i λ x=>match x with|(st,len,_)=>(st,len,pw)) a rs
 |[],_,[],i,_,h=>by simpa using h
 |[],_,_::_,i,_,h=>(nomatch h)
 |(x,k,z)::t,a,[],i,_,h=>(nomatch h)
 |(x,k,z)::t,a,r::rs,0,pw,⟨h1,h2,h3,h4,h5⟩=>by rw[List.modify_zero_cons];exact ⟨h1,h2,h3,h4,h5⟩
 |(x,k,z)::t,a,r::rs,i+1,pw,⟨h1,h2,h3,h4,h5⟩=>by rw[List.modify_succ_cons];exact ⟨h1,h2,h3,h4,PR.pw h5⟩
def PR.len:∀{t:List (Nat×Nat×Nat)} {a:Nat} {rs:List (List Nat)},PR lt t a rs->t.length=rs.length/\t.length<=rs.flatten.length
 |[],_,[],_=>by simp
 |[],_,_::_,h=>(nomatch h)
 |(x,k,z)::t,a,[],h=>(nomatch h)
 |(x,k,z)::t,a,r::rs,⟨h1,h2,h3,h4,h5⟩=>by have:=PR.len h5;simp only[List.length_cons,List.flatten_cons,List.length_append];omega
structure RI(lt:Nat->Nat->Bool)(it:Array Keyed)(κ:SortKind)(n:Nat)(rs:List (List Nat))(rest:List Nat)(pe:Array (Nat×Nat×Nat)):Prop where
 pr:PR lt pe.toList 0 rs
 pm:(rs.flatten++rest).Perm (List.range n)
def RI.nd{rs:List (List Nat)}{rest:List Nat}{pe:Array (Nat×Nat×Nat)}(h:RI lt it κ n rs rest pe):Nd n (rs.flatten++rest):=⟨λ x hx=>by simpa using h.pm.mem_iff.mp hx,h.pm.nodup_iff.mpr List.nodup_range⟩
def ag9(O:Ord lt n)(hc:GY prog w A s κ it lt n){rs:List (List Nat)}{rest:List Nat}{pe:Array (Nat×Nat×Nat)}{mg i:Nat}(h:RI lt it κ n rs rest pe)(hi:i+1<pe.size){Q:Bool->SortSt->Prop} (q:∀rs' rF g,RI lt it κ n rs' rest rF->rs'.flatten.length=rs.flatten.length->rF.size+1=pe.size->Q true (fZ κ (aT it (rs'.flatten++rest)) rF g)):
  wpS (model prog w) A E s (mergeAt' i) Q (fZ κ (aT it (rs.flatten++rest)) pe mg):=by
 have hp:=h.pr;obtain ⟨x,y,l1,l2,e,el⟩:∃x y l1 l2,pe.toList=l1++x::y::l2/\l1.length=i:=by
  have hl:i+1<pe.toList.length:=by simpa using hi
  refine ⟨pe.toList[i],pe.toList[i+1],pe.toList.take i,pe.toList.drop (i+2),?_,by simp;omega⟩;rw[<-List.drop_eq_getElem_cons hl, <-List.drop_eq_getElem_cons (by omega),List.take_append_drop]
 obtain ⟨xa,xk,xp⟩:=x;obtain ⟨ya,yk,yp⟩:=y;rw[e] at hp;obtain ⟨r1,r2,er,p1,p2⟩:=PR.split hp;match r2,p2 with
 |[],p2=>exact (nomatch p2)
 |[_],p2=>exact absurd p2.2.2.2.2 (λ z=>(nomatch z))
 |la::lb::r2,⟨a1,a2,a3,a4,b1,b2,b3,b4,p3⟩=>
  subst a1 a2 b1 b2;subst er;have N:=h.nd;have T:zK lt n la lb:=by
   have sub:(la++lb).Sublist ((r1++la::lb::r2).flatten++rest):=by simp only[List.flatten_append,List.flatten_cons,List.append_assoc];exact (List.Sublist.trans (by rw[<-List.append_assoc];exact List.sublist_append_left _ _) (List.sublist_append_right _ _))
   exact ⟨λ x hx=>N.hn x (sub.subset hx),N.nd.sublist sub,a4,b4⟩
  have ew:(r1++la::lb::r2).flatten++rest=r1.flatten++(la++lb)++(r2.flatten++rest):=by simp[List.append_assoc]
  have epe:pe=(l1++(r1.flatten.length,la.length,xp)::(r1.flatten.length+la.length,lb.length,yp)::l2).toArray:=by apply Array.toList_inj.mp;rw[e];simp
  rw[ew,epe, <-el];refine V_at O hc T a3 b3 λ lm g pm um=>?_;have ll:lm.length=la.length+lb.length:=by rw[pm.length_eq,List.length_append]
  have:=q (r1++lm::r2) (l1++(r1.flatten.length,la.length+lb.length,xp)::l2).toArray g ⟨?_,?_⟩ ?_ ?_
  ·simpa[List.append_assoc] using this
  ·refine PR.join p1 ⟨by simp,ll.symm,by omega,um,?_⟩;rw[ll];simpa[Nat.add_assoc] using p3
  ·refine List.Perm.trans ?_ h.pm;rw[ew];simp only[List.flatten_append,List.flatten_cons,List.append_assoc];exact List.Perm.append_left _ (by rw[<-List.append_assoc la lb];exact List.Perm.append_right _ pm)
  ·simp only[List.flatten_append,List.flatten_cons,List.length_append];omega
  ·rw[epe];simp;omega
def ajF{rs:List (List Nat)}{run rest:List Nat}{pe:Array (Nat×Nat×Nat)}{mg lo k:Nat}(h:RI lt it κ n rs (run++rest) pe)(hlo:lo=rs.flatten.length)(hk:k=run.length)(h0:0<run.length)(u:run.Pairwise (Rl lt)){Q:ForInStep (Option Unit×Nat)->SortSt->Prop} (q:∀rF,RI lt it κ n (rs++[run]) rest rF->Q (.yield (none,lo+k)) (fZ κ (aT it ((rs++[run]).flatten++rest)) rF mg)):
  wpS (model prog w) A E s (BR lo k) Q (fZ κ (aT it (rs.flatten++(run++rest))) pe mg):=by
 unfold BR;refine wpS_bind (wpS_modify (wpS_pure ?_));have:=q (pe.push (lo,k,0)) ⟨?_,?_⟩
 ·simpa[List.append_assoc] using this
 ·rw[Array.toList_push];exact PR.join h.pr ⟨by simpa using hlo,hk,h0,u,trivial⟩
 ·simpa[List.append_assoc] using h.pm
def aqV(O:Ord lt n)(hc:GY prog w A s κ it lt n){rs:List (List Nat)}{run rest:List Nat}{pe:Array (Nat×Nat×Nat)}{mg size lo k:Nat}(h:RI lt it κ n rs (run++rest) pe)(hlo:lo=rs.flatten.length)(hk:k=run.length)(h0:0<run.length)(u:run.Pairwise (Rl lt)){Q:ForInStep (Option Unit×Nat)->SortSt->Prop} (q:∀rs' rF g,RI lt it κ n rs' rest rF->rs'.flatten.length=lo+k->Q (.yield (none,lo+k)) (fZ κ (aT it (rs'.flatten++rest)) rF g)):
  wpS (model prog w) A E s (YT size lo k) Q (fZ κ (aT it (rs.flatten++(run++rest))) pe mg):=by
 unfold YT;refine wpS_bind (wpS_get ?_);have fin:∀rs' rF g,RI lt it κ n rs' (run++rest) rF->rs'.flatten.length=lo->wpS (model prog w) A E s (BR lo k) Q (fZ κ (aT it (rs'.flatten++(run++rest))) rF g):=λ rs' rF g h' hl=>by refine ajF h' hl.symm hk h0 u λ asR h''=>q _ _ _ h'' ?_;simp[hl,hk]
 cases eb:pe.back? with
 |none=>exact fin rs pe mg h hlo.symm
 |some z=>
  obtain ⟨s1,n1,z3⟩:=z;dsimp only;generalize power' size (2*s1+n1) (2*s1+n1+n1+k) size=pw;refine wpS_bind (wpS_mono (Q:=λ c st=>c=(none,())/\∃rs' rF g,st=fZ κ (aT it (rs'.flatten++(run++rest))) rF g/\RI lt it κ n rs' (run++rest) rF/\rs'.flatten.length=lo) (wpS_forRange (λ i c st=>c=(none,())/\∃rs' rF g,st=fZ κ (aT it (rs'.flatten++(run++rest))) rF g/\RI lt it κ n rs' (run++rest) rF/\rs'.flatten.length=lo) ?_ (λ c st hh=>hh) ⟨rfl,rs,pe,mg,rfl,h,hlo.symm⟩) ?_)
  ·rintro i c st _ hi ⟨rfl,rs',rF,g,rfl,h',hl⟩
   unfold af4;refine wpS_bind (wpS_get ?_);show wpS (model prog w) A E s (match if rF.size>1 then rF[rF.size- 2]? else none with
    |some (_,_,older)=>_
    |_=>_) _ _
   by_cases e1:rF.size>1
   ·rw[if_pos e1];have hlt:rF.size- 2<rF.size:=by omega
    rw[Array.getElem?_eq_getElem hlt];obtain ⟨q1,q2,q3⟩:=rF[rF.size- 2];dsimp only;split
    ·exact wpS_pure ⟨rfl,rs',rF,g,rfl,h',hl⟩
    ·refine wpS_bind (ag9 O hc h' (by show rF.size- 2+1<rF.size;omega) λ rs2 pe2 g2 h2 l2 _=>?_);simp only[Bool.not_true,Bool.false_eq_true,if_false];exact wpS_pure ⟨rfl,rs2,pe2,g2,rfl,h2,by omega⟩
   ·rw[if_neg e1];exact wpS_pure ⟨rfl,rs',rF,g,rfl,h',hl⟩
  ·rintro c st ⟨rfl,rs',rF,g,rfl,h',hl⟩
   dsimp only;refine wpS_bind (wpS_modify ?_);refine fin rs' (rF.modify (rF.size- 1) λ x=>match x with|(st,len,_)=>(st,len,pw)) g ⟨?_,h'.pm⟩ hl;rw[Array.toList_modify];exact PR.pw h'.pr
def ajE(O:Ord lt n)(hc:GY prog w A s κ it lt n)(h1:1<=n){mg:Nat}{Q:Unit->SortSt->Prop} (q:∀l pe g,l.Perm (List.range n)->l.Pairwise (Rl lt)->Q () (fZ κ (aT it l) pe g)):
  wpS (model prog w) A E s sortRuns' Q (fZ κ (aT it (List.range n)) #[] mg):=by
 rw[ak9];unfold srX;refine wpS_bind (wpS_get ?_);have hs:(arrOf (fZ κ (aT it (List.range n)) #[] mg)).size=n:=by show (aT it (List.range n)).size=n;rw[cB,List.length_range]
 rw[hs];generalize minRun' n n 0=mr;refine wpS_bind (wpS_mono (Q:=λ c st=>c.1=none/\∃rs pe g,st=fZ κ (aT it (rs.flatten++[])) pe g/\RI lt it κ n rs [] pe) (wpS_forRange (λ i c st=>c.1=none/\i<=c.2/\∃rs rest pe g,st=fZ κ (aT it (rs.flatten++rest)) pe g/\RI lt it κ n rs rest pe/\rs.flatten.length=c.2) ?_ ?_ ⟨rfl,Nat.le_refl _,[],List.range n, #[],mg,rfl,⟨trivial,List.Perm.refl _⟩,rfl⟩) ?_)
 ·rintro i ⟨c1,c2⟩ st _ hi ⟨e1,hic,rs,rest,pe,g,rfl,h,hl⟩
  simp only at e1 hic hl;subst e1;have ht:rs.flatten.length+rest.length=n:=by have:=h.pm.length_eq;simpa using this
  unfold YU;dsimp only;by_cases ge:c2>=n
  ·rw[if_pos ge];have:rest=[]:=List.eq_nil_of_length_eq_zero (by omega);subst this;exact wpS_pure ⟨rfl,rs,pe,g,rfl,h⟩
  ·rw[if_neg ge];have N:Nd n rest:=⟨λ x hx=>h.nd.hn x (by simp[hx]),(List.nodup_append.mp h.nd.nd).2.1⟩;refine wpS_bind (afS O hc N hl (by omega:rest.length=n- c2) (by omega) λ m rest' p' m1 m2 um=>?_);dsimp only;have h':RI lt it κ n rs rest' pe:=⟨h.pr,(List.Perm.append_left _ p').trans h.pm⟩;have go:∀pT k,pT.Perm rest->1<=k->k<=n- c2->(pT.take k).Pairwise (Rl lt)->wpS (model prog w) A E s (YT n c2 k) (λ r st'=>match r with
     | .done c'=>c'.1=none/\∃rs pe g,st'=fZ κ (aT it (rs.flatten++[])) pe g/\RI lt it κ n rs [] pe
     | .yield c'=>c'.1=none/\i+1<=c'.2/\∃rs rest pe g,st'=fZ κ (aT it (rs.flatten++rest)) pe g/\RI lt it κ n rs rest pe/\rs.flatten.length=c'.2) (fZ κ (aT it (rs.flatten++pT)) pe g):=by
    intro pT k p2 k1 k2 u2;have l2:pT.length=n- c2:=by rw[p2.length_eq];omega
    have e:pT=pT.take k++pT.drop k:=(List.take_append_drop k pT).symm;have h2:RI lt it κ n rs (pT.take k++pT.drop k) pe:=by rw[<-e];exact ⟨h.pr,(List.Perm.append_left _ p2).trans h.pm⟩
    rw[e];refine aqV O hc h2 hl.symm (by simp;omega) (by simp;omega) u2 λ rs' rF g' h3 l3=>?_;exact ⟨rfl,by dsimp only;omega,rs',_,rF,g',rfl,h3,l3⟩
   split
   ·refine wpS_bind (zJ ?_);have N':=N.perm p';have l':=p'.length_eq;rename_i hlt;refine wpS_bind (ant O hc N' hl (by omega) m1 (by omega) um λ pT p2 u2=>?_);simp only[Bool.not_true,Bool.false_eq_true,if_false];exact wpS_mono (go pT _ (p2.trans p') (by omega) (by omega) u2) λ r st' hr=>by cases r<;>exact hr
   ·exact wpS_mono (go rest' m p' m1 m2 um) λ r st' hr=>by cases r<;>exact hr
 ·rintro ⟨c1,c2⟩ st ⟨e1,hic,rs,rest,pe,g,rfl,h,hl⟩
  simp only at e1 hic hl;have ht:rs.flatten.length+rest.length=n:=by have:=h.pm.length_eq;simpa using this
  have:=Nat.le_max_right 0 n;have:rest=[]:=List.eq_nil_of_length_eq_zero (by omega);subst this;exact ⟨e1,rs,pe,g,rfl,h⟩
 ·rintro ⟨c1,c2⟩ st ⟨e1,rs,pe,g,rfl,h⟩
  simp only at e1;subst e1;dsimp only;have fin:∀rs pe g,RI lt it κ n rs [] pe->pe.size<=1->Q () (fZ κ (aT it (rs.flatten++[])) pe g):=by
   intro rs pe g h hp;have hl:=h.pr.len;have hf:rs.flatten.length=n:=by have:=h.pm.length_eq;simpa using this
   have h1':pe.toList.length<=1:=by simpa using hp
   match rs,hl,h,hf with
   |[],hl,h,hf=>simp at hf;omega
   |[r],hl,h,hf=>
    refine q _ _ _ h.pm ?_;simp only[List.flatten_cons,List.flatten_nil,List.append_nil];match hpl:pe.toList,h.pr with
    |[],p=>exact (nomatch p)
    |(_,_,_)::_,p=>exact p.2.2.2.1
   |_::_::_,hl,h,hf=>simp at hl;omega
  have hsz:pe.size<=n:=by
   have:=h.pr.len.2;have hf:rs.flatten.length=n:=by have:=h.pm.length_eq;simpa using this
   rw[Array.length_toList] at this;omega
  refine wpS_bind (wpS_mono (Q:=λ c st=>c=(none,())/\∃rs pe g,st=fZ κ (aT it (rs.flatten++[])) pe g/\RI lt it κ n rs [] pe/\pe.size<=1) (wpS_forRange (λ i c st=>c=(none,())/\∃rs pe g,st=fZ κ (aT it (rs.flatten++[])) pe g/\RI lt it κ n rs [] pe/\pe.size<=max 1 (n- i)) ?_ ?_ ⟨rfl,rs,pe,g,rfl,h,by omega⟩) ?_)
  ·rintro i c st _ hi ⟨rfl,rs,pe,g,rfl,h,hp⟩
   unfold af3;refine wpS_bind (wpS_get ?_);by_cases e1:pe.size<=1
   ·rw[if_pos e1];exact wpS_pure ⟨rfl,rs,pe,g,rfl,h,e1⟩
   ·rw[if_neg e1];refine wpS_bind (ag9 O hc h ?_ λ rs2 pe2 g2 h2 l2 p2=>?_)
    ·have ii:∀(c:Prop) [Decidable c],(if c then pe.size- 2- 1 else pe.size- 2)+1<pe.size:=λ c _=>by split<;>omega
     exact ii _
    ·simp only[Bool.not_true,Bool.false_eq_true,if_false];exact wpS_pure ⟨rfl,rs2,pe2,g2,rfl,h2,by omega⟩
  ·rintro c st ⟨rfl,rs,pe,g,rfl,h,hp⟩
   have:=Nat.le_max_right 0 n;exact ⟨rfl,rs,pe,g,rfl,h,by omega⟩
  ·rintro c st ⟨rfl,rs,pe,g,rfl,h,hp⟩
   exact wpS_pure (fin rs pe g h hp)
end
end LM
end
section
namespace L4
open PySem PySem.Spec PyProof.Rows L2 PySem.W LM
section
variable{prog:Program}{w:World}{A:Around}{E:Value->Shared->Prop}{s:Shared}
def EG{a:Addr}{vs:List Value}{n:Nat}{lt:Nat->Nat->Bool}{κ:SortKind}{P:PySem.Fin->Shared->Prop}(ho:s.heap.get? a=some (seqObj "list" vs.toArray n))(h64:vs.length<4096)(O:Ord lt vs.length)
  (hk:2<=vs.length->∀(h':Heap) (Q:SortKind->Shared->Prop),(∀b o,b≠a->s.heap.get? b=some o->h'.get? b=some o)->Q κ {s with heap:=h'}->wpAny (model prog w) A (keyKind' vs.toArray) Q E {s with heap:=h'})
  (hc:∀(h':Heap) (i j:Nat) (Q:Bool->Shared->Prop),(∀b o,b≠a->s.heap.get? b=some o->h'.get? b=some o)->2<=vs.length->i<vs.length->j<vs.length->i≠j->Q (lt i j) {s with heap:=h'}->wpAny (model prog w) A (keyLt' κ (vs.getD i .none) (vs.getD j .none)) Q (λ _ _=>False) {s with heap:=h'})
  (h:∀h' e (ix:List Nat),(∀b o,b≠a->s.heap.get? b=some o->h'.get? b=some o)->h'.get? a=some (seqObj "list" (ix.map λ i=>vs.getD i Value.none).toArray e)->ix.Perm (List.range vs.length)->ix.Pairwise (λ a b=>lt a b=true)->P (.done (.ret .none)) {s with heap:=h'}):
  wpAny (model prog w) A (Builtin.«list.sort» ⟨[.ref a],[]⟩) P E s:=by
 rw[list_sort_plain]
 have ha:a<s.heap.objs.size:=Heap.lt_size ho
 refine wpAny_bind (listItems_at ho rfl ?_)
 refine wpAny_bind (listUpdate_at ho rfl ?_ (by rw[List.size_toArray,sizeLine_eq];omega) (Nat.zero_le _))
 obtain ⟨e1,ho1⟩:∃e1,(s.heap.update a (Obj.mapSeq λ _=> #[])).get? a=some (seqObj "list" #[] e1):=⟨_,get?_update_seq ho (λ _=> #[])⟩
 refine wpAny_bind (seqEpoch_at ho1 rfl ?_)
 refine wpAny_bind (wpAny_newTuple ?_ (by show vs.length<=_;rw[sizeLine_eq];omega))
 refine wpAny_bind (wpAny_newList ?_ (Nat.zero_le _))
 refine wpAny_holding ?_
 have s1:=Heap.SameBut.update s.heap a (Obj.mapSeq λ _=>(#[]:Array Value))
 have ho6:(((s.heap.update a (Obj.mapSeq λ _=> #[])).push (seqObj "tuple" vs.toArray 0)).push (seqObj "list" #[] 0)).get? a=some (seqObj "list" #[] e1):=Heap.get?_push_of_some _ (Heap.get?_push_of_some _ ho1)
 have kp:∀b o,b≠a->s.heap.get? b=some o->(((s.heap.update a (Obj.mapSeq λ _=>(#[]:Array Value))).push (seqObj "tuple" vs.toArray 0)).push (seqObj "list" #[] 0)).get? b=some o:=λ b o hb q=>
  Heap.get?_push_of_some _ (Heap.get?_push_of_some _ ((s1.2 b hb).trans q))
 show wpAny (model prog w) A _ P E {s with heap:=((s.heap.update a (Obj.mapSeq λ _=> #[])).push (seqObj "tuple" vs.toArray 0)).push (seqObj "list" #[] 0)}
 dsimp only
 generalize hh:((s.heap.update a (Obj.mapSeq λ _=>(#[]:Array Value))).push (seqObj "tuple" vs.toArray 0)).push (seqObj "list" #[] 0)=h1 at*
 have fin:∀(st:SortSt) (out:List Value),(arrOf st).map (·.2)=out.toArray->failedOf st=none->∀ix:List Nat,out=(ix.map λ i=>vs.getD i Value.none)->ix.Perm (List.range vs.length)->ix.Pairwise (λ a b=>lt a b=true)->wpAny (model prog w) A (do
   let touched:=(<-seqEpoch a) !=e1
   Builtin.List.listUpdate (.ref a) λ _=>(arrOf st).map (·.2)
   if let some e:=failedOf st then rule "list.sort.comparison-raised";throw e
   if touched then rule "list.sort.modified";raiseError "ValueError" "list modified during sort"
   ret .none) P E {s with heap:=h1}:=by
  intro st out har hf ix eo hp pw
  have hl:out.length=vs.length:=by rw[eo,List.length_map,hp.length_eq,List.length_range]
  refine wpAny_bind (seqEpoch_at ho6 rfl ?_)
  rw[har,hf]
  refine wpAny_bind (listUpdate_at ho6 rfl ?_ (Nat.zero_le _) (by rw[List.size_toArray,sizeLine_eq];omega))
  simp only[bne_self_eq_false,Bool.false_eq_true,if_false]
  have s2:=Heap.SameBut.update h1 a (Obj.mapSeq λ _=>out.toArray)
  refine wpAny_pure (h _ _ ix (λ b o hb q=>(s2.2 b hb).trans (kp b o hb q)) (by rw[<-eo];exact get?_update_seq ho6 λ _=>out.toArray) hp pw)
 by_cases h2:vs.toArray.size<2
 ·rw[if_pos h2,if_pos h2]
  have DX:vs.length<2:=by simpa using h2
  refine wpAny_bind (wpAny_pure ?_)
  rw[StateT.run_pure]
  refine wpAny_bind (wpAny_pure ?_)
  exact fin (SortSt.mk' general' (vs.toArray.zip vs.toArray) #[] 7 none) vs (by
   show (vs.toArray.zip vs.toArray).map (·.2)=vs.toArray
   apply Array.toList_inj.mp
   simp[List.map_snd_zip]) rfl (List.range vs.length) (by rw[range_getD]) (List.Perm.refl _) (by
    rw[List.pairwise_iff_getElem]
    intro i j hi hj hij
    simp at hj;omega)
 ·rw[if_neg h2,if_neg h2]
  have DX:2<=vs.length:=by simp at h2;omega
  have hn2:¬vs.length<2:=by omega
  refine wpAny_bind (hk DX h1 _ kp ?_)
  have hsz:(vs.toArray.zip vs.toArray).size=vs.length:=by simp
  have hst:SortSt.mk' κ (vs.toArray.zip vs.toArray) #[] 7 none=fZ κ (aT (vs.toArray.zip vs.toArray) (List.range vs.length)) #[] 7:=by
   have:=kas_range (vs.toArray.zip vs.toArray)
   rw[hsz] at this
   unfold aT
   rw[<-List.map_toArray,this]
  have itf:∀i,(kas_item (vs.toArray.zip vs.toArray) i).1=vs.getD i .none:=λ i=>by
   unfold kas_item
   by_cases h:i<vs.length
   ·have e:(vs.toArray.zip vs.toArray)[i]? =some (vs[i],vs[i]):=by rw[Array.getElem?_eq_getElem (by simpa using h)];simp
    rw[Array.getD_eq_getD_getElem?,e,List.getD_eq_getElem?_getD,List.getElem?_eq_getElem h];rfl
   ·have e:(vs.toArray.zip vs.toArray)[i]? =none:=by rw[Array.getElem?_eq_none];simpa using h
    rw[Array.getD_eq_getD_getElem?,e,List.getD_eq_getElem?_getD,List.getElem?_eq_none (by omega)];rfl
  rw[hst]
  refine wpAny_bind (wpAny_mono (ajE (A:=A) (E:=E) (s:={s with heap:=h1}) (κ:=κ) (Q:=λ _ st'=>∃p:List Nat,arrOf st'=p.toArray.map (kas_item (vs.toArray.zip vs.toArray))/\failedOf st'=none/\p.Perm (List.range vs.length)/\p.Pairwise (Rl lt)) O (λ i j C hi hj hij hq=>by
    unfold kas_cmp
    rw[itf,itf]
    exact hc h1 i j C kp DX hi hj hij hq) (by omega) (λ l pe g pl ul=>⟨l,by simp[aT],rfl,pl,ul⟩)) ?_ λ _ _ e=>e)
  rintro ⟨⟨⟩,st'⟩ s' ⟨es,p,har,hf,hp,up⟩
  subst es
  exact fin st' _ (kat_snds rfl har) hf p rfl hp up
def Ml{l:Addr}{Good:List Value->Heap->Prop}{Q:Value->Shared->Prop} (aqo:∀(A':Around) (E':Value->Shared->Prop) (R:List Value->Shared->Prop),A'.handled=A.handled->(∀vs h' tk,(∀b o,s.heap.get? b=some o->h'.get? b=some o)->s.heap.objs.size<=h'.objs.size->Good vs h'->R vs {s with heap:=h',toks:=tk})->wpAny (model prog w) A' (collect (.ref l)) R E' s) (hg:∀vs h1 h2,(∀b o,h1.get? b=some o->h2.get? b=some o)->Good vs h1->Good vs h2) (hs:∀vs h',Good vs h'->vs.length<4096/\∃(lt:Nat->Nat->Bool) (κ:SortKind),Ord lt vs.length/\(2<=vs.length->∀(A':Around) (h2:Heap) (tk:Nat) (E':Value->Shared->Prop) (Q:SortKind->Shared->Prop),Good vs h2->Q κ {s with heap:=h2,toks:=tk}->wpAny (model prog w) A' (keyKind' vs.toArray) Q E' {s with heap:=h2,toks:=tk})/\(∀(A':Around) (h2:Heap) (tk i j:Nat) (Q:Bool->Shared->Prop),A'.units<A.units+8->Good vs h2->i<vs.length->j<vs.length->i≠j->Q (lt i j) {s with heap:=h2,toks:=tk}->wpAny (model prog w) A' (keyLt' κ (vs.getD i .none) (vs.getD j .none)) Q (λ _ _=>False) {s with heap:=h2,toks:=tk})/\(∀h2 tk r e (ix:List Nat),(∀b o,s.heap.get? b=some o->h2.get? b=some o)->s.heap.objs.size<=r->Good vs h2->h2.get? r=some (seqObj "list" (ix.map λ i=>vs.getD i Value.none).toArray e)->ix.Perm (List.range vs.length)->ix.Pairwise (λ a b=>lt a b=true)->Q (.ref r) {s with heap:=h2,toks:=tk})):
  wpAny (model prog w) A (call (.builtin "sorted") [.ref l]) Q E s:=by
 refine Calls.call_function_entry kind_sorted plain_sorted entry_sorted (args_sorted1 _) ?_;unfold Builtin.«sorted»;refine wpAny_bind (m:=checkCount "sorted" 1 1 _) (wpAny_pure ?_);refine wpAny_bind (aqo _ _ _ rfl λ vs h' tk kp sz gd=>?_);obtain ⟨h64,lt,κ,O,hk,hc,hq⟩:=hs vs h' gd;refine wpAny_bind (wpAny_newList ?_ (by rw[sizeLine_eq];omega));have hoL:(h'.push (seqObj "list" vs.toArray 0)).get? h'.objs.size=some (seqObj "list" vs.toArray 0):=Heap.get?_push_size _ rfl;have keep:∀b o,h'.get? b=some o->(h'.push (seqObj "list" vs.toArray 0)).get? b=some o:=λ b o q=>Heap.get?_push_of_some _ q;show wpAny _ _ _ _ _ (Shared.mk (h'.push (seqObj "list" vs.toArray 0)) s.gens s.drawn tk s.os);refine wpAny_bind (wpAny_holding (wpAny_call_entry slot_list_sort ⟨_,hoL,rfl⟩ entry_list_sort ?body (args_list_sort _)));case body=>
  have gk:∀h2:Heap,(∀b o,b≠h'.objs.size->(h'.push (seqObj "list" vs.toArray 0)).get? b=some o->h2.get? b=some o)->∀b o,h'.get? b=some o->h2.get? b=some o:=λ h2 k b o e=>k b o (Nat.ne_of_lt (Heap.lt_size e)) (keep b o e);refine EG (s:=Shared.mk (h'.push (seqObj "list" vs.toArray 0)) s.gens s.drawn tk s.os) (lt:=lt) (κ:=κ) hoL h64 O
   (λ h2 h3 Q' k q=>hk h2 _ h3 tk _ Q' (hg vs h' h3 (gk h3 k) gd) q) (λ h3 i j Q' k h2 hi hj hij q=>hc _ h3 tk i j Q' ?_ (hg vs h' h3 (gk h3 k) gd) hi hj hij q) λ h3 e ix k ea hp pw=>⟨_,rfl,?_⟩
  ·first|omega|(dsimp only;omega)|(simp[Around.under];omega)
  ·exact wpAny_pure ⟨_,rfl,hq h3 tk _ e ix (λ b o z=>gk h3 k b o (kp b o z)) sz (hg vs h' h3 (gk h3 k) gd) ea hp pw⟩
end
end L4
end
section
namespace L4
open PySem PySem.Spec PyProof.Rows L2 PySem.W
section
variable{prog:Program}{w:World}{A:Around}{E:Value->Shared->Prop}{s:Shared}{Q:Bool->Shared->Prop}
def aew{b:Bool}{x y:Int}{t u:Tok}(h:Q (decide (x<y)) s):wpAny (model prog w) A (oneLt' b (.int x t) (.int y u)) Q E s:=by
 cases b with
 |true=>exact oneLt_int h
 |false=>exact kat_one _ _ (lt_int (show W.BoolBack Q (.bool (decide (x<y))) s from h))
def KN:∀{its jts:List Value} {ns ms:List Int} (i:Nat),IntsAre its ns->IntsAre jts ms->ns.length=ms.length->Q (iN ns ms) s->KatLex prog w A true false Q (its.zip jts) i s
 |_,_,_,_,_,.nil,.nil,_,q=>kat_nil q
 |_,_,_,_,_,.nil,.cons _ _ _,h,_=>by simp at h
 |_,_,_,_,_,.cons _ _ _,.nil,h,_=>by simp at h
 |_,_,_,_,i,.cons n t a,.cons m u b,h,q=>by
  rw[List.zip_cons_cons];refine kat_cons (wpAny_eqBool_int (kat_go (λ z=>kat_yes (KN (i+1) a b (by simpa using h) ?_)) (λ z=>kat_no (aew ?_))))
  ·have z:n=m:=by simpa using z
   subst z;simpa[iN] using q
  ·have z:n≠m:=by simpa using z
   simpa[iN,z] using q
end
def agk{h:Heap}:∀(bs:List Addr) (ns:List (List Int)),bs.length=ns.length->(∀n∈ns,n.length=3)->(∀(i:Nat) (b:Addr) (n:List Int),bs[i]? =some b->ns[i]? =some n->∃its:List Value,IsTup h b its.toArray/\IntsAre its n)->∃fs,KatTups h (bs.map Value.ref) fs/\fs.length=bs.length/\∀v∈fs,∃x t,v=Value.int x t
 |[],_,_,_,_=>⟨[],KatTups.nil,rfl,λ _ z=>nomatch z⟩
 |b::bs,[],h,_,_=>by simp at h
 |b::bs,n::ns,hl,h3,hg=>by
  obtain ⟨fs,k1,k2,k3⟩:=agk bs ns (by simpa using hl) (λ m hm=>h3 m (.tail _ hm)) λ i c m e1 e2=>hg (i+1) c m (by simpa using e1) (by simpa using e2);obtain ⟨its,⟨o,o1,o2,q,o3⟩,i1⟩:=hg 0 b n rfl rfl;have hn:=h3 n (.head _);cases i1 with
  |nil=>simp at hn
  |cons x t r=>
   refine ⟨.int x t::fs,KatTups.cons o1 o2 o3 (by simp) k1,by simp[k2],λ v hv=>?_⟩;rcases List.mem_cons.mp hv with rfl|hv
   ·exact ⟨x,t,rfl⟩
   ·exact k3 v hv
section
variable{X:Cx}{ct:Ct}{e:Expr}{es:List Expr}{f:Sg->Res D}{fa:Sg->Res (List D)}{p pos:Pos}
def FT{K:W.Frag}{H:Hp}:∀n:List Int,aJ K ct H (n.map D.int) (n.map V.int)
 |[]=>aJ.nil
 |i::n=>aJ.cons (by simp[Tl]) (FT n)
def adP{K:W.Frag}{H:Hp}{b:Addr}{n:List Int}(h:H b=some (.tup (n.map V.int))):Tl K ct H (tupI n) (.ref b):=by simp only[tupI,Tl];exact ⟨b,_,rfl,h,FT n⟩
def Uj{K:W.Frag}{H:Hp}{α:Type}{g:α->D}{h:α->V}:∀{l:List α},(∀a∈l,Tl K ct H (g a) (h a))->aJ K ct H (l.map g) (l.map h)
 |[],_=>aJ.nil
 |a::l,q=>aJ.cons (q a (.head _)) (Uj λ b hb=>q b (.tail _ hb))
end
def afW(v a:Addr):Heap->Prop:=λ h=>h.get? v=some (vwO a)
def aaF{P:Program}{w:World}{H:Hp}{h:Heap}{v a:Addr}(e:h.get? v=some (vwO a)):dM P w H h v (.ext (afW v a)):=⟨e,⟨_,e⟩,λ h1 h2 e1 k=>k _ e1⟩
def ahB(td:TE):TE:=λ σ H Q=>td σ H λ x H1=>∃a,x= .ref a/\IsD H1 a/\∀v,H1 v=none->Q (.ref v) (upd H1 v (.ext (afW v a)))
section
variable{X:Cx}{ct:Ct}{o:Expr}{td:TE}{f:Sg->Res D}{ap cp p pos:Pos}
def Zs(ho:PE X o td)(h1:attributeBase o "items" X.env (eval o X.env)=eval o X.env:=by rfl)(h3:(ap.endLine==cp.line)=true:=by rfl):PE X (.Call (.Attribute o "items" ap) [] [] cp) (ahB td):=by intro pins s σ H Q I h;refine wpAny_Call_method h1 rfl h3 PySem.F.plainAttrs_dict PySem.F.slot_dict_items PySem.F.type_dict_items (gC (ho pins s σ H _ I h) λ u s1 ⟨x,H1,I1,rx,a,ex,d,q1⟩=>?_);subst ex;obtain rfl:u=Value.ref a:=rx;obtain ⟨t1,t2,hy⟩:=aaH I1 d;refine ⟨t1,t2,?_⟩;show wpAny _ _ (callWith cp (.builtin "dict.items") [.ref a] [] []) _ _ s1;refine Calls.callWith_builtin rfl (PyProof.Rows.evalArgs_none ?_);refine wpAny_call_entry PySem.F.slot_dict_items t1 PySem.F.entry_dict_items ?_ (PySem.F.args_dict_items_1 _);unfold Builtin.«dict.items»;refine wpAny_bind ?_;unfold Builtin.Dict.noArgs;refine wpAny_bind (wpAny_notOrdered_dict t1 ?_);show wpAny _ _ (pure a) _ _ s1;refine wpAny_pure ?_;show wpAny _ _ (Builtin.Dict.showsAll a>>=_) _ _ s1;unfold Builtin.Dict.showsAll;rw[if_neg (by rw[hy];exact Bool.false_ne_true)];refine wpAny_bind (wpAny_pure (wpAny_bind (wpAny_newObj_type (wpAny_pure ⟨_,rfl,?_⟩))));have e:(s1.heap.push (vwO a)).get? s1.heap.objs.size=some (vwO a):=Heap.get?_push_size _ rfl;exact ⟨.ref s1.heap.objs.size,_,I1.laid (t':=s1.toks) (λ _ _ z=>Heap.get?_push_of_some _ z) (Nat.le_refl _) (aaF e),rfl,q1 _ (I1.hok.fresh (Nat.le_refl _))⟩
end
section
variable{X:Cx}{c:Cf}{e:Expr}{fm:Sg->Res M}{pos:Pos}
def uX{ap cp:Pos}(he:∀B,WM X (c.at' B) e fm)(hbase:attributeBase e "clear" X.env (eval e X.env)=eval e X.env:=by rfl)(hline:(ap.endLine==cp.line)=true:=by rfl)(hw:swapsWith (.Call (.Attribute e "clear" ap) [] [] cp) none pos.line X.env=pure false:=by rfl):DL X c (.Expr (.Call (.Attribute e "clear" ap) [] [] cp) pos) (wN fm):=by
 have he:=λ B=>(he B).out;refine ⟨?_⟩;intro pins s σ H E I ⟨Γ,j,h⟩;refine wU (ah8 PySem.F.plainAttrs_list PySem.F.slot_list_clear PySem.F.type_list_clear ZZ (he H) hbase hline) hw pins s σ H E I ?_;refine ⟨Γ,j.lift,Fn.ok j h λ m _ q v H1 S s1 ow n1 n2=>?_⟩;cases m with
 |l xs=>
  simp only[Ow] at ow;obtain ⟨a,vs,rfl,hS,ha,_⟩:=ow;have sm:az H (upd H1 a (.lst [])):=λ b o z=>by rw[aE (fH z (n1 a hS))];exact s1 b o z
  exact ⟨.inl ⟨rfl,vs,rJ.of ha⟩,a,vs,rfl,rfl,ha,q σ _ (az.keep sm) (j.mono sm)⟩
 |_=>exact q.elim
end
end L4
end
section
namespace L4
open PySem PySem.Spec PyProof.Rows L2
section
variable{X:Cx}{pins:List (Addr×Obj)}{σ:St}{H:Hp}{s:Shared}
def adN{t':Nat}{h':Heap}{ch:List Addr}{T:Addr}{o:HO}(I:Inv X pins σ H s)(k:∀b o,b∉ch->s.heap.get? b=some o->h'.get? b=some o)(hf:∀b∈ch,FE X pins H b)(hT:s.heap.objs.size<=T) (new:dM X.prog X.w (upd H T o) h' T o):Inv X pins σ (upd H T o) {s with heap:=h',toks:=t'}:=by
 have nit:∀b u,H b=some u->b∉ch:=λ b u e z=>by rw[(hf b z).1] at e;cases e
 have hL:X.env.locals∉ch:=λ z=>(hf _ z).2.1 rfl;have hTn:H T=none:=I.hok.fresh hT;have ne:∀b u,s.heap.get? b=some u->b≠T:=λ b u e=>Nat.ne_of_lt (Nat.lt_of_lt_of_le (Heap.lt_size e) hT);have neH:∀b u,H b=some u->b≠T:=λ b u e z=>by rw[z,hTn] at e;cases e
 refine I.step (g':=s.gens) (d':=s.drawn) (ch:=ch) (λ b hb=>?_) (λ b o _ _ hc e _=>k b o hc e) (λ b o _ _ hc e _=>⟨o.slots,k b o hc e⟩) (λ b o _ e n=>by rw[aE (ne b o e)];exact n)
  (λ b o hc e=>⟨o,k b o hc e⟩) (λ b xs e=>by rw[aE (neH b _ e)];exact e) (λ b o u e=>by rw[aE (neH b _ e)];exact e) (λ b ps e=>⟨#[],by rw[aE (neH b _ e),e];simp⟩) (λ m hm=>?_) (λ b u e=>?_) I.bare
 ·obtain ⟨_,f1,_,f3,f4,f5⟩:=hf b hb;exact ⟨f3,f1,f4,f5⟩
 ·obtain ⟨o,es,ep,ho,r⟩:=hm;exact ⟨o,es,ep,k _ o hL ho,r⟩
 ·by_cases hb:b=T
  ·subst hb;rw[aG] at e;cases e;exact new
  ·rw[aE hb] at e;refine (I.hok b u e).stay (λ c v hc q=>k c v ?_ q) (λ c q=>by rw[aE (neH c _ q)];exact q) λ c u q=>by rw[aE (neH c _ q)];exact q
   rcases hc with z|z
   ·rw[z];exact nit b u e
   ·exact nit c _ z
end
def Ite(K:W.Frag)(a:Addr)(N:Nat):It:=⟨λ i H=>∃xs x,yx K H a xs/\xs.length=N/\xs[i]? =some x,λ i H x H'=>∃p v,H p=none/\(∀xs,yx K H a xs->xs[i]? =some v)/\x= .ref p/\H'=upd H p (.tup [.int i,v]),λ i H=>∃xs,yx K H a xs/\xs.length=N/\N<=i⟩
def ahw{a b:String}(h:a≠b):Value.type a≠Value.type b:=λ z=>h (Value.type.inj z)
def Dd{h:Heap}{e it a:Addr}{i:Int}{j:Nat}{old:Value}{items:Array Value}(h1:IsEnum h e it i old)(h2:h.IsTupleIter it a j)(h3:h.IsTuple a items):e≠it/\e≠a/\a≠it:=by
 obtain ⟨o2,g2,c2,d2⟩:=h2;obtain ⟨o3,g3,c3,_⟩:=h3;refine ⟨λ z=>?_,λ z=>?_,λ z=>?_⟩
 ·subst z;rw[h1] at g2;cases g2;exact ahw (by decide) c2
 ·subst z;rw[h1] at g3;cases g3;exact ahw (by decide) c3
 ·subst z;rw[g2] at g3;cases g3;rw[c2] at c3;exact ahw (by decide) c3
def Ma{P:Program}{w:World}{K:W.Frag}{elts:List Expr}{c:Nat}{pos:Pos}(a e it:Addr)(N:Nat):Turn P w K (.Tuple elts c pos) (Ite K a N) [e,it] e (λ i h=>(∃old,IsEnum h e it (i:Nat) old)/\h.IsTupleIter it a i/\i<=N) where
 mem:=by simp
 obj:=λ i h st b hb=>by
  obtain ⟨⟨old,h1⟩,⟨o,e2,c2,d2⟩,_⟩:=st
  simp only[List.mem_cons,List.mem_singleton,List.not_mem_nil,or_false] at hb
  rcases hb with rfl|rfl
  ·exact ⟨_,h1,λ v z=>by cases z⟩
  ·exact ⟨o,e2,λ v z=>by rw[d2] at z;cases z⟩
 keep:=λ i h h' st k=>by
  obtain ⟨⟨old,h1⟩,h2,h3⟩:=st
  exact ⟨⟨old,k e (by simp) _ h1⟩,h2.at λ o z=>k it (by simp) o z,h3⟩
 item:=by
  intro X hP hw hK hc i pins s σ H E I hf st hg
  subst hP hw hK
  obtain ⟨⟨old,h1⟩,h2,h3⟩:=st
  obtain ⟨xs,x,hq,hN,hx⟩:=hg
  obtain ⟨its,rv,p,hz⟩:=I.tuple hq
  obtain ⟨u,hu,ru⟩:=rv.get hx
  have hl:=rv.length
  have p':s.heap.IsTuple a its.toArray:=p
  obtain ⟨n1,n2,n3⟩:=Dd h1 h2 p'
  have hi:i<its.toArray.size:=by
   have:=(List.getElem?_eq_some_iff.mp hu).1
   simpa using this
  refine wpAny_pyNext_enum_itemD (abf (A:=X.A.in1) (prog:=X.prog) (w:=X.w) (I.ok.hd hc) it a n3 its.toArray) h1 ⟨h2,p'⟩ hi n1 (by simp[n1,n2]) λ y h' tk hy ho st' hT hsz kk=>?_
  have ey:y=u:=by
   rw[List.getElem?_toArray,hu] at hy;exact (Option.some.inj hy).symm
  subst ey
  refine ⟨_,rfl,wpAny_letOwnedTupleGo_enum ho λ DX he2 sb=>?_⟩
  have hTe:s.heap.objs.size≠e:=Nat.ne_of_gt (Heap.lt_size h1)
  have hT2:DX.get? s.heap.objs.size=some {cls:= .type "tuple",data:= .seq #[.int i tk,y]}:=(sb.2 _ hTe).trans hT
  have hfp:=λ b (hb:b∈[e,it])=>hf b hb
  have I2:Inv X pins σ (upd H s.heap.objs.size (.tup [.int i,x])) {s with heap:=DX,toks:=tk+1}:=by
   refine adN (ch:=[e,it]) I (λ b o hb q=>?_) hfp (Nat.le_refl _) ⟨by simp[sizeLine_eq],[.int i tk,y],.cons ⟨tk,rfl⟩ (.cons ru .nil),_,hT2,rfl,0,rfl⟩
   simp only[List.mem_cons,List.not_mem_nil,or_false,not_or] at hb
   exact (sb.2 b hb.1).trans (kk b o hb.1 hb.2 q)
  refine ⟨.ref s.heap.objs.size,_,I2,rfl,⟨_,x,I.hok.fresh (Nat.le_refl _),λ ys hys=>by rw[I.FQ hys hq];exact hx,rfl,rfl⟩,⟨⟨_,he2⟩,?_,?_⟩,λ b hb=>?_⟩
  ·exact st'.1.at λ o z=>(sb.2 it (Ne.symm n1)).trans z
  ·have:=(List.getElem?_eq_some_iff.mp hx).1;omega
  ·have hb0:=hfp b hb
   rw[aE]
   ·exact hb0.1
   ·intro z
    simp only[List.mem_cons,List.not_mem_nil,or_false] at hb
    rcases hb with rfl|rfl
    ·exact hTe z.symm
    ·obtain ⟨o2,g2,_⟩:=h2
     exact absurd z (Nat.ne_of_lt (Heap.lt_size g2))
 done:=by
  intro X hP hw hK hc i pins s σ H E I hf st hg
  subst hP hw hK
  obtain ⟨⟨old,h1⟩,h2,h3⟩:=st
  obtain ⟨xs,hq,hN,hi⟩:=hg
  obtain ⟨its,rv,p,hz⟩:=I.tuple hq
  have hl:=rv.length
  have p':s.heap.IsTuple a its.toArray:=p
  obtain ⟨n1,n2,n3⟩:=Dd h1 h2 p'
  have ei:i=its.toArray.size:=by simp;omega
  subst ei
  refine wpAny_pyNext_enum_endD (abf (A:=X.A.in1) (prog:=X.prog) (w:=X.w) (I.ok.hd hc) it a n3 its.toArray) h1 ⟨h2,p'⟩ λ h' eb=>⟨rfl,?_⟩
  exact adL (ch:=[it]) (t':=s.toks) I (λ b o hb q=>eb b o (by simpa using hb) q) λ b hb=>hf b (by simp only[List.mem_singleton] at hb;subst hb;simp)
 self:=λ _ _ _ _ _ st h=>by
  obtain ⟨⟨old,h1⟩,_⟩:=st
  exact wpAny_pyIter_enum h1 h
end L4
end
section
namespace L4
open PySem
noncomputable def oU:Nat->List D->List D
 |_,[]=>[]
 |k,x::t=> .tup [.int k,x]::oU (k+1) t
def U9:List D->Res (List D)
 |[.tup xs]=> .ok (oU 0 xs)
 |_=> .bad
def K8(r:Sg->Res (List D)):Sg->Res (List D):=λ Γ=>(r Γ).bnd U9
noncomputable def NW:D->Res (List D)
 | .uA (.t _) []=> .ok []
 |_=> .bad
def IM(f:Sg->Res D):Sg->Res (List D):=λ Γ=>(f Γ).bnd NW
noncomputable def oz:D->Res (List D)
 | .lst xs=> .ok xs
 | .bor _ xs=> .ok xs
 | .tup xs=> .ok xs
 | .gt xs=> .ok xs
 |_=> .bad
def bS(f:Sg->Res D):Sg->Res (List D):=λ Γ=>(f Γ).bnd oz
@[simp] theorem Xf{f:Sg->Res D}{Γ:Sg}:bS f Γ=(f Γ).bnd oz:=(rfl)
@[simp] theorem alg(xs:List D):oz (.lst xs)= .ok xs:=(rfl)
@[simp] theorem alf(xs:List D):oz (.tup xs)= .ok xs:=(rfl)
def ahO:Sg->Out:=λ _=> .bad
def aa7(ds:List D):M->Option M
 | .l xs=>if xs.length+ds.length<1000000/\m6 ds=true then some (.l (xs++ds)) else none
 |_=>none
def Hr(i:Nat)(g:Sg->Res (List Nat))(f:Sg->Res (List D)):Sg->Out:=λ Γ=>oE (g Γ) Γ λ ks=>if W6 (zT i ks Γ)=true then oE (f Γ) Γ λ d=>oUp (DW i ks (aa7 d) Γ) else .bad
noncomputable def d3:D->Option (List Int)
 | .tup [.int a,.int b,.int c]=>some [a,b,c]
 |_=>none
def d3s:List D->Option (List (List Int))
 |[]=>some []
 |x::t=>match d3 x,d3s t with
  |some n,some ns=>some (n::ns)
  |_,_=>none
def amL{x:D}{n:List Int}(h:d3 x=some n):x=tupI n/\n.length=3:=by
 unfold d3 at h;split at h
 ·cases h;exact ⟨rfl,rfl⟩
 ·cases h
def abo:∀{xs:List D} {ns:List (List Int)},d3s xs=some ns->xs=ns.map tupI/\∀n∈ns,n.length=3
 |[],ns,h=>by cases h;exact ⟨rfl,λ _ z=>nomatch z⟩
 |x::xs,ns,h=>by
  unfold d3s at h;split at h
  ·rename_i n ms e1 e2;cases h;obtain ⟨a1,a2⟩:=amL e1;obtain ⟨b1,b2⟩:=abo e2;refine ⟨by rw[a1,b1];rfl,λ m hm=>?_⟩;rcases List.mem_cons.mp hm with rfl|hm
   ·exact a2
   ·exact b2 m hm
  ·cases h
def F1(xs:List D):Res (List D):=match d3s xs with
 |some ns=>if ns.length<4096/\ns.Nodup then .ok ((srt (ns.zip xs)).map λ p=>tupI p.1) else .bad
 |none=> .bad
def ahJ:D->Res (List D)
 | .lst xs=>F1 xs
 | .bor _ xs=>F1 xs
 |_=> .bad
def yF:List D->Res (List D)
 |[x]=>ahJ x
 |_=> .bad
def aaY(o y:D):Res D:=match dcT o,aiO y with
 |some (ks,xs),some k=> .ok ((IV ks xs k).getD .fE)
 |_,_=> .bad
def abn(f g:Sg->Res D):Sg->Res D:=λ Γ=>(f Γ).bnd λ o=>match dcT o with
 |some _=>(g Γ).bnd λ y=>aaY o y
 |none=> .bad
end L4
end
section
namespace L4
open PySem PySem.Spec PyProof.Rows L2 PySem.W
def FN:∀{bs:List Addr} {us:List Value},Vals (bs.map V.ref) us->us=bs.map Value.ref
 |[],_,.nil=>rfl
 |b::bs,_,.cons r t=>by have e:=FN t;subst e;cases r;rfl
def Ji{X:Cx}:yr X (.builtin "sorted") (λ xs H Q=>∃(a:Addr) (bs:List Addr) (ns:List (List Int)),xs=[.ref a]/\rJ X.K H a (bs.map V.ref)/\bs.length=ns.length/\ns.Nodup/\ns.length<4096/\(∀n∈ns,n.length=3)/\(∀(i:Nat) (b:Addr) (n:List Int),bs[i]? =some b->ns[i]? =some n->H b=some (.tup (n.map V.int)))/\∀(r:Addr) (ix:List Nat),H r=none->ix.Perm (List.range ns.length)->ix.Pairwise (λ i j=>iN (ns.getD i []) (ns.getD j [])=true)->Q (.ref r) (upd H r (.lst (ix.map λ i=>V.ref (bs.getD i 0))))):=by
 intro pins s σ H xs us Q I rr ⟨a,bs,ns,ex,sq,lb,ndn,h64,h3,P0,q⟩;subst ex;obtain ⟨u,rfl,ru⟩:=vals1 rr;cases ru;obtain ⟨its,rv,pl,hz⟩:=I.list sq;have aqI:=FN rv;subst aqI;let Good:List Value->Heap->Prop:=λ vs h=>vs=bs.map Value.ref/\∀(i:Nat) (b:Addr) (n:List Int),bs[i]? =some b->ns[i]? =some n->∃its:List Value,IsTup h b its.toArray/\IntsAre its n
 have gk:∀vs h1 h2,(∀b o,h1.get? b=some o->h2.get? b=some o)->Good vs h1->Good vs h2:=λ vs h1 h2 k ⟨e,g⟩=>⟨e,λ i b n e1 e2=>let ⟨its,t,i1⟩:=g i b n e1 e2;⟨its,t.keeps k,i1⟩⟩;have g0:Good (bs.map Value.ref) s.heap:=⟨rfl,λ i b n e1 e2=>by obtain ⟨_,its,r,t⟩:=I.hok b _ (P0 i b n e1 e2);exact ⟨its,t,intsAre_of r⟩⟩;have at2:∀{i:Nat},i<ns.length->∃b n,bs[i]? =some b/\ns[i]? =some n/\(bs.map Value.ref).getD i .none= .ref b/\ns.getD i []=n:=λ{i} hi=>by
  have hb:i<bs.length:=by rw[lb];exact hi
  exact ⟨bs[i],ns[i],List.getElem?_eq_getElem hb,List.getElem?_eq_getElem hi,by simp[List.getD_eq_getElem?_getD,hb],by simp[List.getD_eq_getElem?_getD,hi]⟩
 have O:Ord (λ i j=>iN (ns.getD i []) (ns.getD j [])) ns.length:=⟨λ i j hi hj hij=>by refine CO _ _ λ e=>hij ?_;obtain ⟨_,n,_,e1,_,e2⟩:=at2 hi;obtain ⟨_,m,_,e3,_,e4⟩:=at2 hj;rw[e2,e4] at e;subst e;exact (List.getElem?_inj hi ndn).mp (e1.trans e3.symm),λ i j k _ _ _=>Bt _ _ _⟩;refine Ml (Good:=Good) (l:=a) (λ A' E' R hA h=>?_) gk λ vs h' gd=>?_
 ·refine collect_list pl.isList ?_ (by rw[List.length_map,lb,sizeLine_eq];omega);have kp:∀b o,s.heap.get? b=some o->((s.heap.push (seqObj "list" #[] 0)).update s.heap.objs.size (Obj.mapSeq λ x=>x++(bs.map Value.ref).toArray)).get? b=some o:=λ b o q=>by rw[Heap.get?_update_ne _ _ _ _ (Nat.ne_of_lt (Heap.lt_size q))];exact Heap.get?_push_of_some _ q
  exact h _ _ s.toks kp (by rw[Heap.size_update,Heap.size_push];omega) (gk _ _ _ kp g0)
 ·obtain ⟨rfl,_⟩:=id gd;have lv:(bs.map Value.ref).length=ns.length:=by rw[List.length_map,lb]
  refine ⟨by rw[lv];exact h64,λ i j=>iN (ns.getD i []) (ns.getD j []),tuples' true,by rw[lv];exact O,λ h2 A' DX tk E' Q' gd' q'=>?_,λ A' DX tk i j Q' hu gd' hi hj hij q'=>?_,λ DX tk r e ix kp hr gd' er hp pw=>?_⟩
  ·obtain ⟨fs,k1,k2,k3⟩:=agk bs ns lb h3 gd'.2;rw[lv] at h2;refine kat_kind (s:=Shared.mk DX s.gens s.drawn tk s.os) (fs:=fs) (T:= .type "int") k1 (by rw[k2,lb];omega) (λ v hv=>?_) rfl q';obtain ⟨x,t,rfl⟩:=k3 v hv;exact Gp
  ·rw[lv] at hi hj;obtain ⟨b,n,e1,e2,e3,e4⟩:=at2 hi;obtain ⟨c,m,f1,f2,f3,f4⟩:=at2 hj;rw[e3,f3];obtain ⟨its,⟨ob,o1,o2,k1,o3⟩,i1⟩:=gd'.2 i b n e1 e2;obtain ⟨jts,⟨oc,p1,p2,k2,p3⟩,i2⟩:=gd'.2 j c m f1 f2;have ln:=h3 n (List.mem_of_getElem? e2);have lm:=h3 m (List.mem_of_getElem? f2);refine kat_lt (s:=Shared.mk DX s.gens s.drawn tk s.os) o1 o3 p1 p3 ?_;have z1:its.length=3:=by rw[<-ln];exact i1.length
   have z2:jts.length=3:=by rw[<-lm];exact i2.length
   rw[show decide (its.toArray.size<jts.toArray.size)=false by simp[z1,z2]];refine KN 0 i1 i2 (by rw[ln,lm]) ?_;rw[<-e4, <-f4];exact q'
  ·rw[lv] at hp;have vals:Vals (ix.map λ i=>V.ref (bs.getD i 0)) (ix.map λ i=>(bs.map Value.ref).getD i Value.none):=by
    have:∀l:List Nat,(∀i∈l,i<ns.length)->Vals (l.map λ i=>V.ref (bs.getD i 0)) (l.map λ i=>(bs.map Value.ref).getD i Value.none):=by
     intro l;induction l with
     |nil=>exact λ _=> .nil
     |cons i l ih=>intro hl;obtain ⟨b,_,e1,_,e3,_⟩:=at2 (hl i (.head _));refine .cons ?_ (ih λ j hj=>hl j (.tail _ hj));show L2.RelV (V.ref (bs.getD i 0)) ((bs.map Value.ref).getD i Value.none);rw[e3];show Value.ref b=Value.ref (bs.getD i 0);rw[List.getD_eq_getElem?_getD,e1];rfl
    exact this ix λ i hi=>by simpa using hp.mem_iff.mp hi
   have lx:ix.length<4096:=by rw[hp.length_eq,List.length_range];exact h64
   exact ⟨.ref r,_,I.laid (t':=tk) kp hr (show dM X.prog X.w _ DX _ (.lst (ix.map λ i=>V.ref (bs.getD i 0))) from ⟨by rw[sizeLine_eq,List.length_map];omega,_,e,vals,er⟩),rfl,q r ix (I.hok.fresh hr) hp pw⟩
section
variable{X:Cx}{ct:Ct}{e:Expr}{es:List Expr}{f:Sg->Res D}{fa:Sg->Res (List D)}{p pos:Pos}
def JS{K:W.Frag}{H:Hp}:∀{ns:List (List Int)} {vs:List V},aJ K ct H (ns.map tupI) vs->∃bs:List Addr,vs=bs.map V.ref/\bs.length=ns.length/\∀(i:Nat) (b:Addr) (n:List Int),bs[i]? =some b->ns[i]? =some n->H b=some (.tup (n.map V.int))
 |[],vs,h=>by simp only[List.map_nil,aJ] at h;subst h;exact ⟨[],rfl,rfl,λ i b n h=>by simp at h⟩
 |n::ns,vs,h=>by
  simp only[List.map_cons,aJ] at h;obtain ⟨v,r,rfl,h1,h2⟩:=h;obtain ⟨bs,rfl,lb,hb⟩:=JS h2;simp only[tupI,Tl] at h1;obtain ⟨a,us,rfl,ha,ht⟩:=h1;have eu:us=n.map V.int:=by
   have:∀{m:List Int} {us:List V},aJ K ct H (m.map D.int) us->us=m.map V.int:=by
    intro m;induction m with
    |nil=>intro us h;simpa[aJ] using h
    |cons x m ih=>intro us h;simp only[List.map_cons,aJ,Tl] at h;obtain ⟨v,r,rfl,rfl,h⟩:=h;rw[ih h];rfl
   exact this ht
  subst eu;refine ⟨a::bs,rfl,by simp[lb],λ i b m e1 e2=>?_⟩;cases i with
  |zero=>simp at e1 e2;subst e1 e2;exact ha
  |succ i=>exact hb i b m (by simpa using e1) (by simpa using e2)
def uV(hm:X.mg "sorted"=none)(ha:GW X ct (e::es) fa)(hg:Gl X "sorted":=by rfl)(he:starEach (e::es) X.env=(false,eval e X.env)::starEach es X.env:=by rfl)(hpl:(backTo pos (starEach es X.env)).any (·.1)=false:=by rfl):WL X ct (.Call (.Name "sorted" p) (e::es) [] pos) (lCB yF fa):=by
 have ha:=ha.out;refine ⟨?_⟩;refine PE.imp (pU Ji hg hm (by decide+kernel) ha (by decide) (by decide) he hpl) λ σ H Q ⟨Γ,j,h⟩=>?_;refine OX.bnd j h λ ds vs H' s t j' h'=>?_;unfold yF at h';split at h'
 ·rename_i x;obtain ⟨v,rfl,t1⟩:=DY t;have go:∀(xs:List D) (a:Addr) (vs:List V),rJ X.K H' a vs->aJ X.K ct H' xs vs->v= .ref a->Ok X ct σ H (F1 xs) (Wl X ct H Q)->∃(a:Addr) (bs:List Addr) (ns:List (List Int)),[v]=[.ref a]/\rJ X.K H' a (bs.map V.ref)/\bs.length=ns.length/\ns.Nodup/\ns.length<4096/\(∀n∈ns,n.length=3)/\
    (∀(i:Nat) (b:Addr) (n:List Int),bs[i]? =some b->ns[i]? =some n->H' b=some (.tup (n.map V.int)))/\
    ∀(r:Addr) (ix:List Nat),H' r=none->ix.Perm (List.range ns.length)->ix.Pairwise (λ i j=>iN (ns.getD i []) (ns.getD j [])=true)->Q (.ref r) (upd H' r (.lst (ix.map λ i=>V.ref (bs.getD i 0)))):=by
   intro xs a vs sq tl ev hh;unfold F1 at hh;split at hh
   ·rename_i ns hn;split at hh
    ·rename_i hc;obtain ⟨n1,n2⟩:=abo hn;rw[n1] at tl;obtain ⟨bs,rfl,lb,hb⟩:=JS tl;have lx:xs.length=ns.length:=by rw[n1,List.length_map]
     refine ⟨a,bs,ns,by rw[ev],sq,lb,hc.2,hc.1,n2,hb,λ r ix hr hp pw=>?_⟩;have s2:=bh hr (.lst (ix.map λ i=>V.ref (bs.getD i 0)));refine hh r _ _ (s.trans s2) (s.free hr) aG ?_;rw[<-ahH lx hc.2 hp pw,List.map_map];refine Uj λ i hi=>?_;have il:i<ns.length:=by simpa using hp.mem_iff.mp hi
     have ib:i<bs.length:=by rw[lb];exact il
     show Tl X.K ct _ (tupI (ns.getD i [])) (V.ref (bs.getD i 0));rw[List.getD_eq_getElem?_getD,List.getD_eq_getElem?_getD,List.getElem?_eq_getElem il,List.getElem?_eq_getElem ib];exact adP (s2 _ _ (hb i _ _ (List.getElem?_eq_getElem ib) (List.getElem?_eq_getElem il)))
    ·exact hh.elim
   ·exact hh.elim
  cases x with
  |lst xs=>simp only[Tl] at t1;obtain ⟨a,vs,rfl,fz,tl⟩:=t1;exact go xs a vs fz.sq tl rfl h'
  |bor tm xs=>
   obtain ⟨a,rfl,sq,tl⟩:∃a,v= .ref a/\(∃vs,rJ X.K H' a vs/\aJ X.K ct H' xs vs)/\True:=by
    simp only[Tl] at t1;obtain ⟨a,vs,rfl,h2,t⟩:=t1;refine ⟨a,rfl,⟨vs,?_,t⟩,trivial⟩;cases tm with
    |true=>exact .inl (.inl (j'.lB a _ h2))
    |false=>exact .inl (.inl (j'.lL a _ h2))
   obtain ⟨vs,sq,tl⟩:=sq;exact go xs a vs sq tl rfl h'
  |_=>exact h'.elim
 ·exact h'.elim
end
end L4
end
section
namespace L4
open PySem PySem.Spec PyProof.Rows L2
section
variable{X:Cx}{c:Cf}{st:Stmt}{sts:List Stmt}
def Ud:DL X c st ahO:=by refine ⟨?_⟩;intro pins s σ H E I ⟨Γ,j,h⟩;exact h.elim
end
def hU1{a b:Nat}(h:a+64<b):a+1<b:=by omega
def CQ(X:Cx)(scope:Scope)(c:Nat)(y:Str):Prop:=X.N[c]? =some y/\Yj X.env.scope y/\X.env.kindOf y≠some .local/\(y,NameKind.free)∈scope.names
def Jh{X:Cx}{scope:Scope}{c:Nat}{y:Str}(h1:X.N[c]? =some y)(h2:Yj X.env.scope y:=by first|exact Or.inl rfl|exact Or.inr (Or.inl rfl)|exact Or.inr (Or.inr rfl))(h3:X.env.kindOf y≠some .local:=by exact λ h=>nomatch h)(h4:(y,NameKind.free)∈scope.names:=by decide+kernel):CQ X scope c y:=⟨h1,h2,h3,h4⟩
def XM{X:Cx}{scope:Scope}{k:Nat}{caps:List Nat}{N':List Str}(h:∀p∈caps.zip (N'.drop k),CQ X scope p.1 p.2)(i c:Nat)(y:Str)(h1:caps[i]? =some c)(h2:N'[k+i]? =some y):X.N[c]? =some y/\Yj X.env.scope y/\X.env.kindOf y≠some .local/\(y,NameKind.free)∈scope.names:=h (c,y) (List.mem_of_getElem? (i:=i) (List.getElem?_zip_eq_some.mpr ⟨h1,by rw[List.getElem?_drop];exact h2⟩))
section
variable{X:Cx}{ct:Ct}{a b:Expr}{f g:Sg->Res D}{pos:Pos}
end
section
variable{X:Cx}{c:Cf}{r ix e:Expr}{i:Nat}{g:Sg->Res (List Nat)}{f:Sg->Res (List D)}{pos:Pos}{Γ:Sg}{σ:St}{H:Hp}
def aa6{K:W.Frag}{ds:List D}{ys:List V}{a:Addr}{vs:List V}{B:Hp}{m' jm:M}{S':Fp}(t:aJ K (c.at' B) H ds ys)(ha:H a=some (.lst vs))(e:aa7 ds m'=some jm)(o:Ow K c.z H m' (.ref a) S'):
  vs.length+ys.length<1000000/\S' a/\Ow K c.z (upd H a (.lst (vs++ys))) jm (.ref a) S':=by
 have kp:aZ c.cb H (upd H a (.lst (vs++ys))):=aZ.lst ha;cases m' with
 |l xs=>
  simp only[aa7] at e;split at e
  ·rename_i hc;cases e;simp only[Ow] at o ⊢;obtain ⟨a',us,e1,o2,o3,o4⟩:=o;cases e1;rw[ha] at o3;cases o3;exact ⟨by rw[<-o4.length, <-t.length];exact hc.1,o2,a,_,rfl,o2,aG,(o4.append (aJ.down (B:=B) (tm:=true) t hc.2)).keep kp⟩
  ·cases e
 |_=>cases e
def LV{ap cp:Pos}(hr:∀B,WP X (c.at' B) r i g)(he:∀B,WL X (c.at' B) e f)(hbase:attributeBase r "extend" X.env (eval r X.env)=eval r X.env:=by rfl)(hfew:((backTo cp (starEach [e] X.env)).all (λ x=>!x.1)&&(backToKw cp (keywordEach [] X.env)).all (λ x=>x.1.isSome)
   &&decide ([e].length+([]:List Keyword).length+(if ([]:List Keyword).isEmpty then 0 else 1)<30))=true:=by rfl) (hline:(ap.endLine==cp.line)=true:=by rfl) (hs:starEach [e] X.env=(false,eval e X.env)::starEach [] X.env:=by rfl) (hplain:(backTo cp (starEach [] X.env)).any (·.1)=false:=by rfl) (hw:swapsWith (.Call (.Attribute r "extend" ap) [e] [] cp) none pos.line X.env=pure false:=by rfl):DL X c (.Expr (.Call (.Attribute r "extend" ap) [e] [] cp) pos) (Hr i g f):=by
 have hr:=λ B=>(hr B).out;have he:=λ B=>(he B).out;refine ⟨?_⟩;intro pins s σ H E I ⟨Γ,j,h⟩;refine wU (agg PySem.F.plainAttrs_list PySem.F.slot_list_extend PySem.F.type_list_extend Wr (hr H) (oK (he H) yN hs) hbase hfew hline hs hplain) hw pins s σ H E I ?_;refine ⟨Γ,j.lift,Fn.ok j h λ ks _ q v H1 s1 pa=>?_⟩;split at q
 ·rename_i hl;have j1:=j.mono s1;obtain ⟨a,vs,rfl,ha⟩:=Gb j1 pa hl;refine ⟨.inl ⟨rfl,vs,rJ.of ha⟩,Γ,j.lift.mono s1,Ok.mono (H:=H) s1 (Fn.ok (tm:=true) (B:=H) j q λ d _ q b ys H2 s2 hn hb t=>?_) λ _ z=>z⟩;have j2:=j1.mono s2;have pa2:=pa.same s2;have ha2:=s2 _ _ ha;obtain ⟨m',jm,S',e1,o1⟩:=G7 j2 pa2 q;refine ⟨a,b,vs,ys,rfl,rfl,ha2,hb,Nat.le_of_lt (Nat.lt_trans (aa6 t ha2 e1 o1).1 mW),?_⟩;exact G8 j2 (az.keep (s1.trans s2)) pa2 ha2 q λ m' jm S' e o=>(aa6 t ha2 e o).2
 ·exact q.elim
end
section
variable{X:Cx}{ct:Ct}{tg:Expr}{elts:List Expr}{cx:Nat}{tp:Pos}
def aqe(K:W.Frag)(ta:TA):TI:=λ σ H R=>ta σ H λ vs H1=>∃a xs,vs=[.ref a]/\yx K H1 a xs/\R (Ite K a xs.length) H1
def aem{a:Expr}{ta:TA}{p pos:Pos}(hg:Gl X "enumerate")(hm:X.mg "enumerate"=none)(ha:PA X [a] ta)(hs:starEach [a] X.env=[(false,eval a X.env)]:=by rfl):PI X (.Tuple elts cx tp) (.Call (.Name "enumerate" p) [a] [] pos) (aqe X.K ta):=by
 intro pins s σ H R I h;refine Call_ (zm I hg hm boot_enumerate (PyProof.Rows.callWith_type1 (gC (ha pos pins s σ H _ I h) λ us s1 ⟨vs,H1,I1,r1,q1⟩=>?_) hs rfl));obtain ⟨l,xs,e,hq,q⟩:=q1;subst e;cases r1 with
 |cons r rr=>
  cases rr;cases r;obtain ⟨its,rv,p,hz⟩:=I1.tuple hq;refine OE (show s1.heap.IsTuple l its.toArray from p) λ h' he hit k=>?_;refine wpAny_pyIter_enum he ?_;refine ⟨s1.heap.objs.size+1,[s1.heap.objs.size+1,s1.heap.objs.size],_,_,H1,rfl,I1.kept (t':=s1.toks) k,Ma l _ _ xs.length,⟨⟨_,he⟩,hit,Nat.zero_le _⟩,λ b hb=>?_,q⟩;simp only[List.mem_cons,List.not_mem_nil,or_false] at hb;rcases hb with rfl|rfl
  ·exact I1.Xp (Nat.le_succ _) (I1.hok.fresh (Nat.le_succ _))
  ·exact I1.Xp (Nat.le_refl _) (I1.hok.fresh (Nat.le_refl _))
def GB:∀(k:Nat) (xs:List D),(oU k xs).length=xs.length
 |_,[]=>rfl
 |k,x::xs=>by simp[oU,GB (k+1) xs]
def GC:∀(k:Nat) (xs:List D) (i:Nat),(oU k xs)[i]? =(xs[i]?).map λ x=> .tup [.int ((k+i:Nat):Int),x]
 |_,[],i=>by simp[oU]
 |k,x::xs,0=>by simp[oU]
 |k,x::xs,i+1=>by simp only[oU,List.getElem?_cons_succ];rw[GC (k+1) xs i,show k+1+i=k+(i+1) by omega]
def aaE{K:W.Frag}{H:Hp}{a:Addr}{vs:List V}{xs:List D}(fz:yx K H a vs)(t:aJ K ct H xs vs):Yd K ct (Ite K a vs.length) (oU 0 xs) H:=by
 refine ⟨λ H1=>aZ ct.f.cb H H1,aZ.refl H,λ H1 H2 k1 k2 _ _=>k1.trans k2,λ i d H1 k1 hd=>?_,λ i H1 k1 hi=>⟨vs,k1.sqT fz,rfl,by rw[GB] at hi;rw[<-t.length];exact hi⟩⟩;rw[GC,Nat.zero_add] at hd;cases hx:xs[i]? with
 |none=>rw[hx] at hd;cases hd
 |some x=>rw[hx] at hd;simp only[Option.map_some,Option.some.injEq] at hd;subst hd;obtain ⟨v,hv,tv⟩:=t.get hx;refine ⟨⟨vs,v,k1.sqT fz,rfl,hv⟩,λ y H2 ⟨p,v',hp,hv',ey,eH⟩=>?_⟩;have e2:=hv' vs (k1.sqT fz);rw[hv] at e2;cases e2;subst ey eH;have sm:=bh (H:=H1) hp (.tup [.int i,v]);refine ⟨sm,?_⟩;simp only[Tl];exact ⟨p,_,rfl,aG,aJ.cons (by simp[Tl]) (aJ.cons ((tv.keep k1).keep (az.keep sm)) aJ.nil)⟩
def JL{a:Expr}{r:Sg->Res (List D)}{p pos':Pos}(hm:X.mg "enumerate"=none)(ha:GW X ct [a] r)(hgl:Gl X "enumerate":=by rfl)(hs:starEach [a] X.env=[(false,eval a X.env)]:=by rfl):WID X ct (.Tuple elts cx tp) (.Call (.Name "enumerate" p) [a] [] pos') (K8 r):=by
 have ha:=ha.out;refine ⟨?_⟩;intro pins s σ H R I ⟨Γ,j,h⟩;refine aem hgl hm ha hs pins s σ H R I ⟨Γ,j,h.bnd λ ds _ q vs H' s tl=>?_⟩;unfold U9 at q;split at q
 ·rename_i xs _;replace q:∀J H',az H H'->Yd X.K ct J (oU 0 xs) H'->R J H':=q;obtain ⟨v,rfl,t1⟩:=DY tl;simp only[Tl] at t1;obtain ⟨b,us,rfl,hb,t2⟩:=t1;exact ⟨b,us,rfl,pK hb,q _ H' s (aaE (pK hb) t2)⟩
 ·exact q.elim
end
section
variable{X:Cx}{ct:Ct}{tg:Expr}
noncomputable def Itz(d:Addr)(o:Obj):It:=⟨λ _ _=>False,λ _ _ _ _=>False,λ _ H=>∃u,H d=some (.EX o u)⟩
def afe:fastTable "dict_itemiterator.__iter__"=none:=by kernel_rfl
def aiY:"dict_itemiterator.__iter__".cutAt '#'=["dict_itemiterator.__iter__"]:=by kernel_rfl
def aiX:fastTable "dict_keyiterator.__iter__"=some Builtin.«dict_keyiterator.__iter__»:=by kernel_rfl
def uz:entryFor table "dict_itemiterator.__iter__"=some Builtin.«dict_keyiterator.__iter__»:=entryFor_alias afe aiY (by decide+kernel) aiX
def EU{prog:Program}{w:World}{A:Around}{E:Value->Shared->Prop}{s:Shared}{it:Addr}{o:Obj}{Q:Value->Shared->Prop}(h:s.heap.get? it=some o)(hc:o.cls= .type "dict_itemiterator")(q:Q (.ref it) s):wpAny (model prog w) A (pyIter (.ref it)) Q E s:=by have ty:s.TypeIs (.ref it) "dict_itemiterator":=⟨o,h,hc⟩;refine wpAny_pyIter_slot ty PySem.F.slot_dict_itemiterator_iter (wpAny_call_entry PySem.F.slot_dict_itemiterator_iter ty uz ?_ (PySem.F.args_dict_itemiterator_iter_1 _));unfold Builtin.«dict_keyiterator.__iter__»;exact wpAny_pure ⟨_,rfl,"dict_itemiterator",_,ty,PySem.F.slot_dict_itemiterator_next.lookup,q⟩
def JR{P:Program}{w:World}{K:W.Frag}{tg:Expr}(it d:Addr)(o:Obj)(ep:Nat)(ho:o.data= .dict #[] ep):Turn P w K tg (Itz d o) [it] it (λ i h=>i=0/\h.get? it=some (itO .none (.bool false) d 0 0 ep .none .none)) where
 mem:=by simp
 obj:=λ i h st b hb=>by
  have e:b=it:=by simpa using hb
  subst e
  exact ⟨_,st.2,λ v z=>by cases z⟩
 keep:=λ i h h' st k=>⟨st.1,k it (by simp) _ st.2⟩
 item:=by
  intro X hP hw hK hc i pins s σ H E I hf st hg
  exact hg.elim
 done:=by
  intro X hP hw hK hc i pins s σ H E I hf st hg
  subst hP hw hK
  obtain ⟨f0,f1,f2,f3,f4,f5⟩:=hf it (by simp)
  obtain ⟨u,hu⟩:=hg
  have hd:Ent s.heap d #[] ep:=⟨o,(I.hok d _ hu).1,ho⟩
  exact air (es:= #[]) (I.ok.hd hc) st.2 hd (Nat.le_refl _) λ h' eb=>⟨rfl,I.turned (t':=s.toks) (λ b o hb e=>eb b o hb e) f0 f1 f3 f4 f5⟩
 self:=λ _ _ _ _ _ st h=>EU st.2 rfl h
def LU{o:Expr}{f:Sg->Res D}{ap cp:Pos}(ho:WD X ct o f)(h1:attributeBase o "items" X.env (eval o X.env)=eval o X.env:=by rfl)(h3:(ap.endLine==cp.line)=true:=by rfl):WID X ct tg (.Call (.Attribute o "items" ap) [] [] cp) (IM f):=by
 have ho:=ho.out;refine ⟨?_⟩;intro pins s σ H R I ⟨Γ,j,h⟩;refine gC (Zs ho h1 h3 pins s σ H (λ x H2=>∃v d ob,x= .ref v/\H2 v=some (.ext (afW v d))/\H2 d=some (.EX ob (.dT []))/\R (Itz d ob) H2) I ⟨Γ,j,h.bnd λ x _ q v H' sm tl=>?_⟩) λ v s1 ⟨x,H2,I2,rx,vv,d,ob,ex,hv,hd,q⟩=>?_
 ·unfold NW at q;split at q
  ·rename_i l _;replace q:∀J H',az H H'->Yd X.K ct J [] H'->R J H':=q;simp only[Tl] at tl;obtain ⟨a,vs,rfl,⟨ob,hfz⟩,hl,tl⟩:=tl;simp only[aJ] at tl;subst tl;have el:l=[]:=List.eq_nil_of_length_eq_zero hl;subst el;refine ⟨a,rfl,.inr ⟨_,.inr ⟨_,hfz⟩⟩,λ v hvn=>?_⟩;have sm2:=bh hvn (.ext (afW v a));have hd2:=sm2 _ _ hfz;refine ⟨v,a,ob,rfl,aG,hd2,q _ _ (sm.trans sm2) ⟨λ H1=>∃u,H1 a=some (.EX ob u),⟨_,hd2⟩,λ H1 H3 ⟨u,hu⟩ k _ _=>⟨u,k a _ hu trivial⟩,λ i d H1 _ z=>by simp at z,λ i H1 hu _=>hu⟩⟩
  ·exact q.elim
 ·subst ex;cases rx;obtain ⟨g1,g2⟩:=I2.hok d _ hd;obtain ⟨_,_,xs,pr,o',es,ep,e1,_,e3,e4,_⟩:=(show dM X.prog X.w H2 s1.heap d (.dT []) from g2);cases pr;have hes:es= #[]:=by apply Array.toList_inj.mp;simpa using e4
  subst hes;rw[g1] at e1;cases e1;have hvw:s1.heap.get? vv=some (vwO d):=(I2.hok vv _ hv).1;refine NV hvw ⟨ob,g1,e3⟩ ?_;refine ⟨s1.heap.objs.size,[s1.heap.objs.size],_,_,H2,rfl,I2.kept (t':=s1.toks) λ b o e=>Heap.get?_push_of_some _ e,JR _ d ob ep e3,⟨rfl,Heap.get?_push_size _ rfl⟩,λ b hb=>?_,q⟩;have e:b=s1.heap.objs.size:=by simpa using hb
  subst e;exact I2.Xp (Nat.le_refl _) (I2.hok.fresh (Nat.le_refl _))
end
noncomputable def ae6(K:W.Frag)(cv:Value)(n:String)(l:List (Value×List String)):Bool:=l.all λ p=>W.kitOne K p.1 cv==some (p.2.contains n)
noncomputable def kN:List (Value×List String):=[(.type "NoneType",["NoneType"]),(.type "bool",["bool","int"]),(.type "int",["int"]),(.type "str",["str"]),(.type "tuple",["tuple"]),(.type "list",["list"]),(.type "dict",["dict"])]
def isAll(K:W.Frag)(mt:List (String×List String))(E:List (String×Addr))(T:qo)(IS:List (Value×String)):Bool:=IS.all λ x=>ae6 K x.1 x.2 kN&&ae6 K x.1 x.2 (E.map λ e=>(.ref e.2,(mt.lookup e.1).getD []))&&ae6 K x.1 x.2 (T.map λ e=>(.ref e.2.1,(mt.lookup e.1).getD []))
def m8{K:W.Frag}{cv:Value}{n:String}{l:List (Value×List String)}(h:ae6 K cv n l=true){p:Value×List String}(hp:p∈l):W.kitOne K p.1 cv=some (p.2.contains n):=eq_of_beq (List.all_eq_true.mp h p hp)
def IK{K:W.Frag}{mt:List (String×List String)}{E:List (String×Addr)}{T:qo}{IS:List (Value×String)}{cv:Value}{n:String}(h:isAll K mt E T IS=true)(hm:(cv,n)∈IS):TU K (abz E T) mt cv n:=by
 have h1:=List.all_eq_true.mp h _ hm;simp only[Bool.and_eq_true] at h1;obtain ⟨⟨h1,h2⟩,h3⟩:=h1;refine ⟨m8 h1 (.head _),m8 h1 (.tail _ (.head _)),m8 h1 (.tail _ (.tail _ (.head _))),m8 h1 (.tail _ (.tail _ (.tail _ (.head _)))),m8 h1 (.tail _ (.tail _ (.tail _ (.tail _ (.head _))))),m8 h1 (.tail _ (.tail _ (.tail _ (.tail _ (.tail _ (.head _)))))),m8 h1 (.tail _ (.tail _ (.tail _ (.tail _ (.tail _ (.tail _ (.head _))))))),λ c C ks hc hk=>?_,λ c C ns ks hc hk=>?_⟩
 ·have:=m8 h2 (List.mem_map.mpr ⟨_,gu hc,rfl⟩);simp only[hk,Option.getD_some] at this;exact this
 ·have:=m8 h3 (List.mem_map.mpr ⟨_,gu hc,rfl⟩);simp only[hk,Option.getD_some] at this;exact this
section
variable{P:Program}{w:World}{K:W.Frag}{mg:Str->Option Value}{cb:Cb}{base:Heap}
def pG{x qual:Str}{st:Stmt}{f:Addr}{fd:FuncData}{N ps:List Str}{k:Nat}{F:List Slot->cO}(B:Nat->Sg->Out)(Ye:mH K x qual st f fd)(hF:∀as,as.length=ps.length->F as≠.bad->∃n,mU (B n (ck N as))=F as)(hbody:∀(c:Cf) (cdv:Value) (A:Around) (outer:List Env) (s:Shared) (H:Hp) (E:XK),c.cb=cb->fD k (A.deeper (envOfC qual (ay st) s.heap.objs.size f cdv))->Good (pD (JI P w) P w K mg base N qual (ay st) f cdv A outer s H E)->∀n,zI (pD (JI P w) P w K mg base N qual (ay st) f cdv A outer s H E) c (aF st) (B n)) (S:oY N ps (ay st):=by exact ⟨rfl,rfl,rfl,by decide+kernel,rfl,by decide+kernel,by decide+kernel⟩):jx P w K mg base cb (k+1) f fd ps F:=adH Ye S hbody hF
def wfG{x qual:Str}{st:Stmt}{f:Addr}{fd:FuncData}{N ps:List Str}{k:Nat}{F:List Slot->cO}(B:Nat->Sg->Out)(Ye:mH K x qual st f fd)(hF:∀as,as.length=ps.length->F as≠.bad->∃n,abO (B n (ck N as))=F as)(hbody:∀(c:Cf) (cdv:Value) (A:Around) (outer:List Env) (s:Shared) (H:Hp) (E:XK),c.cb=cb->fD k (A.deeper (envOfC qual (ay st) s.heap.objs.size f cdv))->Good (pD (JI P w) P w K mg base N qual (ay st) f cdv A outer s H E)->∀n,zI (pD (JI P w) P w K mg base N qual (ay st) f cdv A outer s H E) c (aF st) (B n)) (S:oY N ps (ay st):=by exact ⟨rfl,rfl,rfl,by decide+kernel,rfl,by decide+kernel,by decide+kernel⟩):jx P w K mg base cb (k+1) f fd ps F:=adG Ye S hbody hF
end
section
variable{X:Cx}{ct:Ct}{tg iter e:Expr}{f:Sg->Res D}{pos:Pos}
def f9(he:WD X ct iter f):WID X ct tg iter (bS f):=by
 have he:=he.out;refine ⟨?_⟩;intro pins s σ H R I ⟨Γ,j,h⟩;cases q:f Γ with
 |bad=>simp only[bS,q,Res.Js] at h;exact h.elim
 |err c=>simp only[bS,q,Res.Jr] at h;exact HE he pins s σ H R I ⟨Γ,j,by rw[q];exact h⟩
 |ok d=>
  simp only[bS,q,Res.bw] at h;cases d with
  |lst xs=>replace h:∀J H',az H H'->Yd X.K ct J xs H'->R J H':=h;refine HE he pins s σ H R I ⟨Γ,j,?_⟩;rw[q];intro v H' sm tl;simp only[Tl] at tl;obtain ⟨a,vs,rfl,fz,tl⟩:=tl;exact ⟨a,rfl,⟨vs,fz.sq⟩,h _ H' sm (aaD fz tl)⟩
  |bor tm xs=>replace h:∀J H',az H H'->Yd X.K ct J xs H'->R J H':=h;refine HE he pins s σ H R I ⟨Γ,j,?_⟩;rw[q];intro v H' sm tl;have j':=j.mono sm;obtain ⟨a,rfl,sq,it⟩:=ae8 j'.lL j'.lB tl;exact ⟨a,rfl,sq,h _ H' sm it⟩
  |tup xs=>replace h:∀J H',az H H'->Yd X.K ct J xs H'->R J H':=h;refine Zm he pins s σ H R I ⟨Γ,j,?_⟩;rw[q];intro v H' sm tl;simp only[Tl] at tl;obtain ⟨a,vs,rfl,fz,tl⟩:=tl;exact ⟨a,rfl,⟨vs,pK fz⟩,h _ H' sm (UT (pK fz) tl)⟩
  |gt xs=>replace h:∀J H',az H H'->Yd X.K ct J xs H'->R J H':=h;refine Zm he pins s σ H R I ⟨Γ,j,?_⟩;rw[q];intro v H' sm tl;simp only[Tl] at tl;obtain ⟨a,vs,rfl,fz,tl⟩:=tl;exact ⟨a,rfl,⟨vs,fz.sq⟩,h _ H' sm (UT fz.sq tl)⟩
  |_=>exact h.elim
end
section
variable{X:Cx}{ct:Ct}{a b:Expr}{f g:Sg->Res D}
def YC{apos cpos:Pos}(hu:X.A.units+1<cLine)(ha:WD X ct a f)(hb:WD X ct b g)(m:M1 X a "get" apos b cpos:=by exact ⟨rfl,rfl,rfl,rfl⟩):WD X ct (.Call (.Attribute a "get" apos) [b] [] cpos) (abn f g):=by
 have ha:=ha.out;have hb:=hb.out;refine ⟨?_⟩;intro pins s σ H Q I ⟨Γ,j,hh⟩;refine Zu hu ha hb m pins s σ H Q I ?_;refine rL.bnd j hh λ o v H1 s1 t1 j1 q1=>?_;split at q1
 ·rename_i p e0;obtain ⟨ks,xs⟩:=p;obtain ⟨a,vs,rfl,r1,r2,r3⟩:=t1.agv j1.lL j1.lB e0;refine ⟨a,rfl,.inr ⟨_,r1⟩,?_⟩;refine rL.bnd (f:=g) (W:=Wd X ct H Q) j1 (Ok.mono s1 q1 λ _ z=>z) λ y u H2 s2 t2 j2 q2=>?_;unfold aaY at q2;rw[e0] at q2;split at q2
  ·rename_i ks' xs' k e1 e2;cases e1;obtain ⟨a',vs',ea,w1,w2,w3⟩:=(t1.keep (az.keep s2)).agv j2.lL j2.lB e0;cases ea;obtain ⟨p,rfl,hp⟩:=UO t2 e2;refine ⟨_,.inr ⟨_,k,p,w1,rfl,hp,rfl⟩,?_⟩;cases hg:IV ks xs k with
   |none=>rw[(IU w3 w2).2 hg];rw[hg] at q2;exact q2 _ H2 (s1.trans s2) (by simp[Tl])
   |some d=>obtain ⟨w,x1,x2⟩:=(IU w3 w2).1 d hg;rw[x1];rw[hg] at q2;exact q2 _ H2 (s1.trans s2) x2
  ·exact q2.elim
 ·exact q1.elim
end
end L4
end
section
namespace K10
open PySem L4
noncomputable def mt:List (String×List String):=[("NoPass",["NoPass","BeamError","ValueError"]),("NoCell",["NoCell","BeamError","ValueError"]),("NoTable",["NoTable","BeamError","ValueError"]),("NoPlace",["NoPlace","BeamError","ValueError"]),("Empty",["Empty","Cell"]),("Mirror",["Mirror","Cell"]),("Wall",["Wall","Cell"]),("Table",["Table"])]
noncomputable def Lc:List (String×List Str):=[("Empty",[]),("Mirror",["slant"]),("Wall",[]),("Table",["grid","ends"])]
noncomputable abbrev Kr:List Str:=["_law_script","_law_k"]
noncomputable abbrev sf:List Str:=["_law_script","_law_k"]
def bO(n:Nat):Sg->Out:=(bN (yK (dT (bu ltI (aj 1) (E9 oB (ai (aj 0) aB)))) (fG (bu dO (aj 0) (aj 1))) gh)
  (fG (dC (.int 0))))
def cg(as:List Slot):cO:=mU (bO 0 (ck Kr as))
noncomputable abbrev ZT:List Str:=["_law_cell"]
noncomputable abbrev B9:List Str:=["_law_cell"]
def i8(n:Nat):Sg->Out:=(bN (yK (dT (bu LK (bu m7 (aj 0) (dC (.int 3))) (dC (.int 0)))) (fG (bu wj (dC (.int 1)) (bu m7 (bu oO (aj 0) (dC (.int 3))) (dC (.int 16))))) gh)
  (fG (bu wj (dC (.int 1)) (bu m7 (bu oO (aj 0) (dC (.int 3))) (dC (.int 4))))))
def kr(as:List Slot):cO:=mU (i8 0 (ck ZT as))
noncomputable abbrev ED:List Str:=["slant"]
noncomputable abbrev o8:List Str:=["slant"]
def eU(n:Nat):Sg->Out:=(yK (dT (bu sG (aj 0) (kh (ai (dC (.int 1)) (ai (dC (.int 3)) aB))))) (rZ "NoCell" (ai (dC (.str "a slant is 1 or 3")) aB)) gh)
def jb(as:List Slot):cO:=mU (eU 0 (ck ED as))
noncomputable abbrev xw:List Str:=["self","slant"]
noncomputable abbrev jT:List Str:=["self","slant"]
def bW(n:Nat):Sg->Out:=(bN (rm (aR 1 jb (ai (aj 1) aB)))
  (zP 0 Lc "slant" (aj 1)))
def b7(as:List Slot):cO:=abO (bW 0 (ck xw as))
noncomputable abbrev EE:List Str:=["grid","cells"]
noncomputable abbrev o9:List Str:=["grid"]
def jc(n:Nat):Sg->Out:=(bN (yK (uC (dT (kW Yi Yi (dC (.int 1)) (E9 oB (ai (aj 1) aB)) (dC (.int 16))))) (rZ "NoTable" (ai (dC (.str "a row has 1 to 16 cells")) aB)) gh)
  (yK (dT (bu ZR (E9 oB (ai (aj 1) aB)) (E9 oB (ai (bu dO (aj 0) (dC (.int 0))) aB)))) (rZ "NoTable" (ai (dC (.str "the rows are of unlike length")) aB)) gh))
def cY(n:Nat):Sg->Out:=(bN (yK (uC (dT (kW Yi Yi (dC (.int 1)) (E9 oB (ai (aj 0) aB)) (dC (.int 16))))) (rZ "NoTable" (ai (dC (.str "a table has 1 to 16 rows")) aB)) gh)
  (gE (bS (aj 0)) (aD 1) (jc n)))
def c9(as:List Slot):cO:=mU (cY 0 (ck EE as))
noncomputable abbrev Cz:List Str:=["grid","places","y","cells","x","cell"]
noncomputable abbrev nR:List Str:=["grid"]
def iz(n:Nat):Sg->Out:=(yK (dT (A3 mt ["Fibre"] (aj 5))) ahO gh)
def iy(n:Nat):Sg->Out:=(gE (K8 (ai (aj 3) aB)) (jy 2 (bg (aD 4) (bg (aD 5) kD))) (iz n))
def cD(n:Nat):Sg->Out:=(bN (rj 1 (λ _=> .ok (.k (.t []) [])))
  (bN (gE (K8 (ai (aj 0) aB)) (jy 2 (bg (aD 2) (bg (aD 3) kD))) (iy n))
  (zQ 1)))
def dI(as:List Slot):cO:=mU (cD 0 (ck Cz as))
noncomputable abbrev Ii:List Str:=["grid","ends","name","places"]
noncomputable abbrev qy:List Str:=["grid"]
def BG(n:Nat):Sg->Out:=(bN (yK (dT (bu ZR (E9 oB (ai (aj 3) aB)) (dC (.int 2)))) ahO gh)
  (bN (Y5 1 (sr 1) (bu dO (aj 3) (dC (.int 0))) (bu dO (aj 3) (dC (.int 1))))
  (Y5 1 (sr 1) (bu dO (aj 3) (dC (.int 1))) (bu dO (aj 3) (dC (.int 0))))))
def d9(n:Nat):Sg->Out:=(bN (rj 1 (λ _=> .ok (.k (.t []) [])))
  (bN (gE (IM (aR 1 dI (ai (aj 0) aB))) (jy 2 (bg (aD 2) (bg (aD 3) kD))) (BG n))
  (zQ 1)))
def eG(as:List Slot):cO:=mU (d9 0 (ck Ii as))
noncomputable abbrev pY:List Str:=["self","rows"]
noncomputable abbrev kH:List Str:=["self","rows"]
def bP(n:Nat):Sg->Out:=(bN (zP 0 Lc "grid" (E9 qu (ai (uM (cA false (bS (aj 1)) 1 [] (aD 0) i7 (E9 qu (ai (aj 0) aB)))) aB)))
  (bN (rm (sX 1 c9 (ai (Dk "grid" (xY 0)) aB)))
  (zP 0 Lc "ends" (sX 1 eG (ai (Dk "grid" (xY 0)) aB)))))
def bQ(as:List Slot):cO:=abO (bP 0 (ck pY as))
noncomputable abbrev Ge:List Str:=["_law_script","_law_wide","_law_high","_law_rows","_law_cell","_law_x","_law_y"]
noncomputable abbrev yR:List Str:=["_law_script","_law_wide","_law_high"]
def lU(n:Nat):Sg->Out:=(bN (oA 5 (bu m7 (bu oO (aj 4) (dC (.int 3))) (aj 1)))
  (bN (oA 6 (bu m7 (bu oO (aj 4) (dC (.int 51))) (aj 2)))
  (yK (dT (bu LK (bu m7 (aj 4) (dC (.int 3))) (dC (.int 0)))) (BZ 3 (pIx 3 (sr 3) (aj 6)) (aj 5) (dC (.obj "Wall" [] []))) (BZ 3 (pIx 3 (sr 3) (aj 6)) (aj 5) (Di 1 "Mirror" ["slant"] b7 (ai (bu dO (uM (sW (ai (dC (.int 1)) (ai (dC (.int 3)) aB)))) (bu Ah (bu m7 (aj 4) (dC (.int 3))) (dC (.int 1)))) aB))))))
def jG(n:Nat):Sg->Out:=(bN (rj 3 (mN (rz false (iK (ai (aj 2) aB)) 1 [1] (aD 0) i7 (mL (cA false (iK (ai (aj 1) aB)) 1 [] (aD 0) i7 (dC (.obj "Empty" [] [])))))))
  (bN (gE (bS (uM (K1 (aj 0) (dP (dC (.int 2))) (dP (dC (.int 62)))))) (aD 4) (lU n))
  (Y4 (Dh 1 "Table" ["grid","ends"] bQ (ai (xY 3) aB)))))
def lE(as:List Slot):cO:=mU (jG 0 (ck Ge as))
noncomputable abbrev Nk:List Str:=["_law_p","_law_dx","_law_dy"]
noncomputable abbrev vo:List Str:=["_law_p"]
def cu(n:Nat):Sg->Out:=(bN (VR (bu dO (uM (sW (ai (kh (ai (dC (.int 1)) (ai (dC (.int 0)) aB))) (ai (kh (ai (dC (.int 0)) (ai (dUn Ie (dC (.int 1))) aB))) (ai (kh (ai (dUn Ie (dC (.int 1))) (ai (dC (.int 0)) aB))) (ai (kh (ai (dC (.int 0)) (ai (dC (.int 1)) aB))) aB)))))) (bu dO (aj 0) (dC (.int 2)))) (jy 2 (bg (aD 1) (bg (aD 2) kD))))
  (fG (kh (ai (bu Ah (bu dO (aj 0) (dC (.int 0))) (aj 1)) (ai (bu Ah (bu dO (aj 0) (dC (.int 1))) (aj 2)) aB)))))
def cN(as:List Slot):cO:=mU (cu 0 (ck Nk as))
noncomputable abbrev aiw:List Str:=["_law_x","_law_y","_law_wide","_law_high"]
noncomputable abbrev ML:List Str:=["_law_x","_law_y","_law_wide","_law_high"]
def kX(n:Nat):Sg->Out:=(fG (A5 (kW Yi ltI (dC (.int 0)) (aj 0) (aj 2)) (kW Yi ltI (dC (.int 0)) (aj 1) (aj 3))))
def lF(as:List Slot):cO:=mU (kX 0 (ck aiw as))
noncomputable abbrev UD:List Str:=["_law_wide","_law_high","_law_found","_law_x","_law_y","_law_way","_law_u","_law_v"]
noncomputable abbrev HJ:List Str:=["_law_wide","_law_high"]
def tM(n:Nat):Sg->Out:=(bN (VR (aR 1 cN (ai (kh (ai (aj 3) (ai (aj 4) (ai (aj 5) aB)))) aB)) (jy 2 (bg (aD 6) (bg (aD 7) kD))))
  (yK (cOr (dT (aR 4 lF (ai (aj 3) (ai (aj 4) (ai (aj 0) (ai (aj 1) aB)))))) (dT (aR 4 lF (ai (aj 6) (ai (aj 7) (ai (aj 0) (ai (aj 1) aB))))))) (Hs 2 (sr 2) (kh (ai (aj 3) (ai (aj 4) (ai (aj 5) aB))))) gh))
def tL(n:Nat):Sg->Out:=(gE (iK (ai (dC (.int 4)) aB)) (aD 5) (tM n))
def nv(n:Nat):Sg->Out:=(gE (xQ (ai (dUn Ie (dC (.int 1))) (ai (bu wj (aj 1) (dC (.int 1))) aB))) (aD 4) (tL n))
def oX(n:Nat):Sg->Out:=(bN (rj 2 (mL (sW aB)))
  (bN (gE (xQ (ai (dUn Ie (dC (.int 1))) (ai (bu wj (aj 0) (dC (.int 1))) aB))) (aD 3) (nv n))
  (zQ 2)))
def qZ(as:List Slot):cO:=mU (oX 0 (ck UD as))
noncomputable abbrev EF:List Str:=["self"]
noncomputable abbrev lK:List Str:=["self"]
def cZ(n:Nat):Sg->Out:=(fG (E9 oB (ai (bu dO (Dk "grid" (aj 0)) (dC (.int 0))) aB)))
def e8(as:List Slot):cO:=mU (cZ 0 (ck EF as))
def tQ:List (String×(List Slot->cO)):=[("Table",e8)]
noncomputable abbrev CA:List Str:=["self"]
noncomputable abbrev jR:List Str:=["self"]
def cF(n:Nat):Sg->Out:=(fG (E9 oB (ai (Dk "grid" (aj 0)) aB)))
def dJ(as:List Slot):cO:=mU (cF 0 (ck CA as))
def pI:List (String×(List Slot->cO)):=[("Table",dJ)]
noncomputable abbrev zU:List Str:=["table","found","x","y"]
noncomputable abbrev sd:List Str:=["table"]
def lI(n:Nat):Sg->Out:=(Hr 1 (sr 1) (cA false (bS (dC (.gt [.int 0,.int 1,.int 2,.int 3]))) 1 [2,3] (aD 0) i7 (kh (ai (aj 1) (ai (aj 2) (ai (aj 0) aB))))))
def lH(n:Nat):Sg->Out:=(gE (iK (ai (mK (kE 0 pI (aj 0) aB)) aB)) (aD 3) (lI n))
def d8(n:Nat):Sg->Out:=(bN (rj 1 (mL (sW aB)))
  (bN (gE (iK (ai (mK (kE 0 tQ (aj 0) aB)) aB)) (aD 2) (lH n))
  (zQ 1)))
def cG(as:List Slot):cO:=mU (d8 0 (ck zU as))
noncomputable abbrev Nj:List Str:=["way"]
noncomputable abbrev vn:List Str:=["way"]
def jt(n:Nat):Sg->Out:=(fG (bu ahd (aj 0) (dC (.int 2))))
def lD(as:List Slot):cO:=mU (jt 0 (ck Nj as))
noncomputable abbrev ZU:List Str:=["x","y","way"]
noncomputable abbrev Cc:List Str:=["x","y","way"]
def kq(n:Nat):Sg->Out:=(bN (yK (dT (bu LK (aj 2) (dC (.int 0)))) (fG (kh (ai (bu wj (aj 0) (dC (.int 1))) (ai (aj 1) aB)))) gh)
  (bN (yK (dT (bu LK (aj 2) (dC (.int 1)))) (fG (kh (ai (aj 0) (ai (bu Ah (aj 1) (dC (.int 1))) aB)))) gh)
  (bN (yK (dT (bu LK (aj 2) (dC (.int 2)))) (fG (kh (ai (bu Ah (aj 0) (dC (.int 1))) (ai (aj 1) aB)))) gh)
  (fG (kh (ai (aj 0) (ai (bu wj (aj 1) (dC (.int 1))) aB)))))))
def ku(as:List Slot):cO:=mU (kq 0 (ck ZU as))
noncomputable abbrev Wq:List Str:=["p","way","behind"]
noncomputable abbrev yV:List Str:=["p"]
def iH(n:Nat):Sg->Out:=(bN (oA 1 (aR 1 lD (ai (bu dO (aj 0) (dC (.int 2))) aB)))
  (bN (oA 2 (aR 3 ku (ai (bu dO (aj 0) (dC (.int 0))) (ai (bu dO (aj 0) (dC (.int 1))) (ai (aj 1) aB)))))
  (fG (kh (ai (bu dO (aj 2) (dC (.int 0))) (ai (bu dO (aj 2) (dC (.int 1))) (ai (aj 1) aB)))))))
def gB(as:List Slot):cO:=mU (iH 0 (ck Wq as))
noncomputable abbrev xu:List Str:=["self","x","y"]
noncomputable abbrev gG:List Str:=["self","x","y"]
def bI(n:Nat):Sg->Out:=(fG (A5 (kW Yi ltI (dC (.int 0)) (aj 1) (mK (kE 0 tQ (aj 0) aB))) (kW Yi ltI (dC (.int 0)) (aj 2) (mK (kE 0 pI (aj 0) aB)))))
def b6(as:List Slot):cO:=mU (bI 0 (ck xu as))
def lY:List (String×(List Slot->cO)):=[("Table",b6)]
noncomputable abbrev Nm:List Str:=["table","p"]
noncomputable abbrev vp:List Str:=["table","p"]
def dw(n:Nat):Sg->Out:=(fG (mK (kE 2 lY (aj 0) (ai (bu dO (aj 1) (dC (.int 0))) (ai (bu dO (aj 1) (dC (.int 1))) aB)))))
def eZ(as:List Slot):cO:=mU (dw 0 (ck Nm as))
noncomputable abbrev Kv:List Str:=["table","p"]
noncomputable abbrev sj:List Str:=["table","p"]
def ef(n:Nat):Sg->Out:=(fG (aR 2 eZ (ai (aj 0) (ai (aR 1 gB (ai (aj 1) aB)) aB))))
def c8(as:List Slot):cO:=mU (ef 0 (ck Kv as))
noncomputable abbrev Ku:List Str:=["table"]
noncomputable abbrev Ca:List Str:=["table"]
def i9(n:Nat):Sg->Out:=(uF (mL (lCB yF (ai (uM (cA false (bS (cV 1 cG (ai (aj 0) aB))) 1 [0] (aD 0) (uC (dT (cV 2 c8 (ai (aj 1) (ai (aj 0) aB))))) (aj 0))) aB))))
def iu(as:List Slot):cO:=mU (i9 0 (ck Ku as))
noncomputable abbrev Gd:List Str:=["table"]
noncomputable abbrev yO:List Str:=["table"]
def gx(n:Nat):Sg->Out:=(uF (mL (lCB yF (ai (uM (cA false (bS (cV 1 iu (ai (aj 0) aB))) 1 [] (aD 0) i7 (cV 1 gB (ai (aj 0) aB)))) aB))))
def gz(as:List Slot):cO:=mU (gx 0 (ck Gd as))
noncomputable abbrev xq:List Str:=["table"]
noncomputable abbrev qA:List Str:=["table"]
def cW(n:Nat):Sg->Out:=(uF (mL (lCB yF (ai (uM (lOp Jg (cV 1 cG (ai (aj 0) aB)) (cV 1 gz (ai (aj 0) aB)))) aB))))
def eK(as:List Slot):cO:=mU (cW 0 (ck xq as))
noncomputable abbrev Wj:List Str:=["_law_found"]
noncomputable abbrev yQ:List Str:=["_law_found"]
def iF(n:Nat):Sg->Out:=(fG (A5 (A3 mt ["int"] (aj 0)) (XA (A3 mt ["bool"] (aj 0)))))
def gA(as:List Slot):cO:=mU (iF 0 (ck Wj as))
noncomputable abbrev Gf:List Str:=["_law_found","_law_due_here"]
noncomputable abbrev yT:List Str:=["_law_found","_law_due_here"]
def gy(n:Nat):Sg->Out:=(fG (A5 (A3 mt ["list"] (aj 0)) (A5 (E9 Yb (ai (uM (cA false (bS (aj 0)) 1 [] (aD 0) i7 (A3 mt ["tuple"] (aj 0)))) aB)) (bu LK (aj 0) (aj 1)))))
def iI(as:List Slot):cO:=mU (gy 0 (ck Gf as))
noncomputable abbrev Wn:List Str:=["_law_p","_law_wide","_law_high","_law_u","_law_v"]
noncomputable abbrev yS:List Str:=["_law_p","_law_wide","_law_high"]
def jH(n:Nat):Sg->Out:=(bN (VR (aR 1 cN (ai (aj 0) aB)) (jy 2 (bg (aD 3) (bg (aD 4) kD))))
  (fG (XA (aR 4 lF (ai (aj 3) (ai (aj 4) (ai (aj 1) (ai (aj 2) aB))))))))
def jI(as:List Slot):cO:=mU (jH 0 (ck Wn as))
noncomputable abbrev Kp:List Str:=["_law_table_here","_law_wide","_law_high","_law_due_here","_law_found"]
noncomputable abbrev B8:List Str:=["_law_table_here","_law_wide","_law_high"]
def ko(n:Nat):Sg->Out:=(bN (oA 3 (aR 2 qZ (ai (aj 1) (ai (aj 2) aB))))
  (bN (oA 4 (aR 1 eK (ai (aj 0) aB)))
  (bN (yK (cOr (uC (dT (aR 2 iI (ai (aj 4) (ai (aj 3) aB))))) (uC (dT (E9 Yb (ai (uM (cA false (bS (aj 4)) 1 [] (aD 0) i7 (A5 (aR 1 gA (ai (bu dO (aj 0) (dC (.int 0))) aB)) (aR 1 gA (ai (bu dO (aj 0) (dC (.int 1))) aB))))) aB))))) (fG (dC (.bl false))) gh)
  (bN (yK (uC (dT (aR 2 iI (ai (aR 1 iu (ai (aj 0) aB)) (ai (uM (cA false (bS (aj 3)) 1 [1,2] (aD 0) (dT (aR 3 jI (ai (aj 0) (ai (aj 1) (ai (aj 2) aB))))) (aj 0))) aB))))) (fG (dC (.bl false))) gh)
  (fG (aR 2 iI (ai (aR 1 gz (ai (aj 0) aB)) (ai (uM (cA false (bS (aj 3)) 1 [1,2] (aD 0) (uC (dT (aR 4 lF (ai (bu dO (aj 0) (dC (.int 0))) (ai (bu dO (aj 0) (dC (.int 1))) (ai (aj 1) (ai (aj 2) aB))))))) (aj 0))) aB))))))))
def mJ(as:List Slot):cO:=mU (ko 0 (ck Kp as))
noncomputable abbrev aeL:List Str:=["_law_cell","_law_wide","_law_high","_law_x","_law_y"]
noncomputable abbrev HH:List Str:=["_law_cell","_law_wide","_law_high"]
def nu(n:Nat):Sg->Out:=(bN (oA 3 (bu Ah (bu m7 (bu oO (aj 0) (dC (.int 6))) (bu wj (aj 1) (dC (.int 4)))) (dC (.int 2))))
  (bN (oA 4 (bu Ah (bu m7 (bu oO (aj 0) (dC (.int 60))) (bu wj (aj 2) (dC (.int 4)))) (dC (.int 2))))
  (bN (yK (dT (bu LK (bu m7 (aj 0) (dC (.int 6))) (dC (.int 0)))) (oA 3 (bu dO (uM (sW (ai (bu Ah (dUn Ie (dC (.int 2))) (bu m7 (bu oO (aj 0) (dC (.int 6))) (bu VT (dC (.int 10)) (dC (.int 30))))) (ai (bu wj (bu wj (aj 1) (dC (.int 1))) (bu m7 (bu oO (aj 0) (dC (.int 6))) (bu VT (dC (.int 10)) (dC (.int 30))))) aB)))) (bu m7 (bu oO (aj 0) (dC (.int 12))) (dC (.int 2))))) gh)
  (fG (kh (ai (aj 3) (ai (aj 4) (ai (bu Ah (bu m7 (bu oO (aj 0) (dC (.int 7))) (dC (.int 6))) (dC (.int 1))) aB))))))))
def oZ(as:List Slot):cO:=mU (nu 0 (ck aeL as))
noncomputable abbrev aiv:List Str:=["_law_p","_law_wide","_law_high","_law_u","_law_v"]
noncomputable abbrev MK:List Str:=["_law_p","_law_wide","_law_high"]
def qW(n:Nat):Sg->Out:=(bN (yK (cOr (dT (bu ltI (bu dO (aj 0) (dC (.int 2))) (dC (.int 0)))) (dT (bu gtI (bu dO (aj 0) (dC (.int 2))) (dC (.int 3))))) (fG (dC (.bl false))) gh)
  (bN (VR (aR 1 cN (ai (aj 0) aB)) (jy 2 (bg (aD 3) (bg (aD 4) kD))))
  (fG (dOr (aR 4 lF (ai (bu dO (aj 0) (dC (.int 0))) (ai (bu dO (aj 0) (dC (.int 1))) (ai (aj 1) (ai (aj 2) aB))))) (aR 4 lF (ai (aj 3) (ai (aj 4) (ai (aj 1) (ai (aj 2) aB)))))))))
def tH(as:List Slot):cO:=mU (qW 0 (ck aiv as))
noncomputable abbrev Ij:List Str:=["table","p"]
noncomputable abbrev qz:List Str:=["table","p"]
def cz(n:Nat):Sg->Out:=(yK (cOr (dT (bu sG (bu dO (aj 1) (dC (.int 2))) (dC (.gt [.int 0,.int 1,.int 2,.int 3])))) (uC (cOr (dT (aR 2 eZ (ai (aj 0) (ai (aj 1) aB)))) (dT (aR 2 c8 (ai (aj 0) (ai (aj 1) aB))))))) (rZ "NoPass" (ai (dC (.str "the table has no such pass")) aB)) gh)
def bM(as:List Slot):cO:=mU (cz 0 (ck Ij as))
noncomputable abbrev uh:List Str:=["self","x","y"]
noncomputable abbrev fc:List Str:=["self","x","y"]
def aU(n:Nat):Sg->Out:=(yK (uC (dT (mK (kE 2 lY (aj 0) (ai (aj 1) (ai (aj 2) aB)))))) (rZ "NoPlace" (ai (dC (.str "the table has no such place")) aB)) gh)
def bC(as:List Slot):cO:=mU (aU 0 (ck uh as))
def iP:List (String×(List Slot->cO)):=[("Table",bC)]
noncomputable abbrev xr:List Str:=["self","x","y"]
noncomputable abbrev gF:List Str:=["self","x","y"]
def bH(n:Nat):Sg->Out:=(bN (rm (mK (kE 2 iP (aj 0) (ai (aj 1) (ai (aj 2) aB)))))
  (fG (abn (Dk "ends" (aj 0)) (kh (ai (aj 1) (ai (aj 2) aB))))))
def b5(as:List Slot):cO:=mU (bH 0 (ck xr as))
def oH:List (String×(List Slot->cO)):=[("Table",b5)]
noncomputable abbrev Il:List Str:=["self","x","y"]
noncomputable abbrev mY:List Str:=["self","x","y"]
def eg(n:Nat):Sg->Out:=(bN (rm (mK (kE 2 iP (aj 0) (ai (aj 1) (ai (aj 2) aB)))))
  (fG (bu dO (bu dO (Dk "grid" (aj 0)) (aj 2)) (aj 1))))
def fY(as:List Slot):cO:=mU (eg 0 (ck Il as))
def BP:List (String×(List Slot->cO)):=[("Table",fY)]
noncomputable abbrev Im:List Str:=["self","way"]
noncomputable abbrev mZ:List Str:=["self","way"]
def fR(n:Nat):Sg->Out:=(uF (mL (sW (ai (kh (ai (aj 1) (ai (dC (.gt [.int 1,.int 1])) aB))) aB))))
def kC(as:List Slot):cO:=mU (fR 0 (ck Im as))
noncomputable abbrev CB:List Str:=["self","way"]
noncomputable abbrev jS:List Str:=["self","way"]
def dz(n:Nat):Sg->Out:=(uF (mL (sW (ai (kh (ai (bu ahd (aj 1) (Dk "slant" (aj 0))) (ai (dC (.gt [.int 1,.int 1])) aB))) aB))))
def iw(as:List Slot):cO:=mU (dz 0 (ck CB as))
noncomputable abbrev Ik:List Str:=["self","way"]
noncomputable abbrev mX:List Str:=["self","way"]
def fQ(n:Nat):Sg->Out:=(uF (mL (sW aB)))
def kB(as:List Slot):cO:=mU (fQ 0 (ck Ik as))
def Bj:List (String×(List Slot->cO)):=[("Empty",kC),("Mirror",iw),("Wall",kB)]
noncomputable abbrev Wi:List Str:=["place","way","there"]
noncomputable abbrev yP:List Str:=["place","way"]
def jF(n:Nat):Sg->Out:=(bN (oA 2 (aR 3 ku (ai (bu dO (aj 0) (dC (.int 0))) (ai (bu dO (aj 0) (dC (.int 1))) (ai (aj 1) aB)))))
  (fG (kh (ai (bu dO (aj 2) (dC (.int 0))) (ai (bu dO (aj 2) (dC (.int 1))) (ai (aj 1) aB))))))
def dQ(as:List Slot):cO:=mU (jF 0 (ck Wi as))
noncomputable abbrev Wo:List Str:=["table","p","place","leads"]
noncomputable abbrev yU:List Str:=["table","p"]
def iG(n:Nat):Sg->Out:=(bN (rm (aR 2 bM (ai (aj 0) (ai (aj 1) aB))))
  (bN (yK (uC (dT (aR 2 eZ (ai (aj 0) (ai (aj 1) aB))))) (uF (mL (sW aB))) gh)
  (bN (oA 2 (mK (kE 2 oH (aj 0) (ai (bu dO (aj 1) (dC (.int 0))) (ai (bu dO (aj 1) (dC (.int 1))) aB)))))
  (bN (yK (dT (bu isI (aj 2) (dC .fE))) (oA 2 (kh (ai (bu dO (aj 1) (dC (.int 0))) (ai (bu dO (aj 1) (dC (.int 1))) aB)))) gh)
  (bN (oA 3 (mK (kE 1 Bj (mK (kE 2 BP (aj 0) (ai (bu dO (aj 1) (dC (.int 0))) (ai (bu dO (aj 1) (dC (.int 1))) aB)))) (ai (bu dO (aj 1) (dC (.int 2))) aB))))
  (uF (mL (lCB yG (ai (uM (cA false (bS (aj 3)) 2 [2] (jy 2 (bg (aD 0) (bg (aD 1) kD))) i7 (kh (ai (cV 2 dQ (ai (aj 2) (ai (aj 0) aB))) (ai (aj 1) aB))))) aB)))))))))
def iJ(as:List Slot):cO:=mU (iG 0 (ck Wo as))
noncomputable abbrev AJ:List Str:=["self"]
noncomputable abbrev gi:List Str:=["self"]
def b9(n:Nat):Sg->Out:=(fG (dC (.gt [.int 0,.int 1])))
def dR(as:List Slot):cO:=mU (b9 0 (ck AJ as))
noncomputable abbrev AI:List Str:=["self"]
noncomputable abbrev jf:List Str:=["self"]
def cL(n:Nat):Sg->Out:=(fG (dC (.gt [.int 1,.int 1])))
def gr(as:List Slot):cO:=mU (cL 0 (ck AI as))
def vd:List (String×(List Slot->cO)):=[("Empty",dR),("Mirror",dR),("Wall",gr)]
noncomputable abbrev Cy:List Str:=["table","p"]
noncomputable abbrev nQ:List Str:=["table","p"]
def bV(n:Nat):Sg->Out:=(bN (rm (aR 2 bM (ai (aj 0) (ai (aj 1) aB))))
  (bN (yK (uC (dT (aR 2 eZ (ai (aj 0) (ai (aj 1) aB))))) (fG (dC (.gt [.int 0,.int 1]))) gh)
  (fG (mK (kE 0 vd (mK (kE 2 BP (aj 0) (ai (bu dO (aj 1) (dC (.int 0))) (ai (bu dO (aj 1) (dC (.int 1))) aB)))) aB)))))
def bZ(as:List Slot):cO:=mU (bV 0 (ck Cy as))
noncomputable abbrev Kq:List Str:=["_law_table_here","_law_p","_law_way","_law_refused_here","e"]
noncomputable abbrev se:List Str:=["_law_table_here","_law_p","_law_way"]
def cX(n:Nat):Sg->Out:=(bN (oA 3 (dC (.bl false)))
  (bN (Hq 4 (z5 mt "BeamError") (yK (dT (bu LK (aj 2) (dC (.int 0)))) (rm (aR 2 iJ (ai (aj 0) (ai (aj 1) aB)))) (rm (aR 2 bZ (ai (aj 0) (ai (aj 1) aB))))) (oA 3 (A5 (A3 mt ["NoPass"] (aj 4)) (A5 (A3 mt ["ValueError"] (aj 4)) (XA (A3 mt ["NoPlace","NoCell"] (aj 4)))))))
  (fG (aj 3))))
def eF(as:List Slot):cO:=mU (cX 0 (ck Kq as))
noncomputable abbrev al0:List Str:=["_law_script","_law_wide","_law_high","_law_table_here","_law_raw","_law_p","_law_none"]
noncomputable abbrev ZA:List Str:=["_law_script"]
def wA(n:Nat):Sg->Out:=(bN (oA 5 (aR 3 oZ (ai (bu ZX (aj 4) (dC (.int 48271))) (ai (aj 1) (ai (aj 2) aB)))))
  (bN (oA 6 (XA (aR 3 tH (ai (aj 5) (ai (aj 1) (ai (aj 2) aB))))))
  (yK (cOr (dT (bu ZR (aR 3 eF (ai (aj 3) (ai (aj 5) (ai (dC (.int 0)) aB)))) (aj 6))) (dT (bu ZR (aR 3 eF (ai (aj 3) (ai (aj 5) (ai (dC (.int 1)) aB)))) (aj 6)))) (fG (dC (.bl false))) gh)))
def DG(n:Nat):Sg->Out:=(bN (oA 1 (aR 1 kr (ai (aR 2 cg (ai (aj 0) (ai (dC (.int 0)) aB))) aB)))
  (bN (oA 2 (aR 1 kr (ai (aR 2 cg (ai (aj 0) (ai (dC (.int 1)) aB))) aB)))
  (bN (oA 3 (aR 3 lE (ai (aj 0) (ai (aj 1) (ai (aj 2) aB)))))
  (bN (yK (uC (dT (aR 3 mJ (ai (aj 3) (ai (aj 1) (ai (aj 2) aB)))))) (fG (dC (.bl false))) gh)
  (bN (gE (bS (uM (lOp Jg (uM (sW (ai (dC (.int 0)) aB))) (uM (K1 (aj 0) abm (dP (dC (.int 62)))))))) (aD 4) (wA n))
  (bN (wN (sQ 1 eK (ai (aj 3) aB)))
  (bN (wN (sQ 1 iu (ai (aj 3) aB)))
  (bN (wN (sQ 1 gz (ai (aj 3) aB)))
  (fG (aR 3 mJ (ai (aj 3) (ai (aj 1) (ai (aj 2) aB)))))))))))))
def DR(as:List Slot):cO:=mU (DG 0 (ck al0 as))
def fm(x y:Int)(h:0<y):0<=x.fmod y/\x.fmod y<y:=⟨Int.fmod_nonneg_of_pos x h,Int.fmod_lt_of_pos x h⟩
def jU(k:List Int):nt (tupI k)=true:=by simp only[tupI,ais];exact Bo _ (λ x=>by simp) k
def gS(ns:List (List Int)):m6 (ns.map tupI)=true:=Bo _ jU ns
def aeG(zs:List Int):m6 (zs.map D.int)=true:=Bo _ (λ x=>by simp) zs
mutual
def amz:∀(d:D),nb d=true->dn d=d
 | .tup xs,h=>by simp only[dn];rw[sU xs (by simpa[nb] using h)]
 | .gt xs,h=>by simp only[dn];rw[sU xs (by simpa[nb] using h)]
 | .lst xs,h=>by simp only[dn];rw[sU xs (by simpa[nb] using h)]
 | .obj c ns xs,h=>by simp only[dn];rw[sU xs (by simpa[nb] using h)]
 | .uA ks xs,h=>by simp only[dn];rw[sU xs (by simpa[nb] using h)]
 | .bor _ _,h=>by simp[nb] at h
 | .yw _ _ _,h=>by simp[nb] at h
 | .yu _ _ _ _,h=>by simp[nb] at h
 | .fE,_=>by simp[dn]
 | .bl _,_=>by simp[dn]
 | .int _,_=>by simp[dn]
 | .str _,_=>by simp[dn]
 | .exc _,_=>by simp[dn]
def sU:∀(xs:List D),AG xs=true->wu xs=xs
 |[],_=>by simp[wu]
 |x::xs,h=>by simp only[AG,Bool.and_eq_true] at h;simp only[wu];rw[amz x h.1,sU xs h.2]
end
structure Tb(t:D)(w h:Int):Prop where
 shape:∃xs,t= .obj "Table" ["grid","ends"] xs
 width:e8 [.val t]= .ok (.int w)
 height:dJ [.val t]= .ok (.int h)
 nb:nb t=true
 nt:nt t=true
def uK(w h x y:Int):Bool:=decide (0<=x)&&decide (x<w)&&(decide (0<=y)&&decide (y<h))
def Tb.rw{t:D}{w h:Int}(T:Tb t w h):mQ 0 tQ t (.ok [])= .ok (.d (.int w)):=by have:=T.width;obtain ⟨xs,rfl⟩:=T.shape;simp only[mQ,p6,tQ];simp[List.lookup,this]
def Tb.rh{t:D}{w h:Int}(T:Tb t w h):mQ 0 pI t (.ok [])= .ok (.d (.int h)):=by have:=T.height;obtain ⟨xs,rfl⟩:=T.shape;simp only[mQ,p6,pI];simp[List.lookup,this]
def aek{t:D}{w h:Int}(T:Tb t w h)(x y:Int):b6 [.val t,.val (.int x),.val (.int y)]= .ok (.bl (uK w h x y)):=by simp only[b6,bI,ck];by_cases a:0<=x<;>by_cases b:x<w<;>by_cases c:0<=y<;>by_cases d:y<h<;>simp[a,b,c,d,Yi,ltI,kW,T.rw,T.rh,uK]
def Tb.rp{t:D}{w h:Int}(T:Tb t w h)(x y:Int):mQ 2 lY t (.ok [.int x,.int y])= .ok (.d (.bl (uK w h x y))):=by have:=aek T x y;obtain ⟨xs,rfl⟩:=T.shape;simp only[mQ,p6,lY];simp[List.lookup,this]
def afd{t:D}{w h:Int}(T:Tb t w h)(x y z:Int):eZ [.val t,.val (tupI [x,y,z])]= .ok (.bl (uK w h x y)):=by simp only[eZ,dw,ck,tupI];simp[T.rp,dO,rM,qJ]
def bk(x y z:Int):List Int:=if z=0 then [x- 1,y,2] else if z=1 then [x,y+1,3] else if z=2 then [x+1,y,0] else [x,y- 1,1]
def alI(z:Int)(hz:z=0\/z=1\/z=2\/z=3):lD [.val (.int z)]= .ok (.int (if z=0 then 2 else if z=1 then 3 else if z=2 then 0 else 1)):=by rcases hz with rfl|rfl|rfl|rfl<;>rfl
def agE(x y z:Int):ku [.val (.int x),.val (.int y),.val (.int z)]= .ok (if z=0 then tupI [x+1,y] else if z=1 then tupI [x,y- 1] else if z=2 then tupI [x- 1,y] else tupI [x,y+1]):=by
 simp only[ku,kq,ck];by_cases a:z=0
 ·simp[a,tupI,lS]
 ·by_cases b:z=1
  ·simp[b,tupI,lS]
  ·by_cases c:z=2
   ·simp[c,tupI,lS]
   ·simp[a,b,c,tupI,lS]
def abM(x y z:Int)(hz:z=0\/z=1\/z=2\/z=3):gB [.val (tupI [x,y,z])]= .ok (tupI (bk x y z)):=by have e1:=alI z hz;simp only[gB,iH,ck];rcases hz with rfl|rfl|rfl|rfl<;>simp[e1,agE,dO,rM,qJ,bk,tupI]
def yt(w h:Int):List Int->Bool
 |[x,y,z]=>(decide (z=0)||decide (z=1)||decide (z=2)||decide (z=3))&&(uK w h x y||match bk x y z with
  |[u,v,_]=>uK w h u v
  |_=>false)
 |_=>false
def agh{t:D}{w h:Int}(T:Tb t w h)(x y z:Int)(hz:z=0\/z=1\/z=2\/z=3):c8 [.val t,.val (tupI [x,y,z])]= .ok (.bl (match bk x y z with
  |[u,v,_]=>uK w h u v
  |_=>false)):=by
 have e1:=abM x y z hz;simp only[c8,ef,ck];rcases hz with rfl|rfl|rfl|rfl<;>simp[e1,bk,afd T]
def MJ{t:D}{w h:Int}(T:Tb t w h)(x y z:Int):bM [.val t,.val (tupI [x,y,z])]=if yt w h [x,y,z]=true then .ok .fE else .err "NoPass":=by
 have i2:dO (tupI [x,y,z]) (.int 2)= .ok (.int z):=rfl;by_cases hz:z=0\/z=1\/z=2\/z=3
 ·have nz:sG (.int z) (.gt [.int 0,.int 1,.int 2,.int 3])= .ok (.bl false):=by rcases hz with rfl|rfl|rfl|rfl<;>rfl
  have e1:=afd T x y z;have e2:=agh T x y z hz;have wz:(decide (z=0)||decide (z=1)||decide (z=2)||decide (z=3))=true:=by rcases hz with rfl|rfl|rfl|rfl<;>rfl
  simp only[bM,cz,ck,yt,wz,Bool.true_and];generalize (match bk x y z with
   |[u,v,_]=>uK w h u v
   |_=>false)=o at*
  generalize uK w h x y=i at*;cases i<;>cases o<;>simp[i2,nz,e1,e2]
 ·have nz:sG (.int z) (.gt [.int 0,.int 1,.int 2,.int 3])= .ok (.bl true):=by simp only[not_or] at hz;simp[sG,JZ,xU,inF,eqF,hz.1,hz.2.1,hz.2.2.1,hz.2.2.2];omega
  have wz:(decide (z=0)||decide (z=1)||decide (z=2)||decide (z=3))=false:=by simp only[not_or] at hz;simp[hz.1,hz.2.1,hz.2.2.1,hz.2.2.2]
  simp only[bM,cz,ck,yt,wz,Bool.false_and];simp[i2,nz]
noncomputable def eE:D:= .obj "Empty" [] []
noncomputable def eW:D:= .obj "Wall" [] []
def eM(s:Int):D:= .obj "Mirror" ["slant"] [.int s]
def Gv(d:D):Prop:=d=eE\/d=eW\/d=eM 1\/d=eM 3
structure Rw(rows:List (List D))(w h:Nat):Prop where
 len:rows.length=h
 row:∀r∈rows,r.length=w
 cell:∀r∈rows,∀c∈r,Gv c
noncomputable def ro(rows:List (List D)):M:= .n (rows.map M.l)
def Gv.nt{d:D}(h:Gv d):nt d=true:=by rcases h with rfl|rfl|rfl|rfl<;>decide
def Gv.nb{d:D}(h:Gv d):nb d=true:=by rcases h with rfl|rfl|rfl|rfl<;>decide
def Aa{e:D->Res (Option M)}{m:M}:∀{xs:List D},(∀x∈xs,e x= .ok (some m))->mF e xs= .ok (List.replicate xs.length m)
 |[],_=>rfl
 |x::xs,h=>by simp only[mF];rw[h x (.head _),Aa λ y hy=>h y (.tail _ hy)];rfl
def uf{e:D->Res (Option D)}(f:D->D):∀{xs:List D},(∀x∈xs,e x= .ok (some (f x)))->oV e xs= .ok (xs.map f)
 |[],_=>rfl
 |x::xs,h=>by simp only[oV];rw[h x (.head _),uf f λ y hy=>h y (.tail _ hy)];rfl
def J2{n:Nat}(h:n<=16):Hv [.int n]= .ok (mS 0 n):=by simp only[Hv];rw[if_pos (by constructor<;>omega)];simp
def map_const{α β:Type}(b:β):∀xs:List α,xs.map (λ _=>b)=List.replicate xs.length b
 |[]=>rfl
 |x::xs=>by simp[map_const b xs,List.replicate_succ]
def IL{f:Sg->Res (List D)}{Γ:Sg}{n:Nat}(e:f Γ= .ok [.int n])(h:n<=16):iK f Γ= .ok (mS 0 n):=by unfold iK;rw[e,Res.bw,J2 h]
def alo{w:Nat}(hw:w<=16)(s:Slot):cA false (iK (ai (aj 1) aB)) 1 [] (aD 0) i7 (dC (.obj "Empty" [] [])) [s,.val (.int w)]= .ok (List.replicate w eE):=by rw[gw,IL (n:=w) (by simp) hw,Res.bw,if_pos (by rw[nG];omega)];exact (uf (λ _=>eE) (λ x _=>rfl)).trans (by rw[map_const,nG])
def rows0{w h:Nat}(hw:w<=16)(hh:h<=16)(s0:Slot)(r:List Slot):rz false (iK (ai (aj 2) aB)) 1 [1] (aD 0) i7 (mL (cA false (iK (ai (aj 1) aB)) 1 [] (aD 0) i7 (dC (.obj "Empty" [] [])))) (s0:: .val (.int w):: .val (.int h)::r)= .ok (List.replicate h (.l (List.replicate w eE))):=by
 have e:∀x:D,mL (cA false (iK (ai (aj 1) aB)) 1 [] (aD 0) i7 (dC (.obj "Empty" [] []))) [.val x,.val (.int w)]= .ok (.l (List.replicate w eE)):=λ x=>by rw[Iq,alo hw,Res.bw]
 generalize mL (cA false (iK (ai (aj 1) aB)) 1 [] (aD 0) i7 (dC (.obj "Empty" [] [])))=F at*;have ei:iK (ai (aj 2) aB) (s0:: .val (.int w):: .val (.int h)::r)= .ok (mS 0 h):=IL (n:=h) (by simp) hh;generalize iK (ai (aj 2) aB)=G at*;have h0:∀B x,Xs (aD 0) i7 F B x=(match F (B.set 0 (.val x)) with| .ok d=> .ok (some d)|_=> .bad):=λ _ _=>rfl;have eb:∀x,(rH false 1 [1] (s0:: .val (.int w):: .val (.int h)::r)).set 0 (.val x)=[.val x,.val (.int w)]:=λ _=>rfl;have q:mF (Xs (aD 0) i7 F (rH false 1 [1] (s0:: .val (.int w):: .val (.int h)::r))) (mS 0 h)= .ok (List.replicate h (.l (List.replicate w eE))):=by
  have z:=Aa (e:=Xs (aD 0) i7 F (rH false 1 [1] (s0:: .val (.int w):: .val (.int h)::r))) (m:= .l (List.replicate w eE)) (xs:=mS 0 h) λ x _=>by rw[h0,eb,e]
  rw[z,nG]
 unfold rz;rw[ei,Res.bw,if_pos (by rw[nG];omega),q]
def NU{n:Nat}{z:Int}(h0:0<=z)(h1:z<n):qJ n z=some z.toNat:=by unfold qJ;rw[if_pos h0,if_pos h1]
def Uo{rows:List (List D)}{w h:Nat}(R:Rw rows w h){x y:Int}(hx:0<=x/\x<w)(hy:0<=y/\y<h){f:Sg->Res D}{d:D}(s0 s1 s2 s4:Slot) (hf:f [s0,s1,s2,.own (ro rows),s4,.val (.int x),.val (.int y)]= .ok d) (hd:Gv d):
  ∃rows',Rw rows' w h/\BZ 3 (pIx 3 (sr 3) (aj 6)) (aj 5) f [s0,s1,s2,.own (ro rows),s4,.val (.int x),.val (.int y)]= .nx [s0,s1,s2,.own (ro rows'),s4,.val (.int x),.val (.int y)]:=by
 have hk:y.toNat<rows.length:=by rw[R.len];omega
 have hr:=R.row _ (List.getElem_mem hk);refine ⟨rows.set y.toNat (rows[y.toNat].set x.toNat d),⟨by simp[R.len],λ r hr'=>?_,λ r hr' c hc=>?_⟩,?_⟩
 ·rcases List.mem_or_eq_of_mem_set hr' with z|z
  ·exact R.row r z
  ·rw[z,List.length_set];exact hr
 ·rcases List.mem_or_eq_of_mem_set hr' with z|z
  ·exact R.cell r z c hc
  ·rw[z] at hc;rcases List.mem_or_eq_of_mem_set hc with q|q
   ·exact R.cell _ (List.getElem_mem hk) c q
   ·rw[q];exact hd
 ·have p:pIx 3 (sr 3) (aj 6) [s0,s1,s2,.own (ro rows),s4,.val (.int x),.val (.int y)]= .ok [y.toNat]:=by simp only[pIx,sr,abl];simp[ro,KR,NU hy.1 (show y<(rows.length:Int) by rw[R.len];exact hy.2)]
  unfold BZ;rw[hf,p];have e:(rows.map M.l)[y.toNat]? =some (.l rows[y.toNat]):=by rw[List.getElem?_map,List.getElem?_eq_getElem hk];rfl
  have i2:qJ rows[y.toNat].length x=some x.toNat:=NU hx.1 (by rw[hr];exact hx.2);have hd':=hd.nt;have up:DW 3 [y.toNat] (setM x d) [s0,s1,s2,.own (ro rows),s4,.val (.int x),.val (.int y)]=some [s0,s1,s2,.own (ro (rows.set y.toNat (rows[y.toNat].set x.toNat d))),s4,.val (.int x),.val (.int y)]:=by simp only[DW,ro];simp[tE,e,setM,i2,hd',qw,List.map_set]
  simp[up]
def al4{s:Int}(hs:s=1\/s=3):zV "Mirror" ["slant"] (b7 [.par (.o "Mirror" [] []),.val (.int s)])= .ok (eM s):=by rcases hs with rfl|rfl<;>rfl
def Mf{rows:List (List D)}{w h:Nat}(R:Rw rows w h)(hw:0<w)(hh:0<h)(c:Int)(s0 s5 s6:Slot):
  ∃rows' t5 t6,Rw rows' w h/\lU 0 [s0,.val (.int w),.val (.int h),.own (ro rows),.val (.int c),s5,s6]= .nx [s0,.val (.int w),.val (.int h),.own (ro rows'),.val (.int c),t5,t6]:=by
 have hx:=fm (c.fdiv 3) w (by omega);have hy:=fm (c.fdiv 51) h (by omega);have m1:m7 (.int (c.fdiv 3)) (.int w)= .ok (.int ((c.fdiv 3).fmod w)):=pZ _ _ (by omega);have m2:m7 (.int (c.fdiv 51)) (.int h)= .ok (.int ((c.fdiv 51).fmod h)):=pZ _ _ (by omega);have h3:=fm c 3 (by decide);by_cases z:c.fmod 3=0
 ·obtain ⟨rows',R',e⟩:=Uo R hx hy (f:=dC (.obj "Wall" [] [])) s0 (.val (.int w)) (.val (.int h)) (.val (.int c)) rfl (.inr (.inl rfl));refine ⟨rows',.val (.int ((c.fdiv 3).fmod w)),.val (.int ((c.fdiv 51).fmod h)),R',?_⟩;simp only[lU];simp[m1,m2,z,lS];exact e
 ·have z2:c.fmod 3- 1=0\/c.fmod 3- 1=1:=by omega
  have hs:∃s:Int,(s=1\/s=3)/\dO (.lst [.int 1,.int 3]) (.int (c.fmod 3- 1))= .ok (.int s):=by
   rcases z2 with q|q<;>rw[q]
   ·exact ⟨1,.inl rfl,rfl⟩
   ·exact ⟨3,.inr rfl,rfl⟩
  obtain ⟨s,hs,es⟩:=hs;have em:=al4 hs;obtain ⟨rows',R',e⟩:=Uo R hx hy (f:=Di 1 "Mirror" ["slant"] b7 (ai (bu dO (uM (sW (ai (dC (.int 1)) (ai (dC (.int 3)) aB)))) (bu Ah (bu m7 (aj 4) (dC (.int 3))) (dC (.int 1)))) aB)) (d:=eM s) s0 (.val (.int w)) (.val (.int h)) (.val (.int c)) (by unfold Di;simp[es,em]) (by rcases hs with rfl|rfl<;>simp[Gv]);refine ⟨rows',.val (.int ((c.fdiv 3).fmod w)),.val (.int ((c.fdiv 51).fmod h)),R',?_⟩;simp only[lU];simp[m1,m2,z,lS];exact e
def BN{w h:Nat}(hw:0<w)(hh:0<h)(s0:Slot):∀(cs:List Int) {rows:List (List D)} (R:Rw rows w h) (s4 s5 s6:Slot),∃rows' t4 t5 t6,Rw rows' w h/\gn (aD 4) (lU 0) (cs.map D.int) [s0,.val (.int w),.val (.int h),.own (ro rows),s4,s5,s6]= .nx [s0,.val (.int w),.val (.int h),.own (ro rows'),t4,t5,t6]
 |[],rows,R,s4,s5,s6=>⟨rows,s4,s5,s6,R,rfl⟩
 |c::cs,rows,R,s4,s5,s6=>by obtain ⟨r1,t5,t6,R1,e1⟩:=Mf R hw hh c s0 s5 s6;obtain ⟨r2,u4,u5,u6,R2,e2⟩:=BN hw hh s0 cs R1 (.val (.int c)) t5 t6;refine ⟨r2,u4,u5,u6,R2,?_⟩;rw[<-e2];simp only[List.map_cons,gn];simp[e1]
noncomputable def tab(rows:List (List D)):D:= .obj "Table" ["grid","ends"] [.tup (rows.map D.tup),.uA (.t []) []]
def Gv.isi{d:D}(h:Gv d):ur mt ["Fibre"] d= .ok (.bl false):=by rcases h with rfl|rfl|rfl|rfl<;>simp[ur,kinds,mt,eE,eW,eM,List.lookup]
def Nb:∀{r:List D},(∀c∈r,Gv c)->m6 r=true
 |[],_=>by simp
 |c::r,h=>by simp[(h c (.head _)).nt,Nb λ x hx=>h x (.tail _ hx)]
def Nh:∀{r:List D},(∀c∈r,Gv c)->AG r=true
 |[],_=>by simp[AG]
 |c::r,h=>by simp[AG,(h c (.head _)).nb,Nh λ x hx=>h x (.tail _ hx)]
def YK{w h:Nat}:∀{rows:List (List D)},Rw rows w h->m6 (rows.map D.tup)=true/\AG (rows.map D.tup)=true:=by
 intro rows R;have:∀l:List (List D),(∀r∈l,∀c∈r,Gv c)->m6 (l.map D.tup)=true/\AG (l.map D.tup)=true:=by
  intro l;induction l with
  |nil=>intro _;simp[AG]
  |cons r l ih=>intro h;obtain ⟨a,b⟩:=ih λ x hx=>h x (.tail _ hx);simp[AG,nb,a,b,Nb (h r (.head _)),Nh (h r (.head _))]
 exact this rows R.cell
def ajk{rows:List (List D)}(hl:rows.length<1000000)(s0:Slot):cA false (bS (aj 1)) 1 [] (aD 0) i7 (E9 qu (ai (aj 0) aB)) [s0,.val (.bor false (rows.map (D.bor false)))]= .ok (rows.map D.tup):=by
 have e:bS (aj 1) [s0,.val (.bor false (rows.map (D.bor false)))]= .ok (rows.map (D.bor false)):=rfl;rw[gw,e,Res.bw,if_pos (by simpa using hl)];have z:=uf (e:=N9 (aD 0) i7 (E9 qu (ai (aj 0) aB)) (rH false 1 [] [s0,.val (.bor false (rows.map (D.bor false)))])) (λ x=>match x with
  | .bor _ r=> .tup r
  |x=>x) (xs:=rows.map (D.bor false)) λ x hx=>by obtain ⟨r,_,rfl⟩:=List.mem_map.mp hx;rfl
 rw[z,List.map_map];rfl
def Mx{rows:List (List D)}{w h:Nat}(R:Rw rows w h)(hw:1<=w/\w<=16)(hh:1<=h){r:List D}(hr:r.length=w):jc 0 [.val (.tup (rows.map D.tup)),.val (.tup r)]= .nx [.val (.tup (rows.map D.tup)),.val (.tup r)]:=by
 have e:∃r0,dO (.tup (rows.map D.tup)) (.int 0)= .ok (.tup r0)/\r0.length=w:=by
  match rows,R with
  |[],R=>have:=R.len;simp at this;omega
  |r0::rows,R=>exact ⟨r0,by simp[dO,rM,qJ],R.row r0 (.head _)⟩
 obtain ⟨r0,e,l0⟩:=e;have lr:oB [.tup r]= .ok (.int (w:Int)):=by rw[<-hr];rfl
 have l0':oB [.tup r0]= .ok (.int (w:Int)):=by rw[<-l0];rfl
 have a1:(1:Int)<=w:=by omega
 have a2:(w:Int)<=16:=by omega
 simp only[jc];simp[e,lr,l0',kW,a1,a2,aeJ]
def BW{rows:List (List D)}{w h:Nat}(R:Rw rows w h)(hw:1<=w/\w<=16)(hh:1<=h):∀(l:List (List D)) (s:Slot),(∀r∈l,r.length=w)->∃t,gn (aD 1) (jc 0) (l.map D.tup) [.val (.tup (rows.map D.tup)),s]= .nx [.val (.tup (rows.map D.tup)),t]
 |[],s,_=>⟨s,rfl⟩
 |r::l,s,q=>by obtain ⟨t,e⟩:=BW R hw hh l (.val (.tup r)) λ x hx=>q x (.tail _ hx);refine ⟨t,?_⟩;rw[<-e];simp only[List.map_cons,gn];simp[Mx R hw hh (q r (.head _))]
def adX{rows:List (List D)}{w h:Nat}(R:Rw rows w h)(hw:1<=w/\w<=16)(hh:1<=h/\h<=16):c9 [.val (.tup (rows.map D.tup))]= .ok .fE:=by
 obtain ⟨t,e⟩:=BW R hw hh.1 rows .no R.row;have lr:oB [.tup (rows.map D.tup)]= .ok (.int (h:Int)):=by rw[<-R.len];simp[oB,JZ]
 have a1:(1:Int)<=h:=by omega
 have a2:(h:Int)<=16:=by omega
 simp only[c9,cY,ck];simp[lr,kW,a1,a2,gE,e]
def GA(s0 s1 s2 s3:Slot):∀(r:List D) (k:Nat) (s4 s5:Slot),(∀c∈r,Gv c)->∃t4 t5,gn (jy 2 (bg (aD 4) (bg (aD 5) kD))) (iz 0) (oU k r) [s0,s1,s2,s3,s4,s5]= .nx [s0,s1,s2,s3,t4,t5]
 |[],_,s4,s5,_=>⟨s4,s5,rfl⟩
 |c::r,k,s4,s5,q=>by
  obtain ⟨t4,t5,e⟩:=GA s0 s1 s2 s3 r (k+1) (.val (.int k)) (.val c) λ x hx=>q x (.tail _ hx);refine ⟨t4,t5,?_⟩;rw[<-e];have st:iz 0 [s0,s1,s2,s3,.val (.int k),.val c]= .nx [s0,s1,s2,s3,.val (.int k),.val c]:=by simp only[iz];simp[(q c (.head _)).isi]
  simp only[oU,gn];simp[st]
def Gz(s0 s1:Slot):∀(l:List (List D)) (k:Nat) (s2 s3 s4 s5:Slot),(∀r∈l,∀c∈r,Gv c)->∃t2 t3 t4 t5,gn (jy 2 (bg (aD 2) (bg (aD 3) kD))) (iy 0) (oU k (l.map D.tup)) [s0,s1,s2,s3,s4,s5]= .nx [s0,s1,t2,t3,t4,t5]
 |[],_,s2,s3,s4,s5,_=>⟨s2,s3,s4,s5,rfl⟩
 |r::l,k,s2,s3,s4,s5,q=>by
  obtain ⟨u4,u5,e1⟩:=GA s0 s1 (.val (.int k)) (.val (.tup r)) r 0 s4 s5 (q r (.head _));obtain ⟨t2,t3,t4,t5,e⟩:=Gz s0 s1 l (k+1) (.val (.int k)) (.val (.tup r)) u4 u5 λ x hx=>q x (.tail _ hx);refine ⟨t2,t3,t4,t5,?_⟩;rw[<-e];have st:iy 0 [s0,s1,.val (.int k),.val (.tup r),s4,s5]= .nx [s0,s1,.val (.int k),.val (.tup r),u4,u5]:=by simp only[iy,gE,K8];simp[U9,e1]
  simp only[List.map_cons,oU,gn];simp[st]
def Zl{rows:List (List D)}{w h:Nat}(R:Rw rows w h):dI [.val (.tup (rows.map D.tup))]= .new (.k (.t []) []):=by obtain ⟨t2,t3,t4,t5,e⟩:=Gz (.val (.tup (rows.map D.tup))) (.own (.k (.t []) [])) rows 0 .no .no .no .no R.cell;simp only[dI,cD,ck];simp[gE,K8,U9,e,Bp,zQ]
def ai9{rows:List (List D)}{w h:Nat}(R:Rw rows w h):eG [.val (.tup (rows.map D.tup))]= .new (.k (.t []) []):=by have e:=Zl R;simp only[eG,d9,ck];simp[gE,IM,e,fzR,EV,N7,NW,gn,Bp,zQ]
def aiV{rows:List (List D)}{w h:Nat}(R:Rw rows w h)(hw:1<=w/\w<=16)(hh:1<=h/\h<=16):
  bQ [.par (.o "Table" [] []),.val (.bor false (rows.map (D.bor false)))]= .okG .fE [(0,.o "Table" ["grid","ends"] [.tup (rows.map D.tup),.uA (.t []) []])]:=by
 have c:=ajk (rows:=rows) (by rw[R.len];omega) (.par (.o "Table" [] []));have e1:=adX R hw hh;have e2:=ai9 R;obtain ⟨n1,n2⟩:=YK R;have d1:wu [.tup (rows.map D.tup)]=[.tup (rows.map D.tup)]:=sU _ (by simp[AG,nb,n2]);generalize rows.map D.tup=g at*;generalize rows.map (D.bor false)=g' at*;have tu:qu [.lst g]= .ok (.tup g):=rfl;have fg:E2 "grid" (.yu true "Table" ["grid"] [.tup g])= .ok (.tup g):=by simp[E2]
 rw[bQ,bP];have s1:zP 0 Lc "grid" (E9 qu (ai (uM (cA false (bS (aj 1)) 1 [] (aD 0) i7 (E9 qu (ai (aj 0) aB)))) aB)) [.par (.o "Table" [] []),.val (.bor false g')]= .nx [.par (.o "Table" ["grid"] [.tup g]),.val (.bor false g')]:=by unfold zP;rw[afD,kU,ue,c];simp[tu,sr,DW,MA,Lc,n1,List.lookup]
 have s2:rm (sX 1 c9 (ai (Dk "grid" (xY 0)) aB)) [.par (.o "Table" ["grid"] [.tup g]),.val (.bor false g')]= .nx [.par (.o "Table" ["grid"] [.tup g]),.val (.bor false g')]:=by simp[lend,fg,d1,e1,nbA,nb]
 have s3:zP 0 Lc "ends" (sX 1 eG (ai (Dk "grid" (xY 0)) aB)) [.par (.o "Table" ["grid"] [.tup g]),.val (.bor false g')]= .nx [.par (.o "Table" ["grid","ends"] [.tup g,.uA (.t []) []]),.val (.bor false g')]:=by unfold zP;simp[lend,fg,d1,e2,nbA,Ni,AG,fzR,EV,N7,sr,DW,MA,Lc,nt,List.lookup];rw[if_neg (by decide+kernel)];rfl
 rw[show ck pY [.par (.o "Table" [] []),.val (.bor false g')]=[.par (.o "Table" [] []),.val (.bor false g')] from rfl,mw,s1,oN,mw,s2,oN,s3];rfl
def KQ:∀rows:List (List D),p8 (rows.map M.l)=rows.map (D.bor true)
 |[]=>by simp
 |r::rows=>by simp[KQ rows]
def abg:∀{rows:List (List D)},(∀r∈rows,∀c∈r,Gv c)->wu (rows.map (D.bor true))=rows.map (D.bor false)
 |[],_=>by simp[wu]
 |r::rows,h=>by simp[wu,dn,sU r (Nh (h r (.head _))),abg λ x hx=>h x (.tail _ hx)]
def UB:∀{rows:List (List D)},(∀r∈rows,∀c∈r,Gv c)->Ko (rows.map M.l)=true
 |[],_=>by simp[Ko]
 |r::rows,h=>by simp[Ko,Nb (h r (.head _)),UB λ x hx=>h x (.tail _ hx)]
def BO{rows:List (List D)}{w h:Nat}(R:Rw rows w h):nt (tab rows)=true/\nb (tab rows)=true:=by
 obtain ⟨n1,n2⟩:=YK R;constructor
 ·simp[tab,nt,m6,n1]
 ·simp[tab,nb,AG,n2]
def apX{rows:List (List D)}{w h:Nat}(R:Rw rows w h)(hw:1<=w/\w<=16)(hh:1<=h/\h<=16)(s0 s1 s2 s4 s5 s6:Slot):
  Dh 1 "Table" ["grid","ends"] bQ (ai (xY 3) aB) [s0,s1,s2,.own (ro rows),s4,s5,s6]= .ok (tab rows):=by
 have e:=aiV R hw hh;have nb0:=(BO R).2;unfold tab at nb0;unfold Dh;simp[ro,lend,KQ,wu,dn,abg R.cell,e,zV,nbX,nb0,tab]
def rw0(w h:Nat):Rw (List.replicate h (List.replicate w eE)) w h:=by
 refine ⟨by simp,λ r hr=>?_,λ r hr c hc=>?_⟩
 ·rw[List.eq_of_mem_replicate hr];simp
 ·rw[List.eq_of_mem_replicate hr] at hc;exact .inl (List.eq_of_mem_replicate hc)
def adQ{zs cs:List Int}(hc:Ln (zs.map D.int) (some 2) (some 62)=cs.map D.int){w h:Nat}(hw:1<=w/\w<=16)(hh:1<=h/\h<=16):
  ∃rows,Rw rows w h/\lE [.val (.lst (zs.map D.int)),.val (.int w),.val (.int h)]= .ok (tab rows):=by
 obtain ⟨rows,t4,t5,t6,R,e⟩:=BN hw.1 hh.1 (.val (.lst (zs.map D.int))) cs (rw0 w h) .no .no .no;refine ⟨rows,R,?_⟩;have r0:=rows0 hw.2 hh.2 (.val (.lst (zs.map D.int))) [.no,.no,.no,.no];have m:=apX R hw hh (.val (.lst (zs.map D.int))) (.val (.int w)) (.val (.int h)) t4 t5 t6;have n0:Bp (.n (List.replicate h (.l (List.replicate w eE))))=true:=by have:=UB (rw0 w h).cell;simpa[Bp,List.map_replicate] using this
 have i:bS (uM (K1 (aj 0) (dP (dC (.int 2))) (dP (dC (.int 62))))) [.val (.lst (zs.map D.int)),.val (.int w),.val (.int h),.own (.n (List.replicate h (.l (List.replicate w eE)))),.no,.no,.no]= .ok (cs.map D.int):=by simp[K1,hc]
 have nt0:=(BO R).1;rw[lE,jG,show ck Ge [.val (.lst (zs.map D.int)),.val (.int w),.val (.int h)]=[.val (.lst (zs.map D.int)),.val (.int w),.val (.int h),.no,.no,.no,.no] from rfl];have s1:rj 3 (mN (rz false (iK (ai (aj 2) aB)) 1 [1] (aD 0) i7 (mL (cA false (iK (ai (aj 1) aB)) 1 [] (aD 0) i7 (dC (.obj "Empty" [] [])))))) [.val (.lst (zs.map D.int)),.val (.int w),.val (.int h),.no,.no,.no,.no]= .nx [.val (.lst (zs.map D.int)),.val (.int w),.val (.int h),.own (.n (List.replicate h (.l (List.replicate w eE)))),.no,.no,.no]:=by rw[VP,mN,r0,Res.bw,pX,if_pos n0];rfl
 have er:ro (List.replicate h (List.replicate w eE))= .n (List.replicate h (.l (List.replicate w eE))):=by simp[ro,List.map_replicate]
 rw[er] at e;rw[mw,s1,oN,mw,gE,i,pX,e,oN,VQ,m,pX,if_pos nt0];rfl
def C9(g e:D):E2 "grid" (.obj "Table" ["grid","ends"] [g,e])= .ok g:=by simp[E2]
def aa4(g e:D):E2 "ends" (.obj "Table" ["grid","ends"] [g,e])= .ok e:=by
 have:((("ends":Str)=="grid")=false):=by decide+kernel
 simp[E2,List.lookup,this]
def YM{rows:List (List D)}{w h:Nat}(R:Rw rows w h)(hh:1<=h):Tb (tab rows) w h:=by
 obtain ⟨n1,n2⟩:=BO R;have e:∃r0,dO (.tup (rows.map D.tup)) (.int 0)= .ok (.tup r0)/\r0.length=w:=by
  match rows,R with
  |[],R=>have:=R.len;simp at this;omega
  |r0::rows,R=>exact ⟨r0,by simp[dO,rM,qJ],R.row r0 (.head _)⟩
 obtain ⟨r0,e,l0⟩:=e;have l0':oB [.tup r0]= .ok (.int (w:Int)):=by rw[<-l0];rfl
 have lr:oB [.tup (rows.map D.tup)]= .ok (.int (h:Int)):=by rw[<-R.len];simp[oB,JZ]
 refine ⟨⟨_,rfl⟩,?_,?_,n2,n1⟩
 ·simp only[e8,cZ,ck];simp[tab,C9,e,l0']
 ·simp only[dJ,cF,ck];simp[tab,C9,lr]
def Bx{w h x y:Int}:uK w h x y=true ↔(0<=x/\x<w)/\0<=y/\y<h:=by simp[uK]
def amQ{rows:List (List D)}{w h:Nat}(R:Rw rows w h)(hh:1<=h){x y:Int}(i:uK w h x y=true):bC [.val (tab rows),.val (.int x),.val (.int y)]= .ok .fE:=by have T:=YM R hh;simp only[bC,aU,ck];simp[T.rp,i]
def alp{rows:List (List D)}{w h:Nat}(R:Rw rows w h)(hh:1<=h){x y:Int}(i:uK w h x y=true):mQ 2 iP (tab rows) (.ok [.int x,.int y])= .ok (.d .fE):=by have e:=amQ R hh i;simp only[mQ,p6,iP,tab];simp only[tab] at e;simp[List.lookup,e]
def amu{rows:List (List D)}{w h:Nat}(R:Rw rows w h)(hh:1<=h){x y:Int}(i:uK w h x y=true):b5 [.val (tab rows),.val (.int x),.val (.int y)]= .ok .fE:=by have g:aaY (.uA (.t []) []) (.tup [.int x,.int y])= .ok .fE:=rfl;simp only[b5,bH,ck];simp[alp R hh i];unfold abn;simp[tab,aa4,dcT,g]
def apC{rows:List (List D)}{w h:Nat}(R:Rw rows w h)(hh:1<=h){x y:Int}(i:uK w h x y=true):mQ 2 oH (tab rows) (.ok [.int x,.int y])= .ok (.d .fE):=by have e:=amu R hh i;simp only[mQ,p6,oH,tab];simp only[tab] at e;simp[List.lookup,e]
def atT{xs:List D}{n:Nat}(hn:xs.length=n){i:Int}(h0:0<=i)(h1:i<n):∃d∈xs,dO (.tup xs) (.int i)= .ok d:=by
 have hi:i.toNat<xs.length:=by omega
 refine ⟨xs[i.toNat],List.getElem_mem hi,?_⟩;simp[dO,rM,NU h0 (show i<(xs.length:Int) by omega),List.getElem?_eq_getElem hi]
def ajl{rows:List (List D)}{w h:Nat}(R:Rw rows w h)(hh:1<=h){x y:Int}(i:uK w h x y=true):∃c,Gv c/\fY [.val (tab rows),.val (.int x),.val (.int y)]= .ok c:=by obtain ⟨⟨a,b⟩,c,d⟩:=Bx.mp i;obtain ⟨r',hr',e1⟩:=atT (xs:=rows.map D.tup) (n:=h) (by simpa using R.len) c d;obtain ⟨r,hr,rfl⟩:=List.mem_map.mp hr';obtain ⟨k,hk,e2⟩:=atT (R.row r hr) a b;refine ⟨k,R.cell r hr k hk,?_⟩;simp only[fY,eg,ck];simp[alp R hh i];simp[tab,C9,e1,e2]
def agb{rows:List (List D)}{w h:Nat}(R:Rw rows w h)(hh:1<=h){x y:Int}(i:uK w h x y=true):∃c,Gv c/\mQ 2 BP (tab rows) (.ok [.int x,.int y])= .ok (.d c):=by obtain ⟨c,hc,e⟩:=ajl R hh i;refine ⟨c,hc,?_⟩;simp only[mQ,p6,BP,tab];simp only[tab] at e;simp[List.lookup,e]
def ahP{c:D}(hc:Gv c){z:Int}(hz:z=0\/z=1\/z=2\/z=3):mQ 1 Bj c (.ok [.int z])= .ok (.l [])\/∃v:Int,mQ 1 Bj c (.ok [.int z])= .ok (.l [.tup [.int v,.gt [.int 1,.int 1]]]):=by
 rcases hc with rfl|rfl|rfl|rfl
 ·exact .inr ⟨z,rfl⟩
 ·exact .inl rfl
 ·rcases hz with rfl|rfl|rfl|rfl
  ·exact .inr ⟨1,rfl⟩
  ·exact .inr ⟨0,rfl⟩
  ·exact .inr ⟨3,rfl⟩
  ·exact .inr ⟨2,rfl⟩
 ·rcases hz with rfl|rfl|rfl|rfl
  ·exact .inr ⟨3,rfl⟩
  ·exact .inr ⟨2,rfl⟩
  ·exact .inr ⟨1,rfl⟩
  ·exact .inr ⟨0,rfl⟩
def aln{c:D}(hc:Gv c):∃d,mQ 0 vd c (.ok [])= .ok (.d d):=by rcases hc with rfl|rfl|rfl|rfl<;>exact ⟨_,rfl⟩
def aiF(x y v:Int):∃p:List Int,dQ [.val (.tup [.int x,.int y]),.val (.int v)]= .ok (tupI p):=by
 have e:∃a b:Int,ku [.val (.int x),.val (.int y),.val (.int v)]= .ok (tupI [a,b]):=by
  rw[agE];split
  ·exact ⟨_,_,rfl⟩
  ·split
   ·exact ⟨_,_,rfl⟩
   ·split
    ·exact ⟨_,_,rfl⟩
    ·exact ⟨_,_,rfl⟩
 obtain ⟨a,b,e⟩:=e;refine ⟨[a,b,v],?_⟩;simp only[dQ,jF,ck];simp[e,dO,rM,qJ,tupI]
def ae9{w h x y z:Int}(h0:yt w h [x,y,z]=true):z=0\/z=1\/z=2\/z=3:=by simp only[yt,Bool.and_eq_true,Bool.or_eq_true,decide_eq_true_eq] at h0;omega
def amO(s0 s1 s2:Slot):cA false (bS (aj 3)) 2 [2] (jy 2 (bg (aD 0) (bg (aD 1) kD))) i7 (kh (ai (cV 2 dQ (ai (aj 2) (ai (aj 0) aB))) (ai (aj 1) aB))) [s0,s1,s2,.val (.lst [])]= .ok []:=rfl
def amN(s0 s1:Slot)(x y v:Int):∃p:List Int,cA false (bS (aj 3)) 2 [2] (jy 2 (bg (aD 0) (bg (aD 1) kD))) i7 (kh (ai (cV 2 dQ (ai (aj 2) (ai (aj 0) aB))) (ai (aj 1) aB))) [s0,s1,.val (.tup [.int x,.int y]),.val (.lst [.tup [.int v,.gt [.int 1,.int 1]]])]= .ok [.tup [tupI p,.gt [.int 1,.int 1]]]:=by obtain ⟨p,e⟩:=aiF x y v;refine ⟨p,?_⟩;simp[oV,N9,rH,ajp,e]
def apM{rows:List (List D)}{w h:Nat}(R:Rw rows w h)(hh:1<=h){x y z:Int}(hp:yt w h [x,y,z]=true):∃xs,iJ [.val (tab rows),.val (tupI [x,y,z])]= .new (.l xs):=by
 have T:=YM R hh;have hz:=ae9 hp;have e1:bM [.val (tab rows),.val (tupI [x,y,z])]= .ok .fE:=by rw[MJ T,if_pos hp]
 have e2:=afd T x y z;have i0:dO (tupI [x,y,z]) (.int 0)= .ok (.int x):=rfl;have i1:dO (tupI [x,y,z]) (.int 1)= .ok (.int y):=rfl;have i2:dO (tupI [x,y,z]) (.int 2)= .ok (.int z):=rfl;have is0:isI .fE .fE= .ok (.bl true):=rfl;rw[iJ,iG];by_cases i:uK w h x y=true
 ·rw[i] at e2;have e3:=apC R hh i;obtain ⟨c,hc,e4⟩:=agb R hh i;have hl:∃xs,lCB yG (ai (uM (cA false (bS (aj 3)) 2 [2] (jy 2 (bg (aD 0) (bg (aD 1) kD))) i7 (kh (ai (cV 2 dQ (ai (aj 2) (ai (aj 0) aB))) (ai (aj 1) aB))))) aB) [.val (tab rows),.val (tupI [x,y,z]),.val (.tup [.int x,.int y]),.val (.lst [])]= .ok xs/\m6 xs=true:=by refine ⟨[],?_,by simp⟩;rw[xF,kU,ue,amO];rfl
  have hl1:∀v:Int,∃xs,lCB yG (ai (uM (cA false (bS (aj 3)) 2 [2] (jy 2 (bg (aD 0) (bg (aD 1) kD))) i7 (kh (ai (cV 2 dQ (ai (aj 2) (ai (aj 0) aB))) (ai (aj 1) aB))))) aB) [.val (tab rows),.val (tupI [x,y,z]),.val (.tup [.int x,.int y]),.val (.lst [.tup [.int v,.gt [.int 1,.int 1]]])]= .ok xs/\m6 xs=true:=λ v=>by obtain ⟨p,e⟩:=amN (.val (tab rows)) (.val (tupI [x,y,z])) x y v;refine ⟨[.tup [tupI p,.gt [.int 1,.int 1]]],?_,by simp[jU,nt]⟩;rw[xF,kU,ue,e];rfl
  generalize lCB yG (ai (uM (cA false (bS (aj 3)) 2 [2] (jy 2 (bg (aD 0) (bg (aD 1) kD))) i7 (kh (ai (cV 2 dQ (ai (aj 2) (ai (aj 0) aB))) (ai (aj 1) aB))))) aB)=L at*;rcases ahP hc hz with q|⟨v,q⟩
  ·obtain ⟨xs,f1,f2⟩:=hl;refine ⟨xs,?_⟩;simp only[ck];simp[e1,e2,i0,i1,i2,e3,is0,e4,q,f1,f2]
  ·obtain ⟨xs,f1,f2⟩:=hl1 v;refine ⟨xs,?_⟩;simp only[ck];simp[e1,e2,i0,i1,i2,e3,is0,e4,q,f1,f2]
 ·have i':uK w h x y=false:=by simpa using i
  rw[i'] at e2;refine ⟨[],?_⟩;simp only[ck];simp[e1,e2]
def ahE{rows:List (List D)}{w h:Nat}(R:Rw rows w h)(hh:1<=h){x y z:Int}(hp:yt w h [x,y,z]=true):∃d,bZ [.val (tab rows),.val (tupI [x,y,z])]= .ok d:=by
 have T:=YM R hh;have e1:bM [.val (tab rows),.val (tupI [x,y,z])]= .ok .fE:=by rw[MJ T,if_pos hp]
 have e2:=afd T x y z;have i0:dO (tupI [x,y,z]) (.int 0)= .ok (.int x):=rfl;have i1:dO (tupI [x,y,z]) (.int 1)= .ok (.int y):=rfl;rw[bZ,bV];by_cases i:uK w h x y=true
 ·rw[i] at e2;obtain ⟨c,hc,e4⟩:=agb R hh i;obtain ⟨d,q⟩:=aln hc;refine ⟨d,?_⟩;simp only[ck];simp[e1,e2,i0,i1,e4,q]
 ·have i':uK w h x y=false:=by simpa using i
  rw[i'] at e2;refine ⟨.gt [.int 0,.int 1],?_⟩;simp only[ck];simp[e1,e2]
def af8{rows:List (List D)}{w h:Nat}(R:Rw rows w h)(hh:1<=h)(x y z:Int){k:Int}(hk:k=0\/k=1):eF [.val (tab rows),.val (tupI [x,y,z]),.val (.int k)]= .ok (.bl (!yt w h [x,y,z])):=by
 have T:=YM R hh;by_cases hp:yt w h [x,y,z]=true
 ·obtain ⟨xs,e1⟩:=apM R hh hp;obtain ⟨d,e2⟩:=ahE R hh hp;rw[eF,cX,hp];rcases hk with rfl|rfl
  ·simp only[ck];simp[e1,lS]
  ·simp only[ck];simp[e2,lS]
 ·have e0:bM [.val (tab rows),.val (tupI [x,y,z])]= .err "NoPass":=by rw[MJ T,if_neg hp]
  have e1:iJ [.val (tab rows),.val (tupI [x,y,z])]= .err "NoPass":=by rw[iJ,iG];simp only[ck];simp[e0]
  have e2:bZ [.val (tab rows),.val (tupI [x,y,z])]= .err "NoPass":=by rw[bZ,bV];simp only[ck];simp[e0]
  have Xg:yt w h [x,y,z]=false:=by simpa using hp
  have hit:z5 mt "BeamError" "NoPass"=some true:=by decide
  rw[eF,cX,Xg];rcases hk with rfl|rfl
  ·simp only[ck];simp[e1,lS];rw[Kn (e:=hit)];simp[ur,mt,List.lookup]
  ·simp only[ck];simp[e2,lS];rw[Kn (e:=hit)];simp[ur,mt,List.lookup]
def Up(l:List (List Int)):Prop:=l.Pairwise λ a b=>iN a b=true
def Up.nodup{l:List (List Int)}(h:Up l):l.Nodup:=h.imp λ q e=>by rw[e,KP] at q;cases q
def agz:∀{l:List (List Int)},(∀n∈l,n.length=3)->d3s (l.map tupI)=some l
 |[],_=>rfl
 |n::l,h=>by
  have h3:=h n (.head _);have ih:=agz λ m hm=>h m (.tail _ hm);match n,h3 with
  |[a,b,c],_=>have e:d3 (tupI [a,b,c])=some [a,b,c]:=rfl;simp only[List.map_cons,d3s,e,ih]
def af0{α β:Type}(f:α->β):∀l:List α,l.zip (l.map f)=l.map λ n=>(n,f n)
 |[]=>rfl
 |n::l=>by simp[af0 f l]
def Mm{l m:List (List Int)}(h3:∀n∈l,n.length=3)(hl:l.length<4096)(nd:l.Nodup)(up:Up m)(hm:∀n,n∈l ↔ n∈m):yF [.lst (l.map tupI)]= .ok (m.map tupI):=by
 have z:=af0 tupI l;have e:srt (l.zip (l.map tupI))=m.map λ n=>(n,tupI n):=by
  refine yC ((wJ _).trans ?_) (Mj ?_) ?_
  ·rw[z];exact ((List.perm_ext_iff_of_nodup nd up.nodup).mpr hm).map _
  ·rw[z,List.map_map];simpa[Function.comp_def] using nd
  ·exact List.pairwise_map.mpr (List.Pairwise.imp (λ h=>h) up)
 show F1 (l.map tupI)=_;unfold F1;rw[agz h3];simp only;rw[if_pos ⟨hl,nd⟩,e,List.map_map];rfl
def zs(lo:Int)(n:Nat):List Int:=(List.range n).map λ(k:Nat)=>lo+k
def CG{lo:Int}{n:Nat}{x:Int}:x∈zs lo n ↔ lo<=x/\x<lo+n:=by
 unfold zs;rw[List.mem_map];constructor
 ·rintro ⟨k,hk,rfl⟩
  have:=List.mem_range.mp hk;omega
 ·intro h;exact ⟨(x- lo).toNat,List.mem_range.mpr (by omega),by omega⟩
def afZ(lo:Int)(n:Nat):(zs lo n).Pairwise (· < ·):=List.pairwise_map.mpr (List.pairwise_lt_range.imp λ h=>by omega)
def four(x y:Int):List (List Int):=[[x,y,0],[x,y,1],[x,y,2],[x,y,3]]
def box(a b:Int)(n m:Nat):List (List Int):=(zs a n).flatMap λ x=>(zs b m).flatMap λ y=>four x y
def ap2{a b c d e f:Int}(h:a<d):iN [a,b,c] [d,e,f]=true:=by
 have:a≠d:=by omega
 simp[iN,this,h]
def ap1{a b c e f:Int}(h:b<e):iN [a,b,c] [a,e,f]=true:=by
 have:b≠e:=by omega
 simp[iN,this,h]
def p7{x y:Int}{p:List Int}:p∈four x y ↔ ∃z:Int,(0<=z/\z<4)/\p=[x,y,z]:=by
 constructor
 ·intro h;simp only[four,List.mem_cons,List.not_mem_nil,or_false] at h;rcases h with rfl|rfl|rfl|rfl
  ·exact ⟨0,by omega,rfl⟩
  ·exact ⟨1,by omega,rfl⟩
  ·exact ⟨2,by omega,rfl⟩
  ·exact ⟨3,by omega,rfl⟩
 ·rintro ⟨z,hz,rfl⟩
  have:z=0\/z=1\/z=2\/z=3:=by omega
  rcases this with rfl|rfl|rfl|rfl<;>simp[four]
def Ip{a b:Int}{n m:Nat}{p:List Int}:p∈box a b n m ↔ ∃x y z:Int,p=[x,y,z]/\(a<=x/\x<a+n)/\(b<=y/\y<b+m)/\0<=z/\z<4:=by
 unfold box;constructor
 ·intro h;obtain ⟨x,hx,h⟩:=List.mem_flatMap.mp h;obtain ⟨y,hy,h⟩:=List.mem_flatMap.mp h;obtain ⟨z,hz,rfl⟩:=p7.mp h;exact ⟨x,y,z,rfl,CG.mp hx,CG.mp hy,hz⟩
 ·rintro ⟨x,y,z,rfl,hx,hy,hz⟩
  exact List.mem_flatMap.mpr ⟨x,CG.mpr hx,List.mem_flatMap.mpr ⟨y,CG.mpr hy,p7.mpr ⟨z,hz,rfl⟩⟩⟩
def OL(a b:Int)(n m:Nat):Up (box a b n m):=by
 refine List.pairwise_flatMap.mpr ⟨λ x _=>List.pairwise_flatMap.mpr ⟨λ y _=>?_,(afZ b m).imp λ h p hp q hq=>?_⟩,(afZ a n).imp λ h p hp q hq=>?_⟩
 ·simp[four,iN]
 ·obtain ⟨z,_,rfl⟩:=p7.mp hp;obtain ⟨z',_,rfl⟩:=p7.mp hq;exact ap1 h
 ·obtain ⟨y,_,hp⟩:=List.mem_flatMap.mp hp;obtain ⟨y',_,hq⟩:=List.mem_flatMap.mp hq;obtain ⟨z,_,rfl⟩:=p7.mp hp;obtain ⟨z',_,rfl⟩:=p7.mp hq;exact ap2 h
def UM(a b:Int)(n m:Nat):(box a b n m).length=n*(m*4):=by
 have h:∀(l:List Int) (f:Int->List (List Int)) (k:Nat),(∀x,(f x).length=k)->(l.flatMap f).length=l.length*k:=by
  intro l f k hk;induction l with
  |nil=>simp
  |cons x l ih=>simp[ih,hk,Nat.succ_mul,Nat.add_comm]
 unfold box;rw[h _ _ (m*4) λ x=>by rw[h _ _ 4 λ y=>rfl];simp[zs]];simp[zs]
def DU(w h:Nat):List (List Int):=(box (-1) (-1) (w+2) (h+2)).filter (yt w h)
def PI(w h:Nat):List (List Int):=box 0 0 w h
def v9:List Int->List Int
 |[x,y,z]=>bk x y z
 |p=>p
def cin(w h:Int):List Int->Bool
 |x::y::_=>uK w h x y
 |_=>false
def IN(w h:Nat):List (List Int):=(DU w h).filter λ p=>!cin w h (v9 p)
def OU(w h:Nat):List (List Int):=(DU w h).filter λ p=>!cin w h p
def abc(w h:Nat):Up (DU w h):=List.Pairwise.filter _ (OL _ _ _ _)
def agn(w h:Nat):Up (IN w h):=List.Pairwise.filter _ (abc w h)
def agi(w h:Nat):Up (OU w h):=List.Pairwise.filter _ (abc w h)
def Bv{w h x y z:Int}:yt w h [x,y,z]=true ↔(0<=z/\z<4)/\(cin w h [x,y,z]=true\/cin w h (v9 [x,y,z])=true):=by
 have e:∃u v t,bk x y z=[u,v,t]:=by unfold bk;(repeat' split)<;>exact ⟨_,_,_,rfl⟩
 obtain ⟨u,v,t,e⟩:=e;simp only[yt,v9,e,cin,Bool.and_eq_true,Bool.or_eq_true,decide_eq_true_eq];constructor
 ·rintro ⟨a,b⟩;exact ⟨by omega,b⟩
 ·rintro ⟨a,b⟩;exact ⟨by omega,b⟩
def yo{x y z:Int}(hz:0<=z/\z<4):∃u v t:Int,v9 [x,y,z]=[u,v,t]/\(0<=t/\t<4)/\v9 [u,v,t]=[x,y,z]/\(x- 1<=u/\u<=x+1)/\(y- 1<=v/\v<=y+1):=by
 have:z=0\/z=1\/z=2\/z=3:=by omega
 rcases this with rfl|rfl|rfl|rfl
 ·exact ⟨x- 1,y,2,rfl,by omega,by simp[v9,bk],by omega,by omega⟩
 ·exact ⟨x,y+1,3,rfl,by omega,by simp[v9,bk],by omega,by omega⟩
 ·exact ⟨x+1,y,0,rfl,by omega,by simp[v9,bk],by omega,by omega⟩
 ·exact ⟨x,y- 1,1,rfl,by omega,by simp[v9,bk],by omega,by omega⟩
def nS{w h:Nat}{p:List Int}:p∈DU w h ↔ ∃x y z:Int,p=[x,y,z]/\(0<=z/\z<4)/\(cin w h p=true\/cin w h (v9 p)=true):=by
 unfold DU;rw[List.mem_filter];constructor
 ·rintro ⟨h1,h2⟩
  obtain ⟨x,y,z,rfl,_⟩:=Ip.mp h1;exact ⟨x,y,z,rfl,Bv.mp h2⟩
 ·rintro ⟨x,y,z,rfl,hz,h2⟩
  refine ⟨Ip.mpr ⟨x,y,z,rfl,?_⟩,Bv.mpr ⟨hz,h2⟩⟩;obtain ⟨u,v,t,e,_,_,hu,hv⟩:=yo (x:=x) (y:=y) hz;rw[e] at h2;simp only[cin,Bx] at h2;omega
def zg{w h:Nat}{p:List Int}:p∈PI w h ↔ ∃x y z:Int,p=[x,y,z]/\(0<=z/\z<4)/\cin w h p=true:=by
 unfold PI;rw[Ip];constructor
 ·rintro ⟨x,y,z,rfl,hx,hy,hz⟩
  exact ⟨x,y,z,rfl,hz,Bx.mpr (by omega)⟩
 ·rintro ⟨x,y,z,rfl,hz,hc⟩
  have:=Bx.mp hc;exact ⟨x,y,z,rfl,by omega,by omega,hz⟩
def Nt{w h:Nat}{p:List Int}:p∈(PI w h).filter (λ p=>!cin w h (v9 p))↔ p∈IN w h:=by
 unfold IN;rw[List.mem_filter,List.mem_filter,zg,nS];constructor
 ·rintro ⟨⟨x,y,z,rfl,hz,hc⟩,h2⟩
  exact ⟨⟨x,y,z,rfl,hz,.inl hc⟩,h2⟩
 ·rintro ⟨⟨x,y,z,rfl,hz,hc⟩,h2⟩
  refine ⟨⟨x,y,z,rfl,hz,?_⟩,h2⟩;rcases hc with hc|hc
  ·exact hc
  ·rw[hc] at h2;cases h2
def Z2{w h:Nat}{p:List Int}:p∈(IN w h).map v9 ↔ p∈OU w h:=by
 unfold OU;rw[List.mem_map,List.mem_filter,nS];constructor
 ·rintro ⟨q,hq,rfl⟩
  obtain ⟨h1,h2⟩:=List.mem_filter.mp (Nt.mpr hq);obtain ⟨x,y,z,rfl,hz,hc⟩:=zg.mp h1;obtain ⟨u,v,t,e,ht,e2,_⟩:=yo (x:=x) (y:=y) hz;rw[e] at h2 ⊢;exact ⟨⟨u,v,t,rfl,ht,.inr (by rw[e2];exact hc)⟩,h2⟩
 ·rintro ⟨⟨x,y,z,rfl,hz,hc⟩,h2⟩
  obtain ⟨u,v,t,e,ht,e2,_⟩:=yo (x:=x) (y:=y) hz;have hc2:cin w h (v9 [x,y,z])=true:=by
   rcases hc with hc|hc
   ·rw[hc] at h2;cases h2
   ·exact hc
  rw[e] at hc2;refine ⟨[u,v,t],Nt.mp (List.mem_filter.mpr ⟨zg.mpr ⟨u,v,t,rfl,ht,hc2⟩,?_⟩),e2⟩;rw[e2];exact h2
def UI{w h:Nat}{p:List Int}:p∈PI w h++OU w h ↔ p∈DU w h:=by
 unfold OU;rw[List.mem_append,List.mem_filter,zg,nS];constructor
 ·rintro (⟨x,y,z,rfl,hz,hc⟩|⟨hd,_⟩)
  ·exact ⟨x,y,z,rfl,hz,.inl hc⟩
  ·exact hd
 ·rintro ⟨x,y,z,rfl,hz,hc⟩
  by_cases q:cin w h [x,y,z]=true
  ·exact .inl ⟨x,y,z,rfl,hz,q⟩
  ·exact .inr ⟨⟨x,y,z,rfl,hz,hc⟩,by simp[q]⟩
def du3{w h:Nat}:∀p∈DU w h,p.length=3:=λ p hp=>by obtain ⟨x,y,z,rfl,_⟩:=nS.mp hp;rfl
def amV{w h:Nat}{p:List Int}(hp:p∈DU w h):v9 (v9 p)=p:=by obtain ⟨x,y,z,rfl,hz,_⟩:=nS.mp hp;obtain ⟨u,v,t,e,_,e2,_⟩:=yo (x:=x) (y:=y) hz;rw[e,e2]
def alY{w h:Nat}{l:List (List Int)}(hl:∀p∈l,p∈DU w h)(nd:l.Nodup):(l.map v9).Nodup:=by
 refine List.Pairwise.of_map (S:=λ a b=>a≠b) v9 (λ a b q e=>q (by rw[e])) ?_
 rw[List.map_map]
 have:l.map (v9∘v9)=l:=by
  conv=>rhs;rw[<-List.map_id l]
  exact List.map_congr_left λ p hp=>amV (hl p hp)
 rw[this]
 exact nd
def nj{e:D->Res (Option D)}(p:List Int->Bool):∀{l:List (List Int)},(∀n∈l,e (tupI n)= .ok (if p n=true then some (tupI n) else none))->oV e (l.map tupI)= .ok ((l.filter p).map tupI)
 |[],_=>rfl
 |n::l,h=>by
  simp only[List.map_cons,oV];rw[h n (.head _),nj p λ m hm=>h m (.tail _ hm),List.filter_cons];by_cases q:p n=true
  ·simp[q]
  ·simp[q]
def GJ{e:D->Res (Option D)}(f:List Int->List Int):∀{l:List (List Int)},(∀n∈l,e (tupI n)= .ok (some (tupI (f n))))->oV e (l.map tupI)= .ok ((l.map f).map tupI)
 |[],_=>rfl
 |n::l,h=>by simp only[List.map_cons,oV];rw[h n (.head _),GJ f λ m hm=>h m (.tail _ hm)];rfl
def apH{t:D}{xs:List D}(hl:xs.length<100000)(x y:Int):lI 0 [.val t,.own (.l xs),.val (.int x),.val (.int y)]= .nx [.val t,.own (.l (xs++(four x y).map tupI)),.val (.int x),.val (.int y)]:=by
 have c:cA false (bS (dC (.gt [.int 0,.int 1,.int 2,.int 3]))) 1 [2,3] (aD 0) i7 (kh (ai (aj 1) (ai (aj 2) (ai (aj 0) aB)))) [.val t,.own (.l xs),.val (.int x),.val (.int y)]= .ok ((four x y).map tupI):=rfl;rw[lI,Hr,c];have e:aa7 ((four x y).map tupI) (.l xs)=some (.l (xs++(four x y).map tupI)):=by rw[aa7,if_pos ⟨by simp[four];omega,gS _⟩]
 simp only[sr,zT,DW];simp[W6,e]
def F6{t:D}(x:Int):∀(ys:List Int) (l:List (List Int)) (s:Slot),l.length+4*ys.length<100000->∃s',gn (aD 3) (lI 0) (ys.map D.int) [.val t,.own (.l (l.map tupI)),.val (.int x),s]= .nx [.val t,.own (.l ((l++ys.flatMap λ y=>four x y).map tupI)),.val (.int x),s']
 |[],l,s,_=>⟨s,by simp[gn]⟩
 |y::ys,l,s,h=>by rw[List.length_cons] at h;obtain ⟨s',e⟩:=F6 (t:=t) x ys (l++four x y) (.val (.int y)) (by simp[four];omega);refine ⟨s',?_⟩;have st:=apH (t:=t) (xs:=l.map tupI) (by simp;omega) x y;rw[<-List.map_append] at st;rw[List.flatMap_cons, <-List.append_assoc, <-e];simp only[List.map_cons,gn];simp only[cK,List.set_cons_succ,List.set_cons_zero];rw[st]
def xO(lo:Int)(n:Nat):mS lo n=(zs lo n).map D.int:=by simp[mS,zs,Function.comp_def]
def vJ(lo:Int)(n:Nat):(zs lo n).length=n:=by simp[zs]
def F5{t:D}{w h:Nat}(T:Tb t w h)(hh:h<=16):∀(xs:List Int) (l:List (List Int)) (s s2:Slot),l.length+64*xs.length<100000->∃u v,gn (aD 2) (lH 0) (xs.map D.int) [.val t,.own (.l (l.map tupI)),s,s2]= .nx [.val t,.own (.l ((l++xs.flatMap λ x=>(zs 0 h).flatMap λ y=>four x y).map tupI)),u,v]
 |[],l,s,s2,_=>⟨s,s2,by simp[gn]⟩
 |x::xs,l,s,s2,hl=>by
  rw[List.length_cons] at hl;obtain ⟨v,e1⟩:=F6 (t:=t) x (zs 0 h) l s2 (by rw[vJ];omega);have st:lH 0 [.val t,.own (.l (l.map tupI)),.val (.int x),s2]= .nx [.val t,.own (.l ((l++(zs 0 h).flatMap λ y=>four x y).map tupI)),.val (.int x),v]:=by
   have r:iK (ai (mK (kE 0 pI (aj 0) aB)) aB) [.val t,.own (.l (l.map tupI)),.val (.int x),s2]= .ok ((zs 0 h).map D.int):=by rw[<-xO];exact IL (by simp[T.rh]) hh
   rw[lH,gE,r,pX,e1]
  have lf:((zs 0 h).flatMap λ y=>four x y).length<=64:=by
   have q:∀l:List Int,(l.flatMap λ y=>four x y).length=4*l.length:=λ l=>by
    induction l with
    |nil=>rfl
    |cons a l ih=>rw[List.flatMap_cons,List.length_append,ih];simp only[four,List.length_cons,List.length_nil];omega
   rw[q,vJ];omega
  obtain ⟨u,v',e⟩:=F5 T hh xs (l++(zs 0 h).flatMap λ y=>four x y) (.val (.int x)) v (by rw[List.length_append];omega);refine ⟨u,v',?_⟩;rw[List.flatMap_cons, <-List.append_assoc, <-e];simp only[List.map_cons,gn];simp only[cK,List.set_cons_succ,List.set_cons_zero];rw[st]
def agc{t:D}{w h:Nat}(T:Tb t w h)(hw:w<=16)(hh:h<=16):cG [.val t]= .new (.l ((PI w h).map tupI)):=by
 obtain ⟨u,v,e⟩:=F5 T hh (zs 0 w) [] .no .no (by rw[vJ];simp;omega);have r:iK (ai (mK (kE 0 tQ (aj 0) aB)) aB) [.val t,.own (.l []),.no,.no]= .ok ((zs 0 w).map D.int):=by rw[<-xO];exact IL (by simp[T.rw]) hw
 rw[List.nil_append] at e;rw[cG,d8,show ck zU [.val t]=[.val t,.no,.no,.no] from rfl,mw];have s1:rj 1 (mL (sW aB)) [.val t,.no,.no,.no]= .nx [.val t,.own (.l []),.no,.no]:=rfl;have n:Bp (.l ((PI w h).map tupI))=true:=by rw[UC];exact gS _
 rw[s1,oN,mw,gE,r,pX];rw[show ([]:List (List Int)).map tupI=[] from rfl] at e;rw[e,oN];rfl
def alG{t:D}{w h:Nat}(T:Tb t w h){p:List Int}(hp:p∈DU w h):c8 [.val t,.val (tupI p)]= .ok (.bl (cin w h (v9 p))):=by
 obtain ⟨x,y,z,rfl,hz,_⟩:=nS.mp hp;have e:∃u v s,bk x y z=[u,v,s]:=by unfold bk;(repeat' split)<;>exact ⟨_,_,_,rfl⟩
 obtain ⟨u,v,s,e⟩:=e;rw[agh T x y z (by omega)];simp only[v9,e,cin]
def ajs{w h:Nat}{p:List Int}(hp:p∈DU w h):gB [.val (tupI p)]= .ok (tupI (v9 p)):=by obtain ⟨x,y,z,rfl,hz,_⟩:=nS.mp hp;exact abM x y z (by omega)
def agd{w h:Nat}{p:List Int}(hp:p∈PI w h):p∈DU w h:=by obtain ⟨x,y,z,rfl,hz,hc⟩:=zg.mp hp;exact nS.mpr ⟨x,y,z,rfl,hz,.inl hc⟩
def ago{w h:Nat}{p:List Int}(hp:p∈IN w h):p∈DU w h:=(List.mem_filter.mp hp).1
def alH{w h:Nat}{p:List Int}(hp:p∈OU w h):p∈DU w h:=(List.mem_filter.mp hp).1
def aac{w h:Nat}(hw:w<=16)(hh:h<=16):(PI w h).length<=1024:=by unfold PI;rw[UM];exact Nat.le_trans (Nat.mul_le_mul hw (Nat.mul_le_mul hh (Nat.le_refl 4))) (by decide)
def ND{w h:Nat}(hw:w<=16)(hh:h<=16):(DU w h).length<=1296:=by refine Nat.le_trans (List.length_filter_le _ _) ?_;rw[UM];exact Nat.le_trans (Nat.mul_le_mul (show w+2<=18 by omega) (Nat.mul_le_mul (show h+2<=18 by omega) (Nat.le_refl 4))) (by decide)
def aaK{t:D}{w h:Nat}(T:Tb t w h)(hw:w<=16)(hh:h<=16):iu [.val t]= .new (.l ((IN w h).map tupI)):=by
 have e1:=agc T hw hh;have nt1:m6 [t]=true:=by simp[T.nt]
 have ln:=aac hw hh;have i:bS (cV 1 cG (ai (aj 0) aB)) [.val t]= .ok ((PI w h).map tupI):=by simp[nt1,e1,T.nt]
 have c:cA false (bS (cV 1 cG (ai (aj 0) aB))) 1 [0] (aD 0) (uC (dT (cV 2 c8 (ai (aj 1) (ai (aj 0) aB))))) (aj 0) [.val t]= .ok (((PI w h).filter λ p=>!cin w h (v9 p)).map tupI):=by rw[gw,i,Res.bw,if_pos (by rw[List.length_map];omega)];refine nj _ λ n hn=>?_;have e2:=alG T (agd hn);have b:rH false 1 [0] [.val t]=[.no,.val t]:=rfl;have n1:=jU n;rw[b];generalize tupI n=d at*;simp only[N9,cK];simp[e2,T.nt,n1];generalize cin w h (v9 n)=q;cases q<;>rfl
 have s:=Mm (l:=(PI w h).filter λ p=>!cin w h (v9 p)) (m:=IN w h) (λ n hn=>du3 n (agd (List.mem_filter.mp hn).1)) (Nat.lt_of_le_of_lt (List.length_filter_le _ _) (by omega)) (List.Pairwise.filter _ (OL _ _ _ _).nodup) (agn w h) λ n=>Nt;have n:Bp (.l ((IN w h).map tupI))=true:=by rw[UC];exact gS _
 rw[iu,i9,show ck Ku [.val t]=[.val t] from rfl,yJ,Iq,xF,kU,ue,c];simp only[Res.bw,xZ];rw[s];simp only[Res.bw,pX];rw[if_pos n];rfl
def MM{t:D}{w h:Nat}(T:Tb t w h)(hw:w<=16)(hh:h<=16):gz [.val t]= .new (.l ((OU w h).map tupI)):=by
 have e1:=aaK T hw hh;have ln:=ND hw hh;have li:(IN w h).length<=1296:=Nat.le_trans (List.length_filter_le _ _) ln;have i:bS (cV 1 iu (ai (aj 0) aB)) [.val t]= .ok ((IN w h).map tupI):=by simp[e1,T.nt]
 have c:cA false (bS (cV 1 iu (ai (aj 0) aB))) 1 [] (aD 0) i7 (cV 1 gB (ai (aj 0) aB)) [.val t]= .ok (((IN w h).map v9).map tupI):=by rw[gw,i,Res.bw,if_pos (by rw[List.length_map];omega)];refine GJ _ λ n hn=>?_;have e2:=ajs (ago hn);have b:rH false 1 [] [.val t]=[.no]:=rfl;have n1:=jU n;rw[b];generalize tupI n=d at*;simp only[N9,cK,abH];simp[e2,n1]
 have s:=Mm (l:=(IN w h).map v9) (m:=OU w h) (λ n hn=>du3 n (alH (Z2.mp hn))) (by rw[List.length_map];omega) (alY (λ p hp=>ago hp) (agn w h).nodup) (agi w h) λ n=>Z2;have n:Bp (.l ((OU w h).map tupI))=true:=by rw[UC];exact gS _
 rw[gz,gx,show ck Gd [.val t]=[.val t] from rfl,yJ,Iq,xF,kU,ue,c];simp only[Res.bw,xZ];rw[s];simp only[Res.bw,pX];rw[if_pos n];rfl
def abR{t:D}{w h:Nat}(T:Tb t w h)(hw:w<=16)(hh:h<=16):eK [.val t]= .new (.l ((DU w h).map tupI)):=by
 have e1:=agc T hw hh;have e2:=MM T hw hh;have ln:=ND hw hh;have lp:=aac hw hh;have lo:(OU w h).length<=1296:=Nat.le_trans (List.length_filter_le _ _) ln;have c:lOp Jg (cV 1 cG (ai (aj 0) aB)) (cV 1 gz (ai (aj 0) aB)) [.val t]= .ok ((PI w h++OU w h).map tupI):=by
  have sz:((PI w h).map tupI).length+((OU w h).map tupI).length<=sizeLine:=by simp only[List.length_map];exact Nat.le_trans (show _<=2320 by omega) (by decide+kernel)
  simp[e1,e2,T.nt,Jg,asL];simpa using sz
 have nd:(PI w h++OU w h).Nodup:=List.nodup_append.mpr ⟨(OL _ _ _ _).nodup,(agi w h).nodup,λ a ha b hb e=>by subst e;obtain ⟨_,_,_,_,_,hc⟩:=zg.mp ha;have:=(List.mem_filter.mp hb).2;rw[hc] at this;cases this⟩;have s:=Mm (l:=PI w h++OU w h) (m:=DU w h) (λ n hn=>du3 n (UI.mp hn)) (by rw[List.length_append];omega) nd (abc w h) λ n=>UI;have n:Bp (.l ((DU w h).map tupI))=true:=by rw[UC];exact gS _
 rw[eK,cW,show ck xq [.val t]=[.val t] from rfl,yJ,Iq,xF,kU,ue,c];simp only[Res.bw,xZ];rw[s];simp only[Res.bw,pX];rw[if_pos n];rfl
def abL{x y z:Int}(hz:0<=z/\z<4):∃u v s,v9 [x,y,z]=[u,v,s]/\cN [.val (tupI [x,y,z])]= .ok (.tup [.int u,.int v]):=by
 have:z=0\/z=1\/z=2\/z=3:=by omega
 rcases this with rfl|rfl|rfl|rfl
 ·exact ⟨x- 1,y,2,rfl,by simp[cN,cu,ck,dO,rM,qJ,tupI]⟩
 ·exact ⟨x,y+1,3,rfl,by simp[cN,cu,ck,dO,rM,qJ,tupI]⟩
 ·exact ⟨x+1,y,0,rfl,by simp[cN,cu,ck,dO,rM,qJ,tupI]⟩
 ·exact ⟨x,y- 1,1,rfl,by simp[cN,cu,ck,dO,rM,qJ,tupI]⟩
def Gq(x y w h:Int):lF [.val (.int x),.val (.int y),.val (.int w),.val (.int h)]= .ok (.bl (uK w h x y)):=by simp only[lF,kX,ck];by_cases a:0<=x<;>by_cases b:x<w<;>by_cases c:0<=y<;>by_cases d:y<h<;>simp[a,b,c,d,Yi,ltI,kW,uK]
def aaG{w h x y z u v s:Int}(hz:0<=z/\z<4)(e:v9 [x,y,z]=[u,v,s]):yt w h [x,y,z]=(uK w h x y||uK w h u v):=by apply Bool.eq_iff_iff.mpr;rw[Bv,e,Bool.or_eq_true];simp only[cin];exact ⟨λ q=>q.2,λ q=>⟨hz,q⟩⟩
def aqJ{w h:Int}{l:List (List Int)}(hl:l.length<100000)(x y:Int){z:Int}(hz:0<=z/\z<4)(s6 s7:Slot):
  ∃t6 t7,tM 0 [.val (.int w),.val (.int h),.own (.l (l.map tupI)),.val (.int x),.val (.int y),.val (.int z),s6,s7]= .nx [.val (.int w),.val (.int h),.own (.l ((l++[[x,y,z]].filter (yt w h)).map tupI)),.val (.int x),.val (.int y),.val (.int z),t6,t7]:=by
 obtain ⟨u,v,s,e,eb⟩:=abL (x:=x) (y:=y) hz;have et:D.tup [.int x,.int y,.int z]=tupI [x,y,z]:=rfl;have n1:=jU [x,y,z];refine ⟨.val (.int u),.val (.int v),?_⟩;have ei:=aaG (w:=w) (h:=h) hz e;have l1:(l.map tupI).length<1000000:=by simp;omega
 rw[List.map_append];generalize l.map tupI=L at*;rw[List.filter_cons,ei];simp only[tM];have a1:=Gq x y w h;have a2:=Gq u v w h;generalize uK w h x y=a at*;generalize uK w h u v=b at*;simp[et,eb,a1];cases a<;>cases b<;>simp[a2,sr,zT,W6,DW,X4,et,n1,l1]
def GH{w h:Int}(x y:Int):∀(ws:List Int) (l:List (List Int)) (s5 s6 s7:Slot),(∀z∈ws,0<=z/\z<4)->l.length+ws.length<100000->∃t5 t6 t7,gn (aD 5) (tM 0) (ws.map D.int) [.val (.int w),.val (.int h),.own (.l (l.map tupI)),.val (.int x),.val (.int y),s5,s6,s7]= .nx [.val (.int w),.val (.int h),.own (.l ((l++(ws.map λ z=>[x,y,z]).filter (yt w h)).map tupI)),.val (.int x),.val (.int y),t5,t6,t7]
 |[],l,s5,s6,s7,_,_=>⟨s5,s6,s7,by simp⟩
 |z::ws,l,s5,s6,s7,hz,hl=>by rw[List.length_cons] at hl;obtain ⟨u6,u7,st⟩:=aqJ (w:=w) (h:=h) (l:=l) (by omega) x y (hz z (.head _)) s6 s7;have l1:([[x,y,z]].filter (yt w h)).length<=1:=List.length_filter_le _ _;obtain ⟨t5,t6,t7,e⟩:=GH (w:=w) (h:=h) x y ws (l++[[x,y,z]].filter (yt w h)) (.val (.int z)) u6 u7 (λ q hq=>hz q (.tail _ hq)) (by rw[List.length_append];omega);refine ⟨t5,t6,t7,?_⟩;rw[List.map_cons (f:=λ z=>[x,y,z]),show ([x,y,z]::ws.map λ z=>[x,y,z])=[[x,y,z]]++ws.map λ z=>[x,y,z] from rfl,List.filter_append, <-List.append_assoc, <-e];simp only[List.map_cons,gn];simp only[cK,List.set_cons_succ,List.set_cons_zero];rw[st]
def mP(w h:Int)(x:Int)(ys:List Int):List (List Int):=ys.flatMap λ y=>(four x y).filter (yt w h)
def r4:Hv [.int 4]= .ok ((zs 0 4).map D.int):=by rw[<-xO];exact J2 (n:=4) (by decide)
def GG{w h:Int}(x:Int):∀(ys:List Int) (l:List (List Int)) (s4 s5 s6 s7:Slot),l.length+4*ys.length<90000->∃t4 t5 t6 t7,gn (aD 4) (tL 0) (ys.map D.int) [.val (.int w),.val (.int h),.own (.l (l.map tupI)),.val (.int x),s4,s5,s6,s7]= .nx [.val (.int w),.val (.int h),.own (.l ((l++mP w h x ys).map tupI)),.val (.int x),t4,t5,t6,t7]
 |[],l,s4,s5,s6,s7,_=>⟨s4,s5,s6,s7,by simp[mP]⟩
 |y::ys,l,s4,s5,s6,s7,hl=>by
  rw[List.length_cons] at hl;obtain ⟨u5,u6,u7,e1⟩:=GH (w:=w) (h:=h) x y (zs 0 4) l s5 s6 s7 (λ z hz=>by have:=CG.mp hz;omega) (by rw[vJ];omega);have f4:((zs 0 4).map λ z=>[x,y,z])=four x y:=rfl;rw[f4] at e1;have l4:((four x y).filter (yt w h)).length<=4:=List.length_filter_le _ _;obtain ⟨t4,t5,t6,t7,e⟩:=GG (w:=w) (h:=h) x ys (l++(four x y).filter (yt w h)) (.val (.int y)) u5 u6 u7 (by rw[List.length_append];omega);refine ⟨t4,t5,t6,t7,?_⟩;have st:tL 0 [.val (.int w),.val (.int h),.own (.l (l.map tupI)),.val (.int x),.val (.int y),s5,s6,s7]= .nx [.val (.int w),.val (.int h),.own (.l ((l++(four x y).filter (yt w h)).map tupI)),.val (.int x),.val (.int y),u5,u6,u7]:=by rw[tL,gE,iK,kU,ajh,xZ,Res.bw,Res.bw,Res.bw,r4,pX,e1]
  rw[mP,List.flatMap_cons, <-List.append_assoc, <-mP, <-e];simp only[List.map_cons,gn];simp only[cK,List.set_cons_succ,List.set_cons_zero];rw[st]
def Y6{n:Nat}(h:n<=16):J1 [.int (-1),.int ((n:Int)+1)]= .ok ((zs (-1) (n+2)).map D.int):=by simp only[J1];rw[if_pos (by refine ⟨?_,?_,?_,?_⟩<;>omega), <-xO,show ((n:Int)+1- -1).toNat=n+2 by omega]
def UY{f:Sg->Res (List D)}{Γ:Sg}{n:Nat}(e:f Γ= .ok [.int (-1),.int ((n:Int)+1)])(h:n<=16):xQ f Γ= .ok ((zs (-1) (n+2)).map D.int):=by unfold xQ;rw[e,Res.bw,Y6 h]
def WC(w h x:Int)(ys:List Int):(mP w h x ys).length<=4*ys.length:=by
 induction ys with
 |nil=>simp[mP]
 |cons y ys ih=>have l4:((four x y).filter (yt w h)).length<=4:=List.length_filter_le _ _;rw[mP,List.flatMap_cons,List.length_append, <-mP,List.length_cons];omega
def afz{w h:Nat}(hh:h<=16)(x:Int)(l:List (List Int))(s4 s5 s6 s7:Slot)(hl:l.length+72<80000):
  ∃t4 t5 t6 t7,nv 0 [.val (.int w),.val (.int h),.own (.l (l.map tupI)),.val (.int x),s4,s5,s6,s7]= .nx [.val (.int w),.val (.int h),.own (.l ((l++mP w h x (zs (-1) (h+2))).map tupI)),.val (.int x),t4,t5,t6,t7]:=by
 obtain ⟨u4,u5,u6,u7,e1⟩:=GG (w:=w) (h:=h) x (zs (-1) (h+2)) l s4 s5 s6 s7 (by rw[vJ];omega);refine ⟨u4,u5,u6,u7,?_⟩;have r:xQ (ai (dUn Ie (dC (.int 1))) (ai (bu wj (aj 1) (dC (.int 1))) aB)) [.val (.int w),.val (.int h),.own (.l (l.map tupI)),.val (.int x),s4,s5,s6,s7]= .ok ((zs (-1) (h+2)).map D.int):=UY (by simp) hh;rw[nv,gE,r,pX,e1]
def Lh{w h:Int}{Y:List Int}(len:∀x,(mP w h x Y).length<=72) (st:∀(x:Int) (l:List (List Int)) (s4 s5 s6 s7:Slot),l.length+72<80000->∃t4 t5 t6 t7,nv 0 [.val (.int w),.val (.int h),.own (.l (l.map tupI)),.val (.int x),s4,s5,s6,s7]= .nx [.val (.int w),.val (.int h),.own (.l ((l++mP w h x Y).map tupI)),.val (.int x),t4,t5,t6,t7]):
  ∀(xs:List Int) (l:List (List Int)) (s3 s4 s5 s6 s7:Slot),l.length+72*xs.length<80000->
  ∃t3 t4 t5 t6 t7,gn (aD 3) (nv 0) (xs.map D.int) [.val (.int w),.val (.int h),.own (.l (l.map tupI)),s3,s4,s5,s6,s7]= .nx [.val (.int w),.val (.int h),.own (.l ((l++xs.flatMap λ x=>mP w h x Y).map tupI)),t3,t4,t5,t6,t7]
 |[],l,s3,s4,s5,s6,s7,_=>⟨s3,s4,s5,s6,s7,by simp⟩
 |x::xs,l,s3,s4,s5,s6,s7,hl=>by rw[List.length_cons] at hl;have l2:=len x;obtain ⟨u4,u5,u6,u7,s⟩:=st x l s4 s5 s6 s7 (by omega);obtain ⟨t3,t4,t5,t6,t7,e⟩:=Lh len st xs (l++mP w h x Y) (.val (.int x)) u4 u5 u6 u7 (by rw[List.length_append];omega);refine ⟨t3,t4,t5,t6,t7,?_⟩;rw[List.flatMap_cons, <-List.append_assoc, <-e];simp only[List.map_cons,gn];simp only[cK,List.set_cons_succ,List.set_cons_zero];rw[s]
def Xu{w h:Nat}(hh:h<=16)(xs:List Int)(l:List (List Int))(s3 s4 s5 s6 s7:Slot)(hl:l.length+72*xs.length<80000):
  ∃t3 t4 t5 t6 t7,gn (aD 3) (nv 0) (xs.map D.int) [.val (.int w),.val (.int h),.own (.l (l.map tupI)),s3,s4,s5,s6,s7]= .nx [.val (.int w),.val (.int h),.own (.l ((l++xs.flatMap λ x=>mP w h x (zs (-1) (h+2))).map tupI)),t3,t4,t5,t6,t7]:=
 Lh (λ x=>by have l2:=WC w h x (zs (-1) (h+2));rw[vJ] at l2;omega) (λ x l s4 s5 s6 s7 hl=>afz (w:=w) hh x l s4 s5 s6 s7 hl) xs l s3 s4 s5 s6 s7 hl
def amx{w h:Nat}(hw:w<=16)(hh:h<=16):qZ [.val (.int w),.val (.int h)]= .new (.l ((DU w h).map tupI)):=by
 obtain ⟨t3,t4,t5,t6,t7,e⟩:=Xu (w:=w) hh (zs (-1) (w+2)) [] .no .no .no .no .no (by rw[vJ];simp;omega);have d:(zs (-1) (w+2)).flatMap (λ x=>mP w h x (zs (-1) (h+2)))=DU w h:=by unfold DU box mP;rw[List.filter_flatMap];congr 1;funext x;rw[List.filter_flatMap]
 rw[List.nil_append,d,show ([]:List (List Int)).map tupI=[] from rfl] at e;have r:xQ (ai (dUn Ie (dC (.int 1))) (ai (bu wj (aj 0) (dC (.int 1))) aB)) [.val (.int w),.val (.int h),.own (.l []),.no,.no,.no,.no,.no]= .ok ((zs (-1) (w+2)).map D.int):=by exact UY (by simp) hw
 rw[qZ,oX,show ck UD [.val (.int w),.val (.int h)]=[.val (.int w),.val (.int h),.no,.no,.no,.no,.no,.no] from rfl,mw];have s1:rj 2 (mL (sW aB)) [.val (.int w),.val (.int h),.no,.no,.no,.no,.no,.no]= .nx [.val (.int w),.val (.int h),.own (.l []),.no,.no,.no,.no,.no]:=rfl;rw[s1,oN,mw,gE,r,pX,e,oN];rfl
def ams(l:List (List Int)):PyData.eqvAll (F3 (l.map tupI)) (F3 (l.map tupI))=true:=by
 induction l with
 |nil=>simp[F3,PyData.eqvAll]
 |cons p l ih=>
  have k:∀k:List Int,PyData.eqvAll (F3 (k.map D.int)) (F3 (k.map D.int))=true:=by
   intro k;induction k with
   |nil=>simp[F3,PyData.eqvAll]
   |cons x k ih=>simp[F3,py,PyData.eqv,PyData.eqvAll,ih]
  simp[F3,py,PyData.eqv,PyData.eqvAll,tupI,k,ih]
def alK(l:List (List Int))(n:Nat):(l.map tupI).all (jz (n+2))=true:=by
 simp only[List.all_map,List.all_eq_true,Function.comp];intro p _;have:(p.map D.int).all (jz (n+1))=true:=by simp[List.all_map,jz]
 simp[jz,tupI]
def aqF(l:List (List Int)):LK (.lst (l.map tupI)) (.lst (l.map tupI))= .ok (.bl true):=by simp[LK,jz,alK l 9,deq,py,PyData.eqv,ams]
def Ve{α:Type}:∀l:List α,∃bs,bools (l.map λ _=>D.bl true)=some bs/\bs.all id=true
 |[]=>⟨[],rfl,rfl⟩
 |a::l=>by obtain ⟨bs,e,h⟩:=Ve l;exact ⟨true::bs,by simp[bools,e],by simpa using h⟩
def agF{α:Type}(l:List α):Yb [.lst (l.map λ _=>D.bl true)]= .ok (.bl true):=by obtain ⟨bs,e,h⟩:=Ve l;have a:asL (.lst (l.map λ _=>D.bl true))=some (l.map λ _=>D.bl true):=rfl;simp only[Yb,a,e,h]
def Dp{e:D->Res (Option D)}:∀{l:List (List Int)},(∀n∈l,e (tupI n)= .ok (some (.bl true)))->oV e (l.map tupI)= .ok (l.map λ _=>D.bl true):=by intro l h;have:=uf (e:=e) (λ _=> .bl true) (xs:=l.map tupI) (λ x hx=>by obtain ⟨n,hn,rfl⟩:=List.mem_map.mp hx;exact h n hn);rw[this,List.map_map];rfl
def JB{l:List (List Int)}(hl:l.length<4096):iI [.val (.lst (l.map tupI)),.val (.lst (l.map tupI))]= .ok (.bl true):=by
 have c:cA false (bS (aj 0)) 1 [] (aD 0) i7 (A3 mt ["tuple"] (aj 0)) [.val (.lst (l.map tupI)),.val (.lst (l.map tupI))]= .ok (l.map λ _=>D.bl true):=by
  have i:bS (aj 0) [.val (.lst (l.map tupI)),.val (.lst (l.map tupI))]= .ok (l.map tupI):=by simp[oz]
  rw[gw,i,Res.bw,if_pos (by rw[List.length_map];omega)];refine Dp λ n hn=>?_;have b:rH false 1 [] [.val (.lst (l.map tupI)),.val (.lst (l.map tupI))]=[.no]:=rfl;have n1:=jU n;rw[b];simp only[N9,cK];simp[ur,kinds,tupI]
 have e1:=aqF l;have a1:=agF l;rw[iI,gy,show ck Gf [.val (.lst (l.map tupI)),.val (.lst (l.map tupI))]=[.val (.lst (l.map tupI)),.val (.lst (l.map tupI))] from rfl];generalize l.map tupI=L at*;generalize (l.map λ _=>D.bl true)=B at*;have i1:ur mt ["list"] (.lst L)= .ok (.bl true):=by simp[ur,kinds]
 simp[-gw,i1,c,a1,e1]
def afb{w h:Nat}{p:List Int}(hp:p∈DU w h):jI [.val (tupI p),.val (.int w),.val (.int h)]= .ok (.bl (!cin w h (v9 p))):=by obtain ⟨x,y,z,rfl,hz,_⟩:=nS.mp hp;obtain ⟨u,v,s,e,eb⟩:=abL (x:=x) (y:=y) hz;have a:=Gq u v w h;have n1:=jU [x,y,z];rw[e];simp only[cin];generalize uK w h u v=q at*;simp only[jI,jH];generalize tupI [x,y,z]=d at*;simp[ck,eb,a,n1]
def Uc(x:Int):gA [.val (.int x)]= .ok (.bl true):=by simp[gA,iF,ck,ur,kinds]
def ahx{t:D}{w h:Nat}(T:Tb t w h)(hw:w<=16)(hh:h<=16):mJ [.val t,.val (.int w),.val (.int h)]= .ok (.bl true):=by
 have e1:=abR T hw hh;have e2:=aaK T hw hh;have e3:=MM T hw hh;have e4:=amx hw hh;have ld:=ND hw hh;have a1:=JB (l:=DU w h) (by omega);have a2:=JB (l:=IN w h) (Nat.lt_of_le_of_lt (List.length_filter_le _ _) (by omega));have a3:=JB (l:=OU w h) (Nat.lt_of_le_of_lt (List.length_filter_le _ _) (by omega));have nD:=gS (DU w h);have nI:=gS (IN w h);have nO:=gS (OU w h);have n0:=T.nt;have i:∀(k:Nat) (Γ:Sg),aj k Γ= .ok (.lst ((DU w h).map tupI))->bS (aj k) Γ= .ok ((DU w h).map tupI):=λ k Γ e=>by rw[Xf,e];rfl
 have c1:cA false (bS (aj 4)) 1 [] (aD 0) i7 (A5 (aR 1 gA (ai (bu dO (aj 0) (dC (.int 0))) aB)) (aR 1 gA (ai (bu dO (aj 0) (dC (.int 1))) aB))) [.val t,.val (.int w),.val (.int h),.val (.lst ((DU w h).map tupI)),.val (.lst ((DU w h).map tupI))]= .ok ((DU w h).map λ _=>D.bl true):=by rw[gw,i 4 _ (by simp),Res.bw,if_pos (by rw[List.length_map];omega)];refine Dp λ n hn=>?_;obtain ⟨x,y,z,rfl,hz,_⟩:=nS.mp hn;have b:∀a,rH false 1 [] a=[.no]:=λ a=>rfl;have w1:=Uc x;have w2:=Uc y;rw[b];simp only[N9,cK];simp[tupI,dO,rM,qJ,w1,w2]
 have c2:cA false (bS (aj 3)) 1 [1,2] (aD 0) (dT (aR 3 jI (ai (aj 0) (ai (aj 1) (ai (aj 2) aB))))) (aj 0) [.val t,.val (.int w),.val (.int h),.val (.lst ((DU w h).map tupI)),.val (.lst ((DU w h).map tupI))]= .ok ((IN w h).map tupI):=by rw[gw,i 3 _ (by simp),Res.bw,if_pos (by rw[List.length_map];omega)];refine nj _ λ n hn=>?_;have e:=afb hn;have b:∀d e:D,rH false 1 [1,2] [.val t,.val (.int w),.val (.int h),.val d,.val e]=[.no,.val (.int w),.val (.int h)]:=λ _ _=>rfl;have n1:=jU n;rw[b];generalize tupI n=d at*;simp only[N9,cK];simp[e,n1];generalize cin w h (v9 n)=q;cases q<;>rfl
 have c3:cA false (bS (aj 3)) 1 [1,2] (aD 0) (uC (dT (aR 4 lF (ai (bu dO (aj 0) (dC (.int 0))) (ai (bu dO (aj 0) (dC (.int 1))) (ai (aj 1) (ai (aj 2) aB))))))) (aj 0) [.val t,.val (.int w),.val (.int h),.val (.lst ((DU w h).map tupI)),.val (.lst ((DU w h).map tupI))]= .ok ((OU w h).map tupI):=by
  rw[gw,i 3 _ (by simp),Res.bw,if_pos (by rw[List.length_map];omega)];refine nj _ λ n hn=>?_;obtain ⟨x,y,z,rfl,hz,_⟩:=nS.mp hn;have e:=Gq x y w h;have b:∀d e:D,rH false 1 [1,2] [.val t,.val (.int w),.val (.int h),.val d,.val e]=[.no,.val (.int w),.val (.int h)]:=λ _ _=>rfl;have n1:=jU [x,y,z];have x0:dO (tupI [x,y,z]) (.int 0)= .ok (.int x):=by simp[tupI,dO,rM,qJ]
  have x1:dO (tupI [x,y,z]) (.int 1)= .ok (.int y):=by simp[tupI,dO,rM,qJ]
  rw[b];simp only[cin];generalize tupI [x,y,z]=d at*;simp only[N9,cK];simp[x0,x1,e,n1];generalize uK w h x y=q;cases q<;>rfl
 have b1:=agF (DU w h);rw[mJ,ko,show ck Kp [.val t,.val (.int w),.val (.int h)]=[.val t,.val (.int w),.val (.int h),.no,.no] from rfl];generalize ((DU w h).map λ _=>D.bl true)=B at*;generalize (DU w h).map tupI=LD at*;generalize (IN w h).map tupI=LI at*;generalize (OU w h).map tupI=LO at*;have nt1:m6 [t]=true:=by simp[T.nt]
 simp[-gw,n0,nt1,e1,e2,e3,e4,nD,nI,nO,a1,a2,a3,c1,c2,c3,b1]
def agB(ns:List Int)(k:Int)(hk:k=0\/k=1):∃x,cg [.val (.lst (ns.map D.int)),.val (.int k)]= .ok (.int x):=by
 rcases hk with rfl|rfl
 ·cases ns with
  |nil=>exact ⟨0,by simp[cg,bO,ck,oB]⟩
  |cons x ns=>exact ⟨x,by simp[cg,bO,ck,oB,dO,rM,qJ]⟩
 ·match ns with
  |[]=>exact ⟨0,by simp[cg,bO,ck,oB]⟩
  |[x]=>exact ⟨0,by simp[cg,bO,ck,oB]⟩
  |x::y::ns=>
   refine ⟨y,?_⟩;have l1:decide ((1:Int)<((x::y::ns).map D.int).length)=true:=by simp;omega
   have i1:dO (.lst ((x::y::ns).map D.int)) (.int 1)= .ok (.int y):=by simp only[dO,rM,qJ];rw[if_pos (by decide),if_pos (by simp;omega)];rfl
   have l2:oB [.lst ((x::y::ns).map D.int)]= .ok (.int (((x::y::ns).map D.int).length:Int)):=rfl;generalize (x::y::ns).map D.int=zs at*;simp only[cg,bO,ck];simp[l2,i1];simp only[decide_eq_true_eq] at l1;simp[l1,i1]
def abr(cs:List Int)(lo hi:Option Int):∃o:List Int,Ln (cs.map D.int) lo hi=o.map D.int/\(∀c∈o,c∈cs)/\o.length<=cs.length:=by
 refine ⟨Ln cs lo hi,?_,?_,?_⟩
 ·unfold Ln;simp[List.map_take,List.map_drop]
 ·intro c hc;exact List.mem_of_mem_drop (List.mem_of_mem_take hc)
 ·unfold Ln;rw[List.length_take,List.length_drop];omega
def YX(x:Int):∃w:Nat,(1<=w/\w<=16)/\kr [.val (.int x)]= .ok (.int w):=by
 have a:=fm (x.fdiv 3) 16 (by decide);have b:=fm (x.fdiv 3) 4 (by decide);by_cases c:x.fmod 3=0
 ·refine ⟨(1+(x.fdiv 3).fmod 16).toNat,by omega,?_⟩;rw[Int.toNat_of_nonneg (by omega)];simp[kr,i8,ck,c]
 ·refine ⟨(1+(x.fdiv 3).fmod 4).toNat,by omega,?_⟩;rw[Int.toNat_of_nonneg (by omega)];simp[kr,i8,ck,c]
def alA:VT (.int 10) (.int 30)= .ok (.int (10^30)):=Zd 10 30 (by decide) (by decide) (by decide)
def alB(a b x:Int):∃c:Int,dO (.lst [.int a,.int b]) (.int (x.fmod 2))= .ok (.int c):=by
 have:=fm x 2 (by decide);have:x.fmod 2=0\/x.fmod 2=1:=by omega
 rcases this with e|e
 ·exact ⟨a,by rw[e];simp[dO,rM,qJ]⟩
 ·exact ⟨b,by rw[e];simp[dO,rM,qJ]⟩
def alL(c:Int)(w h:Nat):∃x y z:Int,oZ [.val (.int c),.val (.int w),.val (.int h)]= .ok (tupI [x,y,z]):=by
 have p:=alA;have m1:∀a:Int,m7 (.int a) (.int ((w:Int)+4))= .ok (.int (a.fmod ((w:Int)+4))):=λ a=>pZ _ _ (by omega);have m2:∀a:Int,m7 (.int a) (.int ((h:Int)+4))= .ok (.int (a.fmod ((h:Int)+4))):=λ a=>pZ _ _ (by omega);have n0:(10^30:Int)≠0:=by decide
 generalize (10^30:Int)=N at*;have m3:∀a:Int,m7 (.int a) (.int N)= .ok (.int (a.fmod N)):=λ a=>pZ _ _ n0;by_cases e:c.fmod 6=0
 ·obtain ⟨q,hq⟩:=alB (-2-(c.fdiv 6).fmod N) (w+1+(c.fdiv 6).fmod N) (c.fdiv 12);refine ⟨q,(c.fdiv 60).fmod ((h:Int)+4) - 2,(c.fdiv 7).fmod 6- 1,?_⟩;simp[oZ,nu,ck,m1,m2,m3,e,p,hq,tupI]
 ·refine ⟨(c.fdiv 6).fmod ((w:Int)+4) - 2,(c.fdiv 60).fmod ((h:Int)+4) - 2,(c.fdiv 7).fmod 6- 1,?_⟩;simp[oZ,nu,ck,m1,m2,m3,e,p,tupI]
def aqb(x y z w h:Int):tH [.val (tupI [x,y,z]),.val (.int w),.val (.int h)]= .ok (.bl (yt w h [x,y,z])):=by
 have x0:dO (tupI [x,y,z]) (.int 0)= .ok (.int x):=by simp[tupI,dO,rM,qJ]
 have x1:dO (tupI [x,y,z]) (.int 1)= .ok (.int y):=by simp[tupI,dO,rM,qJ]
 have x2:dO (tupI [x,y,z]) (.int 2)= .ok (.int z):=by simp[tupI,dO,rM,qJ]
 have n1:=jU [x,y,z];by_cases hz:0<=z/\z<4
 ·obtain ⟨u,v,s,e,eb⟩:=abL (x:=x) (y:=y) hz;rw[aaG hz e];have a1:=Gq x y w h;have a2:=Gq u v w h;have z0:¬z<0:=by omega
  have z3:¬3<z:=by omega
  simp only[tH,qW,ck];generalize tupI [x,y,z]=d at*;generalize uK w h x y=a at*;generalize uK w h u v=b at*;simp[x0,x1,x2,n1,gtI,ltI,z0,z3,eb,a1,a2];cases a<;>simp[a2]
 ·have e:yt w h [x,y,z]=false:=by
   cases q:yt w h [x,y,z] with
   |false=>rfl
   |true=>exact absurd (Bv.mp q).1 hz
  rw[e];simp only[tH,qW,ck];generalize tupI [x,y,z]=d at*;by_cases z0:z<0
  ·simp[x0,x1,x2,n1,gtI,ltI,z0]
  ·have z3:3<z:=by omega
   simp[x0,x1,x2,n1,gtI,ltI,z0,z3]
def nbl(a:Bool):ZR (.bl a) (.bl a)= .ok (.bl false):=by simp[ZR,jz,deq,py,PyData.eqv]
def aah{rows:List (List D)}{w h:Nat}(R:Rw rows w h)(hh:1<=h)(s0:Slot)(c:Int)(s5 s6:Slot):
  ∃t5 t6,wA 0 [s0,.val (.int w),.val (.int h),.val (tab rows),.val (.int c),s5,s6]= .nx [s0,.val (.int w),.val (.int h),.val (tab rows),.val (.int c),t5,t6]:=by
 obtain ⟨x,y,z,eo⟩:=alL (c*48271) w h;have ei:=aqb x y z w h;have r0:=af8 R hh x y z (.inl rfl);have r1:=af8 R hh x y z (.inr rfl);have n1:=jU [x,y,z];have n2:=(BO R).1;refine ⟨.val (tupI [x,y,z]),.val (.bl (!yt w h [x,y,z])),?_⟩;simp only[wA];generalize tupI [x,y,z]=d at*;generalize yt w h [x,y,z]=b at*;generalize tab rows=t at*;have nb1:=nbl (!b);simp[eo,ei,r0,r1,n1,n2,nb1]
def KU{rows:List (List D)}{w h:Nat}(R:Rw rows w h)(hh:1<=h)(s0:Slot):∀(cs:List Int) (s4 s5 s6:Slot),∃t4 t5 t6,gn (aD 4) (wA 0) (cs.map D.int) [s0,.val (.int w),.val (.int h),.val (tab rows),s4,s5,s6]= .nx [s0,.val (.int w),.val (.int h),.val (tab rows),t4,t5,t6]
 |[],s4,s5,s6=>⟨s4,s5,s6,by simp⟩
 |c::cs,s4,s5,s6=>by obtain ⟨u5,u6,st⟩:=aah R hh s0 c s5 s6;obtain ⟨t4,t5,t6,e⟩:=KU R hh s0 cs (.val (.int c)) u5 u6;refine ⟨t4,t5,t6,?_⟩;rw[<-e];simp only[List.map_cons,gn];simp only[cK,List.set_cons_succ,List.set_cons_zero];rw[st]
def aag(zs:List Int)(hl:zs.length<=63):DR [.val (.lst (zs.map D.int))]= .ok (.bl true):=by
 obtain ⟨x0,hx0⟩:=agB zs 0 (.inl rfl);obtain ⟨x1,hx1⟩:=agB zs 1 (.inr rfl);obtain ⟨w,hw,ew⟩:=YX x0;obtain ⟨h,hh,eh⟩:=YX x1;obtain ⟨cs,hcs,_,hcl⟩:=abr zs (some 2) (some 62);obtain ⟨ds,hds,_,hdl⟩:=abr zs none (some 62);obtain ⟨rows,R,et⟩:=adQ hcs hw hh;have T:=YM R hh.1;have e1:=abR T hw.2 hh.2;have e2:=aaK T hw.2 hh.2;have e3:=MM T hw.2 hh.2;have e4:=ahx T hw.2 hh.2;obtain ⟨t4,t5,t6,el⟩:=KU R hh.1 (.val (.lst (zs.map D.int))) (0::ds) .no .no .no;have nD:=gS (DU w h);have nI:=gS (IN w h);have nO:=gS (OU w h);have n2:=(BO R).1;have nz:=aeG zs;have nt1:m6 [tab rows]=true:=by simp[n2]
 rw[DR,DG];generalize (DU w h).map tupI=LD at*;generalize (IN w h).map tupI=LI at*;generalize (OU w h).map tupI=LO at*;generalize tab rows=t at*;have i:bS (uM (lOp Jg (uM (sW (ai (dC (.int 0)) aB))) (uM (K1 (aj 0) abm (dP (dC (.int 62))))))) [.val (.lst (zs.map D.int)),.val (.int w),.val (.int h),.val t,.no,.no,.no]= .ok ((0::ds).map D.int):=by
  have sl:1+ds.length<=sizeLine:=by unfold sizeLine;omega
  simp[K1,hds,Jg,oz,sl]
 have s:gE (bS (uM (lOp Jg (uM (sW (ai (dC (.int 0)) aB))) (uM (K1 (aj 0) abm (dP (dC (.int 62)))))))) (aD 4) (wA 0) [.val (.lst (zs.map D.int)),.val (.int w),.val (.int h),.val t,.no,.no,.no]= .nx [.val (.lst (zs.map D.int)),.val (.int w),.val (.int h),.val t,t4,t5,t6]:=by rw[gE,i,pX,el]
 generalize zs.map D.int=Z at*;simp[ck,hx0,hx1,ew,eh,et,e4,s,nz,n2,nt1,wN,e1,e2,e3,nD,nI,nO]
end K10
end
section
namespace K10
open PySem PySem.Spec PyProof.Rows L2 L4
def top(i:Nat):Stmt:=PySem.Challenge.pw_beamtable_k10_passes.main.body.getD i (.Pass ⟨0,0,0,0⟩)
def qg(s:Stmt)(j:Nat):Stmt:=match s with
 | .ClassDef _ _ _ b _ _ _ _ _ _ _=>b.getD j (.Pass ⟨0,0,0,0⟩)
 |_=>s
abbrev mj:Stmt:=top 45
abbrev rW:Stmt:=top 46
abbrev iQ:Stmt:=top 31
abbrev dW:Stmt:=qg (top 35) 0
abbrev iR:Stmt:=top 40
abbrev gP:Stmt:=top 41
abbrev jL:Stmt:=top 42
abbrev fq:Stmt:=qg (top 43) 0
abbrev pO:Stmt:=top 47
abbrev nN:Stmt:=top 49
abbrev BY:Stmt:=top 48
abbrev wM:Stmt:=top 50
abbrev iS:Stmt:=qg (top 43) 1
abbrev gQ:Stmt:=qg (top 43) 2
abbrev lZ:Stmt:=top 21
abbrev nM:Stmt:=top 14
abbrev rY:Stmt:=top 15
abbrev pS:Stmt:=top 16
abbrev dU:Stmt:=qg (top 43) 3
abbrev nP:Stmt:=top 18
abbrev mq:Stmt:=top 19
abbrev rX:Stmt:=top 22
abbrev pL:Stmt:=top 23
abbrev jN:Stmt:=top 24
abbrev pN:Stmt:=top 53
abbrev pQ:Stmt:=top 52
abbrev pP:Stmt:=top 51
abbrev rV:Stmt:=top 54
abbrev wL:Stmt:=top 57
abbrev BX:Stmt:=top 56
abbrev jM:Stmt:=top 20
abbrev cQ:Stmt:=qg (top 43) 4
abbrev dS:Stmt:=qg (top 43) 6
abbrev jP:Stmt:=qg (top 43) 5
abbrev jQ:Stmt:=qg (top 33) 0
abbrev gR:Stmt:=qg (top 35) 2
abbrev jO:Stmt:=qg (top 36) 1
abbrev pM:Stmt:=top 25
abbrev pR:Stmt:=top 26
abbrev gg:Stmt:=qg (top 33) 1
abbrev gf:Stmt:=qg (top 36) 2
abbrev gO:Stmt:=top 27
abbrev mh:Stmt:=top 55
abbrev J0:Stmt:=top 58
set_option genInjectivity false in
structure Tx(K:W.Frag)(mg:Str->Option Value)(cb:Cb) where
 ig:Addr
 nh:FuncData
 sN:mg "_law_cell_at"=some (.ref ig)
 jC:W.keepIn K (.ref ig)=true
 g7:mH K "_law_cell_at" "_law_cell_at" mj ig nh
 bO:Binds K nh sf []
 oj:Addr
 tZ:FuncData
 CK:mg "_law_side"=some (.ref oj)
 qc:W.keepIn K (.ref oj)=true
 nY:mH K "_law_side" "_law_side" rW oj tZ
 i8:Binds K tZ B9 []
 eV:Addr
 j5:FuncData
 uI:mg "check_slant"=some (.ref eV)
 iT:W.keepIn K (.ref eV)=true
 eO:mH K "check_slant" "check_slant" iQ eV j5
 eU:Binds K j5 o8 []
 cJ:Addr
 fM:FuncData
 gI:W.keepIn K (.ref cJ)=true
 aX:mH K "__init__" "Mirror.__init__" dW cJ fM
 bW:Binds K fM jT []
 eX:Addr
 kc:FuncData
 uJ:mg "check_sides"=some (.ref eX)
 iU:W.keepIn K (.ref eX)=true
 eT:mH K "check_sides" "check_sides" iR eX kc
 cY:Binds K kc o9 []
 dD:Addr
 jl:FuncData
 sO:mg "fibre_places"=some (.ref dD)
 gU:W.keepIn K (.ref dD)=true
 dm:mH K "fibre_places" "fibre_places" gP dD jl
 cD:Binds K jl nR []
 fS:Addr
 lP:FuncData
 xA:mg "fibre_ends"=some (.ref fS)
 jX:W.keepIn K (.ref fS)=true
 fN:mH K "fibre_ends" "fibre_ends" jL fS lP
 d9:Binds K lP qy []
 dg:Addr
 gJ:FuncData
 iD:W.keepIn K (.ref dg)=true
 br:mH K "__init__" "Table.__init__" fq dg gJ
 bP:Binds K gJ kH []
 lu:Addr
 qO:FuncData
 Gk:mg "_law_table"=some (.ref lu)
 qb:W.keepIn K (.ref lu)=true
 kO:mH K "_law_table" "_law_table" pO lu qO
 jG:Binds K qO yR []
 jv:Addr
 oR:FuncData
 qD:mg "_law_behind"=some (.ref jv)
 jn:W.keepIn K (.ref jv)=true
 jq:mH K "_law_behind" "_law_behind" nN jv oR
 cu:Binds K oR vo []
 wm:Addr
 BC:FuncData
 vI:mg "_law_in"=some (.ref wm)
 pB:W.keepIn K (.ref wm)=true
 vV:mH K "_law_in" "_law_in" BY wm BC
 kX:Binds K BC ML []
 qY:Addr
 xW:FuncData
 UK:mg "_law_due"=some (.ref qY)
 xK:W.keepIn K (.ref qY)=true
 qV:mH K "_law_due" "_law_due" wM qY xW
 oX:Binds K xW HJ []
 eY:Addr
 gZ:FuncData
 iV:W.keepIn K (.ref eY)=true
 cy:mH K "width" "Table.width" iS eY gZ
 cZ:Binds K gZ lK []
 dF:Addr
 gp:FuncData
 gX:W.keepIn K (.ref dF)=true
 bT:mH K "height" "Table.height" gQ dF gp
 cF:Binds K gp jR []
 g9:Addr
 m9:FuncData
 sL:mg "passes_in"=some (.ref g9)
 jA:W.keepIn K (.ref g9)=true
 g5:mH K "passes_in" "passes_in" lZ g9 m9
 d8:Binds K m9 sd []
 ju:Addr
 oQ:FuncData
 CI:mg "opposite"=some (.ref ju)
 nU:W.keepIn K (.ref ju)=true
 jo:mH K "opposite" "opposite" nM ju oQ
 jt:Binds K oQ vn []
 ou:Addr
 uc:FuncData
 CL:mg "beyond"=some (.ref ou)
 qf:W.keepIn K (.ref ou)=true
 n5:mH K "beyond" "beyond" rY ou uc
 kq:Binds K uc Cc []
 lC:Addr
 qS:FuncData
 zj:mg "back_of"=some (.ref lC)
 nF:W.keepIn K (.ref lC)=true
 kT:mH K "back_of" "back_of" pS lC qS
 iH:Binds K qS yV []
 bY:Addr
 di:FuncData
 d7:W.keepIn K (.ref bY)=true
 aW:mH K "has_place" "Table.has_place" dU bY di
 bI:Binds K di gG []
 jw:Addr
 oS:FuncData
 nT:mg "comes_in"=some (.ref jw)
 gW:W.keepIn K (.ref jw)=true
 jr:mH K "comes_in" "comes_in" nP jw oS
 dw:Binds K oS vp []
 ir:Addr
 ni:FuncData
 sP:mg "comes_out"=some (.ref ir)
 jD:W.keepIn K (.ref ir)=true
 g8:mH K "comes_out" "comes_out" mq ir ni
 ef:Binds K ni sj []
 om:Addr
 t9:FuncData
 xy:mg "inlets"=some (.ref om)
 nV:W.keepIn K (.ref om)=true
 nZ:mH K "inlets" "inlets" rX om t9
 i9:Binds K t9 Ca []
 kY:Addr
 qL:FuncData
 tV:mg "outlets"=some (.ref kY)
 kI:W.keepIn K (.ref kY)=true
 kK:mH K "outlets" "outlets" pL kY qL
 gx:Binds K qL yO []
 fU:Addr
 lR:FuncData
 qF:mg "all_passes"=some (.ref fU)
 iC:W.keepIn K (.ref fU)=true
 fP:mH K "all_passes" "all_passes" jN fU lR
 cW:Binds K lR qA []
 k6:Addr
 qN:FuncData
 zh:mg "_law_whole"=some (.ref k6)
 nE:W.keepIn K (.ref k6)=true
 kM:mH K "_law_whole" "_law_whole" pN k6 qN
 iF:Binds K qN yQ []
 lz:Addr
 qQ:FuncData
 tW:mg "_law_alike"=some (.ref lz)
 kJ:W.keepIn K (.ref lz)=true
 kQ:mH K "_law_alike" "_law_alike" pQ lz qQ
 gy:Binds K qQ yT []
 ly:Addr
 qP:FuncData
 Gm:mg "_law_inlet"=some (.ref ly)
 qd:W.keepIn K (.ref ly)=true
 kP:mH K "_law_inlet" "_law_inlet" pP ly qP
 jH:Binds K qP yS []
 oi:Addr
 tY:FuncData
 CJ:mg "_law_told"=some (.ref oi)
 qa:W.keepIn K (.ref oi)=true
 nX:mH K "_law_told" "_law_told" rV oi tY
 ko:Binds K tY B8 []
 qX:Addr
 xV:FuncData
 UJ:mg "_law_odd"=some (.ref qX)
 xJ:W.keepIn K (.ref qX)=true
 qU:mH K "_law_odd" "_law_odd" wL qX xV
 nu:Binds K xV HH []
 wk:Addr
 BB:FuncData
 Z4:mg "_law_is"=some (.ref wk)
 CZ:W.keepIn K (.ref wk)=true
 vU:mH K "_law_is" "_law_is" BX wk BB
 qW:Binds K BB MK []
 fT:Addr
 lQ:FuncData
 qE:mg "check_pass"=some (.ref fT)
 iB:W.keepIn K (.ref fT)=true
 fO:mH K "check_pass" "check_pass" jM fT lQ
 cz:Binds K lQ qz []
 bB:Addr
 cC:FuncData
 cR:W.keepIn K (.ref bB)=true
 aP:mH K "check_place" "Table.check_place" cQ bB cC
 aU:Binds K cC fc []
 bX:Addr
 dh:FuncData
 dZ:W.keepIn K (.ref bX)=true
 aV:mH K "other_end" "Table.other_end" dS bX dh
 bH:Binds K dh gF []
 fW:Addr
 iX:FuncData
 jZ:W.keepIn K (.ref fW)=true
 cT:mH K "cell" "Table.cell" jP fW iX
 eg:Binds K iX mY []
 fX:Addr
 iY:FuncData
 j0:W.keepIn K (.ref fX)=true
 cU:mH K "leads" "Cell.leads" jQ fX iY
 fR:Binds K iY mZ []
 dG:Addr
 gq:FuncData
 gY:W.keepIn K (.ref dG)=true
 bU:mH K "leads" "Mirror.leads" gR dG gq
 dz:Binds K gq jS []
 fV:Addr
 iW:FuncData
 jY:W.keepIn K (.ref fV)=true
 cS:mH K "leads" "Wall.leads" jO fV iW
 fQ:Binds K iW mX []
 kZ:Addr
 qM:FuncData
 Gj:mg "leaving"=some (.ref kZ)
 p9:W.keepIn K (.ref kZ)=true
 kL:mH K "leaving" "leaving" pM kZ qM
 jF:Binds K qM yP []
 lA:Addr
 qR:FuncData
 Gn:mg "goes_on"=some (.ref lA)
 qe:W.keepIn K (.ref lA)=true
 kR:mH K "goes_on" "goes_on" pR lA qR
 iG:Binds K qR yU []
 bL:Addr
 dc:FuncData
 dN:W.keepIn K (.ref bL)=true
 bq:mH K "swallows" "Cell.swallows" gg bL dc
 b9:Binds K dc gi []
 cM:Addr
 fu:FuncData
 gj:W.keepIn K (.ref cM)=true
 bK:mH K "swallows" "Wall.swallows" gf cM fu
 cL:Binds K fu jf []
 dB:Addr
 jk:FuncData
 sJ:mg "swallowed_at"=some (.ref dB)
 gT:W.keepIn K (.ref dB)=true
 dj:mH K "swallowed_at" "swallowed_at" gO dB jk
 bV:Binds K jk nQ []
 ie:Addr
 ng:FuncData
 sM:mg "_law_refused"=some (.ref ie)
 jB:W.keepIn K (.ref ie)=true
 g6:mH K "_law_refused" "_law_refused" mh ie ng
 cX:Binds K ng se []
 Af:Addr
 IW:FuncData
 al5:mg "law"=some (.ref Af)
 UQ:W.keepIn K (.ref Af)=true
 z9:mH K "law" "law" J0 Af IW
 DG:Binds K IW ZA []
 mV:mg "ValueError"=none
 JJ:mg "all"=none
 G0:mg "bool"=none
 lT:mg "enumerate"=none
 TZ:mg "int"=none
 bR:mg "isinstance"=none
 rN:mg "len"=none
 GZ:mg "list"=none
 lG:mg "range"=none
 nH:mg "sorted"=none
 tK:mg "tuple"=none
 L6:Value
 YH:mg "EAST"=some L6
 aa2:GlT K L6 (.int 0)
 nK:Value
 nJ:mg "LONGEST_SIDE"=some nK
 nW:GlT K nK (.int 16)
 G9:Value
 Uh:mg "NORTH"=some G9
 U4:GlT K G9 (.int 1)
 YI:Value
 Ug:mg "ONE"=some YI
 U3:GlT K YI (.gt [.int 1,.int 1])
 L5:Value
 L0:mg "WAYS"=some L5
 N6:GlT K L5 (.gt [.int 0,.int 1,.int 2,.int 3])
 L3:Value
 YG:mg "WEST"=some L3
 aa1:GlT K L3 (.int 2)
 L1:Value
 LY:mg "ZERO"=some L1
 N5:GlT K L1 (.gt [.int 0,.int 1])
 cH:Addr
 z8:mg "BeamError"=some (.ref cH)
 bA:Addr
 La:mg "NoCell"=some (.ref bA)
 aY:Addr
 Xo:mg "NoTable"=some (.ref aY)
 aS:Addr
 Gx:mg "NoPlace"=some (.ref aS)
 bz:Addr
 K9:mg "NoPass"=some (.ref bz)
 aQ:Addr
 U6:mg "Empty"=some (.ref aQ)
 aM:Addr
 Lb:mg "Mirror"=some (.ref aM)
 bD:Addr
 aa0:mg "Wall"=some (.ref bD)
 q8:Addr
 U5:mg "Fibre"=some (.ref q8)
 aI:Addr
 U1:mg "Table"=some (.ref aI)
 Bm:cb.cls "Empty"=some (aQ,([]:List Str))
 aeM:cb.ins "Empty"=some aQ
 ki:FF K aQ
 KG:Mk0 K aQ
 jW:Meth K aQ "leads" fX
 gH:Meth K aQ "swallows" bL
 wR:cb.cls "Mirror"=some (aM,(["slant"]:List Str))
 Kw:cb.ins "Mirror"=some aM
 iE:FF K aM
 Gi:Mk K aM cJ
 jh:Meth K aM "leads" dG
 fL:Meth K aM "swallows" bL
 Hx:cb.cls "Wall"=some (bD,([]:List Str))
 aix:cb.ins "Wall"=some bD
 nk:FF K bD
 UH:Mk0 K bD
 lN:Meth K bD "leads" fV
 iA:Meth K bD "swallows" cM
 oJ:cb.cls "Table"=some (aI,(["grid","ends"]:List Str))
 UE:cb.ins "Table"=some aI
 fB:FF K aI
 KC:Mk K aI dg
 jV:Meth K aI "width" eY
 jg:Meth K aI "height" dF
 fK:Meth K aI "has_place" bY
 fJ:Meth K aI "other_end" bX
 lO:Meth K aI "cell" fW
 dX:Meth K aI "check_place" bB
 ft:ajP cb Lc
 IX:FA K cb "ends"
 qT:FA K cb "grid"
 Dc:FA K cb "slant"
 wB:XC K mg cb "NoPass" "NoPass" bz
 wC:XC K mg cb "NoCell" "NoCell" bA
 nA:XC K mg cb "NoTable" "NoTable" aY
 tN:XC K mg cb "NoPlace" "NoPlace" aS
 z6:anF K cb (.ref cH) (z5 mt "BeamError")
 xt:XTs K cb mt
 U0:TU K cb mt (.ref q8) "Fibre"
 aaR:TU K cb mt (.type "bool") "bool"
 agp:TU K cb mt (.type "int") "int"
 UZ:TU K cb mt (.type "tuple") "tuple"
 aaQ:TU K cb mt (.type "list") "list"
 Gw:TU K cb mt (.ref aS) "NoPlace"
 K7:TU K cb mt (.ref bA) "NoCell"
 xP:TU K cb mt (.type "ValueError") "ValueError"
 K6:TU K cb mt (.ref bz) "NoPass"
section
variable{P:Program}{w:World}{K:W.Frag}{mg:Str->Option Value}{cb:Cb}{base:Heap}
def wZ(M:Tx K mg cb):jx P w K mg base cb 1 M.ig M.nh sf cg:=by
 refine pG bO M.g7 (λ as _ _=>⟨0,rfl⟩) (λ c cdv A outer s H E hcb hr g n=>?_);subst hcb;exact (aA (bJ (Yu (ah 1) (rP M.rN (aa (ah 0) ak))) (aq (aN (bF (ah 0) (ah 1)))) bf)
  (aq (aN au)))
def F8(M:Tx K mg cb):jx P w K mg base cb 1 M.oj M.tZ B9 kr:=by
 refine pG i8 M.nY (λ as _ _=>⟨0,rfl⟩) (λ c cdv A outer s H E hcb hr g n=>?_);subst hcb;have hu:=hr.units;exact (aA (bJ (uW hu (jJ (ah 0) au) au) (aq (aN (o7 au (jJ (lJ (ah 0) au) au)))) bf)
  (aq (aN (o7 au (jJ (lJ (ah 0) au) au)))))
def Ce(M:Tx K mg cb):jx P w K mg base cb 1 M.eV M.j5 o8 jb:=by refine pG eU M.eO (λ as _ _=>⟨0,rfl⟩) (λ c cdv A outer s H E hcb hr g n=>?_);subst hcb;exact (aq (bJ (FH (ah 0) (eN (aa au (aa au ak)))) (aq (nB g M.wC (aa yz ak))) bf))
def vB(M:Tx K mg cb):jx P w K mg base cb 2 M.cJ M.fM jT b7:=by
 refine wfG bW M.aX (λ as _ _=>⟨0,rfl⟩) (λ c cdv A outer s H E hcb hr g n=>?_);subst hcb;exact (aA (kF (bx (Ce M) (hr.mono (by decide)) M.uI M.iT M.eU (aa (ah 1) ak)))
  (aq (BH 0 M.Dc M.ft (λ B=>(ah 1)))))
def Cg(M:Tx K mg cb):jx P w K mg base cb 1 M.eX M.kc o9 c9:=by
 refine pG cY M.eT (λ as _ _=>⟨0,rfl⟩) (λ c cdv A outer s H E hcb hr g n=>?_);subst hcb;have hu:=hr.units;exact (aA (bJ (jd (FI (mR zR) (mR zR) zS zS au (rP M.rN (aa (ah 0) ak)) (gc M.nJ M.nW))) (aq (nB g M.nA (aa yz ak))) bf)
  (aq (gM g (f9 (ah 0)) (aL 1 g.nd) (aA (bJ (jd (FI (mR zR) (mR zR) zS zS au (rP M.rN (aa (ah 1) ak)) (gc M.nJ M.nW))) (aq (nB g M.nA (aa yz ak))) bf)
  (aq (bJ (G3 hu (rP M.rN (aa (ah 1) ak)) (rP M.rN (aa (bF (ah 0) au) ak))) (aq (nB g M.nA (aa yz ak))) bf))))))
def As(M:Tx K mg cb):jx P w K mg base cb 1 M.dD M.jl nR dI:=by
 refine pG cD M.dm (λ as _ _=>⟨0,rfl⟩) (λ c cdv A outer s H E hcb hr g n=>?_);subst hcb;exact (aA (wD 1 g.nd (λ B=>Ub))
  (aA (gM g (JL M.lT (aa (ah 0) ak)) (oG rfl (b8 (aL 2 g.nd) (b8 (aL 3 g.nd) lV))) (aq (gM g (JL M.lT (aa (ah 3) ak)) (oG rfl (b8 (aL 4 g.nd) (b8 (aL 5 g.nd) lV))) (aq (bJ (fF (uZ M.bR M.xt M.U0 (yd M.U5) (ah 5))) (aq Ud) bf)))))
  (aq (wF 1))))
def Eg(M:Tx K mg cb):jx P w K mg base cb 2 M.fS M.lP qy eG:=by
 refine pG d9 M.fN (λ as _ _=>⟨0,rfl⟩) (λ c cdv A outer s H E hcb hr g n=>?_);subst hcb;have hu:=hr.units;have hu1:=hU1 hr.units;exact (aA (wD 1 g.nd (λ B=>Ub))
  (aA (gM g (LU (bx (As M) (hr.mono (by decide)) M.sO M.gU M.cD (aa (ah 0) ak))) (oG rfl (b8 (aL 2 g.nd) (b8 (aL 3 g.nd) lV))) (aA (bJ (G3 hu (rP M.rN (aa (ah 3) ak)) au) (aq Ud) bf)
  (aA (JN hu1 (λ B=>(tO 1)) (λ B=>(bF (ah 3) au)) (λ B=>(bF (ah 3) au)))
  (aq (JN hu1 (λ B=>(tO 1)) (λ B=>(bF (ah 3) au)) (λ B=>(bF (ah 3) au)))))))
  (aq (wF 1))))
def xg(M:Tx K mg cb):jx P w K mg base cb 3 M.dg M.gJ kH bQ:=by
 refine wfG bP M.br (λ as _ _=>⟨0,rfl⟩) (λ c cdv A outer s H E hcb hr g n=>?_);subst hcb;exact (aA (BH 0 M.qT M.ft (λ B=>(JO M.tK (aa (cP (iO (tm:=false) (k:=1) (caps:=[]) (N':=["cells"]) (λ h=>nomatch h) rfl (f9 (ah 1)) ⟨rfl,by decide+kernel,rfl,by decide+kernel,rfl,(λ i c y h=>by simp at h)⟩ (by decide+kernel) (λ C s₀ H₀ ex=>(aL 0 (by decide+kernel:(["cells"]:List Str).Nodup))) (λ C s₀ H₀ ex=>oF) (λ C s₀ H₀ ex=>(JO M.tK (aa (ah 0) ak))) (je (by decide)))) ak))))
  (aA (Yw (λ B=>(YD (Cg M) (hr.mono (by decide)) M.uJ M.iU M.cY (aa (vc M.qT (G4 0)) ak))))
  (aq (BH 0 M.IX M.ft (λ B=>(YD (Eg M) (hr.mono (by decide)) M.xA M.jX M.d9 (aa (vc M.qT (G4 0)) ak)))))))
def MP(M:Tx K mg cb):jx P w K mg base cb 5 M.lu M.qO yR lE:=by
 refine pG jG M.kO (λ as _ _=>⟨0,rfl⟩) (λ c cdv A outer s H E hcb hr g n=>?_);subst hcb;have hu:=hr.units;exact (aA (VC (tm:=false) 3 (k:=1) (caps:=[1]) (N':=["_law_y","_law_wide"]) g.nd rfl (λ B=>(rO M.lG (aa (ah 2) ak))) ⟨rfl,by decide+kernel,rfl,by decide+kernel,rfl,(XM (aK (Jh rfl) fC))⟩ (by decide+kernel) (λ B C s₀ H₀ ex=>(aL 0 (by decide+kernel:(["_law_y","_law_wide"]:List Str).Nodup))) (λ B C s₀ H₀ ex=>oF) (λ B C s₀ H₀ ex=>(gK (iO (tm:=false) (k:=1) (caps:=[]) (N':=["_law_x"]) (λ h=>nomatch h) rfl (rO M.lG (aa (ah 1) ak)) ⟨rfl,by decide+kernel,rfl,by decide+kernel,rfl,(λ i c y h=>by simp at h)⟩ (by decide+kernel) (λ C s₀ H₀ ex=>(aL 0 (by decide+kernel:(["_law_x"]:List Str).Nodup))) (λ C s₀ H₀ ex=>oF) (λ C s₀ H₀ ex=>(JP M.KG M.Bm M.U6)) (je (by decide))))) (je (by decide)))
  (aA (gM g (f9 (cP (Yr (ah 0) (BI au) (BI au)))) (aL 4 g.nd) (aA (cI 5 g.nd (jJ (lJ (ah 4) au) (ah 1)))
  (aA (cI 6 g.nd (jJ (lJ (ah 4) au) (ah 2)))
  (aq (bJ (uW hu (jJ (ah 4) au) au) (aq (FJ (λ B=>(af1 (tO 3) (ah 6))) (λ B=>(ah 5)) (λ B=>(JP M.UH M.Hx M.aa0)))) (aq (FJ (λ B=>(af1 (tO 3) (ah 6))) (λ B=>(ah 5)) (λ B=>(YB (JM (Ir _) M.Gi (vB M) (hr.mono (by decide)) M.bW M.Kw M.wR M.Lb (aa (bF (cP (o6 (aa au (aa au ak)))) (qt (jJ (ah 4) au) au)) ak) rfl))))))))))
  (aq (Yv (λ B=>(YA (JM (UL _) M.KC (xg M) (hr.mono (by decide)) M.bP M.UE M.oJ M.U1 (aa (G4 3) ak) rfl)))))))
def su(M:Tx K mg cb):jx P w K mg base cb 1 M.jv M.oR vo cN:=by
 refine pG cu M.jq (λ as _ _=>⟨0,rfl⟩) (λ c cdv A outer s H E hcb hr g n=>?_);subst hcb;exact (aA (Bg (bF (cP (o6 (aa (eN (aa au (aa au ak))) (aa (eN (aa au (aa (BJ au) ak))) (aa (eN (aa (BJ au) (aa au ak))) (aa (eN (aa au (aa au ak))) ak)))))) (bF (ah 0) au)) (oG rfl (b8 (aL 1 g.nd) (b8 (aL 2 g.nd) lV))))
  (aq (aN (eN (aa (qt (bF (ah 0) au) (ah 1)) (aa (qt (bF (ah 0) au) (ah 2)) ak))))))
def tU(M:Tx K mg cb):jx P w K mg base cb 1 M.wm M.BC ML lF:=by refine pG kX M.vV (λ as _ _=>⟨0,rfl⟩) (λ c cdv A outer s H E hcb hr g n=>?_);subst hcb;exact (aq (aN (rQ (wG (mR zR) (mR Kc) zS UA au (ah 0) (ah 2)) (uY (wG (mR zR) (mR Kc) zS UA au (ah 1) (ah 3))))))
def ZG(M:Tx K mg cb):jx P w K mg base cb 2 M.qY M.xW HJ qZ:=by
 refine pG oX M.qV (λ as _ _=>⟨0,rfl⟩) (λ c cdv A outer s H E hcb hr g n=>?_);subst hcb;exact (aA (wD 2 g.nd (λ B=>(gK (o6 ak))))
  (aA (gM g (JK M.lG (aa (BJ au) (aa (o7 (ah 0) au) ak))) (aL 3 g.nd) (aq (gM g (JK M.lG (aa (BJ au) (aa (o7 (ah 1) au) ak))) (aL 4 g.nd) (aq (gM g (rO M.lG (aa au ak)) (aL 5 g.nd) (aA (Bg (bx (su M) (hr.mono (by decide)) M.qD M.jn M.cu (aa (eN (aa (ah 3) (aa (ah 4) (aa (ah 5) ak)))) ak)) (oG rfl (b8 (aL 6 g.nd) (b8 (aL 7 g.nd) lV))))
  (aq (bJ (FG (yy (fF (bx (tU M) (hr.mono (by decide)) M.vI M.pB M.kX (aa (ah 3) (aa (ah 4) (aa (ah 0) (aa (ah 1) ak)))))) (tP (fF (bx (tU M) (hr.mono (by decide)) M.vI M.pB M.kX (aa (ah 6) (aa (ah 7) (aa (ah 0) (aa (ah 1) ak))))))))) (aq (LW (λ B=>(tO 2)) (λ B=>(eN (aa (ah 3) (aa (ah 4) (aa (ah 5) ak))))))) bf))))))))
  (aq (wF 2))))
def Cj(M:Tx K mg cb):jx P w K mg base cb 1 M.eY M.gZ lK e8:=by refine pG cZ M.cy (λ as _ _=>⟨0,rfl⟩) (λ c cdv A outer s H E hcb hr g n=>?_);subst hcb;exact (aq (aN (rP M.rN (aa (bF (vc M.qT (ah 0)) au) ak))))
def Kz{X:Cx}(M:Tx K mg cb)(hP:X.prog=P)(hw:X.w=w)(hK:X.K=K)(hm:X.mg=mg)(hb:X.base=base)(hr:fD 1 X.A):DO X cb "width" 0 tQ:=by
 subst hP hw hK hm hb;exact sI (aK (Yh M.oJ ⟨1,M.eY,M.gZ,lK,M.fB,M.jV,Cj M,hr.mono (by decide),M.cZ,rfl,by decide⟩)
  fC)
def Au(M:Tx K mg cb):jx P w K mg base cb 1 M.dF M.gp jR dJ:=by refine pG cF M.bT (λ as _ _=>⟨0,rfl⟩) (λ c cdv A outer s H E hcb hr g n=>?_);subst hcb;exact (aq (aN (rP M.rN (aa (vc M.qT (ah 0)) ak))))
def Gg{X:Cx}(M:Tx K mg cb)(hP:X.prog=P)(hw:X.w=w)(hK:X.K=K)(hm:X.mg=mg)(hb:X.base=base)(hr:fD 1 X.A):DO X cb "height" 0 pI:=by
 subst hP hw hK hm hb;exact sI (aK (Yh M.oJ ⟨1,M.dF,M.gp,jR,M.fB,M.jg,Au M,hr.mono (by decide),M.cF,rfl,by decide⟩)
  fC)
def wX(M:Tx K mg cb):jx P w K mg base cb 2 M.g9 M.m9 sd cG:=by
 refine pG d8 M.g5 (λ as _ _=>⟨0,rfl⟩) (λ c cdv A outer s H E hcb hr g n=>?_);subst hcb;exact (aA (wD 1 g.nd (λ B=>(gK (o6 ak))))
  (aA (gM g (rO M.lG (aa (fj (fh (pH (bG _) (Kz M rfl rfl rfl rfl rfl (hr.mono (by decide))) (ah 0)))) ak)) (aL 2 g.nd) (aq (gM g (rO M.lG (aa (fj (fh (pH (bG _) (Gg M rfl rfl rfl rfl rfl (hr.mono (by decide))) (ah 0)))) ak)) (aL 3 g.nd) (aq (LV (λ B=>(tO 1)) (λ B=>(iO (tm:=false) (k:=1) (caps:=[2,3]) (N':=["way","x","y"]) (λ h=>nomatch h) rfl (f9 (gc M.L0 M.N6)) ⟨rfl,by decide+kernel,rfl,by decide+kernel,rfl,(XM (aK (Jh rfl) (aK (Jh rfl) fC)))⟩ (by decide+kernel) (λ C s₀ H₀ ex=>(aL 0 (by decide+kernel:(["way","x","y"]:List Str).Nodup))) (λ C s₀ H₀ ex=>oF) (λ C s₀ H₀ ex=>(eN (aa (ah 1) (aa (ah 2) (aa (ah 0) ak))))) (je (by decide)))))))))
  (aq (wF 1))))
def Kd(M:Tx K mg cb):jx P w K mg base cb 1 M.ju M.oQ vn lD:=by refine pG jt M.jo (λ as _ _=>⟨0,rfl⟩) (λ c cdv A outer s H E hcb hr g n=>?_);subst hcb;exact (aq (aN (Yy (ah 0) au)))
def F9(M:Tx K mg cb):jx P w K mg base cb 1 M.ou M.uc Cc ku:=by
 refine pG kq M.n5 (λ as _ _=>⟨0,rfl⟩) (λ c cdv A outer s H E hcb hr g n=>?_);subst hcb;have hu:=hr.units;exact (aA (bJ (uW hu (ah 2) (gc M.YH M.aa2)) (aq (aN (eN (aa (o7 (ah 0) au) (aa (ah 1) ak))))) bf)
  (aA (bJ (uW hu (ah 2) (gc M.Uh M.U4)) (aq (aN (eN (aa (ah 0) (aa (qt (ah 1) au) ak))))) bf)
  (aA (bJ (uW hu (ah 2) (gc M.YG M.aa1)) (aq (aN (eN (aa (qt (ah 0) au) (aa (ah 1) ak))))) bf)
  (aq (aN (eN (aa (ah 0) (aa (o7 (ah 1) au) ak))))))))
def Ci(M:Tx K mg cb):jx P w K mg base cb 2 M.lC M.qS yV gB:=by
 refine pG iH M.kT (λ as _ _=>⟨0,rfl⟩) (λ c cdv A outer s H E hcb hr g n=>?_);subst hcb;exact (aA (cI 1 g.nd (bx (Kd M) (hr.mono (by decide)) M.CI M.nU M.jt (aa (bF (ah 0) au) ak)))
  (aA (cI 2 g.nd (bx (F9 M) (hr.mono (by decide)) M.CL M.qf M.kq (aa (bF (ah 0) au) (aa (bF (ah 0) au) (aa (ah 1) ak)))))
  (aq (aN (eN (aa (bF (ah 2) au) (aa (bF (ah 2) au) (aa (ah 1) ak))))))))
def vA(M:Tx K mg cb):jx P w K mg base cb 2 M.bY M.di gG b6:=by refine pG bI M.aW (λ as _ _=>⟨0,rfl⟩) (λ c cdv A outer s H E hcb hr g n=>?_);subst hcb;exact (aq (aN (rQ (wG (mR zR) (mR Kc) zS UA au (ah 1) (fj (fh (pH (bG _) (Kz M rfl rfl rfl rfl rfl (hr.mono (by decide))) (ah 0))))) (uY (wG (mR zR) (mR Kc) zS UA au (ah 2) (fj (fh (pH (bG _) (Gg M rfl rfl rfl rfl rfl (hr.mono (by decide))) (ah 0)))))))))
def xx{X:Cx}(M:Tx K mg cb)(hP:X.prog=P)(hw:X.w=w)(hK:X.K=K)(hm:X.mg=mg)(hb:X.base=base)(hr:fD 2 X.A):DO X cb "has_place" 2 lY:=by
 subst hP hw hK hm hb;exact sI (aK (Yh M.oJ ⟨2,M.bY,M.di,gG,M.fB,M.fK,vA M,hr.mono (by decide),M.bI,rfl,by decide⟩)
  fC)
def oM(M:Tx K mg cb):jx P w K mg base cb 3 M.jw M.oS vp eZ:=by refine pG dw M.jr (λ as _ _=>⟨0,rfl⟩) (λ c cdv A outer s H E hcb hr g n=>?_);subst hcb;exact (aq (aN (fj (fh (lW (bG _) (xx M rfl rfl rfl rfl rfl (hr.mono (by decide))) (ah 0) (aa (bF (ah 1) au) (aa (bF (ah 1) au) ak)))))))
def w9(M:Tx K mg cb):jx P w K mg base cb 4 M.ir M.ni sj c8:=by refine pG ef M.g8 (λ as _ _=>⟨0,rfl⟩) (λ c cdv A outer s H E hcb hr g n=>?_);subst hcb;exact (aq (aN (bx (oM M) (hr.mono (by decide)) M.nT M.gW M.dw (aa (ah 0) (aa (bx (Ci M) (hr.mono (by decide)) M.zj M.nF M.iH (aa (ah 1) ak)) ak)))))
def yW(M:Tx K mg cb):jx P w K mg base cb 5 M.om M.t9 Ca iu:=by refine pG i9 M.nZ (λ as _ _=>⟨0,rfl⟩) (λ c cdv A outer s H E hcb hr g n=>?_);subst hcb;exact (aq (lX (λ B=>(gK (uV M.nH (aa (cP (iO (tm:=false) (k:=1) (caps:=[0]) (N':=["p","table"]) (λ h=>nomatch h) rfl (f9 (u9 (wX M) (hr.mono (by decide)) M.sL M.jA M.d8 (aa (ah 0) ak))) ⟨rfl,by decide+kernel,rfl,by decide+kernel,rfl,(XM (aK (Jh rfl) fC))⟩ (by decide+kernel) (λ C s₀ H₀ ex=>(aL 0 (by decide+kernel:(["p","table"]:List Str).Nodup))) (λ C s₀ H₀ ex=>(G2 (jd (fF (u9 (w9 M) (hr.mono (by decide)) M.sP M.jD M.ef (aa (ah 1) (aa (ah 0) ak))))))) (λ C s₀ H₀ ex=>(ah 0)) (je (by decide)))) ak))))))
def vq(M:Tx K mg cb):jx P w K mg base cb 6 M.kY M.qL yO gz:=by refine pG gx M.kK (λ as _ _=>⟨0,rfl⟩) (λ c cdv A outer s H E hcb hr g n=>?_);subst hcb;exact (aq (lX (λ B=>(gK (uV M.nH (aa (cP (iO (tm:=false) (k:=1) (caps:=[]) (N':=["p"]) (λ h=>nomatch h) rfl (f9 (u9 (yW M) (hr.mono (by decide)) M.xy M.nV M.i9 (aa (ah 0) ak))) ⟨rfl,by decide+kernel,rfl,by decide+kernel,rfl,(λ i c y h=>by simp at h)⟩ (by decide+kernel) (λ C s₀ H₀ ex=>(aL 0 (by decide+kernel:(["p"]:List Str).Nodup))) (λ C s₀ H₀ ex=>oF) (λ C s₀ H₀ ex=>(u9 (Ci M) (hr.mono (by decide)) M.zj M.nF M.iH (aa (ah 0) ak))) (je (by decide)))) ak))))))
def uH(M:Tx K mg cb):jx P w K mg base cb 7 M.fU M.lR qA eK:=by refine pG cW M.fP (λ as _ _=>⟨0,rfl⟩) (λ c cdv A outer s H E hcb hr g n=>?_);subst hcb;exact (aq (lX (λ B=>(gK (uV M.nH (aa (cP (Ys (u9 (wX M) (hr.mono (by decide)) M.sL M.jA M.d8 (aa (ah 0) ak)) (u9 (vq M) (hr.mono (by decide)) M.tV M.kI M.gx (aa (ah 0) ak)))) ak))))))
def Cd(M:Tx K mg cb):jx P w K mg base cb 1 M.k6 M.qN yQ gA:=by refine pG iF M.kM (λ as _ _=>⟨0,rfl⟩) (λ c cdv A outer s H E hcb hr g n=>?_);subst hcb;exact (aq (aN (rQ (uZ M.bR M.xt M.agp (yc M.TZ ajo (by decide)) (ah 0)) (uY (G5 (uZ M.bR M.xt M.aaR (yc M.G0 afK (by decide)) (ah 0)))))))
def vt(M:Tx K mg cb):jx P w K mg base cb 1 M.lz M.qQ yT iI:=by refine pG gy M.kQ (λ as _ _=>⟨0,rfl⟩) (λ c cdv A outer s H E hcb hr g n=>?_);subst hcb;have hu:=hr.units;exact (aq (aN (rQ (uZ M.bR M.xt M.aaQ (yc M.GZ afJ (by decide)) (ah 0)) (rQ (YE rfl M.JJ (aa (cP (iO (tm:=false) (k:=1) (caps:=[]) (N':=["_law_p"]) (λ h=>nomatch h) rfl (f9 (ah 0)) ⟨rfl,by decide+kernel,rfl,by decide+kernel,rfl,(λ i c y h=>by simp at h)⟩ (by decide+kernel) (λ C s₀ H₀ ex=>(aL 0 (by decide+kernel:(["_law_p"]:List Str).Nodup))) (λ C s₀ H₀ ex=>oF) (λ C s₀ H₀ ex=>(uZ M.bR M.xt M.UZ (yc M.tK abI (by decide)) (ah 0))) (je (by decide)))) ak)) (uY (akS hu (ah 0) (ah 1)))))))
def MQ(M:Tx K mg cb):jx P w K mg base cb 2 M.ly M.qP yS jI:=by
 refine pG jH M.kP (λ as _ _=>⟨0,rfl⟩) (λ c cdv A outer s H E hcb hr g n=>?_);subst hcb;exact (aA (Bg (bx (su M) (hr.mono (by decide)) M.qD M.jn M.cu (aa (ah 0) ak)) (oG rfl (b8 (aL 3 g.nd) (b8 (aL 4 g.nd) lV))))
  (aq (aN (G5 (bx (tU M) (hr.mono (by decide)) M.vI M.pB M.kX (aa (ah 3) (aa (ah 4) (aa (ah 1) (aa (ah 2) ak)))))))))
def F7(M:Tx K mg cb):jx P w K mg base cb 8 M.oi M.tY B8 mJ:=by
 refine pG ko M.nX (λ as _ _=>⟨0,rfl⟩) (λ c cdv A outer s H E hcb hr g n=>?_);subst hcb;exact (aA (cI 3 g.nd (bx (ZG M) (hr.mono (by decide)) M.UK M.xK M.oX (aa (ah 1) (aa (ah 2) ak))))
  (aA (cI 4 g.nd (bx (uH M) (hr.mono (by decide)) M.qF M.iC M.cW (aa (ah 0) ak)))
  (aA (bJ (FG (yy (jd (fF (bx (vt M) (hr.mono (by decide)) M.tW M.kJ M.gy (aa (ah 4) (aa (ah 3) ak))))) (tP (jd (fF (YE rfl M.JJ (aa (cP (iO (tm:=false) (k:=1) (caps:=[]) (N':=["_law_p"]) (λ h=>nomatch h) rfl (f9 (ah 4)) ⟨rfl,by decide+kernel,rfl,by decide+kernel,rfl,(λ i c y h=>by simp at h)⟩ (by decide+kernel) (λ C s₀ H₀ ex=>(aL 0 (by decide+kernel:(["_law_p"]:List Str).Nodup))) (λ C s₀ H₀ ex=>oF) (λ C s₀ H₀ ex=>(rQ (bx (Cd M) (hr.mono (by decide)) M.zh M.nE M.iF (aa (bF (ah 0) au) ak)) (uY (bx (Cd M) (hr.mono (by decide)) M.zh M.nE M.iF (aa (bF (ah 0) au) ak))))) (je (by decide)))) ak))))))) (aq (aN FL)) bf)
  (aA (bJ (jd (fF (bx (vt M) (hr.mono (by decide)) M.tW M.kJ M.gy (aa (bx (yW M) (hr.mono (by decide)) M.xy M.nV M.i9 (aa (ah 0) ak)) (aa (cP (iO (tm:=false) (k:=1) (caps:=[1,2]) (N':=["_law_p","_law_wide","_law_high"]) (λ h=>nomatch h) rfl (f9 (ah 3)) ⟨rfl,by decide+kernel,rfl,by decide+kernel,rfl,(XM (aK (Jh rfl) (aK (Jh rfl) fC)))⟩ (by decide+kernel) (λ C s₀ H₀ ex=>(aL 0 (by decide+kernel:(["_law_p","_law_wide","_law_high"]:List Str).Nodup))) (λ C s₀ H₀ ex=>(G2 (fF (bx (MQ M) (hr.mono (by decide)) M.Gm M.qd M.jH (aa (ah 0) (aa (ah 1) (aa (ah 2) ak))))))) (λ C s₀ H₀ ex=>(ah 0)) (je (by decide)))) ak))))) (aq (aN FL)) bf)
  (aq (aN (bx (vt M) (hr.mono (by decide)) M.tW M.kJ M.gy (aa (bx (vq M) (hr.mono (by decide)) M.tV M.kI M.gx (aa (ah 0) ak)) (aa (cP (iO (tm:=false) (k:=1) (caps:=[1,2]) (N':=["_law_p","_law_wide","_law_high"]) (λ h=>nomatch h) rfl (f9 (ah 3)) ⟨rfl,by decide+kernel,rfl,by decide+kernel,rfl,(XM (aK (Jh rfl) (aK (Jh rfl) fC)))⟩ (by decide+kernel) (λ C s₀ H₀ ex=>(aL 0 (by decide+kernel:(["_law_p","_law_wide","_law_high"]:List Str).Nodup))) (λ C s₀ H₀ ex=>(G2 (jd (fF (bx (tU M) (hr.mono (by decide)) M.vI M.pB M.kX (aa (bF (ah 0) au) (aa (bF (ah 0) au) (aa (ah 1) (aa (ah 2) ak))))))))) (λ C s₀ H₀ ex=>(ah 0)) (je (by decide)))) ak)))))))))
def ZF(M:Tx K mg cb):jx P w K mg base cb 1 M.qX M.xV HH oZ:=by
 refine pG nu M.qU (λ as _ _=>⟨0,rfl⟩) (λ c cdv A outer s H E hcb hr g n=>?_);subst hcb;have hu:=hr.units;exact (aA (cI 3 g.nd (qt (jJ (lJ (ah 0) au) (o7 (ah 1) au)) au))
  (aA (cI 4 g.nd (qt (jJ (lJ (ah 0) au) (o7 (ah 2) au)) au))
  (aA (bJ (uW hu (jJ (ah 0) au) au) (aq (cI 3 g.nd (bF (cP (o6 (aa (qt (BJ au) (jJ (lJ (ah 0) au) (Yz au au))) (aa (o7 (o7 (ah 1) au) (jJ (lJ (ah 0) au) (Yz au au))) ak)))) (jJ (lJ (ah 0) au) au)))) bf)
  (aq (aN (eN (aa (ah 3) (aa (ah 4) (aa (qt (jJ (lJ (ah 0) au) au) au) ak)))))))))
def aex(M:Tx K mg cb):jx P w K mg base cb 2 M.wk M.BB MK tH:=by
 refine pG qW M.vU (λ as _ _=>⟨0,rfl⟩) (λ c cdv A outer s H E hcb hr g n=>?_);subst hcb;exact (aA (bJ (FG (yy (Yu (bF (ah 0) au) au) (tP (ahp (bF (ah 0) au) au)))) (aq (aN FL)) bf)
  (aA (Bg (bx (su M) (hr.mono (by decide)) M.qD M.jn M.cu (aa (ah 0) ak)) (oG rfl (b8 (aL 3 g.nd) (b8 (aL 4 g.nd) lV))))
  (aq (aN (akR (bx (tU M) (hr.mono (by decide)) M.vI M.pB M.kX (aa (bF (ah 0) au) (aa (bF (ah 0) au) (aa (ah 1) (aa (ah 2) ak))))) (uY (bx (tU M) (hr.mono (by decide)) M.vI M.pB M.kX (aa (ah 3) (aa (ah 4) (aa (ah 1) (aa (ah 2) ak)))))))))))
def uG(M:Tx K mg cb):jx P w K mg base cb 5 M.fT M.lQ qz bM:=by refine pG cz M.fO (λ as _ _=>⟨0,rfl⟩) (λ c cdv A outer s H E hcb hr g n=>?_);subst hcb;exact (aq (bJ (FG (yy (FH (bF (ah 1) au) (gc M.L0 M.N6)) (tP (jd (FG (yy (fF (bx (oM M) (hr.mono (by decide)) M.nT M.gW M.dw (aa (ah 0) (aa (ah 1) ak)))) (tP (fF (bx (w9 M) (hr.mono (by decide)) M.sP M.jD M.ef (aa (ah 0) (aa (ah 1) ak))))))))))) (aq (nB g M.wB (aa yz ak))) bf))
def sy(M:Tx K mg cb):jx P w K mg base cb 3 M.bB M.cC fc bC:=by refine pG aU M.aP (λ as _ _=>⟨0,rfl⟩) (λ c cdv A outer s H E hcb hr g n=>?_);subst hcb;exact (aq (bJ (jd (fF (fj (fh (lW (bG _) (xx M rfl rfl rfl rfl rfl (hr.mono (by decide))) (ah 0) (aa (ah 1) (aa (ah 2) ak))))))) (aq (nB g M.tN (aa yz ak))) bf))
def sH{X:Cx}(M:Tx K mg cb)(hP:X.prog=P)(hw:X.w=w)(hK:X.K=K)(hm:X.mg=mg)(hb:X.base=base)(hr:fD 3 X.A):DO X cb "check_place" 2 iP:=by
 subst hP hw hK hm hb;exact sI (aK (Yh M.oJ ⟨3,M.bB,M.cC,fc,M.fB,M.dX,sy M,hr.mono (by decide),M.aU,rfl,by decide⟩)
  fC)
def vz(M:Tx K mg cb):jx P w K mg base cb 4 M.bX M.dh gF b5:=by
 refine pG bH M.aV (λ as _ _=>⟨0,rfl⟩) (λ c cdv A outer s H E hcb hr g n=>?_);subst hcb;have hu1:=hU1 hr.units;exact (aA (kF (fj (fh (lW (bG _) (sH M rfl rfl rfl rfl rfl (hr.mono (by decide))) (ah 0) (aa (ah 1) (aa (ah 2) ak))))))
  (aq (aN (YC hu1 (vc M.IX (ah 0)) (eN (aa (ah 1) (aa (ah 2) ak)))))))
def Io{X:Cx}(M:Tx K mg cb)(hP:X.prog=P)(hw:X.w=w)(hK:X.K=K)(hm:X.mg=mg)(hb:X.base=base)(hr:fD 4 X.A):DO X cb "other_end" 2 oH:=by
 subst hP hw hK hm hb;exact sI (aK (Yh M.oJ ⟨4,M.bX,M.dh,gF,M.fB,M.fJ,vz M,hr.mono (by decide),M.bH,rfl,by decide⟩)
  fC)
def Ei(M:Tx K mg cb):jx P w K mg base cb 4 M.fW M.iX mY fY:=by
 refine pG eg M.cT (λ as _ _=>⟨0,rfl⟩) (λ c cdv A outer s H E hcb hr g n=>?_);subst hcb;exact (aA (kF (fj (fh (lW (bG _) (sH M rfl rfl rfl rfl rfl (hr.mono (by decide))) (ah 0) (aa (ah 1) (aa (ah 2) ak))))))
  (aq (aN (bF (bF (vc M.qT (ah 0)) (ah 2)) (ah 1)))))
def UG{X:Cx}(M:Tx K mg cb)(hP:X.prog=P)(hw:X.w=w)(hK:X.K=K)(hm:X.mg=mg)(hb:X.base=base)(hr:fD 4 X.A):DO X cb "cell" 2 BP:=by
 subst hP hw hK hm hb;exact sI (aK (Yh M.oJ ⟨4,M.fW,M.iX,mY,M.fB,M.lO,Ei M,hr.mono (by decide),M.eg,rfl,by decide⟩)
  fC)
def Ej(M:Tx K mg cb):jx P w K mg base cb 1 M.fX M.iY mZ kC:=by refine pG fR M.cU (λ as _ _=>⟨0,rfl⟩) (λ c cdv A outer s H E hcb hr g n=>?_);subst hcb;exact (aq (lX (λ B=>(gK (o6 (aa (eN (aa (ah 1) (aa (gc M.Ug M.U3) ak))) ak))))))
def Av(M:Tx K mg cb):jx P w K mg base cb 1 M.dG M.gq jS iw:=by refine pG dz M.bU (λ as _ _=>⟨0,rfl⟩) (λ c cdv A outer s H E hcb hr g n=>?_);subst hcb;exact (aq (lX (λ B=>(gK (o6 (aa (eN (aa (Yy (ah 1) (vc M.Dc (ah 0))) (aa (gc M.Ug M.U3) ak))) ak))))))
def Eh(M:Tx K mg cb):jx P w K mg base cb 1 M.fV M.iW mX kB:=by refine pG fQ M.cS (λ as _ _=>⟨0,rfl⟩) (λ c cdv A outer s H E hcb hr g n=>?_);subst hcb;exact (aq (lX (λ B=>(gK (o6 ak)))))
def ZY{X:Cx}(M:Tx K mg cb)(hP:X.prog=P)(hw:X.w=w)(hK:X.K=K)(hm:X.mg=mg)(hb:X.base=base)(hr:fD 1 X.A):DO X cb "leads" 1 Bj:=by
 subst hP hw hK hm hb;exact sI (aK (Yh M.Bm ⟨1,M.fX,M.iY,mZ,M.ki,M.jW,Ej M,hr.mono (by decide),M.fR,rfl,by decide⟩)
  (aK (Yh M.wR ⟨1,M.dG,M.gq,jS,M.iE,M.jh,Av M,hr.mono (by decide),M.dz,rfl,by decide⟩)
  (aK (Yh M.Hx ⟨1,M.fV,M.iW,mX,M.nk,M.lN,Eh M,hr.mono (by decide),M.fQ,rfl,by decide⟩)
  fC)))
def MO(M:Tx K mg cb):jx P w K mg base cb 2 M.kZ M.qM yP dQ:=by
 refine pG jF M.kL (λ as _ _=>⟨0,rfl⟩) (λ c cdv A outer s H E hcb hr g n=>?_);subst hcb;exact (aA (cI 2 g.nd (bx (F9 M) (hr.mono (by decide)) M.CL M.qf M.kq (aa (bF (ah 0) au) (aa (bF (ah 0) au) (aa (ah 1) ak)))))
  (aq (aN (eN (aa (bF (ah 2) au) (aa (bF (ah 2) au) (aa (ah 1) ak)))))))
def MR(M:Tx K mg cb):jx P w K mg base cb 6 M.lA M.qR yU iJ:=by
 refine pG iG M.kR (λ as _ _=>⟨0,rfl⟩) (λ c cdv A outer s H E hcb hr g n=>?_);subst hcb;exact (aA (kF (bx (uG M) (hr.mono (by decide)) M.qE M.iB M.cz (aa (ah 0) (aa (ah 1) ak))))
  (aA (bJ (jd (fF (bx (oM M) (hr.mono (by decide)) M.nT M.gW M.dw (aa (ah 0) (aa (ah 1) ak))))) (aq (lX (λ B=>(gK (o6 ak))))) bf)
  (aA (cI 2 g.nd (fj (fh (lW (bG _) (Io M rfl rfl rfl rfl rfl (hr.mono (by decide))) (ah 0) (aa (bF (ah 1) au) (aa (bF (ah 1) au) ak))))))
  (aA (bJ (aho (ah 2) ahq) (aq (cI 2 g.nd (eN (aa (bF (ah 1) au) (aa (bF (ah 1) au) ak))))) bf)
  (aA (cI 3 g.nd (fj (fh (lW (bG _) (ZY M rfl rfl rfl rfl rfl (hr.mono (by decide))) (fj (fh (lW (bG _) (UG M rfl rfl rfl rfl rfl (hr.mono (by decide))) (ah 0) (aa (bF (ah 1) au) (aa (bF (ah 1) au) ak))))) (aa (bF (ah 1) au) ak)))))
  (aq (lX (λ B=>(gK (LS M.nH (aa (cP (iO (tm:=false) (k:=2) (caps:=[2]) (N':=["way","share","place"]) (λ h=>nomatch h) rfl (f9 (ah 3)) ⟨rfl,by decide+kernel,rfl,by decide+kernel,rfl,(XM (aK (Jh rfl) fC))⟩ (by decide+kernel) (λ C s₀ H₀ ex=>(oG rfl (b8 (aL 0 (by decide+kernel:(["way","share","place"]:List Str).Nodup)) (b8 (aL 1 (by decide+kernel:(["way","share","place"]:List Str).Nodup)) lV)))) (λ C s₀ H₀ ex=>oF) (λ C s₀ H₀ ex=>(eN (aa (u9 (MO M) (hr.mono (by decide)) M.Gj M.p9 M.jF (aa (ah 2) (aa (ah 0) ak))) (aa (ah 1) ak)))) (ahy (Uk (je (by decide)) (Uk (je (by decide)) ahz))))) ak)))))))))))
def pW(M:Tx K mg cb):jx P w K mg base cb 1 M.bL M.dc gi dR:=by refine pG b9 M.bq (λ as _ _=>⟨0,rfl⟩) (λ c cdv A outer s H E hcb hr g n=>?_);subst hcb;exact (aq (aN (gc M.LY M.N5)))
def yX(M:Tx K mg cb):jx P w K mg base cb 1 M.cM M.fu jf gr:=by refine pG cL M.bK (λ as _ _=>⟨0,rfl⟩) (λ c cdv A outer s H E hcb hr g n=>?_);subst hcb;exact (aq (aN (gc M.Ug M.U3)))
def KA{X:Cx}(M:Tx K mg cb)(hP:X.prog=P)(hw:X.w=w)(hK:X.K=K)(hm:X.mg=mg)(hb:X.base=base)(hr:fD 1 X.A):DO X cb "swallows" 0 vd:=by
 subst hP hw hK hm hb;exact sI (aK (Yh M.Bm ⟨1,M.bL,M.dc,gi,M.ki,M.gH,pW M,hr.mono (by decide),M.b9,rfl,by decide⟩)
  (aK (Yh M.wR ⟨1,M.bL,M.dc,gi,M.iE,M.fL,pW M,hr.mono (by decide),M.b9,rfl,by decide⟩)
  (aK (Yh M.Hx ⟨1,M.cM,M.fu,jf,M.nk,M.iA,yX M,hr.mono (by decide),M.cL,rfl,by decide⟩)
  fC)))
def Ar(M:Tx K mg cb):jx P w K mg base cb 6 M.dB M.jk nQ bZ:=by
 refine pG bV M.dj (λ as _ _=>⟨0,rfl⟩) (λ c cdv A outer s H E hcb hr g n=>?_);subst hcb;exact (aA (kF (bx (uG M) (hr.mono (by decide)) M.qE M.iB M.cz (aa (ah 0) (aa (ah 1) ak))))
  (aA (bJ (jd (fF (bx (oM M) (hr.mono (by decide)) M.nT M.gW M.dw (aa (ah 0) (aa (ah 1) ak))))) (aq (aN (gc M.LY M.N5))) bf)
  (aq (aN (fj (fh (pH (bG _) (KA M rfl rfl rfl rfl rfl (hr.mono (by decide))) (fj (fh (lW (bG _) (UG M rfl rfl rfl rfl rfl (hr.mono (by decide))) (ah 0) (aa (bF (ah 1) au) (aa (bF (ah 1) au) ak))))))))))))
def wY(M:Tx K mg cb):jx P w K mg base cb 7 M.ie M.ng se eF:=by
 refine pG cX M.g6 (λ as _ _=>⟨0,rfl⟩) (λ c cdv A outer s H E hcb hr g n=>?_);subst hcb;have hu:=hr.units;exact (aA (cI 3 g.nd FL)
  (aA (VB 4 g M.z8 M.z6 (λ pn xe g=>(aq (bJ (uW hu (ah 2) au) (aq (kF (bx (MR M) (hr.mono (by decide)) M.Gn M.qe M.iG (aa (ah 0) (aa (ah 1) ak))))) (aq (kF (bx (Ar M) (hr.mono (by decide)) M.sJ M.gT M.bV (aa (ah 0) (aa (ah 1) ak)))))))) (λ ev pn=>(aq (cI 3 g.nd (rQ (uZ M.bR M.xt M.K6 (yd M.K9) (ah 4)) (rQ (uZ M.bR M.xt M.xP (yc M.mV Fq (by decide)) (ah 4)) (uY (G5 (adI M.bR M.xt (.cons M.Gw (.cons M.K7 .nil)) (YF (YF aht)) (ah 4) (Ue (Yt (yd M.Gx)) (Ue (Yt (yd M.La)) ahs)) (λ _ _ _ q=>q) (by simp))))))))))
  (aq (aN (ah 3)))))
def ain(M:Tx K mg cb):jx P w K mg base cb 9 M.Af M.IW ZA DR:=by
 refine pG DG M.z9 (λ as _ _=>⟨0,rfl⟩) (λ c cdv A outer s H E hcb hr g n=>?_);subst hcb;have hu:=hr.units;exact (aA (cI 1 g.nd (bx (F8 M) (hr.mono (by decide)) M.CK M.qc M.i8 (aa (bx (wZ M) (hr.mono (by decide)) M.sN M.jC M.bO (aa (ah 0) (aa au ak))) ak)))
  (aA (cI 2 g.nd (bx (F8 M) (hr.mono (by decide)) M.CK M.qc M.i8 (aa (bx (wZ M) (hr.mono (by decide)) M.sN M.jC M.bO (aa (ah 0) (aa au ak))) ak)))
  (aA (cI 3 g.nd (bx (MP M) (hr.mono (by decide)) M.Gk M.qb M.jG (aa (ah 0) (aa (ah 1) (aa (ah 2) ak)))))
  (aA (bJ (jd (fF (bx (F7 M) (hr.mono (by decide)) M.CJ M.qa M.ko (aa (ah 3) (aa (ah 1) (aa (ah 2) ak)))))) (aq (aN FL)) bf)
  (aA (gM g (f9 (cP (Ys (cP (o6 (aa au ak))) (cP (Yr (ah 0) Yx (BI au)))))) (aL 4 g.nd) (aA (cI 5 g.nd (bx (ZF M) (hr.mono (by decide)) M.UJ M.xJ M.nu (aa (ahr (ah 4) au) (aa (ah 1) (aa (ah 2) ak)))))
  (aA (cI 6 g.nd (G5 (bx (aex M) (hr.mono (by decide)) M.Z4 M.CZ M.qW (aa (ah 5) (aa (ah 1) (aa (ah 2) ak))))))
  (aq (bJ (FG (yy (G3 hu (bx (wY M) (hr.mono (by decide)) M.sM M.jB M.cX (aa (ah 3) (aa (ah 5) (aa au ak)))) (ah 6)) (tP (G3 hu (bx (wY M) (hr.mono (by decide)) M.sM M.jB M.cX (aa (ah 3) (aa (ah 5) (aa au ak)))) (ah 6))))) (aq (aN FL)) bf)))))
  (aA (uX (λ B=>(LR (uH M) (hr.mono (by decide)) M.qF M.iC M.cW (aa (ah 3) ak))))
  (aA (uX (λ B=>(LR (yW M) (hr.mono (by decide)) M.xy M.nV M.i9 (aa (ah 3) ak))))
  (aA (uX (λ B=>(LR (vq M) (hr.mono (by decide)) M.tV M.kI M.gx (aa (ah 3) ak))))
  (aq (aN (bx (F7 M) (hr.mono (by decide)) M.CJ M.qa M.ko (aa (ah 3) (aa (ah 1) (aa (ah 2) ak))))))))))))))
end
def all_mk{P:Program}{w:World}{K:W.Frag}{h:Heap}{mg:Str->Option Value}{fa:Addr}(X:K.In h)(G:h.Ns mainGlobals mg)(hfa:mg "law"=some (.ref fa)) {cH:Addr} {bA:Addr} {aY:Addr} {aS:Addr} {bz:Addr} {aQ:Addr} {aM:Addr} {bD:Addr} {q8:Addr} {aI:Addr} {g7:Addr} {HS Jz:Option Addr} {Hi:Array (Option Value)} {HZ IG I0 HB yh Jd:Value} {nY:Addr} {V8 X6:Option Addr} {VJ:Array (Option Value)} {We W2 Xw VX GN XE:Value} {eO:Addr} {Ck DI:Option Addr} {BS:Array (Option Value)} {Co C3 De B3 sZ Dl:Value} {aX:Addr} {vE wg:Option Addr} {vg:Array (Option Value)} {vH vN vY vm oh v8:Value} {eT:Addr} {Cm DJ:Option Addr} {BU:Array (Option Value)} {Cp C4 Df B4 tw Dm:Value} {dm:Addr} {Ax Bd:Option Addr} {Aj:Array (Option Value)} {AB AQ A0 An rB A7:Value} {fN:Addr} {Ek Ft:Option Addr} {D0:Array (Option Value)} {Er EM E3 D9 uN Fb:Value} {br:Addr} {xj yq:Option Addr} {wK:Array (Option Value)} {xm xM xX wV oW yb:Value} {kO:Addr} {MV OR:Option Addr} {Mr:Array (Option Value)} {M6 NP Od ME Dv Oo:Value} {jq:Addr} {Kf LF:Option Addr} {JX:Array (Option Value)} {Kl K4 Lj J8 Ad Lp:Value} {vV:Addr} {aeB afO:Option Addr} {adW:Array (Option Value)} {aeD ae4 afB aej Vc afG:Value} {qV:Addr} {ZK abQ:Option Addr} {YW:Array (Option Value)} {ZM aax abk Zi Lw abu:Value} {cy:Addr} {Cn DK:Option Addr} {BV:Array (Option Value)} {Cq C5 Dg B5 tD Dn:Value} {bT:Addr} {Ay Be:Option Addr} {Ak:Array (Option Value)} {AD AR A1 Ao rC A8:Value} {g5:Addr} {HQ Jw:Option Addr} {Hg:Array (Option Value)} {HX ID IY Hz yf Jb:Value} {jo:Addr} {Ke LC:Option Addr} {JW:Array (Option Value)} {Kh K3 Li J6 Ac Lo:Value} {n5:Addr} {Wb X8:Option Addr} {VM:Array (Option Value)} {Wg W4 Xy VZ GP XG:Value} {kT:Addr} {MZ OW:Option Addr} {Mv:Array (Option Value)} {Na NT Oh MI DA Ov:Value} {aW:Addr} {vD we:Option Addr} {vf:Array (Option Value)} {vG vM vX vj n9 v7:Value} {jr:Addr} {Kg LG:Option Addr} {JY:Array (Option Value)} {Km K5 Lk J9 Ae Lq:Value} {g8:Addr} {HU JA:Option Addr} {Hj:Array (Option Value)} {Ia II Ja HC yi Je:Value} {nZ:Addr} {V9 X7:Option Addr} {VL:Array (Option Value)} {Wf W3 Xx VY GO XF:Value} {kK:Addr} {MS OO:Option Addr} {Mn:Array (Option Value)} {M3 NL Oa MB Ds Oj:Value} {fP:Addr} {Em Fw:Option Addr} {D4:Array (Option Value)} {Et EO E5 Eb uP Fd:Value} {kM:Addr} {MU OQ:Option Addr} {Mq:Array (Option Value)} {M5 NO Oc MD Du Om:Value} {kQ:Addr} {MX OT:Option Addr} {Mt:Array (Option Value)} {M8 NR Of MG Dy Ot:Value} {kP:Addr} {MW OS:Option Addr} {Ms:Array (Option Value)} {M7 NQ Oe MF Dw Oq:Value} {nX:Addr} {V7 X5:Option Addr} {VI:Array (Option Value)} {Wc W0 Xv VW GL XD:Value} {qU:Addr} {ZJ abP:Option Addr} {YV:Array (Option Value)} {ZL aaw abj Zh Lv abt:Value} {vU:Addr} {aeA afN:Option Addr} {adV:Array (Option Value)} {aeC ae3 afA aei Vb afF:Value} {fO:Addr} {El Fv:Option Addr} {D3:Array (Option Value)} {Es EN E4 Ea uO Fc:Value} {aP:Addr} {sD tF:Option Addr} {rT:Array (Option Value)} {sE sR sV r6 mG sY:Value} {aV:Addr} {vC wc:Option Addr} {ve:Array (Option Value)} {vF vL vW vh n6 v5:Value} {cT:Addr} {Eo Fy:Option Addr} {D6:Array (Option Value)} {Ew ES E7 Ed uR Ff:Value} {cU:Addr} {Ep FD:Option Addr} {D7:Array (Option Value)} {Ex ET E8 Ef uS Fg:Value} {bU:Addr} {Az Bf:Option Addr} {Al:Array (Option Value)} {AE AS A2 Aq rD A9:Value} {cS:Addr} {En Fx:Option Addr} {D5:Array (Option Value)} {Eu ER E6 Ec uQ Fe:Value} {kL:Addr} {MT OP:Option Addr} {Mp:Array (Option Value)} {M4 NN Ob MC Dt Ol:Value} {kR:Addr} {MY OV:Option Addr} {Mu:Array (Option Value)} {M9 NS Og MH Dz Ou:Value} {bq:Addr} {yZ zH:Option Addr} {yI:Array (Option Value)} {zc zx zA yM qk zC:Value} {bK:Addr} {yY zG:Option Addr} {yH:Array (Option Value)} {y9 zw zz yL qj zB:Value} {dj:Addr} {Aw Bc:Option Addr} {Ai:Array (Option Value)} {AA AO AZ Am rA A6:Value} {g6:Addr} {HR Jy:Option Addr} {Hh:Array (Option Value)} {HY IF IZ HA yg Jc:Value} {z9:Addr} {aio ajt:Option Addr} {ahL:Array (Option Value)} {aip aiQ ajd ahY abx ajj:Value} {JV:Tok} {pJ:Tok} {FZ:Tok} {adS:Tok} {adR:Tok} {JF:Addr} {M0:Option Addr} {Nf:Nat} {Mw:Array (Option Value)} {YR:Tok} {YQ:Tok} {YO:Tok} {VG:Tok} {zN:Addr} {HW:Option Addr} {Ic:Nat} {Ho:Array (Option Value)} {FY:Tok} {VF:Tok} {VE:Tok} {zM:Addr} {HV:Option Addr} {Ib:Nat} {Hl:Array (Option Value)} (Lg:W.nsIn K mainGlobals "BeamError"=some (some (.ref cH))) (Lf:W.nsIn K mainGlobals "NoCell"=some (some (.ref bA))) (GD:W.nsIn K mainGlobals "NoTable"=some (some (.ref aY))) (GF:W.nsIn K mainGlobals "NoPlace"=some (some (.ref aS))) (Le:W.nsIn K mainGlobals "NoPass"=some (some (.ref bz))) (afy:W.nsIn K mainGlobals "Empty"=some (some (.ref aQ))) (abb:W.nsIn K mainGlobals "Mirror"=some (some (.ref aM))) (ajb:W.nsIn K mainGlobals "Wall"=some (some (.ref bD))) (afx:W.nsIn K mainGlobals "Fibre"=some (some (.ref q8))) (afw:W.nsIn K mainGlobals "Table"=some (some (.ref aI))) (ig:W.nsIn K mainGlobals "_law_cell_at"=some (some (.ref g7))) (KZ:K.lookup g7=some ⟨HZ,HS,.func (W.fnOf "_law_cell_at" "_law_cell_at" (aH mj) (aF mj) (ay mj) .none IG I0 HB Jz yh Jd),Hi⟩) (Lz:W.codeIn K yh "_law_cell_at"=true) (jC:W.keepIn K (.ref g7)=true) (oj:W.nsIn K mainGlobals "_law_side"=some (some (.ref nY))) (aal:K.lookup nY=some ⟨We,V8,.func (W.fnOf "_law_side" "_law_side" (aH rW) (aF rW) (ay rW) .none W2 Xw VX X6 GN XE),VJ⟩) (abE:W.codeIn K GN "_law_side"=true) (qc:W.keepIn K (.ref nY)=true) (eV:W.nsIn K mainGlobals "check_slant"=some (some (.ref eO))) (EJ:K.lookup eO=some ⟨Co,Ck,.func (W.fnOf "check_slant" "check_slant" (aH iQ) (aF iQ) (ay iQ) .none C3 De B3 DI sZ Dl),BS⟩) (Fj:W.codeIn K sZ "check_slant"=true) (iT:W.keepIn K (.ref eO)=true) (cJ:W.findIn K (.ref aM) "__init__"=some (some (.ref aX))) (xE:K.lookup aX=some ⟨vH,vE,.func (W.fnOf "__init__" "Mirror.__init__" (aH dW) (aF dW) (ay dW) .none vN vY vm wg oh v8),vg⟩) (ym:W.codeIn K oh "Mirror.__init__"=true) (gI:W.keepIn K (.ref aX)=true) (eX:W.nsIn K mainGlobals "check_sides"=some (some (.ref eT))) (EK:K.lookup eT=some ⟨Cp,Cm,.func (W.fnOf "check_sides" "check_sides" (aH iR) (aF iR) (ay iR) .none C4 Df B4 DJ tw Dm),BU⟩) (Fl:W.codeIn K tw "check_sides"=true) (iU:W.keepIn K (.ref eT)=true) (dD:W.nsIn K mainGlobals "fibre_places"=some (some (.ref dm))) (CS:K.lookup dm=some ⟨AB,Ax,.func (W.fnOf "fibre_places" "fibre_places" (aH gP) (aF gP) (ay gP) .none AQ A0 An Bd rB A7),Aj⟩) (DC:W.codeIn K rB "fibre_places"=true) (gU:W.keepIn K (.ref dm)=true) (fS:W.nsIn K mainGlobals "fibre_ends"=some (some (.ref fN))) (Iu:K.lookup fN=some ⟨Er,Ek,.func (W.fnOf "fibre_ends" "fibre_ends" (aH jL) (aF jL) (ay jL) .none EM E3 D9 Ft uN Fb),D0⟩) (Jk:W.codeIn K uN "fibre_ends"=true) (jX:W.keepIn K (.ref fN)=true) (dg:W.findIn K (.ref aI) "__init__"=some (some (.ref br))) (zo:K.lookup br=some ⟨xm,xj,.func (W.fnOf "__init__" "Table.__init__" (aH fq) (aF fq) (ay fq) .none xM xX wV yq oW yb),wK⟩) (zE:W.codeIn K oW "Table.__init__"=true) (iD:W.keepIn K (.ref br)=true) (lu:W.nsIn K mainGlobals "_law_table"=some (some (.ref kO))) (WN:K.lookup kO=some ⟨M6,MV,.func (W.fnOf "_law_table" "_law_table" (aH pO) (aF pO) (ay pO) .none NP Od ME OR Dv Oo),Mr⟩) (XW:W.codeIn K Dv "_law_table"=true) (qb:W.keepIn K (.ref kO)=true) (jv:W.nsIn K mainGlobals "_law_behind"=some (some (.ref jq))) (NG:K.lookup jq=some ⟨Kl,Kf,.func (W.fnOf "_law_behind" "_law_behind" (aH nN) (aF nN) (ay nN) .none K4 Lj J8 LF Ad Lp),JX⟩) (OI:W.codeIn K Ad "_law_behind"=true) (jn:W.keepIn K (.ref jq)=true) (wm:W.nsIn K mainGlobals "_law_in"=some (some (.ref vV))) (aiI:K.lookup vV=some ⟨aeD,aeB,.func (W.fnOf "_law_in" "_law_in" (aH BY) (aF BY) (ay BY) .none ae4 afB aej afO Vc afG),adW⟩) (ajn:W.codeIn K Vc "_law_in"=true) (pB:W.keepIn K (.ref vV)=true) (qY:W.nsIn K mainGlobals "_law_due"=some (some (.ref qV))) (aeW:K.lookup qV=some ⟨ZM,ZK,.func (W.fnOf "_law_due" "_law_due" (aH wM) (aF wM) (ay wM) .none aax abk Zi abQ Lw abu),YW⟩) (afI:W.codeIn K Lw "_law_due"=true) (xK:W.keepIn K (.ref qV)=true) (eY:W.findIn K (.ref aI) "width"=some (some (.ref cy))) (EL:K.lookup cy=some ⟨Cq,Cn,.func (W.fnOf "width" "Table.width" (aH iS) (aF iS) (ay iS) .none C5 Dg B5 DK tD Dn),BV⟩) (Fo:W.codeIn K tD "Table.width"=true) (iV:W.keepIn K (.ref cy)=true) (dF:W.findIn K (.ref aI) "height"=some (some (.ref bT))) (CT:K.lookup bT=some ⟨AD,Ay,.func (W.fnOf "height" "Table.height" (aH gQ) (aF gQ) (ay gQ) .none AR A1 Ao Be rC A8),Ak⟩) (DE:W.codeIn K rC "Table.height"=true) (gX:W.keepIn K (.ref bT)=true) (g9:W.nsIn K mainGlobals "passes_in"=some (some (.ref g5))) (KW:K.lookup g5=some ⟨HX,HQ,.func (W.fnOf "passes_in" "passes_in" (aH lZ) (aF lZ) (ay lZ) .none ID IY Hz Jw yf Jb),Hg⟩) (Lx:W.codeIn K yf "passes_in"=true) (jA:W.keepIn K (.ref g5)=true) (ju:W.nsIn K mainGlobals "opposite"=some (some (.ref jo))) (NF:K.lookup jo=some ⟨Kh,Ke,.func (W.fnOf "opposite" "opposite" (aH nM) (aF nM) (ay nM) .none K3 Li J6 LC Ac Lo),JW⟩) (OH:W.codeIn K Ac "opposite"=true) (nU:W.keepIn K (.ref jo)=true) (ou:W.nsIn K mainGlobals "beyond"=some (some (.ref n5))) (aan:K.lookup n5=some ⟨Wg,Wb,.func (W.fnOf "beyond" "beyond" (aH rY) (aF rY) (ay rY) .none W4 Xy VZ X8 GP XG),VM⟩) (abG:W.codeIn K GP "beyond"=true) (qf:W.keepIn K (.ref n5)=true) (lC:W.nsIn K mainGlobals "back_of"=some (some (.ref kT))) (WV:K.lookup kT=some ⟨Na,MZ,.func (W.fnOf "back_of" "back_of" (aH pS) (aF pS) (ay pS) .none NT Oh MI OW DA Ov),Mv⟩) (X0:W.codeIn K DA "back_of"=true) (nF:W.keepIn K (.ref kT)=true) (bY:W.findIn K (.ref aI) "has_place"=some (some (.ref aW))) (xD:K.lookup aW=some ⟨vG,vD,.func (W.fnOf "has_place" "Table.has_place" (aH dU) (aF dU) (ay dU) .none vM vX vj we n9 v7),vf⟩) (yl:W.codeIn K n9 "Table.has_place"=true) (d7:W.keepIn K (.ref aW)=true) (jw:W.nsIn K mainGlobals "comes_in"=some (some (.ref jr))) (NH:K.lookup jr=some ⟨Km,Kg,.func (W.fnOf "comes_in" "comes_in" (aH nP) (aF nP) (ay nP) .none K5 Lk J9 LG Ae Lq),JY⟩) (OJ:W.codeIn K Ae "comes_in"=true) (gW:W.keepIn K (.ref jr)=true) (ir:W.nsIn K mainGlobals "comes_out"=some (some (.ref g8))) (K0:K.lookup g8=some ⟨Ia,HU,.func (W.fnOf "comes_out" "comes_out" (aH mq) (aF mq) (ay mq) .none II Ja HC JA yi Je),Hj⟩) (LA:W.codeIn K yi "comes_out"=true) (jD:W.keepIn K (.ref g8)=true) (om:W.nsIn K mainGlobals "inlets"=some (some (.ref nZ))) (aam:K.lookup nZ=some ⟨Wf,V9,.func (W.fnOf "inlets" "inlets" (aH rX) (aF rX) (ay rX) .none W3 Xx VY X7 GO XF),VL⟩) (abF:W.codeIn K GO "inlets"=true) (nV:W.keepIn K (.ref nZ)=true) (kY:W.nsIn K mainGlobals "outlets"=some (some (.ref kK))) (WH:K.lookup kK=some ⟨M3,MS,.func (W.fnOf "outlets" "outlets" (aH pL) (aF pL) (ay pL) .none NL Oa MB OO Ds Oj),Mn⟩) (XR:W.codeIn K Ds "outlets"=true) (kI:W.keepIn K (.ref kK)=true) (fU:W.nsIn K mainGlobals "all_passes"=some (some (.ref fP))) (Iw:K.lookup fP=some ⟨Et,Em,.func (W.fnOf "all_passes" "all_passes" (aH jN) (aF jN) (ay jN) .none EO E5 Eb Fw uP Fd),D4⟩) (Jm:W.codeIn K uP "all_passes"=true) (iC:W.keepIn K (.ref fP)=true) (k6:W.nsIn K mainGlobals "_law_whole"=some (some (.ref kM))) (WK:K.lookup kM=some ⟨M5,MU,.func (W.fnOf "_law_whole" "_law_whole" (aH pN) (aF pN) (ay pN) .none NO Oc MD OQ Du Om),Mq⟩) (XU:W.codeIn K Du "_law_whole"=true) (nE:W.keepIn K (.ref kM)=true) (lz:W.nsIn K mainGlobals "_law_alike"=some (some (.ref kQ))) (WR:K.lookup kQ=some ⟨M8,MX,.func (W.fnOf "_law_alike" "_law_alike" (aH pQ) (aF pQ) (ay pQ) .none NR Of MG OT Dy Ot),Mt⟩) (XY:W.codeIn K Dy "_law_alike"=true) (kJ:W.keepIn K (.ref kQ)=true) (ly:W.nsIn K mainGlobals "_law_inlet"=some (some (.ref kP))) (WQ:K.lookup kP=some ⟨M7,MW,.func (W.fnOf "_law_inlet" "_law_inlet" (aH pP) (aF pP) (ay pP) .none NQ Oe MF OS Dw Oq),Ms⟩) (XX:W.codeIn K Dw "_law_inlet"=true) (qd:W.keepIn K (.ref kP)=true) (oi:W.nsIn K mainGlobals "_law_told"=some (some (.ref nX))) (aak:K.lookup nX=some ⟨Wc,V7,.func (W.fnOf "_law_told" "_law_told" (aH rV) (aF rV) (ay rV) .none W0 Xv VW X5 GL XD),VI⟩) (abD:W.codeIn K GL "_law_told"=true) (qa:W.keepIn K (.ref nX)=true) (qX:W.nsIn K mainGlobals "_law_odd"=some (some (.ref qU))) (aeV:K.lookup qU=some ⟨ZL,ZJ,.func (W.fnOf "_law_odd" "_law_odd" (aH wL) (aF wL) (ay wL) .none aaw abj Zh abP Lv abt),YV⟩) (afH:W.codeIn K Lv "_law_odd"=true) (xJ:W.keepIn K (.ref qU)=true) (wk:W.nsIn K mainGlobals "_law_is"=some (some (.ref vU))) (aiH:K.lookup vU=some ⟨aeC,aeA,.func (W.fnOf "_law_is" "_law_is" (aH BX) (aF BX) (ay BX) .none ae3 afA aei afN Vb afF),adV⟩) (ajm:W.codeIn K Vb "_law_is"=true) (CZ:W.keepIn K (.ref vU)=true) (fT:W.nsIn K mainGlobals "check_pass"=some (some (.ref fO))) (Iv:K.lookup fO=some ⟨Es,El,.func (W.fnOf "check_pass" "check_pass" (aH jM) (aF jM) (ay jM) .none EN E4 Ea Fv uO Fc),D3⟩) (Jl:W.codeIn K uO "check_pass"=true) (iB:W.keepIn K (.ref fO)=true) (bB:W.findIn K (.ref aI) "check_place"=some (some (.ref aP))) (uq:K.lookup aP=some ⟨sE,sD,.func (W.fnOf "check_place" "Table.check_place" (aH cQ) (aF cQ) (ay cQ) .none sR sV r6 tF mG sY),rT⟩) (uB:W.codeIn K mG "Table.check_place"=true) (cR:W.keepIn K (.ref aP)=true) (bX:W.findIn K (.ref aI) "other_end"=some (some (.ref aV))) (xC:K.lookup aV=some ⟨vF,vC,.func (W.fnOf "other_end" "Table.other_end" (aH dS) (aF dS) (ay dS) .none vL vW vh wc n6 v5),ve⟩) (yj:W.codeIn K n6 "Table.other_end"=true) (dZ:W.keepIn K (.ref aV)=true) (fW:W.findIn K (.ref aI) "cell"=some (some (.ref cT))) (IA:K.lookup cT=some ⟨Ew,Eo,.func (W.fnOf "cell" "Table.cell" (aH jP) (aF jP) (ay jP) .none ES E7 Ed Fy uR Ff),D6⟩) (Jp:W.codeIn K uR "Table.cell"=true) (jZ:W.keepIn K (.ref cT)=true) (fX:W.findIn K (.ref aQ) "leads"=some (some (.ref cU))) (IB:K.lookup cU=some ⟨Ex,Ep,.func (W.fnOf "leads" "Cell.leads" (aH jQ) (aF jQ) (ay jQ) .none ET E8 Ef FD uS Fg),D7⟩) (Jq:W.codeIn K uS "Cell.leads"=true) (j0:W.keepIn K (.ref cU)=true) (dG:W.findIn K (.ref aM) "leads"=some (some (.ref bU))) (CU:K.lookup bU=some ⟨AE,Az,.func (W.fnOf "leads" "Mirror.leads" (aH gR) (aF gR) (ay gR) .none AS A2 Aq Bf rD A9),Al⟩) (DF:W.codeIn K rD "Mirror.leads"=true) (gY:W.keepIn K (.ref bU)=true) (fV:W.findIn K (.ref bD) "leads"=some (some (.ref cS))) (Iz:K.lookup cS=some ⟨Eu,En,.func (W.fnOf "leads" "Wall.leads" (aH jO) (aF jO) (ay jO) .none ER E6 Ec Fx uQ Fe),D5⟩) (Jo:W.codeIn K uQ "Wall.leads"=true) (jY:W.keepIn K (.ref cS)=true) (kZ:W.nsIn K mainGlobals "leaving"=some (some (.ref kL))) (WJ:K.lookup kL=some ⟨M4,MT,.func (W.fnOf "leaving" "leaving" (aH pM) (aF pM) (ay pM) .none NN Ob MC OP Dt Ol),Mp⟩) (XS:W.codeIn K Dt "leaving"=true) (p9:W.keepIn K (.ref kL)=true) (lA:W.nsIn K mainGlobals "goes_on"=some (some (.ref kR))) (WU:K.lookup kR=some ⟨M9,MY,.func (W.fnOf "goes_on" "goes_on" (aH pR) (aF pR) (ay pR) .none NS Og MH OV Dz Ou),Mu⟩) (XZ:W.codeIn K Dz "goes_on"=true) (qe:W.keepIn K (.ref kR)=true) (bL:W.findIn K (.ref aQ) "swallows"=some (some (.ref bq))) (AM:K.lookup bq=some ⟨zc,yZ,.func (W.fnOf "swallows" "Cell.swallows" (aH gg) (aF gg) (ay gg) .none zx zA yM zH qk zC),yI⟩) (Bb:W.codeIn K qk "Cell.swallows"=true) (dN:W.keepIn K (.ref bq)=true) (cM:W.findIn K (.ref bD) "swallows"=some (some (.ref bK))) (AL:K.lookup bK=some ⟨y9,yY,.func (W.fnOf "swallows" "Wall.swallows" (aH gf) (aF gf) (ay gf) .none zw zz yL zG qj zB),yH⟩) (Ba:W.codeIn K qj "Wall.swallows"=true) (gj:W.keepIn K (.ref bK)=true) (dB:W.nsIn K mainGlobals "swallowed_at"=some (some (.ref dj))) (CP:K.lookup dj=some ⟨AA,Aw,.func (W.fnOf "swallowed_at" "swallowed_at" (aH gO) (aF gO) (ay gO) .none AO AZ Am Bc rA A6),Ai⟩) (DB:W.codeIn K rA "swallowed_at"=true) (gT:W.keepIn K (.ref dj)=true) (ie:W.nsIn K mainGlobals "_law_refused"=some (some (.ref g6))) (KY:K.lookup g6=some ⟨HY,HR,.func (W.fnOf "_law_refused" "_law_refused" (aH mh) (aF mh) (ay mh) .none IF IZ HA Jy yg Jc),Hh⟩) (Ly:W.codeIn K yg "_law_refused"=true) (jB:W.keepIn K (.ref g6)=true) (Af:W.nsIn K mainGlobals "law"=some (some (.ref z9))) (al7:K.lookup z9=some ⟨aip,aio,.func (W.fnOf "law" "law" (aH J0) (aF J0) (ay J0) .none aiQ ajd ahY ajt abx ajj),ahL⟩) (amS:W.codeIn K abx "law"=true) (UQ:W.keepIn K (.ref z9)=true) (mV:W.nsIn K mainGlobals "ValueError"=some none) (JJ:W.nsIn K mainGlobals "all"=some none) (G0:W.nsIn K mainGlobals "bool"=some none) (lT:W.nsIn K mainGlobals "enumerate"=some none) (TZ:W.nsIn K mainGlobals "int"=some none) (bR:W.nsIn K mainGlobals "isinstance"=some none) (rN:W.nsIn K mainGlobals "len"=some none) (GZ:W.nsIn K mainGlobals "list"=some none) (lG:W.nsIn K mainGlobals "range"=some none) (nH:W.nsIn K mainGlobals "sorted"=some none) (tK:W.nsIn K mainGlobals "tuple"=some none) (afp:W.nsIn K mainGlobals "EAST"=some (some (.int 0 JV))) (AV:W.nsIn K mainGlobals "LONGEST_SIDE"=some (some (.int 16 pJ))) (aaZ:W.nsIn K mainGlobals "NORTH"=some (some (.int 1 FZ))) (ai1:W.nsIn K mainGlobals "ONE"=some (some (.ref JF))) (aao:K.lookup JF=some ⟨.type "tuple",M0,.seq [.int 1 adS,.int 1 adR].toArray Nf,Mw⟩) (afo:W.nsIn K mainGlobals "WAYS"=some (some (.ref zN))) (NJ:K.lookup zN=some ⟨.type "tuple",HW,.seq [.int 0 YR,.int 1 YQ,.int 2 YO,.int 3 VG].toArray Ic,Ho⟩) (afn:W.nsIn K mainGlobals "WEST"=some (some (.int 2 FY))) (afm:W.nsIn K mainGlobals "ZERO"=some (some (.ref zM))) (NI:K.lookup zM=some ⟨.type "tuple",HV,.seq [.int 0 VF,.int 1 VE].toArray Ib,Hl⟩) (Zp:W.plainGet K aQ Str.empty=true) (aaV:W.hasDictIn K aQ=true) (Zf:W.plainOver K aQ=true) (Y3:W.findIn K (.ref aQ) "__setattr__"=some (some (.builtin "object.__setattr__"))) (Xe:W.findIn K (.ref aQ) "__class__"=some (some (.builtin "object.__class__"))) (Xc:W.mroIn K aQ (.type "object")=some true) (Z1:W.makesIn K aQ=true) (aas:W.keepIn K (.ref aQ)=true) (aaM:W.findIn K (.ref aQ) "__init__"=some (some (.builtin "object.__init__"))) (jW:W.findIn K (.ref aQ) "leads"=some (some (.ref cU))) (gH:W.findIn K (.ref aQ) "swallows"=some (some (.ref bq))) (EC:W.findIn K (.ref aQ) "ends"=some none) (EB:W.findIn K (.ref aQ) "grid"=some none) (Cw:W.findIn K (.ref aQ) "slant"=some none) (V2:W.plainGet K aM Str.empty=true) (Xi:W.hasDictIn K aM=true) (VV:W.plainOver K aM=true) (VO:W.findIn K (.ref aM) "__setattr__"=some (some (.builtin "object.__setattr__"))) (NY:W.findIn K (.ref aM) "__class__"=some (some (.builtin "object.__class__"))) (NX:W.mroIn K aM (.type "object")=some true) (Wv:W.makesIn K aM=true) (WX:W.keepIn K (.ref aM)=true) (W9:W.findIn K (.ref aM) "__init__"=some (some (.ref aX))) (jh:W.findIn K (.ref aM) "leads"=some (some (.ref bU))) (fL:W.findIn K (.ref aM) "swallows"=some (some (.ref bq))) (Cv:W.findIn K (.ref aM) "ends"=some none) (Cu:W.findIn K (.ref aM) "grid"=some none) (AH:W.findIn K (.ref aM) "slant"=some none) (aep:W.plainGet K bD Str.empty=true) (afl:W.hasDictIn K bD=true) (aeg:W.plainOver K bD=true) (adZ:W.findIn K (.ref bD) "__setattr__"=some (some (.builtin "object.__setattr__"))) (aaP:W.findIn K (.ref bD) "__class__"=some (some (.builtin "object.__class__"))) (aaO:W.mroIn K bD (.type "object")=some true) (aeN:W.makesIn K bD=true) (ae0:W.keepIn K (.ref bD)=true) (afc:W.findIn K (.ref bD) "__init__"=some (some (.builtin "object.__init__"))) (lN:W.findIn K (.ref bD) "leads"=some (some (.ref cS))) (iA:W.findIn K (.ref bD) "swallows"=some (some (.ref bK))) (Ih:W.findIn K (.ref bD) "ends"=some none) (Ig:W.findIn K (.ref bD) "grid"=some none) (Ey:W.findIn K (.ref bD) "slant"=some none) (Zo:W.plainGet K aI Str.empty=true) (aaU:W.hasDictIn K aI=true) (Ze:W.plainOver K aI=true) (Y0:W.findIn K (.ref aI) "__setattr__"=some (some (.builtin "object.__setattr__"))) (Xd:W.findIn K (.ref aI) "__class__"=some (some (.builtin "object.__class__"))) (Xa:W.mroIn K aI (.type "object")=some true) (Z0:W.makesIn K aI=true) (aar:W.keepIn K (.ref aI)=true) (aaL:W.findIn K (.ref aI) "__init__"=some (some (.ref br))) (jV:W.findIn K (.ref aI) "width"=some (some (.ref cy))) (jg:W.findIn K (.ref aI) "height"=some (some (.ref bT))) (fK:W.findIn K (.ref aI) "has_place"=some (some (.ref aW))) (fJ:W.findIn K (.ref aI) "other_end"=some (some (.ref aV))) (lO:W.findIn K (.ref aI) "cell"=some (some (.ref cT))) (dX:W.findIn K (.ref aI) "check_place"=some (some (.ref aP))) (EA:W.findIn K (.ref aI) "ends"=some none) (Ez:W.findIn K (.ref aI) "grid"=some none) (Cs:W.findIn K (.ref aI) "slant"=some none) (ic2:W.specialIn K (.builtin "object.__class__") "__get__"=some (some (.builtin "getset_descriptor.__get__"))) (ic3:W.takesIn K (.builtin "object.__class__")=some true) (nd:([aQ,aM,bD,aI]:List Addr).Nodup) (vS:W.isFn K (.ref aX)=true) (xT:W.isFn K (.ref br)=true) (C8:W.isFn K (.ref cy)=true) (AX:W.isFn K (.ref bT)=true) (vR:W.isFn K (.ref aW)=true) (sS:W.isFn K (.ref aP)=true) (vQ:W.isFn K (.ref aV)=true) (EZ:W.isFn K (.ref cT)=true) (E0:W.isFn K (.ref cU)=true) (AY:W.isFn K (.ref bU)=true) (EY:W.isFn K (.ref cS)=true) (qi:W.isFn K (.ref bq)=true) (zy:W.isFn K (.ref bK)=true) (wB:W.excIn K bz OM "ValueError.__new__"=true) (Xm:W.findIn K (.ref bz) "__getattribute__"=some (some (.builtin "BaseException.__getattribute__"))) (Xk:W.findIn K (.ref bz) "__getattr__"=some none) (XO:W.findIn K (.ref bz) "__class__"=some (some (.builtin "object.__class__"))) (Ws:W.mroIn K bz (.type "object")=some true) (Wx:W.subIn K (.ref bz) (.type "BaseException")=some true) (XI:W.isClsIn K bz=true) (vO:W.exmOne K (.ref bz) (.ref cH)=some true) (wC:W.excIn K bA OM "ValueError.__new__"=true) (Xn:W.findIn K (.ref bA) "__getattribute__"=some (some (.builtin "BaseException.__getattribute__"))) (Xl:W.findIn K (.ref bA) "__getattr__"=some none) (XQ:W.findIn K (.ref bA) "__class__"=some (some (.builtin "object.__class__"))) (Wu:W.mroIn K bA (.type "object")=some true) (Wy:W.subIn K (.ref bA) (.type "BaseException")=some true) (XJ:W.isClsIn K bA=true) (vP:W.exmOne K (.ref bA) (.ref cH)=some true) (nA:W.excIn K aY OM "ValueError.__new__"=true) (N3:W.findIn K (.ref aY) "__getattribute__"=some (some (.builtin "BaseException.__getattribute__"))) (NZ:W.findIn K (.ref aY) "__getattr__"=some none) (OF:W.findIn K (.ref aY) "__class__"=some (some (.builtin "object.__class__"))) (Nn:W.mroIn K aY (.type "object")=some true) (Nu:W.subIn K (.ref aY) (.type "BaseException")=some true) (OC:W.isClsIn K aY=true) (uv:W.exmOne K (.ref aY) (.ref cH)=some true) (tN:W.excIn K aS OM "ValueError.__new__"=true) (N4:W.findIn K (.ref aS) "__getattribute__"=some (some (.builtin "BaseException.__getattribute__"))) (N1:W.findIn K (.ref aS) "__getattr__"=some none) (OG:W.findIn K (.ref aS) "__class__"=some (some (.builtin "object.__class__"))) (Np:W.mroIn K aS (.type "object")=some true) (Nv:W.subIn K (.ref aS) (.type "BaseException")=some true) (OD:W.isClsIn K aS=true) (uw:W.exmOne K (.ref aS) (.ref cH)=some true) (ik:isAll K mt [("NoPass",bz),("NoCell",bA),("NoTable",aY),("NoPlace",aS)] ([("Empty",(aQ,[])),("Mirror",(aM,["slant"])),("Wall",(bD,[])),("Table",(aI,["grid","ends"]))]:qo) [(.ref q8,"Fibre"),(.type "bool","bool"),(.type "int","int"),(.type "tuple","tuple"),(.type "list","list"),(.ref aS,"NoPlace"),(.ref bA,"NoCell"),(.type "ValueError","ValueError"),(.ref bz,"NoPass")]=true):
  ∃(cb:Cb) (fd:FuncData),(∀(s:Shared) (u:Value),BindsTo s fd ⟨[u],[]⟩ [("_law_script",u)])/\∀base:Heap,jx P w K mg base cb 9 fa fd ["_law_script"] DR:=by
 have e:fa=z9:=Value.ref.inj (Option.some.inj (hfa.symm.trans (W.mg_of X G Af)));rw[e];have cg:=aO (st:=mj) KZ Lz jC;have bO:=cg.binds (ps:=sf) λ _ _ _ _ _ _ us hl=>by obtain ⟨u0,u1,rfl⟩:=vK hl;rfl
 have kr:=aO (st:=rW) aal abE qc;have i8:=kr.binds (ps:=B9) λ _ _ _ _ _ _ us hl=>by obtain ⟨u0,rfl⟩:=qH hl;rfl
 have jb:=aO (st:=iQ) EJ Fj iT;have eU:=jb.binds (ps:=o8) λ _ _ _ _ _ _ us hl=>by obtain ⟨u0,rfl⟩:=qH hl;rfl
 have b7:=aO (st:=dW) xE ym gI;have bW:=b7.binds (ps:=jT) λ _ _ _ _ _ _ us hl=>by obtain ⟨u0,u1,rfl⟩:=vK hl;rfl
 have c9:=aO (st:=iR) EK Fl iU;have cY:=c9.binds (ps:=o9) λ _ _ _ _ _ _ us hl=>by obtain ⟨u0,rfl⟩:=qH hl;rfl
 have dI:=aO (st:=gP) CS DC gU;have cD:=dI.binds (ps:=nR) λ _ _ _ _ _ _ us hl=>by obtain ⟨u0,rfl⟩:=qH hl;rfl
 have eG:=aO (st:=jL) Iu Jk jX;have d9:=eG.binds (ps:=qy) λ _ _ _ _ _ _ us hl=>by obtain ⟨u0,rfl⟩:=qH hl;rfl
 have bQ:=aO (st:=fq) zo zE iD;have bP:=bQ.binds (ps:=kH) λ _ _ _ _ _ _ us hl=>by obtain ⟨u0,u1,rfl⟩:=vK hl;rfl
 have lE:=aO (st:=pO) WN XW qb;have jG:=lE.binds (ps:=yR) λ _ _ _ _ _ _ us hl=>by obtain ⟨u0,u1,u2,rfl⟩:=AK hl;rfl
 have cN:=aO (st:=nN) NG OI jn;have cu:=cN.binds (ps:=vo) λ _ _ _ _ _ _ us hl=>by obtain ⟨u0,rfl⟩:=qH hl;rfl
 have lF:=aO (st:=BY) aiI ajn pB;have kX:=lF.binds (ps:=ML) λ _ _ _ _ _ _ us hl=>by obtain ⟨u0,u1,u2,u3,rfl⟩:=ap5 hl;rfl
 have qZ:=aO (st:=wM) aeW afI xK;have oX:=qZ.binds (ps:=HJ) λ _ _ _ _ _ _ us hl=>by obtain ⟨u0,u1,rfl⟩:=vK hl;rfl
 have e8:=aO (st:=iS) EL Fo iV;have cZ:=e8.binds (ps:=lK) λ _ _ _ _ _ _ us hl=>by obtain ⟨u0,rfl⟩:=qH hl;rfl
 have dJ:=aO (st:=gQ) CT DE gX;have cF:=dJ.binds (ps:=jR) λ _ _ _ _ _ _ us hl=>by obtain ⟨u0,rfl⟩:=qH hl;rfl
 have cG:=aO (st:=lZ) KW Lx jA;have d8:=cG.binds (ps:=sd) λ _ _ _ _ _ _ us hl=>by obtain ⟨u0,rfl⟩:=qH hl;rfl
 have lD:=aO (st:=nM) NF OH nU;have jt:=lD.binds (ps:=vn) λ _ _ _ _ _ _ us hl=>by obtain ⟨u0,rfl⟩:=qH hl;rfl
 have ku:=aO (st:=rY) aan abG qf;have kq:=ku.binds (ps:=Cc) λ _ _ _ _ _ _ us hl=>by obtain ⟨u0,u1,u2,rfl⟩:=AK hl;rfl
 have gB:=aO (st:=pS) WV X0 nF;have iH:=gB.binds (ps:=yV) λ _ _ _ _ _ _ us hl=>by obtain ⟨u0,rfl⟩:=qH hl;rfl
 have b6:=aO (st:=dU) xD yl d7;have bI:=b6.binds (ps:=gG) λ _ _ _ _ _ _ us hl=>by obtain ⟨u0,u1,u2,rfl⟩:=AK hl;rfl
 have eZ:=aO (st:=nP) NH OJ gW;have dw:=eZ.binds (ps:=vp) λ _ _ _ _ _ _ us hl=>by obtain ⟨u0,u1,rfl⟩:=vK hl;rfl
 have c8:=aO (st:=mq) K0 LA jD;have ef:=c8.binds (ps:=sj) λ _ _ _ _ _ _ us hl=>by obtain ⟨u0,u1,rfl⟩:=vK hl;rfl
 have iu:=aO (st:=rX) aam abF nV;have i9:=iu.binds (ps:=Ca) λ _ _ _ _ _ _ us hl=>by obtain ⟨u0,rfl⟩:=qH hl;rfl
 have gz:=aO (st:=pL) WH XR kI;have gx:=gz.binds (ps:=yO) λ _ _ _ _ _ _ us hl=>by obtain ⟨u0,rfl⟩:=qH hl;rfl
 have eK:=aO (st:=jN) Iw Jm iC;have cW:=eK.binds (ps:=qA) λ _ _ _ _ _ _ us hl=>by obtain ⟨u0,rfl⟩:=qH hl;rfl
 have gA:=aO (st:=pN) WK XU nE;have iF:=gA.binds (ps:=yQ) λ _ _ _ _ _ _ us hl=>by obtain ⟨u0,rfl⟩:=qH hl;rfl
 have iI:=aO (st:=pQ) WR XY kJ;have gy:=iI.binds (ps:=yT) λ _ _ _ _ _ _ us hl=>by obtain ⟨u0,u1,rfl⟩:=vK hl;rfl
 have jI:=aO (st:=pP) WQ XX qd;have jH:=jI.binds (ps:=yS) λ _ _ _ _ _ _ us hl=>by obtain ⟨u0,u1,u2,rfl⟩:=AK hl;rfl
 have mJ:=aO (st:=rV) aak abD qa;have ko:=mJ.binds (ps:=B8) λ _ _ _ _ _ _ us hl=>by obtain ⟨u0,u1,u2,rfl⟩:=AK hl;rfl
 have oZ:=aO (st:=wL) aeV afH xJ;have nu:=oZ.binds (ps:=HH) λ _ _ _ _ _ _ us hl=>by obtain ⟨u0,u1,u2,rfl⟩:=AK hl;rfl
 have tH:=aO (st:=BX) aiH ajm CZ;have qW:=tH.binds (ps:=MK) λ _ _ _ _ _ _ us hl=>by obtain ⟨u0,u1,u2,rfl⟩:=AK hl;rfl
 have bM:=aO (st:=jM) Iv Jl iB;have cz:=bM.binds (ps:=qz) λ _ _ _ _ _ _ us hl=>by obtain ⟨u0,u1,rfl⟩:=vK hl;rfl
 have bC:=aO (st:=cQ) uq uB cR;have aU:=bC.binds (ps:=fc) λ _ _ _ _ _ _ us hl=>by obtain ⟨u0,u1,u2,rfl⟩:=AK hl;rfl
 have b5:=aO (st:=dS) xC yj dZ;have bH:=b5.binds (ps:=gF) λ _ _ _ _ _ _ us hl=>by obtain ⟨u0,u1,u2,rfl⟩:=AK hl;rfl
 have fY:=aO (st:=jP) IA Jp jZ;have eg:=fY.binds (ps:=mY) λ _ _ _ _ _ _ us hl=>by obtain ⟨u0,u1,u2,rfl⟩:=AK hl;rfl
 have kC:=aO (st:=jQ) IB Jq j0;have fR:=kC.binds (ps:=mZ) λ _ _ _ _ _ _ us hl=>by obtain ⟨u0,u1,rfl⟩:=vK hl;rfl
 have iw:=aO (st:=gR) CU DF gY;have dz:=iw.binds (ps:=jS) λ _ _ _ _ _ _ us hl=>by obtain ⟨u0,u1,rfl⟩:=vK hl;rfl
 have kB:=aO (st:=jO) Iz Jo jY;have fQ:=kB.binds (ps:=mX) λ _ _ _ _ _ _ us hl=>by obtain ⟨u0,u1,rfl⟩:=vK hl;rfl
 have dQ:=aO (st:=pM) WJ XS p9;have jF:=dQ.binds (ps:=yP) λ _ _ _ _ _ _ us hl=>by obtain ⟨u0,u1,rfl⟩:=vK hl;rfl
 have iJ:=aO (st:=pR) WU XZ qe;have iG:=iJ.binds (ps:=yU) λ _ _ _ _ _ _ us hl=>by obtain ⟨u0,u1,rfl⟩:=vK hl;rfl
 have dR:=aO (st:=gg) AM Bb dN;have b9:=dR.binds (ps:=gi) λ _ _ _ _ _ _ us hl=>by obtain ⟨u0,rfl⟩:=qH hl;rfl
 have gr:=aO (st:=gf) AL Ba gj;have cL:=gr.binds (ps:=jf) λ _ _ _ _ _ _ us hl=>by obtain ⟨u0,rfl⟩:=qH hl;rfl
 have bZ:=aO (st:=gO) CP DB gT;have bV:=bZ.binds (ps:=nQ) λ _ _ _ _ _ _ us hl=>by obtain ⟨u0,u1,rfl⟩:=vK hl;rfl
 have eF:=aO (st:=mh) KY Ly jB;have cX:=eF.binds (ps:=se) λ _ _ _ _ _ _ us hl=>by obtain ⟨u0,u1,u2,rfl⟩:=AK hl;rfl
 have DR:=aO (st:=J0) al7 amS UQ;have DG:=DR.binds (ps:=ZA) λ _ _ _ _ _ _ us hl=>by obtain ⟨u0,rfl⟩:=qH hl;rfl
 have Vk:XT K bz:=⟨Xm,Xk,XO,Ws,Wx,XI⟩;have Vl:XT K bA:=⟨Xn,Xl,XQ,Wu,Wy,XJ⟩;have LN:XT K aY:=⟨N3,NZ,OF,Nn,Nu,OC⟩;have LP:XT K aS:=⟨N4,N1,OG,Np,Nv,OD⟩;have ki:FF K aQ:=⟨Zp,aaV,Zf,Y3⟩;have iE:FF K aM:=⟨V2,Xi,VV,VO⟩;have nk:FF K bD:=⟨aep,afl,aeg,adZ⟩;have fB:FF K aI:=⟨Zo,aaU,Ze,Y0⟩;let M:Tx K mg (abz [("NoPass",bz),("NoCell",bA),("NoTable",aY),("NoPlace",aS)] ([("Empty",(aQ,[])),("Mirror",(aM,["slant"])),("Wall",(bD,[])),("Table",(aI,["grid","ends"]))]:qo)):={
  ig:=g7,nh:=_,jC:=jC,g7:=cg,bO:=bO,
  sN:=W.mg_of X G ig,
  oj:=nY,tZ:=_,qc:=qc,nY:=kr,i8:=i8,
  CK:=W.mg_of X G oj,
  eV:=eO,j5:=_,iT:=iT,eO:=jb,eU:=eU,
  uI:=W.mg_of X G eV,
  cJ:=aX,fM:=_,gI:=gI,aX:=b7,bW:=bW,
  eX:=eT,kc:=_,iU:=iU,eT:=c9,cY:=cY,
  uJ:=W.mg_of X G eX,
  dD:=dm,jl:=_,gU:=gU,dm:=dI,cD:=cD,
  sO:=W.mg_of X G dD,
  fS:=fN,lP:=_,jX:=jX,fN:=eG,d9:=d9,
  xA:=W.mg_of X G fS,
  dg:=br,gJ:=_,iD:=iD,br:=bQ,bP:=bP,
  lu:=kO,qO:=_,qb:=qb,kO:=lE,jG:=jG,
  Gk:=W.mg_of X G lu,
  jv:=jq,oR:=_,jn:=jn,jq:=cN,cu:=cu,
  qD:=W.mg_of X G jv,
  wm:=vV,BC:=_,pB:=pB,vV:=lF,kX:=kX,
  vI:=W.mg_of X G wm,
  qY:=qV,xW:=_,xK:=xK,qV:=qZ,oX:=oX,
  UK:=W.mg_of X G qY,
  eY:=cy,gZ:=_,iV:=iV,cy:=e8,cZ:=cZ,
  dF:=bT,gp:=_,gX:=gX,bT:=dJ,cF:=cF,
  g9:=g5,m9:=_,jA:=jA,g5:=cG,d8:=d8,
  sL:=W.mg_of X G g9,
  ju:=jo,oQ:=_,nU:=nU,jo:=lD,jt:=jt,
  CI:=W.mg_of X G ju,
  ou:=n5,uc:=_,qf:=qf,n5:=ku,kq:=kq,
  CL:=W.mg_of X G ou,
  lC:=kT,qS:=_,nF:=nF,kT:=gB,iH:=iH,
  zj:=W.mg_of X G lC,
  bY:=aW,di:=_,d7:=d7,aW:=b6,bI:=bI,
  jw:=jr,oS:=_,gW:=gW,jr:=eZ,dw:=dw,
  nT:=W.mg_of X G jw,
  ir:=g8,ni:=_,jD:=jD,g8:=c8,ef:=ef,
  sP:=W.mg_of X G ir,
  om:=nZ,t9:=_,nV:=nV,nZ:=iu,i9:=i9,
  xy:=W.mg_of X G om,
  kY:=kK,qL:=_,kI:=kI,kK:=gz,gx:=gx,
  tV:=W.mg_of X G kY,
  fU:=fP,lR:=_,iC:=iC,fP:=eK,cW:=cW,
  qF:=W.mg_of X G fU,
  k6:=kM,qN:=_,nE:=nE,kM:=gA,iF:=iF,
  zh:=W.mg_of X G k6,
  lz:=kQ,qQ:=_,kJ:=kJ,kQ:=iI,gy:=gy,
  tW:=W.mg_of X G lz,
  ly:=kP,qP:=_,qd:=qd,kP:=jI,jH:=jH,
  Gm:=W.mg_of X G ly,
  oi:=nX,tY:=_,qa:=qa,nX:=mJ,ko:=ko,
  CJ:=W.mg_of X G oi,
  qX:=qU,xV:=_,xJ:=xJ,qU:=oZ,nu:=nu,
  UJ:=W.mg_of X G qX,
  wk:=vU,BB:=_,CZ:=CZ,vU:=tH,qW:=qW,
  Z4:=W.mg_of X G wk,
  fT:=fO,lQ:=_,iB:=iB,fO:=bM,cz:=cz,
  qE:=W.mg_of X G fT,
  bB:=aP,cC:=_,cR:=cR,aP:=bC,aU:=aU,
  bX:=aV,dh:=_,dZ:=dZ,aV:=b5,bH:=bH,
  fW:=cT,iX:=_,jZ:=jZ,cT:=fY,eg:=eg,
  fX:=cU,iY:=_,j0:=j0,cU:=kC,fR:=fR,
  dG:=bU,gq:=_,gY:=gY,bU:=iw,dz:=dz,
  fV:=cS,iW:=_,jY:=jY,cS:=kB,fQ:=fQ,
  kZ:=kL,qM:=_,p9:=p9,kL:=dQ,jF:=jF,
  Gj:=W.mg_of X G kZ,
  lA:=kR,qR:=_,qe:=qe,kR:=iJ,iG:=iG,
  Gn:=W.mg_of X G lA,
  bL:=bq,dc:=_,dN:=dN,bq:=dR,b9:=b9,
  cM:=bK,fu:=_,gj:=gj,bK:=gr,cL:=cL,
  dB:=dj,jk:=_,gT:=gT,dj:=bZ,bV:=bV,
  sJ:=W.mg_of X G dB,
  ie:=g6,ng:=_,jB:=jB,g6:=eF,cX:=cX,
  sM:=W.mg_of X G ie,
  Af:=z9,IW:=_,UQ:=UQ,z9:=DR,DG:=DG,
  al5:=W.mg_of X G Af,
  mV:=W.mg_none_of X G mV,
  JJ:=W.mg_none_of X G JJ,
  G0:=W.mg_none_of X G G0,
  lT:=W.mg_none_of X G lT,
  TZ:=W.mg_none_of X G TZ,
  bR:=W.mg_none_of X G bR,
  rN:=W.mg_none_of X G rN,
  GZ:=W.mg_none_of X G GZ,
  lG:=W.mg_none_of X G lG,
  nH:=W.mg_none_of X G nH,
  tK:=W.mg_none_of X G tK,
  L6:=(.int 0 JV),YH:=W.mg_of X G afp,aa2:=jj,
  nK:=(.int 16 pJ),nJ:=W.mg_of X G AV,nW:=jj,
  G9:=(.int 1 FZ),Uh:=W.mg_of X G aaZ,U4:=jj,
  YI:=(.ref JF),Ug:=W.mg_of X G ai1,U3:=(IT aao (by simp) (jE jj (jE jj C6))),
  L5:=(.ref zN),L0:=W.mg_of X G afo,N6:=(IT NJ (by simp) (jE jj (jE jj (jE jj (jE jj C6))))),
  L3:=(.int 2 FY),YG:=W.mg_of X G afn,aa1:=jj,
  L1:=(.ref zM),LY:=W.mg_of X G afm,N5:=(IT NI (by simp) (jE jj (jE jj C6))),
  cH:=cH,z8:=W.mg_of X G Lg,
  bA:=bA,La:=W.mg_of X G Lf,
  aY:=aY,Xo:=W.mg_of X G GD,
  aS:=aS,Gx:=W.mg_of X G GF,
  bz:=bz,K9:=W.mg_of X G Le,
  aQ:=aQ,U6:=W.mg_of X G afy,
  aM:=aM,Lb:=W.mg_of X G abb,
  bD:=bD,aa0:=W.mg_of X G ajb,
  q8:=q8,U5:=W.mg_of X G afx,
  aI:=aI,U1:=W.mg_of X G afw,
  Bm:=rfl,aeM:=rfl,ki:=ki,
  KG:=⟨Z1,aaM,aas⟩,
  jW:=⟨jW,E0,j0⟩,
  gH:=⟨gH,qi,dN⟩,
  wR:=rfl,Kw:=rfl,iE:=iE,
  Gi:=⟨Wv,W9,vS,WX⟩,
  jh:=⟨jh,AY,gY⟩,
  fL:=⟨fL,qi,dN⟩,
  Hx:=rfl,aix:=rfl,nk:=nk,
  UH:=⟨aeN,afc,ae0⟩,
  lN:=⟨lN,EY,jY⟩,
  iA:=⟨iA,zy,gj⟩,
  oJ:=rfl,UE:=rfl,fB:=fB,
  KC:=⟨Z0,aaL,xT,aar⟩,
  jV:=⟨jV,C8,iV⟩,
  jg:=⟨jg,AX,gX⟩,
  fK:=⟨fK,vR,d7⟩,
  fJ:=⟨fJ,vQ,dZ⟩,
  lO:=⟨lO,EZ,jZ⟩,
  dX:=⟨dX,sS,cR⟩,
  ft:=afq nd,
  IX:=aa5 (aK ⟨ki,EC⟩ (aK ⟨iE,Cv⟩ (aK ⟨nk,Ih⟩ (aK ⟨fB,EA⟩ fC)))),
  qT:=aa5 (aK ⟨ki,EB⟩ (aK ⟨iE,Cu⟩ (aK ⟨nk,Ig⟩ (aK ⟨fB,Ez⟩ fC)))),
  Dc:=aa5 (aK ⟨ki,Cw⟩ (aK ⟨iE,AH⟩ (aK ⟨nk,Ey⟩ (aK ⟨fB,Cs⟩ fC)))),
  wB:=⟨W.mg_of X G Le,wB,rfl⟩,
  wC:=⟨W.mg_of X G Lf,wC,rfl⟩,
  nA:=⟨W.mg_of X G GD,nA,rfl⟩,
  tN:=⟨W.mg_of X G GF,tN,rfl⟩,
  z6:=λ c C b hc hb=>aa9 (E:=[("NoPass",bz),("NoCell",bA),("NoTable",aY),("NoPlace",aS)]) (P:=λ c C=>∀b,z5 mt "BeamError" c=some b->W.exmOne K (.ref C) (.ref cH)=some b) (aK (hb1 (show z5 mt "BeamError" "NoPass"=some true from by decide) vO) (aK (hb1 (show z5 mt "BeamError" "NoCell"=some true from by decide) vP) (aK (hb1 (show z5 mt "BeamError" "NoTable"=some true from by decide) uv) (aK (hb1 (show z5 mt "BeamError" "NoPlace"=some true from by decide) uw) fC)))) hc b hb,
  xt:=⟨λ c C hc _=>aa9 (E:=[("NoPass",bz),("NoCell",bA),("NoTable",aY),("NoPlace",aS)]) (P:=λ _ C=>XT K C) (aK Vk (aK Vl (aK LN (aK LP fC)))) hc,λ c C ns hc=>aiW (T:=([("Empty",(aQ,[])),("Mirror",(aM,["slant"])),("Wall",(bD,[])),("Table",(aI,["grid","ends"]))]:qo)) (P:=λ _ C=>IC K C) (aK ⟨ki,Xe,ic2,ic3,Xc⟩ (aK ⟨iE,NY,ic2,ic3,NX⟩ (aK ⟨nk,aaP,ic2,ic3,aaO⟩ (aK ⟨fB,Xd,ic2,ic3,Xa⟩ fC)))) hc⟩,
  U0:=IK ik (.head _),
  aaR:=IK ik (.tail _ (.head _)),
  agp:=IK ik (.tail _ (.tail _ (.head _))),
  UZ:=IK ik (.tail _ (.tail _ (.tail _ (.head _)))),
  aaQ:=IK ik (.tail _ (.tail _ (.tail _ (.tail _ (.head _))))),
  Gw:=IK ik (.tail _ (.tail _ (.tail _ (.tail _ (.tail _ (.head _)))))),
  K7:=IK ik (.tail _ (.tail _ (.tail _ (.tail _ (.tail _ (.tail _ (.head _))))))),
  xP:=IK ik (.tail _ (.tail _ (.tail _ (.tail _ (.tail _ (.tail _ (.tail _ (.head _)))))))),
  K6:=IK ik (.tail _ (.tail _ (.tail _ (.tail _ (.tail _ (.tail _ (.tail _ (.tail _ (.head _)))))))))}
 refine ⟨(abz [("NoPass",bz),("NoCell",bA),("NoTable",aY),("NoPlace",aS)] ([("Empty",(aQ,[])),("Mirror",(aM,["slant"])),("Wall",(bD,[])),("Table",(aI,["grid","ends"]))]:qo)),_,?_,λ base=>ain M⟩;exact λ s v=> .of_eq rfl
end K10
end
open PySem PySem.W PyProof.Rows
theorem PySem.Challenge.cw_beamtable_k10_passes_holds : PySem.Challenge.rw_beamtable_k10_passes.Holds := by
 refine KO.looked λ said=>?_
 refine W.holds_openX (q:=W.view PySem.Challenge.pw_beamtable_k10_passes [58]) (loose:=KO.LZ) (Xt:=λ _=>true) (XP:=λ _ _=>True) (Yf:=W.X.obsZ KO.AF)
  (Ya:=W.X.valZ KO.KF 513 847) (N:=8244) KO.hl (λ _ _=>trivial) (λ _ _ _ _ _=>trivial) (by rfl) (by rfl) (by rfl)
  (λ _ _=>W.recFacts_nil rfl) (by rfl) said (by decide+kernel) ⟨rfl,rfl,rfl,rfl,rfl,by decide+kernel⟩ ?hw ?hc
 case hw=>w_witness2
 k_fill
 refine L4.walkZ (l:=PySem.Challenge.rw_beamtable_k10_passes) (k:=9) rfl rfl (by decide) (by decide) (λ _=>by kernel_rfl) ?F K10.aag
 case F=>
  intro w mg fa h KX G hmg
  apply K10.all_mk KX G hmg
  any_goals first|k_is|kernel_rfl|decide
