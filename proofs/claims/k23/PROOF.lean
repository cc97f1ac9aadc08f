import PyProof.Rows.All
import Wide.All
import OpenK.AllK
import Wide.FinOn
import Lean
import PyProof.EqAt
import PyProof.EqKinds
import PyProof.TupleCall
import PyProof.P3Statements
import PyProof.NoPylong
import PySem.Builtin.Int.W1All
import PyProof.StrBlockI
import KE.KSortTup
import PyProof.EnumMake
import PyProof.Draws
import KE.KSortAsk
import KE.KItemsList
import PySem.Challenge.RW_beamtable_k23_light_of_lamps
set_option Elab.async false
set_option linter.all false
set_option maxRecDepth 100000
set_option maxHeartbeats 0
set_option exponentiation.threshold 10000
noncomputable section
section
def KO.looked(h:PySem.Challenge.rw_beamtable_k23_light_of_lamps.row.wellSaid=true->PySem.Challenge.rw_beamtable_k23_light_of_lamps.row.Holds):PySem.Challenge.rw_beamtable_k23_light_of_lamps.Holds:=by w_on;o_law;exact h (by assumption)
namespace KO
open PySem PySem.W PySem.Calls
noncomputable abbrev pq:Program:=W.Fast.tw14610013476844583590
def bE:List Stmt:=behindTheImports pq
noncomputable def g0(l:List Stmt)(i:Nat):Stmt:=(List.drop i l).headD (.Pass ⟨0,0,0,0⟩)
def g1(i:Nat):Stmt:=g0 pq.main.body i
noncomputable def gb:Stmt->List Stmt| .ClassDef _ _ _ b _ _ _ _ _ _ _=>b| .FunctionDef _ _ b _ _ _ _ _ _ _=>b|_=>[]
def g2(i j:Nat):Stmt:=g0 (gb (g1 i)) j
def fo(s:Stmt)(q:Str)(g:Addr)(cl:List (Str×Addr))(d kd doc md:Value)(an:Option Addr)(code ct:Value)(b:Addr):Data:=match s with| .FunctionDef n a bd _ _ _ sc _ _ _=> .func ⟨n,q,a,.stmts bd,sc,g,cl,d,kd,doc,md,an,code,ct,b⟩|_=> .plain
def e(P:Params)(s:Str)(t:Nat)(v:Value):DictEntry:=⟨PySem.PyData.keyHash P s,.str s t,v⟩
def ud(o:Obj)(ch:List (Nat×DictEntry))(m:List DictEntry)(n:Nat):Obj:=match o with|⟨c,d,.dict es _,s⟩=>⟨c,d,.dict ⟨(ch.foldl (λ l p=>l.set p.1 p.2) es.toList)++m⟩ n,s⟩|o=>o
noncomputable abbrev r(a:Nat):Value:= .ref a
noncomputable abbrev z:Value:= .int 0 0
noncomputable abbrev v:Value:= .none
noncomputable abbrev s(x:Str)(t:Nat):Value:= .str x t
noncomputable abbrev y(x:String):Value:= .type x
noncomputable abbrev F(c:Value)(xs:Array Value):Obj:=⟨c,none,.fields xs, #[]⟩
noncomputable abbrev Q(c:Value)(xs:Array Value):Obj:=⟨c,none,.seq xs 0, #[]⟩
noncomputable abbrev lf:Life:=⟨[],[],[],0,[],[],false, #[],[],0,false,false,false,0,[2000,10,10],false,0,true,[],[],0,false⟩
noncomputable abbrev I:=BT.ins
def x0:Str:=⟨⟨[60,109,111,100,117,108,101,62]⟩⟩
noncomputable def x1:Str:=⟨⟨[47,99,108,97,105,109,47,99,117,116,46,112,121]⟩⟩
def x2:Str:=⟨⟨[95,95,109,97,105,110,95,95]⟩⟩
def x3:Str:=⟨⟨[95,95,110,97,109,101,95,95]⟩⟩
noncomputable def x4:Str:=⟨⟨[98,101,97,109,116,97,98,108,101,46,101,114,114,111,114,115]⟩⟩
def x5:Str:=⟨⟨[95,119,97,108,108]⟩⟩
def x6:Str:=⟨⟨[66,101,97,109,69,114,114,111,114]⟩⟩
def x7:Str:=⟨⟨[107]⟩⟩
noncomputable def x8:Str:=⟨⟨[95,95,109,111,100,117,108,101,95,95]⟩⟩
noncomputable def x9:Str:=⟨⟨[95,95,113,117,97,108,110,97,109,101,95,95]⟩⟩
noncomputable def Af:Str:=⟨⟨[95,95,102,105,114,115,116,108,105,110,101,110,111,95,95]⟩⟩
noncomputable def Ae:Str:=⟨⟨[95,95,115,116,97,116,105,99,95,97,116,116,114,105,98,117,116,101,115,95,95]⟩⟩
noncomputable def x12:Str:=⟨⟨[95,95,119,101,97,107,114,101,102,95,95]⟩⟩
def Th:Str:=⟨⟨[95,95,100,111,99,95,95]⟩⟩
noncomputable def Zk:Str:=⟨⟨[78,111,70,114,97,99,116,105,111,110]⟩⟩
def Zj:Str:=⟨⟨[78,111,67,101,108,108]⟩⟩
def Zi:Str:=⟨⟨[78,111,84,97,98,108,101]⟩⟩
def Zh:Str:=⟨⟨[78,111,80,108,97,99,101]⟩⟩
def Zg:Str:=⟨⟨[78,111,80,97,115,115]⟩⟩
noncomputable def x19:Str:=⟨⟨[98,101,97,109,116,97,98,108,101,46,119,97,121,115]⟩⟩
noncomputable def Zf:Str:=⟨⟨[78,111,83,116,114,101,110,103,116,104]⟩⟩
def x21:Str:=⟨⟨[90,69,82,79]⟩⟩
noncomputable def x22:Str:=⟨⟨[103,114,101,97,116,101,115,116,95,100,105,118,105,115,111,114]⟩⟩
def x23:Str:=⟨⟨[102,114,97,99,116,105,111,110]⟩⟩
def x24:Str:=⟨⟨[112,108,117,115]⟩⟩
def x25:Str:=⟨⟨[117,110,100,101,114]⟩⟩
def x26:Str:=⟨⟨[69,65,83,84]⟩⟩
def x27:Str:=⟨⟨[78,79,82,84,72]⟩⟩
def x28:Str:=⟨⟨[87,69,83,84]⟩⟩
def x29:Str:=⟨⟨[111,110,101]⟩⟩
def x30:Str:=⟨⟨[111,116,104,101,114]⟩⟩
def x31:Str:=⟨⟨[108,97,114,103,101,114]⟩⟩
def x32:Str:=⟨⟨[115,109,97,108,108,101,114]⟩⟩
def x33:Str:=⟨⟨[114,101,115,116]⟩⟩
noncomputable def x34:Str:=⟨⟨[98,101,97,109,116,97,98,108,101,46,114,97,116,105,111,115]⟩⟩
def x35:Str:=⟨⟨[116,111,112]⟩⟩
def x36:Str:=⟨⟨[98,111,116,116,111,109]⟩⟩
def x37:Str:=⟨⟨[100,105,118,105,115,111,114]⟩⟩
noncomputable def x38:Str:=⟨⟨[98,101,97,109,116,97,98,108,101,46,102,108,111,119,115]⟩⟩
def x39:Str:=⟨⟨[87,65,89,83]⟩⟩
def x40:Str:=⟨⟨[111,112,112,111,115,105,116,101]⟩⟩
def x41:Str:=⟨⟨[98,101,121,111,110,100]⟩⟩
def x42:Str:=⟨⟨[98,97,99,107,95,111,102]⟩⟩
def x43:Str:=⟨⟨[99,111,109,101,115,95,105,110]⟩⟩
noncomputable def x44:Str:=⟨⟨[99,111,109,101,115,95,111,117,116]⟩⟩
noncomputable def x45:Str:=⟨⟨[99,104,101,99,107,95,112,97,115,115]⟩⟩
noncomputable def x46:Str:=⟨⟨[112,97,115,115,101,115,95,105,110]⟩⟩
def x47:Str:=⟨⟨[105,110,108,101,116,115]⟩⟩
def x48:Str:=⟨⟨[111,117,116,108,101,116,115]⟩⟩
noncomputable def x49:Str:=⟨⟨[97,108,108,95,112,97,115,115,101,115]⟩⟩
noncomputable def x50:Str:=⟨⟨[99,104,101,99,107,95,115,116,114,101,110,103,116,104]⟩⟩
def x51:Str:=⟨⟨[103,97,116,104,101,114,101,100]⟩⟩
def x52:Str:=⟨⟨[119,97,121]⟩⟩
def x53:Str:=⟨⟨[120]⟩⟩
def x54:Str:=⟨⟨[121]⟩⟩
def x55:Str:=⟨⟨[112]⟩⟩
def x56:Str:=⟨⟨[98,101,104,105,110,100]⟩⟩
def x57:Str:=⟨⟨[116,97,98,108,101]⟩⟩
noncomputable def x58:Str:=⟨⟨[98,101,97,109,116,97,98,108,101,46,112,97,115,115,101,115]⟩⟩
def x59:Str:=⟨⟨[115,116,114,101,110,103,116,104]⟩⟩
def x60:Str:=⟨⟨[112,97,105,114,115]⟩⟩
noncomputable def x61:Str:=⟨⟨[115,116,114,101,110,103,116,104,115]⟩⟩
noncomputable def EU:Str:=⟨⟨[98,101,97,109,116,97,98,108,101,46,99,101,108,108,115]⟩⟩
def x63:Str:=⟨⟨[108,105,103,104,116,95,111,102]⟩⟩
def x64:Str:=⟨⟨[76,69,84,84,69,82,83]⟩⟩
noncomputable def x65:Str:=⟨⟨[97,98,99,100,101,102,103,104,105,106,107,108,109,110,111,112,113,114,115,116,117,118,119,120,121,122]⟩⟩
noncomputable def x66:Str:=⟨⟨[76,79,78,71,69,83,84,95,78,65,77,69]⟩⟩
noncomputable def x67:Str:=⟨⟨[99,104,101,99,107,95,110,97,109,101]⟩⟩
def ET:Str:=⟨⟨[67,101,108,108]⟩⟩
def x69:Str:=⟨⟨[108,97,109,112,115]⟩⟩
def x70:Str:=⟨⟨[108,101,97,100,115]⟩⟩
def x71:Str:=⟨⟨[115,119,97,108,108,111,119,115]⟩⟩
def x72:Str:=⟨⟨[116,117,114,110,101,100]⟩⟩
def SO:Str:=⟨⟨[115,101,108,102]⟩⟩
noncomputable def x74:Str:=⟨⟨[67,101,108,108,46,108,101,97,100,115]⟩⟩
noncomputable def x75:Str:=⟨⟨[67,101,108,108,46,115,119,97,108,108,111,119,115]⟩⟩
noncomputable def x76:Str:=⟨⟨[67,101,108,108,46,116,117,114,110,101,100]⟩⟩
def x77:Str:=⟨⟨[95,95,100,105,99,116,95,95]⟩⟩
def Ze:Str:=⟨⟨[69,109,112,116,121]⟩⟩
def x79:Str:=⟨⟨[114,111,119]⟩⟩
noncomputable def x80:Str:=⟨⟨[69,109,112,116,121,46,114,111,119]⟩⟩
noncomputable def Ib:Str:=⟨⟨[98,101,97,109,116,97,98,108,101,46,116,97,98,108,101,115]⟩⟩
def Zd:Str:=⟨⟨[70,105,98,114,101]⟩⟩
noncomputable def x83:Str:=⟨⟨[76,79,78,71,69,83,84,95,83,73,68,69]⟩⟩
noncomputable def x84:Str:=⟨⟨[99,104,101,99,107,95,115,105,100,101,115]⟩⟩
noncomputable def x85:Str:=⟨⟨[102,105,98,114,101,95,112,108,97,99,101,115]⟩⟩
noncomputable def x86:Str:=⟨⟨[102,105,98,114,101,95,101,110,100,115]⟩⟩
def x87:Str:=⟨⟨[95,95,105,110,105,116,95,95]⟩⟩
def x88:Str:=⟨⟨[110,97,109,101]⟩⟩
noncomputable def x89:Str:=⟨⟨[70,105,98,114,101,46,95,95,105,110,105,116,95,95]⟩⟩
def x90:Str:=⟨⟨[70,105,98,114,101,46,114,111,119]⟩⟩
def x91:Str:=⟨⟨[103,114,105,100]⟩⟩
def x92:Str:=⟨⟨[99,101,108,108,115]⟩⟩
def x93:Str:=⟨⟨[112,108,97,99,101,115]⟩⟩
def x94:Str:=⟨⟨[99,101,108,108]⟩⟩
def x95:Str:=⟨⟨[101,110,100,115]⟩⟩
def Zc:Str:=⟨⟨[84,97,98,108,101]⟩⟩
def x97:Str:=⟨⟨[119,105,100,116,104]⟩⟩
def x98:Str:=⟨⟨[104,101,105,103,104,116]⟩⟩
def x99:Str:=⟨⟨[104,97,115,95,112,108,97,99,101]⟩⟩
noncomputable def adv:Str:=⟨⟨[99,104,101,99,107,95,112,108,97,99,101]⟩⟩
noncomputable def adu:Str:=⟨⟨[111,116,104,101,114,95,101,110,100]⟩⟩
def adt:Str:=⟨⟨[114,111,119,115]⟩⟩
noncomputable def ads:Str:=⟨⟨[84,97,98,108,101,46,95,95,105,110,105,116,95,95]⟩⟩
noncomputable def adq:Str:=⟨⟨[84,97,98,108,101,46,119,105,100,116,104]⟩⟩
noncomputable def adp:Str:=⟨⟨[84,97,98,108,101,46,104,101,105,103,104,116]⟩⟩
noncomputable def ado:Str:=⟨⟨[84,97,98,108,101,46,104,97,115,95,112,108,97,99,101]⟩⟩
noncomputable def adn:Str:=⟨⟨[84,97,98,108,101,46,99,104,101,99,107,95,112,108,97,99,101]⟩⟩
noncomputable def adm:Str:=⟨⟨[84,97,98,108,101,46,99,101,108,108]⟩⟩
noncomputable def adl:Str:=⟨⟨[84,97,98,108,101,46,111,116,104,101,114,95,101,110,100]⟩⟩
noncomputable def adk:Str:=⟨⟨[84,97,98,108,101,46,114,111,119,115]⟩⟩
noncomputable def Am:Str:=⟨⟨[108,97,119,95,98,101,97,109,116,97,98,108,101,95,107,50,51,95,108,105,103,104,116,95,111,102,95,108,97,109,112,115]⟩⟩
noncomputable def Qw:Str:=⟨⟨[95,108,97,119,95,99,101,108,108,95,97,116]⟩⟩
noncomputable def Qv:Str:=⟨⟨[95,108,97,119,95,119,104,111,108,101]⟩⟩
def Qu:Str:=⟨⟨[95,108,97,119,95,108,111,119]⟩⟩
noncomputable def Qt:Str:=⟨⟨[95,108,97,119,95,108,97,109,112,115]⟩⟩
noncomputable def Qs:Str:=⟨⟨[95,108,97,119,95,115,112,111,105,108,101,100]⟩⟩
noncomputable def Qq:Str:=⟨⟨[95,108,97,119,95,102,111,117,110,100]⟩⟩
def Qp:Str:=⟨⟨[95,108,97,119,95,100,117,101]⟩⟩
noncomputable def Qo:Str:=⟨⟨[95,108,97,119,95,107,105,110,100,115]⟩⟩
def Ti:Str:=⟨⟨[108,97,119]⟩⟩
noncomputable def ahc:Str:=⟨⟨[95,108,97,119,95,115,99,114,105,112,116]⟩⟩
def ald:Str:=⟨⟨[95,108,97,119,95,107]⟩⟩
noncomputable def ahb:Str:=⟨⟨[95,108,97,119,95,102,111,117,110,100,95,104,101,114,101]⟩⟩
def alc:Str:=⟨⟨[95,108,97,119,95,116,111,112]⟩⟩
noncomputable def alb:Str:=⟨⟨[95,108,97,119,95,98,111,116,116,111,109]⟩⟩
def ala:Str:=⟨⟨[95,108,97,119,95,111,110,101]⟩⟩
noncomputable def ak9:Str:=⟨⟨[95,108,97,119,95,111,116,104,101,114]⟩⟩
noncomputable def ak8:Str:=⟨⟨[95,108,97,119,95,112,97,115,115,101,115]⟩⟩
noncomputable def adi:Str:=⟨⟨[95,108,97,119,95,108,97,109,112,115,95,104,101,114,101]⟩⟩
def aha:Str:=⟨⟨[95,108,97,119,95,99,101,108,108]⟩⟩
def ag9:Str:=⟨⟨[95,108,97,119,95,112]⟩⟩
def ak7:Str:=⟨⟨[95,108,97,119,95,119,105,100,101]⟩⟩
def ak6:Str:=⟨⟨[95,108,97,119,95,104,105,103,104]⟩⟩
def ak5:Str:=⟨⟨[95,108,97,119,95,102,97,114]⟩⟩
def ak4:Str:=⟨⟨[95,108,97,119,95,97,116]⟩⟩
noncomputable def ak3:Str:=⟨⟨[95,108,97,119,95,115,116,114,101,110,103,116,104]⟩⟩
def ak2:Str:=⟨⟨[95,108,97,119,95,110,111,110,101]⟩⟩
def ak1:Str:=⟨⟨[95,108,97,119,95,122,101,114,111]⟩⟩
def ak0:Str:=⟨⟨[95,108,97,119,95,119,97,121]⟩⟩
noncomputable def akZ:Str:=⟨⟨[95,108,97,119,95,116,97,98,108,101]⟩⟩
def akY:Str:=⟨⟨[101]⟩⟩
noncomputable abbrev l0:String:=W.SL.s2766695959194262286x5
noncomputable abbrev l1:String:=W.SL.s5856160107412720595x4
noncomputable abbrev l2:String:=W.SL.s658472552662922059x5
noncomputable abbrev l3:String:=W.SL.s7174869446012820540x8
noncomputable abbrev l4:String:=W.SL.s6070975301684473832x10
noncomputable abbrev l5:String:=W.SL.s10062305145149207511x16
noncomputable abbrev l6:String:=W.SL.s17162191345867700912x4
noncomputable abbrev l7:String:=W.SL.s11030030927630378310x26
noncomputable abbrev l8:String:=W.SL.s14018661285674007319x4
noncomputable abbrev l9:String:=W.SL.s5946037652744460706x9
noncomputable abbrev RB:String:=W.SL.s4278001404047624695x13
noncomputable abbrev zg:String:=W.SL.s2742458400755230247x6
noncomputable abbrev RA:String:=W.SL.s4209523147560561109x18
noncomputable abbrev l13:String:=W.SL.s10220274742760427390x26
noncomputable abbrev l14:String:=W.SL.s14755015743595814543x17
noncomputable abbrev VY:String:=W.SL.s4290257624100764138x5
noncomputable abbrev VX:String:=W.SL.s4860613602091757760x24
noncomputable abbrev l17:String:=W.SL.s11443829558043349243x14
noncomputable abbrev l18:String:=W.SL.s6511155373996960695x17
noncomputable abbrev l19:String:=W.SL.s12411053484034534018x21
def af:Obj:=Q (y l0) #[]
def aq:Obj:=F v #[]
def YE:Obj:=F (y l1) #[s x0 182,s x0 183,s x1 184,.int 1 0,z,z,z,z,r 11,.bool false,.int 181 0,r 12,v,v,v,v,.int 185 0,.int 1 0,s x1 186]
def YD:Obj:=⟨y l2,none,.plain, #[(some (r 13)),(some (r 3)),(some (r 3)),none,(some (s x2 164)),none,(some (r 0))]⟩
def T0(P:Params):BT:=(.node (boot_o_0 P) (.node (boot_o_1 P) (.node (boot_o_3 P) (.node (boot_o_7 P) .nil .nil) (.node af .nil .nil)) (.node (boot_o_5 P) (.node (boot_o_9 P) .nil .nil) (.node YE .nil .nil))) (.node (boot_o_2 P) (.node (boot_o_4 P) (.node (boot_o_8 P) .nil .nil) (.node aq .nil .nil)) (.node (boot_o_6 P) (.node (boot_o_10 P) .nil .nil) (.node YD .nil .nil))))
def S0(P:Params)(os:OsState):SharedT:=⟨T0 P,15,lf, #[],⟨0,0,0,0⟩,187,os⟩
def T1(P:Params):BT:=(T0 P)
def S1(P:Params)(os:OsState):SharedT:=⟨T1 P,15,lf, #[],⟨0,0,0,0⟩,187,os⟩
def ajf(P:Params):Obj:=ud (boot_o_3 P) [(0,e P x3 165 (s x4 194))] [e P x5 193 (r 21),e P x6 213 (r 31)] 11
def aju:Obj:=F v #[.int 1 0,z,r 20,.int 5 0,z,r 27]
def YC:Obj:=Q (y l0) #[s x7 190]
def YB:Obj:=⟨v,none,(fo (g1 0) x5 0 [] v v v v none v v 0), #[]⟩
def YA:Obj:=F (y l1) #[s x5 187,s x5 188,s x1 189,.int 1 0,.int 1 0,z,z,.int 3 0,r 15,.bool true,.int 181 0,r 16,v,r 17,r 18,r 19,.int 191 0,.int 1 0,s x1 192]
def Yz:Obj:=⟨y l3,none,(fo (g1 0) x5 3 [] v v v (s x2 164) none (r 20) v 0), #[]⟩
def Yx:Obj:=Q (y l0) #[y l4]
def fR:Obj:=F (y l7) #[.builtin l5,y l6]
def ac9(P:Params):Obj:=⟨y l8,none,(.dict #[e P x8 203 (s x4 194),e P x9 205 (s x6 204),e P Af 207 (.int 5 206),e P Ae 208 (r 29)] 4), #[]⟩
def ac8:Obj:=F (y l1) #[s x6 198,s x6 199,s x1 200,.int 5 0,z,z,z,z,r 25,.bool false,.int 181 0,r 26,v,v,v,v,.int 201 0,.int 5 0,s x1 202]
def ac7:Obj:=⟨y l2,none,.plain, #[(some (r 27)),(some (r 3)),(some (r 24)),none,(some (s x4 194)),none,(some (r 0))]⟩
def Ye(P:Params):Obj:=⟨y l8,none,(.dict #[e P x8 203 (s x4 194),e P Af 207 (.int 5 206),e P Ae 208 (r 29),e P x12 210 (r 32),e P Th 211 v] 3), #[]⟩
def ajl:Obj:=⟨y l6,none,(.cls ⟨x6,[y l4],[r 31,y l4,y l9,y RB,y zg],30,x6,true,[],[],false,none,false⟩), #[(some (r 22)),none,(some (s x6 196)),(some (s x6 204)),(some (.builtin RA)),(some (.bool true))]⟩
def Yc:Obj:=F (y l14) #[s x12 209,r 31,.builtin l13,v]
def ac6:Obj:=F (y VY) #[r 31,r 31,r 31]
def ac5:Obj:=F (y l7) #[.builtin VX,r 31]
def T2(P:Params):BT:=(I (I (I (I (I (I (I (I (I (I (I (I (I (I (I (I (I (I (I (I (I (I (T1 P) 3 (ajf P)) 12 aju) 15 af) 16 aq) 17 YC) 18 af) 19 YB) 20 YA) 21 Yz) 22 Yx) 23 fR) 24 (ac9 P)) 25 af) 26 aq) 27 ac8) 28 ac7) 29 af) 30 (Ye P)) 31 ajl) 32 Yc) 33 ac6) 34 ac5)
def S2(P:Params)(os:OsState):SharedT:=⟨T2 P,35,lf, #[],⟨0,0,0,0⟩,214,os⟩
def aje(P:Params):Obj:=ud (ajf P) [] [e P Zk 229 (r 44)] 12
def ajt:Obj:=F v #[.int 1 0,z,r 20,.int 5 0,z,r 27,.int 7 0,z,r 40]
def ajk:Obj:=⟨y l6,none,(.cls ⟨x6,[y l4],[r 31,y l4,y l9,y RB,y zg],30,x6,true,[],[r 44],false,none,false⟩), #[(some (r 22)),none,(some (s x6 196)),(some (s x6 204)),(some (.builtin RA)),(some (.bool true))]⟩
def iD:Obj:=Q (y l0) #[r 31]
def ac4(P:Params):Obj:=⟨y l8,none,(.dict #[e P x8 221 (s x4 194),e P x9 223 (s Zk 222),e P Af 225 (.int 7 224),e P Ae 226 (r 42)] 4), #[]⟩
def acZ:Obj:=F (y l1) #[s Zk 216,s Zk 217,s x1 218,.int 7 0,z,z,z,z,r 38,.bool false,.int 181 0,r 39,v,v,v,v,.int 219 0,.int 7 0,s x1 220]
def acY:Obj:=⟨y l2,none,.plain, #[(some (r 40)),(some (r 3)),(some (r 37)),none,(some (s x4 194)),none,(some (r 0))]⟩
def X0(P:Params):Obj:=⟨y l8,none,(.dict #[e P x8 221 (s x4 194),e P Af 225 (.int 7 224),e P Ae 226 (r 42),e P Th 227 v] 2), #[]⟩
def XZ:Obj:=⟨y l6,none,(.cls ⟨Zk,[r 31],[r 44,r 31,y l4,y l9,y RB,y zg],43,Zk,true,[],[],false,none,false⟩), #[(some (r 35)),none,(some (s Zk 214)),(some (s Zk 222)),(some (.builtin RA)),(some (.bool true))]⟩
def acX:Obj:=F (y VY) #[r 44,r 44,r 44]
def acW:Obj:=F (y l7) #[.builtin VX,r 44]
def T3(P:Params):BT:=(I (I (I (I (I (I (I (I (I (I (I (I (I (I (I (T2 P) 3 (aje P)) 12 ajt) 31 ajk) 35 iD) 36 fR) 37 (ac4 P)) 38 af) 39 aq) 40 acZ) 41 acY) 42 af) 43 (X0 P)) 44 XZ) 45 acX) 46 acW)
def S3(P:Params)(os:OsState):SharedT:=⟨T3 P,47,lf, #[],⟨0,0,0,0⟩,230,os⟩
def ajd(P:Params):Obj:=ud (aje P) [] [e P Zj 245 (r 56)] 13
def ajs:Obj:=F v #[.int 1 0,z,r 20,.int 5 0,z,r 27,.int 7 0,z,r 40,.int 9 0,z,r 52]
def ajj:Obj:=⟨y l6,none,(.cls ⟨x6,[y l4],[r 31,y l4,y l9,y RB,y zg],30,x6,true,[],[r 44,r 56],false,none,false⟩), #[(some (r 22)),none,(some (s x6 196)),(some (s x6 204)),(some (.builtin RA)),(some (.bool true))]⟩
def acV(P:Params):Obj:=⟨y l8,none,(.dict #[e P x8 237 (s x4 194),e P x9 239 (s Zj 238),e P Af 241 (.int 9 240),e P Ae 242 (r 54)] 4), #[]⟩
def acU:Obj:=F (y l1) #[s Zj 232,s Zj 233,s x1 234,.int 9 0,z,z,z,z,r 50,.bool false,.int 181 0,r 51,v,v,v,v,.int 235 0,.int 9 0,s x1 236]
def acT:Obj:=⟨y l2,none,.plain, #[(some (r 52)),(some (r 3)),(some (r 49)),none,(some (s x4 194)),none,(some (r 0))]⟩
def XY(P:Params):Obj:=⟨y l8,none,(.dict #[e P x8 237 (s x4 194),e P Af 241 (.int 9 240),e P Ae 242 (r 54),e P Th 243 v] 2), #[]⟩
def XX:Obj:=⟨y l6,none,(.cls ⟨Zj,[r 31],[r 56,r 31,y l4,y l9,y RB,y zg],55,Zj,true,[],[],false,none,false⟩), #[(some (r 47)),none,(some (s Zj 230)),(some (s Zj 238)),(some (.builtin RA)),(some (.bool true))]⟩
def acS:Obj:=F (y VY) #[r 56,r 56,r 56]
def acR:Obj:=F (y l7) #[.builtin VX,r 56]
def T4(P:Params):BT:=(I (I (I (I (I (I (I (I (I (I (I (I (I (I (I (T3 P) 3 (ajd P)) 12 ajs) 31 ajj) 47 iD) 48 fR) 49 (acV P)) 50 af) 51 aq) 52 acU) 53 acT) 54 af) 55 (XY P)) 56 XX) 57 acS) 58 acR)
def S4(P:Params)(os:OsState):SharedT:=⟨T4 P,59,lf, #[],⟨0,0,0,0⟩,246,os⟩
def ajc(P:Params):Obj:=ud (ajd P) [] [e P Zi 261 (r 68)] 14
def ajr:Obj:=F v #[.int 1 0,z,r 20,.int 5 0,z,r 27,.int 7 0,z,r 40,.int 9 0,z,r 52,.int 11 0,z,r 64]
def aji:Obj:=⟨y l6,none,(.cls ⟨x6,[y l4],[r 31,y l4,y l9,y RB,y zg],30,x6,true,[],[r 44,r 56,r 68],false,none,false⟩), #[(some (r 22)),none,(some (s x6 196)),(some (s x6 204)),(some (.builtin RA)),(some (.bool true))]⟩
def acQ(P:Params):Obj:=⟨y l8,none,(.dict #[e P x8 253 (s x4 194),e P x9 255 (s Zi 254),e P Af 257 (.int 11 256),e P Ae 258 (r 66)] 4), #[]⟩
def acP:Obj:=F (y l1) #[s Zi 248,s Zi 249,s x1 250,.int 11 0,z,z,z,z,r 62,.bool false,.int 181 0,r 63,v,v,v,v,.int 251 0,.int 11 0,s x1 252]
def acO:Obj:=⟨y l2,none,.plain, #[(some (r 64)),(some (r 3)),(some (r 61)),none,(some (s x4 194)),none,(some (r 0))]⟩
def XW(P:Params):Obj:=⟨y l8,none,(.dict #[e P x8 253 (s x4 194),e P Af 257 (.int 11 256),e P Ae 258 (r 66),e P Th 259 v] 2), #[]⟩
def XU:Obj:=⟨y l6,none,(.cls ⟨Zi,[r 31],[r 68,r 31,y l4,y l9,y RB,y zg],67,Zi,true,[],[],false,none,false⟩), #[(some (r 59)),none,(some (s Zi 246)),(some (s Zi 254)),(some (.builtin RA)),(some (.bool true))]⟩
def acN:Obj:=F (y VY) #[r 68,r 68,r 68]
def acM:Obj:=F (y l7) #[.builtin VX,r 68]
def T5(P:Params):BT:=(I (I (I (I (I (I (I (I (I (I (I (I (I (I (I (T4 P) 3 (ajc P)) 12 ajr) 31 aji) 59 iD) 60 fR) 61 (acQ P)) 62 af) 63 aq) 64 acP) 65 acO) 66 af) 67 (XW P)) 68 XU) 69 acN) 70 acM)
def S5(P:Params)(os:OsState):SharedT:=⟨T5 P,71,lf, #[],⟨0,0,0,0⟩,262,os⟩
def ajb(P:Params):Obj:=ud (ajc P) [] [e P Zh 277 (r 80)] 15
def ajq:Obj:=F v #[.int 1 0,z,r 20,.int 5 0,z,r 27,.int 7 0,z,r 40,.int 9 0,z,r 52,.int 11 0,z,r 64,.int 13 0,z,r 76]
def ajh:Obj:=⟨y l6,none,(.cls ⟨x6,[y l4],[r 31,y l4,y l9,y RB,y zg],30,x6,true,[],[r 44,r 56,r 68,r 80],false,none,false⟩), #[(some (r 22)),none,(some (s x6 196)),(some (s x6 204)),(some (.builtin RA)),(some (.bool true))]⟩
def acL(P:Params):Obj:=⟨y l8,none,(.dict #[e P x8 269 (s x4 194),e P x9 271 (s Zh 270),e P Af 273 (.int 13 272),e P Ae 274 (r 78)] 4), #[]⟩
def acK:Obj:=F (y l1) #[s Zh 264,s Zh 265,s x1 266,.int 13 0,z,z,z,z,r 74,.bool false,.int 181 0,r 75,v,v,v,v,.int 267 0,.int 13 0,s x1 268]
def acJ:Obj:=⟨y l2,none,.plain, #[(some (r 76)),(some (r 3)),(some (r 73)),none,(some (s x4 194)),none,(some (r 0))]⟩
def XS(P:Params):Obj:=⟨y l8,none,(.dict #[e P x8 269 (s x4 194),e P Af 273 (.int 13 272),e P Ae 274 (r 78),e P Th 275 v] 2), #[]⟩
def XR:Obj:=⟨y l6,none,(.cls ⟨Zh,[r 31],[r 80,r 31,y l4,y l9,y RB,y zg],79,Zh,true,[],[],false,none,false⟩), #[(some (r 71)),none,(some (s Zh 262)),(some (s Zh 270)),(some (.builtin RA)),(some (.bool true))]⟩
def acI:Obj:=F (y VY) #[r 80,r 80,r 80]
def acH:Obj:=F (y l7) #[.builtin VX,r 80]
def T6(P:Params):BT:=(I (I (I (I (I (I (I (I (I (I (I (I (I (I (I (T5 P) 3 (ajb P)) 12 ajq) 31 ajh) 71 iD) 72 fR) 73 (acL P)) 74 af) 75 aq) 76 acK) 77 acJ) 78 af) 79 (XS P)) 80 XR) 81 acI) 82 acH)
def S6(P:Params)(os:OsState):SharedT:=⟨T6 P,83,lf, #[],⟨0,0,0,0⟩,278,os⟩
def aja(P:Params):Obj:=ud (ajb P) [] [e P Zg 293 (r 92)] 16
def ajp:Obj:=F v #[.int 1 0,z,r 20,.int 5 0,z,r 27,.int 7 0,z,r 40,.int 9 0,z,r 52,.int 11 0,z,r 64,.int 13 0,z,r 76,.int 15 0,z,r 88]
def ajg:Obj:=⟨y l6,none,(.cls ⟨x6,[y l4],[r 31,y l4,y l9,y RB,y zg],30,x6,true,[],[r 44,r 56,r 68,r 80,r 92],false,none,false⟩), #[(some (r 22)),none,(some (s x6 196)),(some (s x6 204)),(some (.builtin RA)),(some (.bool true))]⟩
def acG(P:Params):Obj:=⟨y l8,none,(.dict #[e P x8 285 (s x4 194),e P x9 287 (s Zg 286),e P Af 289 (.int 15 288),e P Ae 290 (r 90)] 4), #[]⟩
def acF:Obj:=F (y l1) #[s Zg 280,s Zg 281,s x1 282,.int 15 0,z,z,z,z,r 86,.bool false,.int 181 0,r 87,v,v,v,v,.int 283 0,.int 15 0,s x1 284]
def acE:Obj:=⟨y l2,none,.plain, #[(some (r 88)),(some (r 3)),(some (r 85)),none,(some (s x4 194)),none,(some (r 0))]⟩
def XQ(P:Params):Obj:=⟨y l8,none,(.dict #[e P x8 285 (s x4 194),e P Af 289 (.int 15 288),e P Ae 290 (r 90),e P Th 291 v] 2), #[]⟩
def XO:Obj:=⟨y l6,none,(.cls ⟨Zg,[r 31],[r 92,r 31,y l4,y l9,y RB,y zg],91,Zg,true,[],[],false,none,false⟩), #[(some (r 83)),none,(some (s Zg 278)),(some (s Zg 286)),(some (.builtin RA)),(some (.bool true))]⟩
def acD:Obj:=F (y VY) #[r 92,r 92,r 92]
def acC:Obj:=F (y l7) #[.builtin VX,r 92]
def T7(P:Params):BT:=(I (I (I (I (I (I (I (I (I (I (I (I (I (I (I (T6 P) 3 (aja P)) 12 ajp) 31 ajg) 83 iD) 84 fR) 85 (acG P)) 86 af) 87 aq) 88 acF) 89 acE) 90 af) 91 (XQ P)) 92 XO) 93 acD) 94 acC)
def S7(P:Params)(os:OsState):SharedT:=⟨T7 P,95,lf, #[],⟨0,0,0,0⟩,294,os⟩
def ai9(P:Params):Obj:=ud (aja P) [(0,e P x3 165 (s x19 351))] [e P Zf 309 (r 104),e P x21 314 (r 107),e P x22 325 (r 114),e P x23 334 (r 121),e P x24 342 (r 128),e P x25 350 (r 135),e P x26 354 (.int 0 353),e P x27 356 (.int 1 355),e P x28 358 (.int 2 357)] 25
def ajo:Obj:=F v #[.int 1 0,z,r 20,.int 5 0,z,r 27,.int 7 0,z,r 40,.int 9 0,z,r 52,.int 11 0,z,r 64,.int 13 0,z,r 76,.int 15 0,z,r 88,.int 17 0,z,r 100,.int 21 0,z,r 113,.int 29 0,z,r 120,.int 36 0,z,r 127,.int 38 0,z,r 134]
def Yd:Obj:=⟨y l6,none,(.cls ⟨x6,[y l4],[r 31,y l4,y l9,y RB,y zg],30,x6,true,[],[r 44,r 56,r 68,r 80,r 92,r 104],false,none,false⟩), #[(some (r 22)),none,(some (s x6 196)),(some (s x6 204)),(some (.builtin RA)),(some (.bool true))]⟩
def acB(P:Params):Obj:=⟨y l8,none,(.dict #[e P x8 301 (s x4 194),e P x9 303 (s Zf 302),e P Af 305 (.int 17 304),e P Ae 306 (r 102)] 4), #[]⟩
def YI:Obj:=F (y l1) #[s Zf 296,s Zf 297,s x1 298,.int 17 0,z,z,z,z,r 98,.bool false,.int 181 0,r 99,v,v,v,v,.int 299 0,.int 17 0,s x1 300]
def YH:Obj:=⟨y l2,none,.plain, #[(some (r 100)),(some (r 3)),(some (r 97)),none,(some (s x4 194)),none,(some (r 0))]⟩
def OL(P:Params):Obj:=⟨y l8,none,(.dict #[e P x8 301 (s x4 194),e P Af 305 (.int 17 304),e P Ae 306 (r 102),e P Th 307 v] 2), #[]⟩
def OJ:Obj:=⟨y l6,none,(.cls ⟨Zf,[r 31],[r 104,r 31,y l4,y l9,y RB,y zg],103,Zf,true,[],[],false,none,false⟩), #[(some (r 95)),none,(some (s Zf 294)),(some (s Zf 302)),(some (.builtin RA)),(some (.bool true))]⟩
def YG:Obj:=F (y VY) #[r 104,r 104,r 104]
def YF:Obj:=F (y l7) #[.builtin VX,r 104]
def OI:Obj:=Q (y l0) #[.int 0 312,.int 1 313]
def OH:Obj:=Q (y l0) #[s x29 318,s x30 319,s x31 320,s x32 321,s x33 322]
def OG:Obj:=⟨v,none,(fo (g1 11) x22 0 [] v v v v none v v 0), #[]⟩
def OF:Obj:=F (y l1) #[s x22 315,s x22 316,s x1 317,.int 21 0,.int 2 0,z,z,.int 3 0,r 108,.bool true,.int 181 0,r 109,v,r 110,r 111,r 112,.int 323 0,.int 21 0,s x1 324]
def OE:Obj:=⟨y l3,none,(fo (g1 11) x22 3 [] v v v (s x34 310) none (r 113) v 0), #[]⟩
def OD:Obj:=Q (y l0) #[s x35 329,s x36 330,s x37 331]
def OC:Obj:=⟨v,none,(fo (g1 12) x23 0 [] v v v v none v v 0), #[]⟩
def OB:Obj:=F (y l1) #[s x23 326,s x23 327,s x1 328,.int 29 0,.int 2 0,z,z,.int 3 0,r 115,.bool true,.int 181 0,r 116,v,r 117,r 118,r 119,.int 332 0,.int 29 0,s x1 333]
def OA:Obj:=⟨y l3,none,(fo (g1 12) x23 3 [] v v v (s x34 310) none (r 120) v 0), #[]⟩
def Oz:Obj:=Q (y l0) #[s x29 338,s x30 339]
def Ox:Obj:=⟨v,none,(fo (g1 13) x24 0 [] v v v v none v v 0), #[]⟩
def Ov:Obj:=F (y l1) #[s x24 335,s x24 336,s x1 337,.int 36 0,.int 2 0,z,z,.int 3 0,r 122,.bool true,.int 181 0,r 123,v,r 124,r 125,r 126,.int 340 0,.int 36 0,s x1 341]
def Ou:Obj:=⟨y l3,none,(fo (g1 13) x24 3 [] v v v (s x34 310) none (r 127) v 0), #[]⟩
def Oq:Obj:=Q (y l0) #[s x29 346,s x30 347]
def Oo:Obj:=⟨v,none,(fo (g1 14) x25 0 [] v v v v none v v 0), #[]⟩
def Om:Obj:=F (y l1) #[s x25 343,s x25 344,s x1 345,.int 38 0,.int 2 0,z,z,.int 3 0,r 129,.bool true,.int 181 0,r 130,v,r 131,r 132,r 133,.int 348 0,.int 38 0,s x1 349]
def Ol:Obj:=⟨y l3,none,(fo (g1 14) x25 3 [] v v v (s x34 310) none (r 134) v 0), #[]⟩
def T8(P:Params):BT:=(I (I (I (I (I (I (I (I (I (I (I (I (I (I (I (I (I (I (I (I (I (I (I (I (I (I (I (I (I (I (I (I (I (I (I (I (I (I (I (I (I (I (I (I (T7 P) 3 (ai9 P)) 12 ajo) 31 Yd) 95 iD) 96 fR) 97 (acB P)) 98 af) 99 aq) 100 YI) 101 YH) 102 af) 103 (OL P)) 104 OJ) 105 YG) 106 YF) 107 OI) 108 af) 109 aq) 110 OH) 111 af) 112 OG) 113 OF) 114 OE) 115 af) 116 aq) 117 OD) 118 af) 119 OC) 120 OB) 121 OA) 122 af) 123 aq) 124 Oz) 125 af) 126 Ox) 127 Ov) 128 Ou) 129 af) 130 aq) 131 Oq) 132 af) 133 Oo) 134 Om) 135 Ol)
def S8(P:Params)(os:OsState):SharedT:=⟨T8 P,136,lf, #[],⟨0,0,0,0⟩,359,os⟩
def ai8(P:Params):Obj:=ud (ai9 P) [(0,e P x3 165 (s x38 440))] [e P x39 363 (r 136),e P x40 370 (r 143),e P x41 379 (r 150),e P x42 388 (r 157),e P x43 398 (r 164),e P x44 406 (r 171),e P x45 414 (r 178),e P x46 420 (r 183),e P x47 426 (r 188),e P x48 432 (r 193),e P x49 439 (r 200),e P x50 448 (r 207),e P x51 458 (r 214)] 38
def ajn:Obj:=F v #[.int 1 0,z,r 20,.int 5 0,z,r 27,.int 7 0,z,r 40,.int 9 0,z,r 52,.int 11 0,z,r 64,.int 13 0,z,r 76,.int 15 0,z,r 88,.int 17 0,z,r 100,.int 21 0,z,r 113,.int 29 0,z,r 120,.int 36 0,z,r 127,.int 38 0,z,r 134,.int 45 0,z,r 142,.int 47 0,z,r 149,.int 55 0,z,r 156,.int 60 0,z,r 163,.int 62 0,z,r 170,.int 64 0,z,r 177,.int 67 0,z,r 182,.int 73 0,z,r 187,.int 75 0,z,r 192,.int 77 0,z,r 199,.int 80 0,z,r 206,.int 83 0,z,r 213]
def Oj:Obj:=Q (y l0) #[.int 0 359,.int 1 360,.int 2 361,.int 3 362]
def Oi:Obj:=Q (y l0) #[s x52 367]
def Oh:Obj:=⟨v,none,(fo (g1 20) x40 0 [] v v v v none v v 0), #[]⟩
def Og:Obj:=F (y l1) #[s x40 364,s x40 365,s x1 366,.int 45 0,.int 1 0,z,z,.int 3 0,r 137,.bool true,.int 181 0,r 138,v,r 139,r 140,r 141,.int 368 0,.int 45 0,s x1 369]
def Of:Obj:=⟨y l3,none,(fo (g1 20) x40 3 [] v v v (s x19 351) none (r 142) v 0), #[]⟩
def Oe:Obj:=Q (y l0) #[s x53 374,s x54 375,s x52 376]
def Od:Obj:=⟨v,none,(fo (g1 21) x41 0 [] v v v v none v v 0), #[]⟩
def Oc:Obj:=F (y l1) #[s x41 371,s x41 372,s x1 373,.int 47 0,.int 3 0,z,z,.int 3 0,r 144,.bool true,.int 181 0,r 145,v,r 146,r 147,r 148,.int 377 0,.int 47 0,s x1 378]
def Ob:Obj:=⟨y l3,none,(fo (g1 21) x41 3 [] v v v (s x19 351) none (r 149) v 0), #[]⟩
def Oa:Obj:=Q (y l0) #[s x55 383,s x52 384,s x56 385]
def N9:Obj:=⟨v,none,(fo (g1 22) x42 0 [] v v v v none v v 0), #[]⟩
def N8:Obj:=F (y l1) #[s x42 380,s x42 381,s x1 382,.int 55 0,.int 1 0,z,z,.int 3 0,r 151,.bool true,.int 181 0,r 152,v,r 153,r 154,r 155,.int 386 0,.int 55 0,s x1 387]
def N7:Obj:=⟨y l3,none,(fo (g1 22) x42 3 [] v v v (s x19 351) none (r 156) v 0), #[]⟩
def N6:Obj:=Q (y l0) #[s x57 394,s x55 395]
def N5:Obj:=⟨v,none,(fo (g1 24) x43 0 [] v v v v none v v 0), #[]⟩
def N4:Obj:=F (y l1) #[s x43 391,s x43 392,s x1 393,.int 60 0,.int 2 0,z,z,.int 3 0,r 158,.bool true,.int 181 0,r 159,v,r 160,r 161,r 162,.int 396 0,.int 60 0,s x1 397]
def N3:Obj:=⟨y l3,none,(fo (g1 24) x43 3 [] v v v (s x58 389) none (r 163) v 0), #[]⟩
def N2:Obj:=Q (y l0) #[s x57 402,s x55 403]
def N1:Obj:=⟨v,none,(fo (g1 25) x44 0 [] v v v v none v v 0), #[]⟩
def NZ:Obj:=F (y l1) #[s x44 399,s x44 400,s x1 401,.int 62 0,.int 2 0,z,z,.int 3 0,r 165,.bool true,.int 181 0,r 166,v,r 167,r 168,r 169,.int 404 0,.int 62 0,s x1 405]
def NY:Obj:=⟨y l3,none,(fo (g1 25) x44 3 [] v v v (s x58 389) none (r 170) v 0), #[]⟩
def NX:Obj:=Q (y l0) #[s x57 410,s x55 411]
def NW:Obj:=⟨v,none,(fo (g1 26) x45 0 [] v v v v none v v 0), #[]⟩
def NV:Obj:=F (y l1) #[s x45 407,s x45 408,s x1 409,.int 64 0,.int 2 0,z,z,.int 3 0,r 172,.bool true,.int 181 0,r 173,v,r 174,r 175,r 176,.int 412 0,.int 64 0,s x1 413]
def NU:Obj:=⟨y l3,none,(fo (g1 26) x45 3 [] v v v (s x58 389) none (r 177) v 0), #[]⟩
def NT:Obj:=⟨v,none,(fo (g1 27) x46 0 [] v v v v none v v 0), #[]⟩
def NS:Obj:=F (y l1) #[s x46 415,s x46 416,s x1 417,.int 67 0,.int 1 0,z,z,.int 3 0,r 179,.bool true,.int 181 0,r 180,v,v,v,r 181,.int 418 0,.int 67 0,s x1 419]
def NR:Obj:=⟨y l3,none,(fo (g1 27) x46 3 [] v v v (s x58 389) none (r 182) v 0), #[]⟩
def NQ:Obj:=⟨v,none,(fo (g1 28) x47 0 [] v v v v none v v 0), #[]⟩
def NP:Obj:=F (y l1) #[s x47 421,s x47 422,s x1 423,.int 73 0,.int 1 0,z,z,.int 3 0,r 184,.bool true,.int 181 0,r 185,v,v,v,r 186,.int 424 0,.int 73 0,s x1 425]
def NO:Obj:=⟨y l3,none,(fo (g1 28) x47 3 [] v v v (s x58 389) none (r 187) v 0), #[]⟩
def NN:Obj:=⟨v,none,(fo (g1 29) x48 0 [] v v v v none v v 0), #[]⟩
def NL:Obj:=F (y l1) #[s x48 427,s x48 428,s x1 429,.int 75 0,.int 1 0,z,z,.int 3 0,r 189,.bool true,.int 181 0,r 190,v,v,v,r 191,.int 430 0,.int 75 0,s x1 431]
def NK:Obj:=⟨y l3,none,(fo (g1 29) x48 3 [] v v v (s x58 389) none (r 192) v 0), #[]⟩
def NJ:Obj:=Q (y l0) #[s x57 436]
def NI:Obj:=⟨v,none,(fo (g1 30) x49 0 [] v v v v none v v 0), #[]⟩
def NH:Obj:=F (y l1) #[s x49 433,s x49 434,s x1 435,.int 77 0,.int 1 0,z,z,.int 3 0,r 194,.bool true,.int 181 0,r 195,v,r 196,r 197,r 198,.int 437 0,.int 77 0,s x1 438]
def NG:Obj:=⟨y l3,none,(fo (g1 30) x49 3 [] v v v (s x58 389) none (r 199) v 0), #[]⟩
def NF:Obj:=Q (y l0) #[s x59 445]
def ND:Obj:=⟨v,none,(fo (g1 32) x50 0 [] v v v v none v v 0), #[]⟩
def NC:Obj:=F (y l1) #[s x50 442,s x50 443,s x1 444,.int 80 0,.int 1 0,z,z,.int 3 0,r 201,.bool true,.int 181 0,r 202,v,r 203,r 204,r 205,.int 446 0,.int 80 0,s x1 447]
def NB:Obj:=⟨y l3,none,(fo (g1 32) x50 3 [] v v v (s x38 440) none (r 206) v 0), #[]⟩
def Nz:Obj:=Q (y l0) #[s x60 452,s x61 453,s x55 454,s x59 455]
def Ny:Obj:=⟨v,none,(fo (g1 33) x51 0 [] v v v v none v v 0), #[]⟩
def Nx:Obj:=F (y l1) #[s x51 449,s x51 450,s x1 451,.int 83 0,.int 1 0,z,z,.int 3 0,r 208,.bool true,.int 181 0,r 209,v,r 210,r 211,r 212,.int 456 0,.int 83 0,s x1 457]
def Nv:Obj:=⟨y l3,none,(fo (g1 33) x51 3 [] v v v (s x38 440) none (r 213) v 0), #[]⟩
def T9(P:Params):BT:=(I (I (I (I (I (I (I (I (I (I (I (I (I (I (I (I (I (I (I (I (I (I (I (I (I (I (I (I (I (I (I (I (I (I (I (I (I (I (I (I (I (I (I (I (I (I (I (I (I (I (I (I (I (I (I (I (I (I (I (I (I (I (I (I (I (I (I (I (I (I (I (I (I (I (I (I (I (I (I (I (I (T8 P) 3 (ai8 P)) 12 ajn) 136 Oj) 137 af) 138 aq) 139 Oi) 140 af) 141 Oh) 142 Og) 143 Of) 144 af) 145 aq) 146 Oe) 147 af) 148 Od) 149 Oc) 150 Ob) 151 af) 152 aq) 153 Oa) 154 af) 155 N9) 156 N8) 157 N7) 158 af) 159 aq) 160 N6) 161 af) 162 N5) 163 N4) 164 N3) 165 af) 166 aq) 167 N2) 168 af) 169 N1) 170 NZ) 171 NY) 172 af) 173 aq) 174 NX) 175 af) 176 NW) 177 NV) 178 NU) 179 af) 180 aq) 181 NT) 182 NS) 183 NR) 184 af) 185 aq) 186 NQ) 187 NP) 188 NO) 189 af) 190 aq) 191 NN) 192 NL) 193 NK) 194 af) 195 aq) 196 NJ) 197 af) 198 NI) 199 NH) 200 NG) 201 af) 202 aq) 203 NF) 204 af) 205 ND) 206 NC) 207 NB) 208 af) 209 aq) 210 Nz) 211 af) 212 Ny) 213 Nx) 214 Nv)
def S9(P:Params)(os:OsState):SharedT:=⟨T9 P,215,lf, #[],⟨0,0,0,0⟩,459,os⟩
def ai7(P:Params):Obj:=ud (ai8 P) [(0,e P x3 165 (s EU 469))] [e P x63 468 (r 221),e P x64 472 (s x65 471),e P x66 474 (.int 8 473),e P x67 480 (r 226),e P ET 522 (r 257)] 43
def ajm:Obj:=F v #[.int 1 0,z,r 20,.int 5 0,z,r 27,.int 7 0,z,r 40,.int 9 0,z,r 52,.int 11 0,z,r 64,.int 13 0,z,r 76,.int 15 0,z,r 88,.int 17 0,z,r 100,.int 21 0,z,r 113,.int 29 0,z,r 120,.int 36 0,z,r 127,.int 38 0,z,r 134,.int 45 0,z,r 142,.int 47 0,z,r 149,.int 55 0,z,r 156,.int 60 0,z,r 163,.int 62 0,z,r 170,.int 64 0,z,r 177,.int 67 0,z,r 182,.int 73 0,z,r 187,.int 75 0,z,r 192,.int 77 0,z,r 199,.int 80 0,z,r 206,.int 83 0,z,r 213,.int 88 0,z,r 220,.int 96 0,z,r 225,.int 99 0,z,r 232]
def Nu:Obj:=Q (y l0) #[s x57 462,s x69 463,s x55 464,s x59 465]
def Nt:Obj:=⟨v,none,(fo (g1 34) x63 0 [] v v v v none v v 0), #[]⟩
def Nr:Obj:=F (y l1) #[s x63 459,s x63 460,s x1 461,.int 88 0,.int 2 0,z,z,.int 3 0,r 215,.bool true,.int 181 0,r 216,v,r 217,r 218,r 219,.int 466 0,.int 88 0,s x1 467]
def Nq:Obj:=⟨y l3,none,(fo (g1 34) x63 3 [] v v v (s x38 440) none (r 220) v 0), #[]⟩
def Np:Obj:=⟨v,none,(fo (g1 38) x67 0 [] v v v v none v v 0), #[]⟩
def Nn:Obj:=F (y l1) #[s x67 475,s x67 476,s x1 477,.int 96 0,.int 1 0,z,z,.int 3 0,r 222,.bool true,.int 181 0,r 223,v,v,v,r 224,.int 478 0,.int 96 0,s x1 479]
def Nm:Obj:=⟨y l3,none,(fo (g1 38) x67 3 [] v v v (s EU 469) none (r 225) v 0), #[]⟩
def Yy(P:Params):Obj:=⟨y l8,none,(.dict #[e P x8 488 (s EU 469),e P x9 490 (s ET 489),e P Af 492 (.int 99 491),e P x70 500 (r 240),e P x71 507 (r 247),e P x72 514 (r 254),e P Ae 515 (r 255)] 7), #[]⟩
def Yw:Obj:=F v #[.int 101 0,.int 4 0,r 239,.int 104 0,.int 4 0,r 246,.int 107 0,.int 4 0,r 253]
def Yv:Obj:=F (y l1) #[s ET 483,s ET 484,s x1 485,.int 99 0,z,z,z,z,r 230,.bool false,.int 181 0,r 231,v,v,v,v,.int 486 0,.int 99 0,s x1 487]
def Yu:Obj:=⟨y l2,none,.plain, #[(some (r 232)),(some (r 3)),(some (r 229)),none,(some (s EU 469)),none,(some (r 0))]⟩
def Nk:Obj:=Q (y l0) #[s SO 496,s x52 497]
def Nj:Obj:=⟨v,none,(fo (g2 39 0) x74 0 [] v v v v none v v 0), #[]⟩
def Ni:Obj:=F (y l1) #[s x70 493,s x74 494,s x1 495,.int 101 0,.int 2 0,z,z,.int 3 0,r 234,.bool true,.int 181 0,r 235,v,r 236,r 237,r 238,.int 498 0,.int 101 0,s x1 499]
def Nh:Obj:=⟨y l3,none,(fo (g2 39 0) x74 3 [] v v v (s EU 469) none (r 239) v 0), #[]⟩
def Ng:Obj:=Q (y l0) #[s SO 504]
def Nf:Obj:=⟨v,none,(fo (g2 39 1) x75 0 [] v v v v none v v 0), #[]⟩
def Nc:Obj:=F (y l1) #[s x71 501,s x75 502,s x1 503,.int 104 0,.int 1 0,z,z,.int 3 0,r 241,.bool true,.int 181 0,r 242,v,r 243,r 244,r 245,.int 505 0,.int 104 0,s x1 506]
def Nb:Obj:=⟨y l3,none,(fo (g2 39 1) x75 3 [] v v v (s EU 469) none (r 246) v 0), #[]⟩
def Na:Obj:=Q (y l0) #[s SO 511]
def M9:Obj:=⟨v,none,(fo (g2 39 2) x76 0 [] v v v v none v v 0), #[]⟩
def M8:Obj:=F (y l1) #[s x72 508,s x76 509,s x1 510,.int 107 0,.int 1 0,z,z,.int 3 0,r 248,.bool true,.int 181 0,r 249,v,r 250,r 251,r 252,.int 512 0,.int 107 0,s x1 513]
def M7:Obj:=⟨y l3,none,(fo (g2 39 2) x76 3 [] v v v (s EU 469) none (r 253) v 0), #[]⟩
def M6(P:Params):Obj:=⟨y l8,none,(.dict #[e P x8 488 (s EU 469),e P Af 492 (.int 99 491),e P x70 500 (r 240),e P x71 507 (r 247),e P x72 514 (r 254),e P Ae 515 (r 255),e P x77 517 (r 258),e P x12 519 (r 259),e P Th 520 v] 4), #[]⟩
def afH:Obj:=⟨y l6,none,(.cls ⟨ET,[y zg],[r 257,y zg],256,ET,true,[],[],false,none,false⟩), #[none,none,(some (s ET 481)),(some (s ET 489)),(some (.builtin l17)),(some (.bool true))]⟩
def M4:Obj:=F (y l14) #[s x77 516,r 257,.builtin l18,.builtin l19]
def M3:Obj:=F (y l14) #[s x12 518,r 257,.builtin l13,v]
def Yt:Obj:=F (y VY) #[r 257,r 257,r 257]
def Ys:Obj:=F (y l7) #[.builtin VX,r 257]
def T10(P:Params):BT:=(I (I (I (I (I (I (I (I (I (I (I (I (I (I (I (I (I (I (I (I (I (I (I (I (I (I (I (I (I (I (I (I (I (I (I (I (I (I (I (I (I (I (I (I (I (I (I (I (I (T9 P) 3 (ai7 P)) 12 ajm) 215 af) 216 aq) 217 Nu) 218 af) 219 Nt) 220 Nr) 221 Nq) 222 af) 223 aq) 224 Np) 225 Nn) 226 Nm) 227 af) 228 fR) 229 (Yy P)) 230 af) 231 Yw) 232 Yv) 233 Yu) 234 af) 235 aq) 236 Nk) 237 af) 238 Nj) 239 Ni) 240 Nh) 241 af) 242 aq) 243 Ng) 244 af) 245 Nf) 246 Nc) 247 Nb) 248 af) 249 aq) 250 Na) 251 af) 252 M9) 253 M8) 254 M7) 255 af) 256 (M6 P)) 257 afH) 258 M4) 259 M3) 260 Yt) 261 Ys)
def S10(P:Params)(os:OsState):SharedT:=⟨T10 P,262,lf, #[],⟨0,0,0,0⟩,523,os⟩
def ai6(P:Params):Obj:=ud (ai7 P) [] [e P Ze 545 (r 278)] 44
def afK:Obj:=F v #[.int 1 0,z,r 20,.int 5 0,z,r 27,.int 7 0,z,r 40,.int 9 0,z,r 52,.int 11 0,z,r 64,.int 13 0,z,r 76,.int 15 0,z,r 88,.int 17 0,z,r 100,.int 21 0,z,r 113,.int 29 0,z,r 120,.int 36 0,z,r 127,.int 38 0,z,r 134,.int 45 0,z,r 142,.int 47 0,z,r 149,.int 55 0,z,r 156,.int 60 0,z,r 163,.int 62 0,z,r 170,.int 64 0,z,r 177,.int 67 0,z,r 182,.int 73 0,z,r 187,.int 75 0,z,r 192,.int 77 0,z,r 199,.int 80 0,z,r 206,.int 83 0,z,r 213,.int 88 0,z,r 220,.int 96 0,z,r 225,.int 99 0,z,r 232,.int 109 0,z,r 267]
def afG:Obj:=⟨y l6,none,(.cls ⟨ET,[y zg],[r 257,y zg],256,ET,true,[],[r 278],false,none,false⟩), #[none,none,(some (s ET 481)),(some (s ET 489)),(some (.builtin l17)),(some (.bool true))]⟩
def vt:Obj:=Q (y l0) #[r 257]
def Yr(P:Params):Obj:=⟨y l8,none,(.dict #[e P x8 530 (s EU 469),e P x9 532 (s Ze 531),e P Af 534 (.int 109 533),e P x79 541 (r 275),e P Ae 542 (r 276)] 5), #[]⟩
def Yq:Obj:=F v #[.int 111 0,.int 4 0,r 274]
def Yp:Obj:=F (y l1) #[s Ze 525,s Ze 526,s x1 527,.int 109 0,z,z,z,z,r 265,.bool false,.int 181 0,r 266,v,v,v,v,.int 528 0,.int 109 0,s x1 529]
def Yo:Obj:=⟨y l2,none,.plain, #[(some (r 267)),(some (r 3)),(some (r 264)),none,(some (s EU 469)),none,(some (r 0))]⟩
def M0:Obj:=Q (y l0) #[s SO 538]
def MZ:Obj:=⟨v,none,(fo (g2 40 0) x80 0 [] v v v v none v v 0), #[]⟩
def MY:Obj:=F (y l1) #[s x79 535,s x80 536,s x1 537,.int 111 0,.int 1 0,z,z,.int 3 0,r 269,.bool true,.int 181 0,r 270,v,r 271,r 272,r 273,.int 539 0,.int 111 0,s x1 540]
def MX:Obj:=⟨y l3,none,(fo (g2 40 0) x80 3 [] v v v (s EU 469) none (r 274) v 0), #[]⟩
def MW(P:Params):Obj:=⟨y l8,none,(.dict #[e P x8 530 (s EU 469),e P Af 534 (.int 109 533),e P x79 541 (r 275),e P Ae 542 (r 276),e P Th 543 v] 2), #[]⟩
def MV:Obj:=⟨y l6,none,(.cls ⟨Ze,[r 257],[r 278,r 257,y zg],277,Ze,true,[],[],false,none,false⟩), #[(some (r 262)),none,(some (s Ze 523)),(some (s Ze 531)),(some (.builtin l17)),(some (.bool true))]⟩
def Yn:Obj:=F (y VY) #[r 278,r 278,r 278]
def Ym:Obj:=F (y l7) #[.builtin VX,r 278]
def T11(P:Params):BT:=(I (I (I (I (I (I (I (I (I (I (I (I (I (I (I (I (I (I (I (I (I (I (T10 P) 3 (ai6 P)) 12 afK) 257 afG) 262 vt) 263 fR) 264 (Yr P)) 265 af) 266 Yq) 267 Yp) 268 Yo) 269 af) 270 aq) 271 M0) 272 af) 273 MZ) 274 MY) 275 MX) 276 af) 277 (MW P)) 278 MV) 279 Yn) 280 Ym)
def S11(P:Params)(os:OsState):SharedT:=⟨T11 P,281,lf, #[],⟨0,0,0,0⟩,546,os⟩
def ac3(P:Params):Obj:=ud (ai6 P) [(0,e P x3 165 (s Ib 578))] [e P Zd 577 (r 304),e P x83 581 (.int 16 580),e P x84 589 (r 313),e P x85 601 (r 320),e P x86 611 (r 327)] 49
def afJ:Obj:=F v #[.int 1 0,z,r 20,.int 5 0,z,r 27,.int 7 0,z,r 40,.int 9 0,z,r 52,.int 11 0,z,r 64,.int 13 0,z,r 76,.int 15 0,z,r 88,.int 17 0,z,r 100,.int 21 0,z,r 113,.int 29 0,z,r 120,.int 36 0,z,r 127,.int 38 0,z,r 134,.int 45 0,z,r 142,.int 47 0,z,r 149,.int 55 0,z,r 156,.int 60 0,z,r 163,.int 62 0,z,r 170,.int 64 0,z,r 177,.int 67 0,z,r 182,.int 73 0,z,r 187,.int 75 0,z,r 192,.int 77 0,z,r 199,.int 80 0,z,r 206,.int 83 0,z,r 213,.int 88 0,z,r 220,.int 96 0,z,r 225,.int 99 0,z,r 232,.int 109 0,z,r 267,.int 113 0,z,r 286,.int 123 0,z,r 312,.int 131 0,z,r 319,.int 138 0,z,r 326]
def M5:Obj:=⟨y l6,none,(.cls ⟨ET,[y zg],[r 257,y zg],256,ET,true,[],[r 278,r 304],false,none,false⟩), #[none,none,(some (s ET 481)),(some (s ET 489)),(some (.builtin l17)),(some (.bool true))]⟩
def Yl(P:Params):Obj:=⟨y l8,none,(.dict #[e P x8 553 (s EU 469),e P x9 555 (s Zd 554),e P Af 557 (.int 113 556),e P x87 565 (r 294),e P x79 572 (r 301),e P Ae 574 (r 302)] 6), #[]⟩
def Yk:Obj:=F v #[.int 115 0,.int 4 0,r 293,.int 119 0,.int 4 0,r 300]
def Yj:Obj:=F (y l1) #[s Zd 548,s Zd 549,s x1 550,.int 113 0,z,z,z,z,r 284,.bool false,.int 181 0,r 285,v,v,v,v,.int 551 0,.int 113 0,s x1 552]
def Yi:Obj:=⟨y l2,none,.plain, #[(some (r 286)),(some (r 3)),(some (r 283)),none,(some (s EU 469)),none,(some (r 0))]⟩
def MU:Obj:=Q (y l0) #[s SO 561,s x88 562]
def MT:Obj:=⟨v,none,(fo (g2 41 0) x89 0 [] v v v v none v v 0), #[]⟩
def MS:Obj:=F (y l1) #[s x87 558,s x89 559,s x1 560,.int 115 0,.int 2 0,z,z,.int 3 0,r 288,.bool true,.int 181 0,r 289,v,r 290,r 291,r 292,.int 563 0,.int 115 0,s x1 564]
def MR:Obj:=⟨y l3,none,(fo (g2 41 0) x89 3 [] v v v (s EU 469) none (r 293) v 0), #[]⟩
def MQ:Obj:=Q (y l0) #[s SO 569]
def MP:Obj:=⟨v,none,(fo (g2 41 1) x90 0 [] v v v v none v v 0), #[]⟩
def MO:Obj:=F (y l1) #[s x79 566,s x90 567,s x1 568,.int 119 0,.int 1 0,z,z,.int 3 0,r 295,.bool true,.int 181 0,r 296,v,r 297,r 298,r 299,.int 570 0,.int 119 0,s x1 571]
def MN:Obj:=⟨y l3,none,(fo (g2 41 1) x90 3 [] v v v (s EU 469) none (r 300) v 0), #[]⟩
def MM:Obj:=Q (y l0) #[s x88 573]
def ML(P:Params):Obj:=⟨y l8,none,(.dict #[e P x8 553 (s EU 469),e P Af 557 (.int 113 556),e P x87 565 (r 294),e P x79 572 (r 301),e P Ae 574 (r 302),e P Th 575 v] 2), #[]⟩
def MK:Obj:=⟨y l6,none,(.cls ⟨Zd,[r 257],[r 304,r 257,y zg],303,Zd,true,[],[],false,none,false⟩), #[(some (r 281)),none,(some (s Zd 546)),(some (s Zd 554)),(some (.builtin l17)),(some (.bool true))]⟩
def Yh:Obj:=F (y VY) #[r 304,r 304,r 304]
def Yg:Obj:=F (y l7) #[.builtin VX,r 304]
def MJ:Obj:=Q (y l0) #[s x91 585,s x92 586]
def MI:Obj:=⟨v,none,(fo (g1 44) x84 0 [] v v v v none v v 0), #[]⟩
def MH:Obj:=F (y l1) #[s x84 582,s x84 583,s x1 584,.int 123 0,.int 1 0,z,z,.int 3 0,r 307,.bool true,.int 181 0,r 308,v,r 309,r 310,r 311,.int 587 0,.int 123 0,s x1 588]
def MG:Obj:=⟨y l3,none,(fo (g1 44) x84 3 [] v v v (s Ib 578) none (r 312) v 0), #[]⟩
def MF:Obj:=Q (y l0) #[s x91 593,s x93 594,s x54 595,s x92 596,s x53 597,s x94 598]
def ME:Obj:=⟨v,none,(fo (g1 45) x85 0 [] v v v v none v v 0), #[]⟩
def MD:Obj:=F (y l1) #[s x85 590,s x85 591,s x1 592,.int 131 0,.int 1 0,z,z,.int 3 0,r 314,.bool true,.int 181 0,r 315,v,r 316,r 317,r 318,.int 599 0,.int 131 0,s x1 600]
def MC:Obj:=⟨y l3,none,(fo (g1 45) x85 3 [] v v v (s Ib 578) none (r 319) v 0), #[]⟩
def MB:Obj:=Q (y l0) #[s x91 605,s x95 606,s x88 607,s x93 608]
def MA:Obj:=⟨v,none,(fo (g1 46) x86 0 [] v v v v none v v 0), #[]⟩
def Mz:Obj:=F (y l1) #[s x86 602,s x86 603,s x1 604,.int 138 0,.int 1 0,z,z,.int 3 0,r 321,.bool true,.int 181 0,r 322,v,r 323,r 324,r 325,.int 609 0,.int 138 0,s x1 610]
def My:Obj:=⟨y l3,none,(fo (g1 46) x86 3 [] v v v (s Ib 578) none (r 326) v 0), #[]⟩
def T12(P:Params):BT:=(I (I (I (I (I (I (I (I (I (I (I (I (I (I (I (I (I (I (I (I (I (I (I (I (I (I (I (I (I (I (I (I (I (I (I (I (I (I (I (I (I (I (I (I (I (I (I (I (I (I (T11 P) 3 (ac3 P)) 12 afJ) 257 M5) 281 vt) 282 fR) 283 (Yl P)) 284 af) 285 Yk) 286 Yj) 287 Yi) 288 af) 289 aq) 290 MU) 291 af) 292 MT) 293 MS) 294 MR) 295 af) 296 aq) 297 MQ) 298 af) 299 MP) 300 MO) 301 MN) 302 MM) 303 (ML P)) 304 MK) 305 Yh) 306 Yg) 307 af) 308 aq) 309 MJ) 310 af) 311 MI) 312 MH) 313 MG) 314 af) 315 aq) 316 MF) 317 af) 318 ME) 319 MD) 320 MC) 321 af) 322 aq) 323 MB) 324 af) 325 MA) 326 Mz) 327 My)
def S12(P:Params)(os:OsState):SharedT:=⟨T12 P,328,lf, #[],⟨0,0,0,0⟩,612,os⟩
def ac1(P:Params):Obj:=ud (ac3 P) [] [e P Zc 695 (r 389)] 50
def afI:Obj:=F v #[.int 1 0,z,r 20,.int 5 0,z,r 27,.int 7 0,z,r 40,.int 9 0,z,r 52,.int 11 0,z,r 64,.int 13 0,z,r 76,.int 15 0,z,r 88,.int 17 0,z,r 100,.int 21 0,z,r 113,.int 29 0,z,r 120,.int 36 0,z,r 127,.int 38 0,z,r 134,.int 45 0,z,r 142,.int 47 0,z,r 149,.int 55 0,z,r 156,.int 60 0,z,r 163,.int 62 0,z,r 170,.int 64 0,z,r 177,.int 67 0,z,r 182,.int 73 0,z,r 187,.int 75 0,z,r 192,.int 77 0,z,r 199,.int 80 0,z,r 206,.int 83 0,z,r 213,.int 88 0,z,r 220,.int 96 0,z,r 225,.int 99 0,z,r 232,.int 109 0,z,r 267,.int 113 0,z,r 286,.int 123 0,z,r 312,.int 131 0,z,r 319,.int 138 0,z,r 326,.int 146 0,z,r 333]
def Yb(P:Params):Obj:=⟨y l8,none,(.dict #[e P x8 619 (s Ib 578),e P x9 621 (s Zc 620),e P Af 623 (.int 146 622),e P x87 629 (r 339),e P x97 636 (r 346),e P x98 643 (r 353),e P x99 652 (r 360),e P adv 661 (r 367),e P x94 670 (r 374),e P adu 679 (r 381),e P adt 685 (r 386),e P Ae 688 (r 387)] 12), #[]⟩
def X8:Obj:=F v #[.int 148 0,.int 4 0,r 338,.int 153 0,.int 4 0,r 345,.int 156 0,.int 4 0,r 352,.int 159 0,.int 4 0,r 359,.int 162 0,.int 4 0,r 366,.int 166 0,.int 4 0,r 373,.int 170 0,.int 4 0,r 380,.int 173 0,.int 4 0,r 385]
def X7:Obj:=F (y l1) #[s Zc 614,s Zc 615,s x1 616,.int 146 0,z,z,z,z,r 331,.bool false,.int 181 0,r 332,v,v,v,v,.int 617 0,.int 146 0,s x1 618]
def X6:Obj:=⟨y l2,none,.plain, #[(some (r 333)),(some (r 3)),(some (r 330)),none,(some (s Ib 578)),none,(some (r 0))]⟩
def Mx:Obj:=⟨v,none,(fo (g2 47 0) ads 0 [] v v v v none v v 0), #[]⟩
def Mw:Obj:=F (y l1) #[s x87 624,s ads 625,s x1 626,.int 148 0,.int 2 0,z,z,.int 3 0,r 335,.bool true,.int 181 0,r 336,v,v,v,r 337,.int 627 0,.int 148 0,s x1 628]
def Mv:Obj:=⟨y l3,none,(fo (g2 47 0) ads 3 [] v v v (s Ib 578) none (r 338) v 0), #[]⟩
def Mu:Obj:=Q (y l0) #[s SO 633]
def Mt:Obj:=⟨v,none,(fo (g2 47 1) adq 0 [] v v v v none v v 0), #[]⟩
def Ms:Obj:=F (y l1) #[s x97 630,s adq 631,s x1 632,.int 153 0,.int 1 0,z,z,.int 3 0,r 340,.bool true,.int 181 0,r 341,v,r 342,r 343,r 344,.int 634 0,.int 153 0,s x1 635]
def Mr:Obj:=⟨y l3,none,(fo (g2 47 1) adq 3 [] v v v (s Ib 578) none (r 345) v 0), #[]⟩
def Mq:Obj:=Q (y l0) #[s SO 640]
def Mp:Obj:=⟨v,none,(fo (g2 47 2) adp 0 [] v v v v none v v 0), #[]⟩
def Mn:Obj:=F (y l1) #[s x98 637,s adp 638,s x1 639,.int 156 0,.int 1 0,z,z,.int 3 0,r 347,.bool true,.int 181 0,r 348,v,r 349,r 350,r 351,.int 641 0,.int 156 0,s x1 642]
def Mm:Obj:=⟨y l3,none,(fo (g2 47 2) adp 3 [] v v v (s Ib 578) none (r 352) v 0), #[]⟩
def Ml:Obj:=Q (y l0) #[s SO 647,s x53 648,s x54 649]
def Mj:Obj:=⟨v,none,(fo (g2 47 3) ado 0 [] v v v v none v v 0), #[]⟩
def Mi:Obj:=F (y l1) #[s x99 644,s ado 645,s x1 646,.int 159 0,.int 3 0,z,z,.int 3 0,r 354,.bool true,.int 181 0,r 355,v,r 356,r 357,r 358,.int 650 0,.int 159 0,s x1 651]
def Mh:Obj:=⟨y l3,none,(fo (g2 47 3) ado 3 [] v v v (s Ib 578) none (r 359) v 0), #[]⟩
def Mf:Obj:=Q (y l0) #[s SO 656,s x53 657,s x54 658]
def Me:Obj:=⟨v,none,(fo (g2 47 4) adn 0 [] v v v v none v v 0), #[]⟩
def Mb:Obj:=F (y l1) #[s adv 653,s adn 654,s x1 655,.int 162 0,.int 3 0,z,z,.int 3 0,r 361,.bool true,.int 181 0,r 362,v,r 363,r 364,r 365,.int 659 0,.int 162 0,s x1 660]
def Ma:Obj:=⟨y l3,none,(fo (g2 47 4) adn 3 [] v v v (s Ib 578) none (r 366) v 0), #[]⟩
def L8:Obj:=Q (y l0) #[s SO 665,s x53 666,s x54 667]
def L7:Obj:=⟨v,none,(fo (g2 47 5) adm 0 [] v v v v none v v 0), #[]⟩
def L6:Obj:=F (y l1) #[s x94 662,s adm 663,s x1 664,.int 166 0,.int 3 0,z,z,.int 3 0,r 368,.bool true,.int 181 0,r 369,v,r 370,r 371,r 372,.int 668 0,.int 166 0,s x1 669]
def L5:Obj:=⟨y l3,none,(fo (g2 47 5) adm 3 [] v v v (s Ib 578) none (r 373) v 0), #[]⟩
def L3:Obj:=Q (y l0) #[s SO 674,s x53 675,s x54 676]
def L1:Obj:=⟨v,none,(fo (g2 47 6) adl 0 [] v v v v none v v 0), #[]⟩
def L0:Obj:=F (y l1) #[s adu 671,s adl 672,s x1 673,.int 170 0,.int 3 0,z,z,.int 3 0,r 375,.bool true,.int 181 0,r 376,v,r 377,r 378,r 379,.int 677 0,.int 170 0,s x1 678]
def LY:Obj:=⟨y l3,none,(fo (g2 47 6) adl 3 [] v v v (s Ib 578) none (r 380) v 0), #[]⟩
def LX:Obj:=⟨v,none,(fo (g2 47 7) adk 0 [] v v v v none v v 0), #[]⟩
def LW:Obj:=F (y l1) #[s adt 680,s adk 681,s x1 682,.int 173 0,.int 1 0,z,z,.int 3 0,r 382,.bool true,.int 181 0,r 383,v,v,v,r 384,.int 683 0,.int 173 0,s x1 684]
def LV:Obj:=⟨y l3,none,(fo (g2 47 7) adk 3 [] v v v (s Ib 578) none (r 385) v 0), #[]⟩
def LU:Obj:=Q (y l0) #[s x95 686,s x91 687]
def LS(P:Params):Obj:=⟨y l8,none,(.dict #[e P x8 619 (s Ib 578),e P Af 623 (.int 146 622),e P x87 629 (r 339),e P x97 636 (r 346),e P x98 643 (r 353),e P x99 652 (r 360),e P adv 661 (r 367),e P x94 670 (r 374),e P adu 679 (r 381),e P adt 685 (r 386),e P Ae 688 (r 387),e P x77 690 (r 390),e P x12 692 (r 391),e P Th 693 v] 4), #[]⟩
def LR:Obj:=⟨y l6,none,(.cls ⟨Zc,[y zg],[r 389,y zg],388,Zc,true,[],[],false,none,false⟩), #[none,none,(some (s Zc 612)),(some (s Zc 620)),(some (.builtin l17)),(some (.bool true))]⟩
def LQ:Obj:=F (y l14) #[s x77 689,r 389,.builtin l18,.builtin l19]
def LP:Obj:=F (y l14) #[s x12 691,r 389,.builtin l13,v]
def X5:Obj:=F (y VY) #[r 389,r 389,r 389]
def X4:Obj:=F (y l7) #[.builtin VX,r 389]
def T13(P:Params):BT:=(I (I (I (I (I (I (I (I (I (I (I (I (I (I (I (I (I (I (I (I (I (I (I (I (I (I (I (I (I (I (I (I (I (I (I (I (I (I (I (I (I (I (I (I (I (I (I (I (I (I (I (I (I (I (I (I (I (I (I (I (I (I (I (I (I (I (I (I (T12 P) 3 (ac1 P)) 12 afI) 328 af) 329 fR) 330 (Yb P)) 331 af) 332 X8) 333 X7) 334 X6) 335 af) 336 aq) 337 Mx) 338 Mw) 339 Mv) 340 af) 341 aq) 342 Mu) 343 af) 344 Mt) 345 Ms) 346 Mr) 347 af) 348 aq) 349 Mq) 350 af) 351 Mp) 352 Mn) 353 Mm) 354 af) 355 aq) 356 Ml) 357 af) 358 Mj) 359 Mi) 360 Mh) 361 af) 362 aq) 363 Mf) 364 af) 365 Me) 366 Mb) 367 Ma) 368 af) 369 aq) 370 L8) 371 af) 372 L7) 373 L6) 374 L5) 375 af) 376 aq) 377 L3) 378 af) 379 L1) 380 L0) 381 LY) 382 af) 383 aq) 384 LX) 385 LW) 386 LV) 387 LU) 388 (LS P)) 389 LR) 390 LQ) 391 LP) 392 X5) 393 X4)
def S13(P:Params)(os:OsState):SharedT:=⟨T13 P,394,lf, #[],⟨0,0,0,0⟩,696,os⟩
def X3(P:Params):Obj:=ud (ac1 P) [(0,e P x3 165 (s Am 696))] [e P Qw 705 (r 400),e P Qv 712 (r 407),e P Qu 722 (r 414),e P Qt 733 (r 421),e P Qs 750 (r 428),e P Qq 760 (r 435),e P Qp 766 (r 440),e P Qo 772 (r 445),e P Ti 778 (r 450)] 59
def Ot:Obj:=F v #[.int 1 0,z,r 20,.int 5 0,z,r 27,.int 7 0,z,r 40,.int 9 0,z,r 52,.int 11 0,z,r 64,.int 13 0,z,r 76,.int 15 0,z,r 88,.int 17 0,z,r 100,.int 21 0,z,r 113,.int 29 0,z,r 120,.int 36 0,z,r 127,.int 38 0,z,r 134,.int 45 0,z,r 142,.int 47 0,z,r 149,.int 55 0,z,r 156,.int 60 0,z,r 163,.int 62 0,z,r 170,.int 64 0,z,r 177,.int 67 0,z,r 182,.int 73 0,z,r 187,.int 75 0,z,r 192,.int 77 0,z,r 199,.int 80 0,z,r 206,.int 83 0,z,r 213,.int 88 0,z,r 220,.int 96 0,z,r 225,.int 99 0,z,r 232,.int 109 0,z,r 267,.int 113 0,z,r 286,.int 123 0,z,r 312,.int 131 0,z,r 319,.int 138 0,z,r 326,.int 146 0,z,r 333,.int 179 0,z,r 399,.int 183 0,z,r 406,.int 185 0,z,r 413,.int 191 0,z,r 420,.int 197 0,z,r 427,.int 208 0,z,r 434,.int 218 0,z,r 439,.int 224 0,z,r 444,.int 235 0,z,r 449]
def LO:Obj:=Q (y l0) #[s ahc 701,s ald 702]
def LN:Obj:=⟨v,none,(fo (g1 49) Qw 0 [] v v v v none v v 0), #[]⟩
def LL:Obj:=F (y l1) #[s Qw 698,s Qw 699,s x1 700,.int 179 0,.int 2 0,z,z,.int 3 0,r 394,.bool true,.int 181 0,r 395,v,r 396,r 397,r 398,.int 703 0,.int 179 0,s x1 704]
def LK:Obj:=⟨y l3,none,(fo (g1 49) Qw 3 [] v v v (s Am 696) none (r 399) v 0), #[]⟩
def LJ:Obj:=Q (y l0) #[s ahb 709]
def LH:Obj:=⟨v,none,(fo (g1 50) Qv 0 [] v v v v none v v 0), #[]⟩
def LG:Obj:=F (y l1) #[s Qv 706,s Qv 707,s x1 708,.int 183 0,.int 1 0,z,z,.int 3 0,r 401,.bool true,.int 181 0,r 402,v,r 403,r 404,r 405,.int 710 0,.int 183 0,s x1 711]
def LF:Obj:=⟨y l3,none,(fo (g1 50) Qv 3 [] v v v (s Am 696) none (r 406) v 0), #[]⟩
def LD:Obj:=Q (y l0) #[s alc 716,s alb 717,s ala 718,s ak9 719]
def LC:Obj:=⟨v,none,(fo (g1 51) Qu 0 [] v v v v none v v 0), #[]⟩
def LB:Obj:=F (y l1) #[s Qu 713,s Qu 714,s x1 715,.int 185 0,.int 2 0,z,z,.int 3 0,r 408,.bool true,.int 181 0,r 409,v,r 410,r 411,r 412,.int 720 0,.int 185 0,s x1 721]
def LA:Obj:=⟨y l3,none,(fo (g1 51) Qu 3 [] v v v (s Am 696) none (r 413) v 0), #[]⟩
def Lz:Obj:=Q (y l0) #[s ahc 726,s ak8 727,s adi 728,s aha 729,s ag9 730]
def Ly:Obj:=⟨v,none,(fo (g1 52) Qt 0 [] v v v v none v v 0), #[]⟩
def Lx:Obj:=F (y l1) #[s Qt 723,s Qt 724,s x1 725,.int 191 0,.int 2 0,z,z,.int 3 0,r 415,.bool true,.int 181 0,r 416,v,r 417,r 418,r 419,.int 731 0,.int 191 0,s x1 732]
def Lw:Obj:=⟨y l3,none,(fo (g1 52) Qt 3 [] v v v (s Am 696) none (r 420) v 0), #[]⟩
def Lv:Obj:=Q (y l0) #[s adi 737,s aha 738,s ak7 739,s ak6 740,s ak5 741,s ak4 742,s ag9 743,s ak3 744,s ak2 745,s ak1 746,s ak0 747]
def Lu:Obj:=⟨v,none,(fo (g1 53) Qs 0 [] v v v v none v v 0), #[]⟩
def Ls:Obj:=F (y l1) #[s Qs 734,s Qs 735,s x1 736,.int 197 0,.int 4 0,z,z,.int 3 0,r 422,.bool true,.int 181 0,r 423,v,r 424,r 425,r 426,.int 748 0,.int 197 0,s x1 749]
def Lr:Obj:=⟨y l3,none,(fo (g1 53) Qs 3 [] v v v (s Am 696) none (r 427) v 0), #[]⟩
def Lq:Obj:=Q (y l0) #[s akZ 754,s adi 755,s ahb 756,s akY 757]
def Lo:Obj:=⟨v,none,(fo (g1 54) Qq 0 [] v v v v none v v 0), #[]⟩
def Ln:Obj:=F (y l1) #[s Qq 751,s Qq 752,s x1 753,.int 208 0,.int 2 0,z,z,.int 3 0,r 429,.bool true,.int 181 0,r 430,v,r 431,r 432,r 433,.int 758 0,.int 208 0,s x1 759]
def Lm:Obj:=⟨y l3,none,(fo (g1 54) Qq 3 [] v v v (s Am 696) none (r 434) v 0), #[]⟩
def Ll:Obj:=⟨v,none,(fo (g1 55) Qp 0 [] v v v v none v v 0), #[]⟩
def Lk:Obj:=F (y l1) #[s Qp 761,s Qp 762,s x1 763,.int 218 0,.int 1 0,z,z,.int 3 0,r 436,.bool true,.int 181 0,r 437,v,v,v,r 438,.int 764 0,.int 218 0,s x1 765]
def Lj:Obj:=⟨y l3,none,(fo (g1 55) Qp 3 [] v v v (s Am 696) none (r 439) v 0), #[]⟩
def Li:Obj:=⟨v,none,(fo (g1 56) Qo 0 [] v v v v none v v 0), #[]⟩
def Lh:Obj:=F (y l1) #[s Qo 767,s Qo 768,s x1 769,.int 224 0,.int 1 0,z,z,.int 3 0,r 441,.bool true,.int 181 0,r 442,v,v,v,r 443,.int 770 0,.int 224 0,s x1 771]
def Lg:Obj:=⟨y l3,none,(fo (g1 56) Qo 3 [] v v v (s Am 696) none (r 444) v 0), #[]⟩
def Lf:Obj:=⟨v,none,(fo (g1 57) Ti 0 [] v v v v none v v 0), #[]⟩
def Le:Obj:=F (y l1) #[s Ti 773,s Ti 774,s x1 775,.int 235 0,.int 1 0,z,z,.int 3 0,r 446,.bool true,.int 181 0,r 447,v,v,v,r 448,.int 776 0,.int 235 0,s x1 777]
def Ld:Obj:=⟨y l3,none,(fo (g1 57) Ti 3 [] v v v (s Am 696) none (r 449) v 0), #[]⟩
def T14(P:Params):BT:=(I (I (I (I (I (I (I (I (I (I (I (I (I (I (I (I (I (I (I (I (I (I (I (I (I (I (I (I (I (I (I (I (I (I (I (I (I (I (I (I (I (I (I (I (I (I (I (I (I (I (I (I (I (I (I (I (I (I (I (T13 P) 3 (X3 P)) 12 Ot) 394 af) 395 aq) 396 LO) 397 af) 398 LN) 399 LL) 400 LK) 401 af) 402 aq) 403 LJ) 404 af) 405 LH) 406 LG) 407 LF) 408 af) 409 aq) 410 LD) 411 af) 412 LC) 413 LB) 414 LA) 415 af) 416 aq) 417 Lz) 418 af) 419 Ly) 420 Lx) 421 Lw) 422 af) 423 aq) 424 Lv) 425 af) 426 Lu) 427 Ls) 428 Lr) 429 af) 430 aq) 431 Lq) 432 af) 433 Lo) 434 Ln) 435 Lm) 436 af) 437 aq) 438 Ll) 439 Lk) 440 Lj) 441 af) 442 aq) 443 Li) 444 Lh) 445 Lg) 446 af) 447 aq) 448 Lf) 449 Le) 450 Ld)
def S14(P:Params)(os:OsState):SharedT:=⟨T14 P,451,lf, #[],⟨0,0,0,0⟩,779,os⟩
def HF(P:Params):Heap:=⟨⟨[boot_o_0 P,boot_o_1 P,boot_o_2 P,X3 P,boot_o_4 P,boot_o_5 P,boot_o_6 P,boot_o_7 P,boot_o_8 P,boot_o_9 P,boot_o_10 P,af,Ot,YE,YD,af,aq,YC,af,YB,YA,Yz,Yx,fR,ac9 P,af,aq,ac8,ac7,af,Ye P,Yd,Yc,ac6,ac5,iD,fR,ac4 P,af,aq,acZ,acY,af,X0 P,XZ,acX,acW,iD,fR,acV P,af,aq,acU,acT,af,XY P,XX,acS,acR,iD,fR,acQ P,af,aq,acP,acO,af,XW P,XU,acN,acM,iD,fR,acL P,af,aq,acK,acJ,af,XS P,XR,acI,acH,iD,fR,acG P,af,aq,acF,acE,af,XQ P,XO,acD,acC,iD,fR,acB P,af,aq,YI,YH,af,OL P,OJ,YG,YF,OI,af,aq,OH,af,OG,OF,OE,af,aq,OD,af,OC,OB,OA,af,aq,Oz,af,Ox,Ov,Ou,af,aq,Oq,af,Oo,Om,Ol,Oj,af,aq,Oi,af,Oh,Og,Of,af,aq,Oe,af,Od,Oc,Ob,af,aq,Oa,af,N9,N8,N7,af,aq,N6,af,N5,N4,N3,af,aq,N2,af,N1,NZ,NY,af,aq,NX,af,NW,NV,NU,af,aq,NT,NS,NR,af,aq,NQ,NP,NO,af,aq,NN,NL,NK,af,aq,NJ,af,NI,NH,NG,af,aq,NF,af,ND,NC,NB,af,aq,Nz,af,Ny,Nx,Nv,af,aq,Nu,af,Nt,Nr,Nq,af,aq,Np,Nn,Nm,af,fR,Yy P,af,Yw,Yv,Yu,af,aq,Nk,af,Nj,Ni,Nh,af,aq,Ng,af,Nf,Nc,Nb,af,aq,Na,af,M9,M8,M7,af,M6 P,M5,M4,M3,Yt,Ys,vt,fR,Yr P,af,Yq,Yp,Yo,af,aq,M0,af,MZ,MY,MX,af,MW P,MV,Yn,Ym,vt,fR,Yl P,af,Yk,Yj,Yi,af,aq,MU,af,MT,MS,MR,af,aq,MQ,af,MP,MO,MN,MM,ML P,MK,Yh,Yg,af,aq,MJ,af,MI,MH,MG,af,aq,MF,af,ME,MD,MC,af,aq,MB,af,MA,Mz,My,af,fR,Yb P,af,X8,X7,X6,af,aq,Mx,Mw,Mv,af,aq,Mu,af,Mt,Ms,Mr,af,aq,Mq,af,Mp,Mn,Mm,af,aq,Ml,af,Mj,Mi,Mh,af,aq,Mf,af,Me,Mb,Ma,af,aq,L8,af,L7,L6,L5,af,aq,L3,af,L1,L0,LY,af,aq,LX,LW,LV,LU,LS P,LR,LQ,LP,X5,X4,af,aq,LO,af,LN,LL,LK,af,aq,LJ,af,LH,LG,LF,af,aq,LD,af,LC,LB,LA,af,aq,Lz,af,Ly,Lx,Lw,af,aq,Lv,af,Lu,Ls,Lr,af,aq,Lq,af,Lo,Ln,Lm,af,aq,Ll,Lk,Lj,af,aq,Li,Lh,Lg,af,aq,Lf,Le,Ld]⟩,lf⟩
def KF(P:Params):Frag:=(nat_lit 0,(boot_o_0 P))::(nat_lit 1,(boot_o_1 P))::(nat_lit 2,(boot_o_2 P))::(nat_lit 3,(X3 P))::(nat_lit 4,(boot_o_4 P))::(nat_lit 5,(boot_o_5 P))::(nat_lit 6,(boot_o_6 P))::(nat_lit 7,(boot_o_7 P))::(nat_lit 8,(boot_o_8 P))::(nat_lit 9,(boot_o_9 P))::(nat_lit 10,(boot_o_10 P))::(nat_lit 11,af)::(nat_lit 12,Ot)::(nat_lit 13,YE)::(nat_lit 14,YD)::(nat_lit 15,af)::(nat_lit 16,aq)::(nat_lit 17,YC)::(nat_lit 18,af)::(nat_lit 19,YB)::(nat_lit 20,YA)::(nat_lit 21,Yz)::(nat_lit 22,Yx)::(nat_lit 29,af)::(nat_lit 30,(Ye P))::(nat_lit 31,Yd)::(nat_lit 32,Yc)::(nat_lit 35,iD)::(nat_lit 42,af)::(nat_lit 43,(X0 P))::(nat_lit 44,XZ)::(nat_lit 47,iD)::(nat_lit 54,af)::(nat_lit 55,(XY P))::(nat_lit 56,XX)::(nat_lit 59,iD)::(nat_lit 66,af)::(nat_lit 67,(XW P))::(nat_lit 68,XU)::(nat_lit 71,iD)::(nat_lit 78,af)::(nat_lit 79,(XS P))::(nat_lit 80,XR)::(nat_lit 83,iD)::(nat_lit 90,af)::(nat_lit 91,(XQ P))::(nat_lit 92,XO)::(nat_lit 95,iD)::(nat_lit 102,af)::(nat_lit 103,(OL P))::(nat_lit 104,OJ)::(nat_lit 107,OI)::(nat_lit 108,af)::(nat_lit 109,aq)::(nat_lit 110,OH)::(nat_lit 111,af)::(nat_lit 112,OG)::(nat_lit 113,OF)::(nat_lit 114,OE)::(nat_lit 115,af)::(nat_lit 116,aq)::(nat_lit 117,OD)::(nat_lit 118,af)::(nat_lit 119,OC)::(nat_lit 120,OB)::(nat_lit 121,OA)::(nat_lit 122,af)::(nat_lit 123,aq)::(nat_lit 124,Oz)::(nat_lit 125,af)::(nat_lit 126,Ox)::(nat_lit 127,Ov)::(nat_lit 128,Ou)::(nat_lit 129,af)::(nat_lit 130,aq)::(nat_lit 131,Oq)::(nat_lit 132,af)::(nat_lit 133,Oo)::(nat_lit 134,Om)::(nat_lit 135,Ol)::(nat_lit 136,Oj)::(nat_lit 137,af)::(nat_lit 138,aq)::(nat_lit 139,Oi)::(nat_lit 140,af)::(nat_lit 141,Oh)::(nat_lit 142,Og)::(nat_lit 143,Of)::(nat_lit 144,af)::(nat_lit 145,aq)::(nat_lit 146,Oe)::(nat_lit 147,af)::(nat_lit 148,Od)::(nat_lit 149,Oc)::(nat_lit 150,Ob)::(nat_lit 151,af)::(nat_lit 152,aq)::(nat_lit 153,Oa)::(nat_lit 154,af)::(nat_lit 155,N9)::(nat_lit 156,N8)::(nat_lit 157,N7)::(nat_lit 158,af)::(nat_lit 159,aq)::(nat_lit 160,N6)::(nat_lit 161,af)::(nat_lit 162,N5)::(nat_lit 163,N4)::(nat_lit 164,N3)::(nat_lit 165,af)::(nat_lit 166,aq)::(nat_lit 167,N2)::(nat_lit 168,af)::(nat_lit 169,N1)::(nat_lit 170,NZ)::(nat_lit 171,NY)::(nat_lit 172,af)::(nat_lit 173,aq)::(nat_lit 174,NX)::(nat_lit 175,af)::(nat_lit 176,NW)::(nat_lit 177,NV)::(nat_lit 178,NU)::(nat_lit 179,af)::(nat_lit 180,aq)::(nat_lit 181,NT)::(nat_lit 182,NS)::(nat_lit 183,NR)::(nat_lit 184,af)::(nat_lit 185,aq)::(nat_lit 186,NQ)::(nat_lit 187,NP)::(nat_lit 188,NO)::(nat_lit 189,af)::(nat_lit 190,aq)::(nat_lit 191,NN)::(nat_lit 192,NL)::(nat_lit 193,NK)::(nat_lit 194,af)::(nat_lit 195,aq)::(nat_lit 196,NJ)::(nat_lit 197,af)::(nat_lit 198,NI)::(nat_lit 199,NH)::(nat_lit 200,NG)::(nat_lit 201,af)::(nat_lit 202,aq)::(nat_lit 203,NF)::(nat_lit 204,af)::(nat_lit 205,ND)::(nat_lit 206,NC)::(nat_lit 207,NB)::(nat_lit 208,af)::(nat_lit 209,aq)::(nat_lit 210,Nz)::(nat_lit 211,af)::(nat_lit 212,Ny)::(nat_lit 213,Nx)::(nat_lit 214,Nv)::(nat_lit 215,af)::(nat_lit 216,aq)::(nat_lit 217,Nu)::(nat_lit 218,af)::(nat_lit 219,Nt)::(nat_lit 220,Nr)::(nat_lit 221,Nq)::(nat_lit 222,af)::(nat_lit 223,aq)::(nat_lit 224,Np)::(nat_lit 225,Nn)::(nat_lit 226,Nm)::(nat_lit 234,af)::(nat_lit 235,aq)::(nat_lit 236,Nk)::(nat_lit 237,af)::(nat_lit 238,Nj)::(nat_lit 239,Ni)::(nat_lit 240,Nh)::(nat_lit 241,af)::(nat_lit 242,aq)::(nat_lit 243,Ng)::(nat_lit 244,af)::(nat_lit 245,Nf)::(nat_lit 246,Nc)::(nat_lit 247,Nb)::(nat_lit 248,af)::(nat_lit 249,aq)::(nat_lit 250,Na)::(nat_lit 251,af)::(nat_lit 252,M9)::(nat_lit 253,M8)::(nat_lit 254,M7)::(nat_lit 255,af)::(nat_lit 256,(M6 P))::(nat_lit 257,M5)::(nat_lit 258,M4)::(nat_lit 259,M3)::(nat_lit 262,vt)::(nat_lit 269,af)::(nat_lit 270,aq)::(nat_lit 271,M0)::(nat_lit 272,af)::(nat_lit 273,MZ)::(nat_lit 274,MY)::(nat_lit 275,MX)::(nat_lit 276,af)::(nat_lit 277,(MW P))::(nat_lit 278,MV)::(nat_lit 281,vt)::(nat_lit 288,af)::(nat_lit 289,aq)::(nat_lit 290,MU)::(nat_lit 291,af)::(nat_lit 292,MT)::(nat_lit 293,MS)::(nat_lit 294,MR)::(nat_lit 295,af)::(nat_lit 296,aq)::(nat_lit 297,MQ)::(nat_lit 298,af)::(nat_lit 299,MP)::(nat_lit 300,MO)::(nat_lit 301,MN)::(nat_lit 302,MM)::(nat_lit 303,(ML P))::(nat_lit 304,MK)::(nat_lit 307,af)::(nat_lit 308,aq)::(nat_lit 309,MJ)::(nat_lit 310,af)::(nat_lit 311,MI)::(nat_lit 312,MH)::(nat_lit 313,MG)::(nat_lit 314,af)::(nat_lit 315,aq)::(nat_lit 316,MF)::(nat_lit 317,af)::(nat_lit 318,ME)::(nat_lit 319,MD)::(nat_lit 320,MC)::(nat_lit 321,af)::(nat_lit 322,aq)::(nat_lit 323,MB)::(nat_lit 324,af)::(nat_lit 325,MA)::(nat_lit 326,Mz)::(nat_lit 327,My)::(nat_lit 335,af)::(nat_lit 336,aq)::(nat_lit 337,Mx)::(nat_lit 338,Mw)::(nat_lit 339,Mv)::(nat_lit 340,af)::(nat_lit 341,aq)::(nat_lit 342,Mu)::(nat_lit 343,af)::(nat_lit 344,Mt)::(nat_lit 345,Ms)::(nat_lit 346,Mr)::(nat_lit 347,af)::(nat_lit 348,aq)::(nat_lit 349,Mq)::(nat_lit 350,af)::(nat_lit 351,Mp)::(nat_lit 352,Mn)::(nat_lit 353,Mm)::(nat_lit 354,af)::(nat_lit 355,aq)::(nat_lit 356,Ml)::(nat_lit 357,af)::(nat_lit 358,Mj)::(nat_lit 359,Mi)::(nat_lit 360,Mh)::(nat_lit 361,af)::(nat_lit 362,aq)::(nat_lit 363,Mf)::(nat_lit 364,af)::(nat_lit 365,Me)::(nat_lit 366,Mb)::(nat_lit 367,Ma)::(nat_lit 368,af)::(nat_lit 369,aq)::(nat_lit 370,L8)::(nat_lit 371,af)::(nat_lit 372,L7)::(nat_lit 373,L6)::(nat_lit 374,L5)::(nat_lit 375,af)::(nat_lit 376,aq)::(nat_lit 377,L3)::(nat_lit 378,af)::(nat_lit 379,L1)::(nat_lit 380,L0)::(nat_lit 381,LY)::(nat_lit 382,af)::(nat_lit 383,aq)::(nat_lit 384,LX)::(nat_lit 385,LW)::(nat_lit 386,LV)::(nat_lit 387,LU)::(nat_lit 388,(LS P))::(nat_lit 389,LR)::(nat_lit 390,LQ)::(nat_lit 391,LP)::(nat_lit 394,af)::(nat_lit 395,aq)::(nat_lit 396,LO)::(nat_lit 397,af)::(nat_lit 398,LN)::(nat_lit 399,LL)::(nat_lit 400,LK)::(nat_lit 401,af)::(nat_lit 402,aq)::(nat_lit 403,LJ)::(nat_lit 404,af)::(nat_lit 405,LH)::(nat_lit 406,LG)::(nat_lit 407,LF)::(nat_lit 408,af)::(nat_lit 409,aq)::(nat_lit 410,LD)::(nat_lit 411,af)::(nat_lit 412,LC)::(nat_lit 413,LB)::(nat_lit 414,LA)::(nat_lit 415,af)::(nat_lit 416,aq)::(nat_lit 417,Lz)::(nat_lit 418,af)::(nat_lit 419,Ly)::(nat_lit 420,Lx)::(nat_lit 421,Lw)::(nat_lit 422,af)::(nat_lit 423,aq)::(nat_lit 424,Lv)::(nat_lit 425,af)::(nat_lit 426,Lu)::(nat_lit 427,Ls)::(nat_lit 428,Lr)::(nat_lit 429,af)::(nat_lit 430,aq)::(nat_lit 431,Lq)::(nat_lit 432,af)::(nat_lit 433,Lo)::(nat_lit 434,Ln)::(nat_lit 435,Lm)::(nat_lit 436,af)::(nat_lit 437,aq)::(nat_lit 438,Ll)::(nat_lit 439,Lk)::(nat_lit 440,Lj)::(nat_lit 441,af)::(nat_lit 442,aq)::(nat_lit 443,Li)::(nat_lit 444,Lh)::(nat_lit 445,Lg)::(nat_lit 446,af)::(nat_lit 447,aq)::(nat_lit 448,Lf)::(nat_lit 449,Le)::(nat_lit 450,Ld)::[]
noncomputable def AF:List Nat:=[0,1,2,3,4,5,6,7,8,9,10,11,12,13,14,15,16,17,18,19,20,21,22,29,30,31,32,35,42,43,44,47,54,55,56,59,66,67,68,71,78,79,80,83,90,91,92,95,102,103,104,107,108,109,110,111,112,113,114,115,116,117,118,119,120,121,122,123,124,125,126,127,128,129,130,131,132,133,134,135,136,137,138,139,140,141,142,143,144,145,146,147,148,149,150,151,152,153,154,155,156,157,158,159,160,161,162,163,164,165,166,167,168,169,170,171,172,173,174,175,176,177,178,179,180,181,182,183,184,185,186,187,188,189,190,191,192,193,194,195,196,197,198,199,200,201,202,203,204,205,206,207,208,209,210,211,212,213,214,215,216,217,218,219,220,221,222,223,224,225,226,234,235,236,237,238,239,240,241,242,243,244,245,246,247,248,249,250,251,252,253,254,255,256,257,258,259,262,269,270,271,272,273,274,275,276,277,278,281,288,289,290,291,292,293,294,295,296,297,298,299,300,301,302,303,304,307,308,309,310,311,312,313,314,315,316,317,318,319,320,321,322,323,324,325,326,327,335,336,337,338,339,340,341,342,343,344,345,346,347,348,349,350,351,352,353,354,355,356,357,358,359,360,361,362,363,364,365,366,367,368,369,370,371,372,373,374,375,376,377,378,379,380,381,382,383,384,385,386,387,388,389,390,391,394,395,396,397,398,399,400,401,402,403,404,405,406,407,408,409,410,411,412,413,414,415,416,417,418,419,420,421,422,423,424,425,426,427,428,429,430,431,432,433,434,435,436,437,438,439,440,441,442,443,444,445,446,447,448,449,450]
def LZ:List Str:=[x5,x6,Zk,Zj,Zi,Zh,Zg,Zf,x21,x22,x23,x24,x25,x26,x27,x28,x39,x40,x41,x42,x43,x44,x45,x46,x47,x48,x49,x50,x51,x63,x64,x66,x67,ET,Ze,Zd,x83,x84,x85,x86,Zc,Qw,Qv,Qu,Qt,Qs,Qq,Qp,Qo]
def ev:Env:={scope:=pq.main.scope,locals:=mainNs,globals:=mainNs,cells:=[],code:=(.ref 13),frame:=some 14}
noncomputable abbrev cE:Code:= .body bE ev
noncomputable abbrev Bq:List Frame:=[topFrame ⟨0,0,0,0⟩]
def sl(i n:Nat):List Stmt:=(bE.drop i).take n
noncomputable abbrev an:Option Value:=(some (.ref 6))
def lg{w:World}{n:Nat}{s s':SharedT}{t:Thread}{f:Flow}{c:Code}{q:Pos}(h:W.Fast.tw10110043849684766642 W.Fast.tw14364793385576792824 pq w 11 an 1 n s t=some (f,s',c,q)):segRun treeTable pq w 11 an 1 n s.abs t=some (f,s'.abs,c,q):=segRun_of (by rw[W.Fast.te10110043849684766642,W.Fast.te14364793385576792824];exact h)
def lt{w:World}{n:Nat}{s:Shared}{t:Thread}{r:Option Shared}(h:W.Fast.tw14082659384304107361 W.Fast.tw14364793385576792824 pq w 11 an n s t=r):topRun treeTable pq w 11 an n s t=r:=by rw[W.Fast.te14082659384304107361,W.Fast.te14364793385576792824];exact h
def lp{w:World}{n:Nat}{s s':Shared}{p:Pos}(h:W.Fast.tw15667345088766844465 W.Fast.tw14364793385576792824 pq w 11 an n s (W.topStub pq)=some (s',⟨W.Fast.tw11892475500146522536 W.Fast.tw14364793385576792824 cE,cE,p,Bq⟩)):topGo treeTable pq w 11 an n s (topStub pq)=some (s',⟨denote treeTable cE,cE,p,Bq⟩):=by rw[W.Fast.te15667345088766844465,W.Fast.te11892475500146522536,W.Fast.te14364793385576792824];exact h
def pre(w:World)(os:OsState):topGo treeTable pq w 11 an 12 ⟨boot_heap w.params,Array.mk [],boot_drawn,boot_toks,os⟩ (topStub pq)=some ((S0 w.params os).abs,⟨denote treeTable cE,cE,⟨0,0,0,0⟩,Bq⟩):=lp (by kernel_rfl)
def v5(w:World)(os:OsState):segRun treeTable pq w 11 an 1 1 (S0 w.params os).abs (blockOf bE ev cE ⟨0,0,0,0⟩ Bq)=some (.next,(S1 w.params os).abs,cE,⟨0,0,0,0⟩):=lg (by kernel_rfl)
def g_1(w:World)(os:OsState):segRun treeTable pq w 11 an 1 225 (S1 w.params os).abs (piecesOf (sl 0 3) ev cE ⟨0,0,0,0⟩ Bq)=some (.next,(S2 w.params os).abs,cE,⟨5,0,6,8⟩):=lg (by kernel_rfl)
def g_2(w:World)(os:OsState):segRun treeTable pq w 11 an 1 214 (S2 w.params os).abs (piecesOf (sl 3 1) ev cE ⟨5,0,6,8⟩ Bq)=some (.next,(S3 w.params os).abs,cE,⟨7,0,8,8⟩):=lg (by kernel_rfl)
def g_3(w:World)(os:OsState):segRun treeTable pq w 11 an 1 214 (S3 w.params os).abs (piecesOf (sl 4 1) ev cE ⟨7,0,8,8⟩ Bq)=some (.next,(S4 w.params os).abs,cE,⟨9,0,10,8⟩):=lg (by kernel_rfl)
def g_4(w:World)(os:OsState):segRun treeTable pq w 11 an 1 214 (S4 w.params os).abs (piecesOf (sl 5 1) ev cE ⟨9,0,10,8⟩ Bq)=some (.next,(S5 w.params os).abs,cE,⟨11,0,12,8⟩):=lg (by kernel_rfl)
def g_5(w:World)(os:OsState):segRun treeTable pq w 11 an 1 214 (S5 w.params os).abs (piecesOf (sl 6 1) ev cE ⟨11,0,12,8⟩ Bq)=some (.next,(S6 w.params os).abs,cE,⟨13,0,14,8⟩):=lg (by kernel_rfl)
def g_6(w:World)(os:OsState):segRun treeTable pq w 11 an 1 214 (S6 w.params os).abs (piecesOf (sl 7 1) ev cE ⟨13,0,14,8⟩ Bq)=some (.next,(S7 w.params os).abs,cE,⟨15,0,16,8⟩):=lg (by kernel_rfl)
def g_7(w:World)(os:OsState):segRun treeTable pq w 11 an 1 395 (S7 w.params os).abs (piecesOf (sl 8 11) ev cE ⟨15,0,16,8⟩ Bq)=some (.next,(S8 w.params os).abs,cE,⟨43,0,43,4⟩):=lg (by kernel_rfl)
def g_8(w:World)(os:OsState):segRun treeTable pq w 11 an 1 382 (S8 w.params os).abs (piecesOf (sl 19 15) ev cE ⟨43,0,43,4⟩ Bq)=some (.next,(S9 w.params os).abs,cE,⟨83,0,87,36⟩):=lg (by kernel_rfl)
def g_9(w:World)(os:OsState):segRun treeTable pq w 11 an 1 369 (S9 w.params os).abs (piecesOf (sl 34 6) ev cE ⟨83,0,87,36⟩ Bq)=some (.next,(S10 w.params os).abs,cE,⟨99,0,108,16⟩):=lg (by kernel_rfl)
def amy(w:World)(os:OsState):segRun treeTable pq w 11 an 1 244 (S10 w.params os).abs (piecesOf (sl 40 1) ev cE ⟨99,0,108,16⟩ Bq)=some (.next,(S11 w.params os).abs,cE,⟨109,0,112,25⟩):=lg (by kernel_rfl)
def amx(w:World)(os:OsState):segRun treeTable pq w 11 an 1 391 (S11 w.params os).abs (piecesOf (sl 41 6) ev cE ⟨109,0,112,25⟩ Bq)=some (.next,(S12 w.params os).abs,cE,⟨138,0,145,15⟩):=lg (by kernel_rfl)
def amw(w:World)(os:OsState):segRun treeTable pq w 11 an 1 442 (S12 w.params os).abs (piecesOf (sl 47 1) ev cE ⟨138,0,145,15⟩ Bq)=some (.next,(S13 w.params os).abs,cE,⟨146,0,177,19⟩):=lg (by kernel_rfl)
def amv(w:World)(os:OsState):segRun treeTable pq w 11 an 1 283 (S13 w.params os).abs (piecesOf (sl 48 10) ev cE ⟨146,0,177,19⟩ Bq)=some (.next,(S14 w.params os).abs,cE,⟨235,0,250,112⟩):=lg (by kernel_rfl)
def fin(w:World)(os:OsState):topRun treeTable pq w 11 an 2 (S14 w.params os).abs ⟨doneF .next,cE,⟨235,0,250,112⟩,Bq⟩=some ⟨HF w.params, #[],⟨0,0,0,0⟩,779,os⟩:=lt (by kernel_rfl)
def ai2:bE=sl 0 3++(sl 3 1++(sl 4 1++(sl 5 1++(sl 6 1++(sl 7 1++(sl 8 11++(sl 19 15++(sl 34 6++(sl 40 1++(sl 41 6++(sl 47 1++(sl 48 10++[])))))))))))):=by kernel_rfl
def rest(w:World)(os:OsState):topRun treeTable pq w 11 an (225+(214+(214+(214+(214+(214+(395+(382+(369+(244+(391+(442+(283+(2)))))))))))))) (S1 w.params os).abs (restOf bE ev cE ⟨0,0,0,0⟩ Bq)=some ⟨HF w.params, #[],⟨0,0,0,0⟩,779,os⟩:=(congrArg (λ l=>topRun treeTable pq w 11 an (225+(214+(214+(214+(214+(214+(395+(382+(369+(244+(391+(442+(283+(2)))))))))))))) (S1 w.params os).abs (restOf l ev cE ⟨0,0,0,0⟩ Bq)) ai2).trans (piece_app (g_1 w os) (piece_app (g_2 w os) (piece_app (g_3 w os) (piece_app (g_4 w os) (piece_app (g_5 w os) (piece_app (g_6 w os) (piece_app (g_7 w os) (piece_app (g_8 w os) (piece_app (g_9 w os) (piece_app (amy w os) (piece_app (amx w os) (piece_app (amw w os) (piece_app (amv w os) (piece_nil (fin w os)))))))))))))))
def run(w:World)(os:OsState):topRun treeTable pq w 11 an (12+(1+(225+(214+(214+(214+(214+(214+(395+(382+(369+(244+(391+(442+(283+(2)))))))))))))))) ⟨boot_heap w.params,Array.mk [],boot_drawn,boot_toks,os⟩ (topStub pq)=some ⟨HF w.params, #[],⟨0,0,0,0⟩,779,os⟩:=go_top (pre w os) (piece_block (v5 w os) (rest w os))
noncomputable abbrev qv:Program:=view pq [57]
def lk1(w:World)(os:OsState):(staticsOk (importedModules pq.main.body) (boot_heap w.params) (HF w.params)&&namesBound pq (HF w.params)&&gensDone (Shared.mk (HF w.params) #[] ⟨0,0,0,0⟩ 779 os)&&laidKept (boot_heap w.params) (HF w.params))=true:=by kernel_rfl
def lk2(w:World)(os:OsState):openSeen qv LZ (importedModules pq.main.body) (λ _=>true) true (Shared.mk (HF w.params) #[] ⟨0,0,0,0⟩ 779 os)=openGood qv LZ:=by rw[W.Fast.te4187177175401517315];kernel_rfl
def lk3(w:World)(os:OsState):X.obsZ AF (Shared.mk (HF w.params) #[] ⟨0,0,0,0⟩ 779 os)=X.valZ KF 451 779 w:=by kernel_rfl
def hl1:LeftO pq qv LZ (λ _=>true) (X.obsZ AF) (X.valZ KF 451 779) 7702:=LeftO.of_pieces (boot_open (by kernel_rfl) (by kernel_rfl) (λ s=>by kernel_rfl)) (m₀:=11) (ann:=an) (λ w=>by kernel_rfl) run (by kernel_rfl) (λ w=>funext λ os=>looks_pair (lk1 w os) (looks_pair (lk2 w os) (lk3 w os)))
def hl:LeftO PySem.Challenge.pw_beamtable_k23_light_of_lamps (view PySem.Challenge.pw_beamtable_k23_light_of_lamps [57]) LZ (λ _=>true) (X.obsZ AF) (X.valZ KF 451 779) 7702:=by rw[W.Fast.te14610013476844583590];exact hl1
end KO
end
section
namespace L2
open PySem PySem.Spec PyProof.Rows
noncomputable abbrev Key:=Sum Int Str
def zo:Key->Value->Bool
 | .inl k,v=>Value.isInt k v
 | .inr x,v=>Value.isStrOf x v
def al8(w:World):Key->Int
 | .inl k=>hashInt k
 | .inr x=>hashStr w x
def cM:∀{k:Key} {v:Value},zo k v=true->(∃i t,k=Sum.inl i/\v=Value.int i t)\/(∃x t,k=Sum.inr x/\v=Value.str x t)
 | .inl i,v,h=>by obtain ⟨t,e⟩:=Value.isInt_shape (k:=i) (v:=v) h;exact .inl ⟨i,t,rfl,e⟩
 | .inr x,v,h=>by obtain ⟨t,e⟩:=Value.isStrOf_shape (x:=x) (v:=v) h;exact .inr ⟨x,t,rfl,e⟩
def RE(i:Int)(t:Tok):zo (.inl i) (.int i t)=true:=by simp[zo,Value.isInt]
def RD(x:Str)(t:Tok):zo (.inr x) (.str x t)=true:=by simp[zo,Value.isStrOf]
def aeS(a b:Int):decide ((Sum.inl a:Key)=Sum.inl b)=(a==b):=by
 by_cases e:a=b
 ·subst e;simp
 ·have h:¬(Sum.inl a:Key)=Sum.inl b:=λ q=>e (Sum.inl.inj q);rw[decide_eq_false h];exact (beq_eq_false_iff_ne.mpr e).symm
def aeP(a b:Str):decide ((Sum.inr a:Key)=Sum.inr b)=decide (a=b):=by
 by_cases e:a=b
 ·subst e;simp
 ·have h:¬(Sum.inr a:Key)=Sum.inr b:=λ q=>e (Sum.inr.inj q);rw[decide_eq_false h,decide_eq_false e]
def aeR(a:Int)(b:Str):decide ((Sum.inl a:Key)=Sum.inr b)=false:=decide_eq_false (λ q=>nomatch q)
def aeQ(a:Str)(b:Int):decide ((Sum.inr a:Key)=Sum.inl b)=false:=decide_eq_false (λ q=>nomatch q)
def cI(prog:Program)(w:World):PySem.KeyKind prog w Key where
 is:=zo
 hash:=al8 w
 inj:=λ v a b ha hb=>by
  rcases cM ha with ⟨i,t,rfl,rfl⟩|⟨x,t,rfl,rfl⟩
  ·rcases cM hb with ⟨j,u,rfl,e⟩|⟨y,u,rfl,e⟩
   ·injection e with e1 _;rw[e1]
   ·exact nomatch e
  ·rcases cM hb with ⟨j,u,rfl,e⟩|⟨y,u,rfl,e⟩
   ·exact nomatch e
   ·injection e with e1 _;rw[e1]
 byValue:=λ k v h=>by
  rcases cM h with ⟨i,t,rfl,rfl⟩|⟨x,t,rfl,rfl⟩<;>rfl
 pyHash:=λ hv h=>by
  rcases cM hv with ⟨i,t,rfl,rfl⟩|⟨x,t,rfl,rfl⟩
  ·exact wpAny_pyHash_int h
  ·exact wpAny_pyHash_str h
 eqBool:=λ hu hv h=>by
  rcases cM hu with ⟨i,t,rfl,rfl⟩|⟨x,t,rfl,rfl⟩
  ·rcases cM hv with ⟨j,u,rfl,rfl⟩|⟨y,u,rfl,rfl⟩
   ·rw[aeS] at h;exact wpAny_eqBool_int h
   ·rw[aeR] at h;exact SeqAt.EqAt.int_str i t y u _ _ _ _ h
  ·rcases cM hv with ⟨j,u,rfl,rfl⟩|⟨y,u,rfl,rfl⟩
   ·rw[aeQ] at h;exact SeqAt.EqAt.str_int x t j u _ _ _ _ h
   ·rw[aeP] at h;exact wpAny_eqBool_str h
 «strs»:=λ k x t v h=>by
  rcases cM h with ⟨i,u,rfl,e⟩|⟨y,u,rfl,e⟩
  ·exact nomatch e
  ·injection e with e1 _
   subst e1
   cases v<;>rfl
def aeE(prog:Program)(w:World)(k:Key)(v:Value):(cI prog w).is k v=zo k v:=rfl
def Gq(prog:Program)(w:World)(i:Int)(t:Tok):(cI prog w).is (.inl i) (.int i t)=true:=RE i t
def Gp(prog:Program)(w:World)(x:Str)(t:Tok):(cI prog w).is (.inr x) (.str x t)=true:=RD x t
inductive V where
 |dY|bl (b:Bool)|int (i:Int)|str (x:Str)|byt (b:Array UInt8)|flt (b:UInt64)|ref (a:Addr)|ty (n:String)
 deriving DecidableEq
noncomputable def RelV:V->Value->Prop
 | .dY,u=>u=Value.none
 | .bl b,u=>u=Value.bool b
 | .int i,u=>∃t,u=Value.int i t
 | .str x,u=>∃t,u=Value.str x t
 | .byt b,u=>∃t,u=Value.bytes b t
 | .flt b,u=>∃t,u=Value.float b t
 | .ref a,u=>u=Value.ref a
 | .ty n,u=>u=Value.type n
abbrev Vals:List V->List Value->Prop:=Paired RelV
def Vals.length{xs:List V}{us:List Value}(r:Vals xs us):xs.length=us.length:=Paired.length r
def Vals.get:∀{xs:List V} {us:List Value} {i:Nat} {x:V},Vals xs us->xs[i]? =some x->∃u,us[i]? =some u/\RelV x u
 |_,_,_,_,.nil,e=>by simp at e
 |_,_,0,_,.cons r _,e=>by simp at e;subst e;exact ⟨_,rfl,r⟩
 |_,_,i+1,x,.cons _ t,e=>by obtain ⟨u,h1,h2⟩:=Vals.get (i:=i) (x:=x) t (by simpa using e);exact ⟨u,by simpa using h1,h2⟩
def Vals.set{x:V}{u:Value}(r:RelV x u):∀{xs:List V} {us:List Value} (i:Nat),Vals xs us->Vals (xs.set i x) (us.set i u)
 |_,_,_,.nil=> .nil
 |_,_,0,.cons _ t=> .cons r t
 |_,_,i+1,.cons q t=> .cons q (Vals.set r i t)
def Vals.append:∀{xs ys:List V} {us ws:List Value},Vals xs us->Vals ys ws->Vals (xs++ys) (us++ws)
 |_,_,_,_,.nil,s=>s
 |_,_,_,_,.cons r t,s=> .cons r (Vals.append t s)
def Vals.take:∀{xs:List V} {us:List Value} (n:Nat),Vals xs us->Vals (xs.take n) (us.take n)
 |_,_,0,_=> .nil
 |_,_,_+1,.nil=> .nil
 |_,_,n+1,.cons r t=> .cons r (Vals.take n t)
def Vals.drop:∀{xs:List V} {us:List Value} (n:Nat),Vals xs us->Vals (xs.drop n) (us.drop n)
 |_,_,0,r=>r
 |_,_,_+1,.nil=> .nil
 |_,_,n+1,.cons _ t=>Vals.drop n t
def oB:Option V->Option Value->Prop
 |some v,some u=>RelV v u
 |none,none=>True
 |_,_=>False
def KV{κ:Type}:List (κ×V)->List (κ×Value)->Prop:=Paired λ(p:κ×V) (q:κ×Value)=>p.1=q.1/\RelV p.2 q.2
def kV:Key->V
 | .inl i=> .int i
 | .inr x=> .str x
inductive HO where
 /-- a list -/
 |lst (xs:List V)
 /-- a tuple (never changes) -/
 |tup (xs:List V)
 /-- a dict ahd keys are ints and texts;one ahd keys are tuples of ints and texts (Ao empty one is both) -/
 |dK (kvs:List (Key×V))|dT (kvs:List (List Key×V))
 /-- a set of ints:its members,its size -/
 |set (S:Int->Bool) (n:Nat)
 /-- an instance of Ao class at C,its dict at dx,its attributes -/
 |ins (C dx:Addr) (fs:List (Str×V))
 /-- Ao dict of Ao instance at x -/
 |own (x:Addr)
 /-- Ao dict of an exception -/
 |xd (fs:List (Str×V))
 /-- a bound method,f of x -/
 |met (f x:Addr)
 /-- a range object lo,lo+1,.. below hi -/
 |rng (lo hi:Int)
 /-- a thing CS is known to Ao object (Ao script;a dict while a loop walks it):read,never written while it is so -/
 |Bd (o:Obj) (u:HO)
 /-- a code ahY table -/
 |oG (ps:Array Value)
 /-- any other thing,by what is true of its one object (a def of anP own:aqo a S n:=HO.ext λ h=> ..) -/
 |ext (φ:Heap->Prop)
noncomputable abbrev Hp:=Addr->Option HO
def upd(H:Hp)(a:Addr)(o:HO):Hp:=λ b=>if b=a then some o else H b
def aD{H:Hp}{a:Addr}{o:HO}:upd H a o a=some o:=by unfold upd;rw[if_pos rfl]
def aC{H:Hp}{a b:Addr}{o:HO}(h:b≠a):upd H a o b=H b:=by unfold upd;rw[if_neg h]
def ah8{H:Hp}{a b:Addr}{o u:HO}(h:H a=some o)(h':H b=some u)(d:o≠u):a≠b:=by intro e;subst e;rw[h] at h';exact d (Option.some.inj h')
def eT{H:Hp}{a b:Addr}{o:HO}(h:H a=some o)(h':H b=none):a≠b:=by intro e;subst e;rw[h] at h';cases h'
section
variable(P:Program)(w:World)
def b9(H:Hp)(h:Heap)(a:Addr):HO->Prop
 | .lst xs=>xs.length<=sizeLine/\∃(its:List Value) (n:Nat),Vals xs its/\h.get? a=some {cls:= .type "list",data:= .seq its.toArray n}
 | .tup xs=>xs.length<=sizeLine/\∃its:List Value,Vals xs its/\IsTup h a its.toArray
 | .dK kvs=>kvs.length<=sizeLine/\(a==sysModules)=false/\∃vs,KV kvs vs/\h.DictOf (cI P w) a vs
 | .dT kvs=>kvs.length<=sizeLine/\(a==sysModules)=false/\∃xs:List (List Key×Addr×Value),Paired (λ(p:List Key×V) (q:List Key×Addr×Value)=>p.1=q.1/\H q.2.1=some (.tup (p.1.map kV))/\RelV p.2 q.2.2) kvs xs/\∃o es ep,h.get? a=some o/\o.ExactDict/\o.data= .dict es ep/\es.toList=xs.map (entryOfKey (tupleKind (cI P w)))/\(xs.map (·.1)).Nodup
 | .set S n=>h.SetOf (intKind P w) a S n
 | .ins C dx fs=>H dx=some (.own a)/\fs.length<=1000/\dx≠a/\h.get? a=some (W.instObj C dx)/\∃mA,h.Ns1 dx mA/\(∀f,oB (fs.lookup f) (mA f))/\PySem.Within mA (fs.map (·.1))
 | .own _=>∃o,h.get? a=some o
 | .xd fs=>∃mA,h.Ns1 a mA/\∀f,oB (fs.lookup f) (mA f)
 | .rng lo hi=>∃t u v,h.get? a=some {cls:= .type "range",data:= .fields #[.int lo t,.int hi u,.int 1 v]}
 | .Bd o u=>h.get? a=some o/\b9 H h a u
 | .oG ps=>h.get? a=some {cls:= .none,data:= .fields ps}
 | .met f x=>h.get? a=some (W.methodObj (.ref f) (.ref x))
 | .ext φ=>φ h/\(∃o,h.get? a=some o)/\∀h1 h2:Heap,φ h1->(∀o,h1.get? a=some o->h2.get? a=some o)->φ h2
def pW(H:Hp)(h:Heap):Prop:=∀a o,H a=some o->b9 P w H h a o
end
section
variable{P:Program}{w:World}{H H':Hp}{h h':Heap}{a:Addr}{o:HO}
def b9.lt(x:b9 P w H h a o):a<h.objs.size:=by
 cases o with
 |lst xs=>obtain ⟨_,_,_,_,e⟩:=x;exact Heap.lt_size e
 |tup xs=>obtain ⟨_,_,_,p⟩:=x;exact p.lt
 |dK kvs=>obtain ⟨_,_,_,_,o,_,_,e,_⟩:=x;exact Heap.lt_size e
 |dT kvs=>obtain ⟨_,_,_,_,o,_,_,e,_⟩:=x;exact Heap.lt_size e
 |set S n=>obtain ⟨o,_,_,_,e,_⟩:=x;exact Heap.lt_size e
 |ins C dx fs=>obtain ⟨_,_,_,e,_⟩:=x;exact Heap.lt_size e
 |own y=>obtain ⟨_,e⟩:=x;exact Heap.lt_size e
 |xd fs=>obtain ⟨_,⟨_,_,_,e,_⟩,_⟩:=x;exact Heap.lt_size e
 |rng lo hi=>obtain ⟨_,_,_,e⟩:=x;exact Heap.lt_size e
 |Bd ob u=>obtain ⟨e,_⟩:=x;exact Heap.lt_size e
 |oG ps=>exact Heap.lt_size (show h.get? a=some _ from x)
 |met f y=>exact Heap.lt_size (show h.get? a=some _ from x)
 |ext φ=>obtain ⟨_,⟨_,e⟩,_⟩:=x;exact Heap.lt_size e
def Paired.aaA{α β:Type}{F G:α->β->Prop}:∀{l₁:List α} {l₂:List β},Paired F l₁ l₂->(∀a b,F a b->G a b)->Paired G l₁ l₂
 |_,_,.nil,_=> .nil
 |_,_,.cons r t,f=> .cons (f _ _ r) (Paired.aaA t f)
def b9.stay(x:b9 P w H h a o)(k:∀b u,(b=a\/H b=some (.own a))->h.get? b=some u->h'.get? b=some u) (ho:∀b,H b=some (.own a)->H' b=some (.own a)) (ht:∀b xs,H b=some (.tup xs)->H' b=some (.tup xs)):b9 P w H' h' a o:=by
 induction o with
 |lst xs=>obtain ⟨z,its,n,r,e⟩:=x;exact ⟨z,its,n,r,k _ _ (.inl rfl) e⟩
 |tup xs=>obtain ⟨z,its,r,ob,e,c⟩:=x;exact ⟨z,its,r,ob,k _ _ (.inl rfl) e,c⟩
 |dK kvs=>obtain ⟨z,y,vs,r,ob,es,ep,e,c⟩:=x;exact ⟨z,y,vs,r,ob,es,ep,k _ _ (.inl rfl) e,c⟩
 |dT kvs=>obtain ⟨z,y,xs,r,ob,es,ep,e,c⟩:=x;exact ⟨z,y,xs,Paired.aaA r λ p q z=>⟨z.1,ht _ _ z.2.1,z.2.2⟩,ob,es,ep,k _ _ (.inl rfl) e,c⟩
 |set S n=>obtain ⟨ob,es,ep,t,e,c⟩:=x;exact ⟨ob,es,ep,t,k _ _ (.inl rfl) e,c⟩
 |ins C dx fs=>obtain ⟨d,z,ne,e,mA,⟨od,es,ep,e2,c⟩,r⟩:=x;exact ⟨ho _ d,z,ne,k _ _ (.inl rfl) e,mA,⟨od,es,ep,k _ _ (.inr d) e2,c⟩,r⟩
 |own y=>obtain ⟨ob,e⟩:=x;exact ⟨ob,k _ _ (.inl rfl) e⟩
 |xd fs=>obtain ⟨mA,⟨od,es,ep,e,c⟩,r⟩:=x;exact ⟨mA,⟨od,es,ep,k _ _ (.inl rfl) e,c⟩,r⟩
 |rng lo hi=>obtain ⟨t,u,v,e⟩:=x;exact ⟨t,u,v,k _ _ (.inl rfl) e⟩
 |Bd ob u ih=>obtain ⟨e,q⟩:=x;exact ⟨k _ _ (.inl rfl) e,ih q⟩
 |oG ps=>have e:h.get? a=some {cls:= .none,data:= .fields ps}:=x;show h'.get? a=some {cls:= .none,data:= .fields ps};exact k a _ (.inl rfl) e
 |met f y=>have e:h.get? a=some (W.methodObj (.ref f) (.ref y)):=x;show h'.get? a=some (W.methodObj (.ref f) (.ref y));exact k a _ (.inl rfl) e
 |ext φ=>obtain ⟨p,⟨o,e⟩,st⟩:=x;exact ⟨st _ _ p λ o q=>k _ _ (.inl rfl) q,⟨o,k _ _ (.inl rfl) e⟩,st⟩
def pW.lt(x:pW P w H h)(e:H a=some o):a<h.objs.size:=(x a o e).lt
def pW.fresh(x:pW P w H h)(e:h.objs.size<=a):H a=none:=by
 cases q:H a with
 |none=>rfl
 |some u=>exact absurd (Nat.lt_of_lt_of_le (x.lt q) e) (Nat.lt_irrefl _)
def pW.kept(x:pW P w H h)(k:∀b u,h.get? b=some u->h'.get? b=some u):pW P w H h':=λ a o e=>(x a o e).stay (λ b u _ q=>k b u q) (λ _ q=>q) λ _ _ q=>q
def pW.laid(x:pW P w H h)(k:∀b u,h.get? b=some u->h'.get? b=some u)(hp:h.objs.size<=a)(new:b9 P w (upd H a o) h' a o):pW P w (upd H a o) h':=λ b u e=>by
 have hn:=x.fresh hp;by_cases hb:b=a
 ·subst hb;rw[aD] at e;cases e;exact new
 ·rw[aC hb] at e;exact (x b u e).stay (λ c v _ q=>k c v q) (λ c q=>by rw[aC (eT q hn)];exact q) λ c xs q=>by rw[aC (eT q hn)];exact q
end
def Rd(H:Hp)(a:Addr)(u:HO):Prop:=H a=some u\/∃o,H a=some (.Bd o u)
def Rd.ok{P:Program}{w:World}{H:Hp}{h:Heap}{a:Addr}{u:HO}(r:Rd H a u)(x:pW P w H h):b9 P w H h a u:=by
 rcases r with r|⟨o,r⟩
 ·exact x a u r
 ·obtain ⟨_,q⟩:=x a _ r;exact q
def Mut:Option HO->Prop
 |some (.lst _)=>True
 |some (.dK _)=>True
 |some (.dT _)=>True
 |some (.set _ _)=>True
 |some (.ins _ _ _)=>True
 |some (.ext _)=>True
 |_=>False
section
variable{P:Program}{w:World}{H:Hp}{h h':Heap}{x e:Addr}{o':HO}
def pW.write(ok:pW P w H h)(mu:Mut (H x))(he:e=x\/H e=some (.own x))(k:∀b u,b≠e->h.get? b=some u->h'.get? b=some u)(heo:∃u,h'.get? e=some u) (new:b9 P w (upd H x o') h' x o'):pW P w (upd H x o') h':=λ b u q=>by
 have ah4:∀c y,H c=some (.own y)->c≠x:=λ c y r z=>by subst z;rw[r] at mu;exact mu
 have alQ:∀c xs,H c=some (.tup xs)->c≠x:=λ c xs r z=>by subst z;rw[r] at mu;exact mu
 by_cases hb:b=x
 ·subst hb;rw[aD] at q;cases q;exact new
 ·rw[aC hb] at q;by_cases hbe:b=e
  ·have q':H b=some (.own x):=by
    rcases he with z|z
    ·exact absurd (hbe.trans z) hb
    ·rw[hbe];exact z
   rw[q] at q';cases q';obtain ⟨v,hv⟩:=heo;exact ⟨v,by rw[hbe];exact hv⟩
  ·refine (ok b u q).stay (λ c v hc r=>k c v ?_ r) (λ c r=>by rw[aC (ah4 c b r)];exact r) λ c xs r=>by rw[aC (alQ c xs r)];exact r
   rcases hc with rfl|hc
   ·exact hbe
   ·rintro rfl
    rcases he with z|z
    ·exact ah4 c b hc z
    ·rw[hc] at z;cases z;exact hb rfl
end
structure Un(fs ex:List Addr)(H H':Hp)(h h':Heap):Prop where
 keep:∀b o,h.get? b=some o->H b=none->b∉fs->b∉ex->h'.get? b=some o
 slot:∀b o,h.get? b=some o->H b=none->b∈fs->b∉ex->∃sl,h'.get? b=some {o with slots:=sl}
 free:∀b o,h.get? b=some o->H b=none->b∉ex->H' b=none
 there:∀b o,h.get? b=some o->b∉ex->∃o',h'.get? b=some o'
 tups:∀b xs,H b=some (.tup xs)->H' b=some (.tup xs)
 rQ:∀b o u,H b=some (.Bd o u)->H' b=some (.Bd o u)
 sH:∀b ps,H b=some (.oG ps)->∃more,H' b=some (.oG (ps++more))
section
variable{fs fs' ex ex':List Addr}{H H1 H2:Hp}{h h1 h2 h':Heap}{a x e:Addr}{o:HO}
def Un.any(u:Un fs ex H H1 h h1){b:Addr}{ob:Obj}(q:h.get? b=some ob)(n:H b=none)(hx:b∉ex):∃sl,h1.get? b=some {ob with slots:=sl}:=by
 by_cases hb:b∈fs
 ·exact u.slot b ob q n hb hx
 ·exact ⟨ob.slots,u.keep b ob q n hb hx⟩
def Un.kept(k:∀b u,h.get? b=some u->h'.get? b=some u):Un fs ex H H h h':=⟨λ b ob q _ _ _=>k b ob q,λ b ob q _ _ _=>⟨ob.slots,k b ob q⟩,λ _ _ _ n _=>n,λ b ob q _=>⟨ob,k b ob q⟩,λ _ _ q=>q,λ _ _ _ q=>q,λ _ ps q=>⟨#[],by rw[q];simp⟩⟩
def Un.refl:Un fs ex H H h h:=Un.kept λ _ _ q=>q
def Un.laid(k:∀b u,h.get? b=some u->h'.get? b=some u)(hp:h.objs.size<=a)(hn:H a=none):Un fs ex H (upd H a o) h h' where
 keep:=λ b u q _ _ _=>k b u q
 slot:=λ b u q _ _ _=>⟨u.slots,k b u q⟩
 free:=λ b u q n _=>by rw[aC (Nat.ne_of_lt (Nat.lt_of_lt_of_le (Heap.lt_size q) hp))];exact n
 there:=λ b u q _=>⟨u,k b u q⟩
 tups:=λ b xs q=>by rw[aC (eT q hn)];exact q
 rQ:=λ b u xs q=>by rw[aC (eT q hn)];exact q
 sH:=λ b ps q=>⟨#[],by rw[aC (eT q hn),q];simp⟩
def Un.write(mu:Mut (H x))(he:e=x\/H e=some (.own x))(k:∀b u,b≠e->h.get? b=some u->h'.get? b=some u)(heo:∃u,h'.get? e=some u):Un fs ex H (upd H x o) h h':=by
 have hx:∀b,H b=none->b≠x:=λ b n z=>by subst z;rw[n] at mu;exact mu
 have hb:∀b,H b=none->b≠e:=λ b n z=>by
  subst z;rcases he with r|r
  ·exact hx b n r
  ·rw[n] at r;cases r
 have hm:∀b u,H b=some u->¬Mut (some u)->b≠x:=λ b u q nm z=>by subst z;rw[q] at mu;exact nm mu
 refine ⟨λ b u q n _ _=>k b u (hb b n) q,λ b u q n _ _=>⟨u.slots,k b u (hb b n) q⟩,λ b u q n _=>by rw[aC (hx b n)];exact n,λ b u q _=>?_,λ b xs q=>by rw[aC (hm b _ q λ z=>z)];exact q,λ b u xs q=>by rw[aC (hm b _ q λ z=>z)];exact q,λ b ps q=>⟨#[],by rw[aC (hm b _ q λ z=>z),q];simp⟩⟩;by_cases hbe:b=e
 ·subst hbe;exact heo
 ·exact ⟨u,k b u hbe q⟩
end
def trk(h:Heap)(H:Hp):List Addr:=(List.range h.objs.size).filter λ a=>(H a).isSome
def D6(h:Heap)(H:Hp):Heap:=W.hideAll h (trk h H)
def RT(h:Heap)(H:Hp):(D6 h H).objs.size=h.objs.size:=W.hideAll_size _ _
def WC{h:Heap}{H:Hp}{b:Addr}{o:Obj}(e:h.get? b=some o)(n:H b=none):(D6 h H).get? b=some o:=W.hideAll_get _ e λ hm=>by have q:(H b).isSome=true:=(List.mem_filter.mp hm).2;rw[n] at q;simp at q
def aaj{h:Heap}{H:Hp}{b:Addr}{o:Obj}(e:(D6 h H).get? b=some o):h.get? b=some o/\H b=none:=by
 have e':h.get? b=some o:=W.of_hideAll (trk h H) e;refine ⟨e',?_⟩;cases q:H b with
 |none=>rfl
 |some x=>have hm:b∈trk h H:=List.mem_filter.mpr ⟨List.mem_range.mpr (Heap.lt_size e'),by simp[q]⟩;have z:(D6 h H).get? b=none:=W.hideAll_none (trk h H) hm;rw[z] at e;cases e
noncomputable def abJ(g h:Heap)(L:Addr):List (Addr×Obj):=(List.range h.objs.size).filterMap λ a=>if a=L\/(g.get? a).isSome=true then none else (h.get? a).map λ o=>(a,o)
def rest(g h:Heap)(L d:Addr):List (Addr×Obj):=(abJ g h L).filter λ p=>decide (p.1≠d)
structure Mod(K:W.Frag)(mg:Str->Option Value)(base:Heap):Prop where
 kin:K.In base
 glob:base.Ns mainGlobals mg
 blt:∃mb,base.Ns builtinsNs mb/\∀x:Str,x≠"__name__"->mb x=bootBuiltins x
 nolimit:base.NoLimit
structure Cx where
 prog:Program
 w:World
 K:W.Frag
 mg:Str->Option Value
 base:Heap
 A:Around
 N:List Str
 s₀:Shared
 H₀:Hp
 env:Env
 outer:List Env
 stack:List Env
 ex:List Addr
 fn:Str->Bool
 calm:Bool
 pn:List (Addr×Obj)
 xe:Value->Shared->Prop
noncomputable def frs(l:List Env):List Addr:=l.filterMap (·.frame)
abbrev Cx.fs(X:Cx):List Addr:=frs X.outer
noncomputable def SG(sc:Scope)(x:Str):Prop:=sc.names.lookup x=some .local\/sc.names.lookup x=some .cell\/sc.names.lookup x=some .free
noncomputable def Loc(sc:Scope)(x:Str):Prop:=sc.names.lookup x=some .local\/sc.names.lookup x=some .cell
noncomputable def Look(env:Env)(h:Heap)(m:Str->Option Value)(x:Str)(u:Value):Prop:=(env.kindOf x=some .local/\m x=some u)\/((env.kindOf x=some .cell\/env.kindOf x=some .free)/\∃c,env.cells.lookup x=some c/\h.IsCell c (some u))
structure Cx.Ok(X:Cx):Prop where
 mod:Mod X.K X.mg X.base
 kind:X.env.scope.kind= .function
 glob:X.env.globals=mainGlobals
 blt:X.env.builtins=builtinsNs
 above:X.s₀.heap.objs.size<=X.env.locals
 inj:∀x y c,X.env.cells.lookup x=some c->X.env.cells.lookup y=some c->x=y
 has:∀x,(X.env.kindOf x=some .cell\/X.env.kindOf x=some .free)->∃c,X.env.cells.lookup x=some c
 cab:∀x c,X.fn x=true->X.env.cells.lookup x=some c->X.s₀.heap.objs.size<=c
 hd:X.calm=true->X.A.handled=none
 frames:X.A.frames=some X.stack
 stk:X.stack=X.outer\/(X.stack=X.env::X.outer/\X.env.frame=some X.env.locals)
 exf:∀b∈X.ex,b≠X.env.locals/\∀x c,X.env.cells.lookup x=some c->c≠b
 bs:∀b o,X.base.get? b=some o->X.s₀.heap.get? b=some o/\X.H₀ b=none
 bsz:X.base.objs.size<=X.s₀.heap.objs.size
 Vs:∀b o,X.base.get? b=some o->b∉X.ex
 W0:∀b∈X.ex,b∉X.fs
 wK:X.s₀.heap.FunFrames X.base X.outer
 frf:∀b∈X.fs,X.H₀ b=none
structure Inv(X:Cx)(pins:List (Addr×Obj))(σ:List (Option V))(H:Hp)(s:Shared):Prop where
 ok:X.Ok
 os:s.os=X.s₀.os
 bare:AllBare s.gens
 base:Un X.fs X.ex X.H₀ H X.s₀.heap s.heap
 loc:∃m,s.heap.Ns X.env.locals m/\∀(i:Nat) (x:Str) (v:V),X.N[i]? =some x->σ[i]? =some (some v)->SG X.env.scope x->∃u,RelV v u/\Look X.env s.heap m x u
 cell:∀x c,X.env.cells.lookup x=some c->∃v,s.heap.IsCell c v
 free:H X.env.locals=none
 jD:∀x c,X.env.cells.lookup x=some c->H c=none
 pin:∀p∈X.pn++pins,s.heap.get? p.1=some p.2/\H p.1=none/\p.1≠X.env.locals/\p.1∉X.fs/\∀v,p.2.data≠.cell v
 hok:pW X.prog X.w H s.heap
 len:σ.length=X.N.length
section
variable{X:Cx}{pins:List (Addr×Obj)}{σ:List (Option V)}{H H':Hp}{s:Shared}{h':Heap}
def Cx.Ok.alU(ok:X.Ok){b:Addr}{o:Obj}(e:X.base.get? b=some o):b∉X.fs:=λ hb=>by have:=(ok.wK.mem hb).1;rw[e] at this;cases this
def Inv.bs(I:Inv X pins σ H s):∀b o,X.base.get? b=some o->s.heap.get? b=some o/\H b=none:=λ b o e=>⟨I.base.keep b o (I.ok.bs b o e).1 (I.ok.bs b o e).2 (I.ok.alU e) (I.ok.Vs b o e),I.base.free b o (I.ok.bs b o e).1 (I.ok.bs b o e).2 (I.ok.Vs b o e)⟩
def Inv.bk(I:Inv X pins σ H s):∀b o,X.base.get? b=some o->s.heap.get? b=some o:=λ b o e=>(I.bs b o e).1
def Inv.mod(I:Inv X pins σ H s):Mod X.K X.mg X.base:=I.ok.mod
def Inv.xB(I:Inv X pins σ H s):X.K.In s.heap:=I.ok.mod.kin.keeps I.bk
def Inv.lt(I:Inv X pins σ H s):X.env.locals<s.heap.objs.size:=let ⟨_,hn,_⟩:=I.loc;hn.lt
def Inv.sz(I:Inv X pins σ H s):X.s₀.heap.objs.size<=s.heap.objs.size:=Nat.le_trans I.ok.above (Nat.le_of_lt I.lt)
def Inv.alT(I:Inv X pins σ H s){a:Addr}(h:s.heap.objs.size<=a):a∉X.fs:=λ hb=>by obtain ⟨_,o,ho,_⟩:=I.ok.wK.mem hb;exact absurd (Nat.lt_of_lt_of_le (Heap.lt_size ho) (Nat.le_trans I.sz h)) (Nat.lt_irrefl _)
def Inv.Xo(I:Inv X pins σ H s):∀x c,X.env.cells.lookup x=some c->c≠X.env.locals:=λ x c e z=>by obtain ⟨v,o,ho,hd⟩:=I.cell x c e;obtain ⟨m,⟨o',es,ep,ho',hd',_⟩,_⟩:=I.loc;rw[z,ho'] at ho;cases ho;rw[hd'] at hd;cases hd
def Inv.wK(I:Inv X pins σ H s):s.heap.FunFrames X.base X.outer:=by
 have all:∀(l:List Env),(∀b∈frs l,b∈X.fs)->X.s₀.heap.FunFrames X.base l->s.heap.FunFrames X.base l:=by
  intro l;induction l with
  |nil=>intro _ _;trivial
  |cons env r ih=>intro hs hl;obtain ⟨hk,⟨L,o,hf,hn,ho,hd⟩,hr⟩:=hl;have hL:L∈X.fs:=hs L (by unfold frs;rw[List.filterMap_cons,hf];exact List.mem_cons_self);obtain ⟨sl,e⟩:=I.base.slot L o ho (I.ok.frf L hL) hL λ z=>I.ok.W0 L z hL;exact ⟨hk,⟨L,_,hf,hn,e,hd⟩,ih (λ b hb=>hs b (by unfold frs;rw[List.filterMap_cons,hf];exact List.mem_cons_of_mem _ hb)) hr⟩
 exact all X.outer (λ _ hb=>hb) I.ok.wK
def Inv.stack(I:Inv X pins σ H s):s.heap.FunFrames X.base X.stack:=by
 rcases I.ok.stk with e|⟨e,hf⟩
 ·rw[e];exact I.wK
 ·rw[e];obtain ⟨m,hn,_⟩:=I.loc;refine .cons (by rw[I.ok.kind];decide) hf hn ?_ I.wK;exact Heap.get?_none_of_le (Nat.le_trans I.ok.bsz I.ok.above)
def Inv.IM(I:Inv X pins σ H s):∀b∈frs X.stack,b∈X.env.locals::X.fs:=λ b hb=>by
 rcases I.ok.stk with e|⟨e,hf⟩
 ·rw[e] at hb;exact List.mem_cons_of_mem _ hb
 ·rw[e] at hb;unfold frs at hb;rw[List.filterMap_cons,hf] at hb;exact hb
def Inv.xj(I:Inv X pins σ H s):∀b∈frs X.stack,H b=none:=λ b hb=>by
 rcases List.mem_cons.mp (I.IM b hb) with e|hb
 ·rw[e];exact I.free
 ·obtain ⟨_,o,ho,_⟩:=I.ok.wK.mem hb;exact I.base.free b o ho (I.ok.frf b hb) λ z=>I.ok.W0 b z hb
def Inv.step{g':Array GenState}{t':Nat}{d':Drawn}{ch:List Addr}(I:Inv X pins σ H s) (hch:∀b∈ch,(b∈X.ex\/X.s₀.heap.objs.size<=b)/\b≠X.env.locals/\(∀x c,X.env.cells.lookup x=some c->c≠b)/\∀p∈X.pn++pins,p.1≠b) (keep:∀b o,b≠X.env.locals->b∉X.fs->b∉ch->s.heap.get? b=some o->H b=none->h'.get? b=some o) (slot:∀b o,b≠X.env.locals->b∈X.fs->b∉ch->s.heap.get? b=some o->H b=none->∃sl,h'.get? b=some {o with slots:=sl}) (free:∀b o,b∉ch->s.heap.get? b=some o->H b=none->H' b=none) (there:∀b o,b∉ch->s.heap.get? b=some o->∃o',h'.get? b=some o') (tups:∀b xs,H b=some (.tup xs)->H' b=some (.tup xs)) (rQ:∀b o u,H b=some (.Bd o u)->H' b=some (.Bd o u)) (sH:∀b ps,H b=some (.oG ps)->∃more,H' b=some (.oG (ps++more))) (ns:∀m,s.heap.Ns X.env.locals m->h'.Ns X.env.locals m) (hok:pW X.prog X.w H' h') (hg:AllBare g'):
  Inv X pins σ H' {s with heap:=h',gens:=g',drawn:=d',toks:=t'}:=by
 have neL:∀b o,X.s₀.heap.get? b=some o->b≠X.env.locals:=λ b o e=>Nat.ne_of_lt (Nat.lt_of_lt_of_le (Heap.lt_size e) I.ok.above);have neC:∀b o,X.s₀.heap.get? b=some o->b∉X.ex->b∉ch:=λ b o e hx hb=>by
  rcases (hch b hb).1 with z|z
  ·exact hx z
  ·exact absurd (Nat.lt_of_lt_of_le (Heap.lt_size e) z) (Nat.lt_irrefl _)
 have cellK:∀x c,X.env.cells.lookup x=some c->∀v,s.heap.IsCell c v->h'.IsCell c v:=λ x c e v ⟨o,ho,hd⟩=>by
  have nch:c∉ch:=λ z=>(hch c z).2.2.1 x c e rfl;by_cases hc:c∈X.fs
  ·obtain ⟨sl,q⟩:=slot c o (I.Xo x c e) hc nch ho (I.jD x c e);exact ⟨_,q,hd⟩
  ·exact ⟨o,keep c o (I.Xo x c e) hc nch ho (I.jD x c e),hd⟩
 refine ⟨I.ok,I.os,hg,⟨λ b o e n hb hx=>?_,λ b o e n hb hx=>?_,λ b o e n hx=>?_,λ b o e hx=>?_,λ b xs e=>tups b xs (I.base.tups b xs e),λ b o xs e=>rQ b o xs (I.base.rQ b o xs e),λ b ps e=>?_⟩,?_,λ x c e=>?_,?_,λ x c e=>?_,λ p hp=>?_,hok,I.len⟩
 ·exact keep b o (neL b o e) hb (neC b o e hx) (I.base.keep b o e n hb hx) (I.base.free b o e n hx)
 ·obtain ⟨sl,e1⟩:=I.base.slot b o e n hb hx;obtain ⟨HW,e2⟩:=slot b _ (neL b o e) hb (neC b o e hx) e1 (I.base.free b o e n hx);exact ⟨HW,e2⟩
 ·obtain ⟨o',e1⟩:=I.base.there b o e hx;exact free b o' (neC b o e hx) e1 (I.base.free b o e n hx)
 ·obtain ⟨o',e1⟩:=I.base.there b o e hx;exact there b o' (neC b o e hx) e1
 ·obtain ⟨m1,e1⟩:=I.base.sH b ps e;obtain ⟨m2,e2⟩:=sH b _ e1;exact ⟨m1++m2,by rw[e2,Array.append_assoc]⟩
 ·obtain ⟨m,hn,hl⟩:=I.loc;refine ⟨m,ns m hn,λ i x v e1 e2 e3=>?_⟩;obtain ⟨u,r,l⟩:=hl i x v e1 e2 e3;refine ⟨u,r,?_⟩;rcases l with l|⟨k,c,e,z⟩
  ·exact .inl l
  ·exact .inr ⟨k,c,e,cellK x c e _ z⟩
 ·obtain ⟨v,z⟩:=I.cell x c e;exact ⟨v,cellK x c e v z⟩
 ·obtain ⟨m,⟨o,_,_,ho,_⟩,_⟩:=I.loc;exact free _ o (λ z=>(hch _ z).2.1 rfl) ho I.free
 ·obtain ⟨v,o,ho,hd⟩:=I.cell x c e;exact free c o (λ z=>(hch c z).2.2.1 x c e rfl) ho (I.jD x c e)
 ·obtain ⟨e,n,ne,nf,d⟩:=I.pin p hp;have nch:p.1∉ch:=λ z=>(hch p.1 z).2.2.2 p hp rfl;exact ⟨keep p.1 p.2 ne nf nch e n,free p.1 p.2 nch e n,ne,nf,d⟩
def Inv.un{t':Nat}(I:Inv X pins σ H s)(u:Un X.fs [] H H' s.heap h')(hok:pW X.prog X.w H' h'):Inv X pins σ H' {s with heap:=h',toks:=t'}:=by obtain ⟨m,⟨o,es,ep,ho,r⟩,_⟩:=id I.loc;obtain ⟨sl,hL⟩:=u.any ho I.free (by simp);exact I.step (g':=s.gens) (d':=s.drawn) (ch:=[]) (λ _ z=>nomatch z) (λ b o _ hb _ e n=>u.keep b o e n hb (by simp)) (λ b o _ hb _ e n=>u.slot b o e n hb (by simp)) (λ b o _ e n=>u.free b o e n (by simp)) (λ b o _ e=>u.there b o e (by simp)) u.tups u.rQ u.sH (λ m' hm=>by obtain ⟨o',es',ep',ho',r'⟩:=hm;rw[ho] at ho';cases ho';exact ⟨_,es',ep',hL,r'⟩) hok I.bare
def Inv.call{g':Array GenState}{t':Nat}{d':Drawn}{ch:List Addr}(I:Inv X pins σ H s)(u:Un (frs X.stack) ch H H' s.heap h')(hok:pW X.prog X.w H' h')(hg:AllBare g') (hch:∀b∈ch,(b∈X.ex\/X.s₀.heap.objs.size<=b)/\b≠X.env.locals/\(∀x c,X.env.cells.lookup x=some c->c≠b)/\∀p∈X.pn++pins,p.1≠b):
  Inv X pins σ H' {s with heap:=h',gens:=g',drawn:=d',toks:=t'}:=by
 obtain ⟨m,⟨o,es,ep,ho,r⟩,_⟩:=id I.loc;obtain ⟨sl,hL⟩:=u.any ho I.free λ z=>(hch _ z).2.1 rfl;exact I.step (ch:=ch) hch (λ b o hL hb hc e n=>u.keep b o e n (λ z=>(List.mem_cons.mp (I.IM b z)).elim hL hb) hc) (λ b o _ _ hc e n=>u.any e n hc) (λ b o hc e n=>u.free b o e n hc) (λ b o hc e=>u.there b o e hc) u.tups u.rQ u.sH (λ m' hm=>by obtain ⟨o',es',ep',ho',r'⟩:=hm;rw[ho] at ho';cases ho';exact ⟨_,es',ep',hL,r'⟩) hok hg
def Inv.turned{t':Nat}{it:Addr}(I:Inv X pins σ H s)(k:∀b o,b≠it->s.heap.get? b=some o->h'.get? b=some o)(hn:H it=none)(hL:it≠X.env.locals) (h1:it∈X.ex\/X.s₀.heap.objs.size<=it) (h2:∀x c,X.env.cells.lookup x=some c->c≠it) (h3:∀p∈X.pn++pins,p.1≠it):Inv X pins σ H {s with heap:=h',toks:=t'}:=by
 have nit:∀b u,H b=some u->b≠it:=λ b u e z=>by rw[z,hn] at e;cases e
 refine I.step (g':=s.gens) (d':=s.drawn) (ch:=[it]) (λ b hb=>?_) (λ b o _ _ hc e _=>k b o (λ z=>hc (by simp[z])) e) (λ b o _ _ hc e _=>⟨o.slots,k b o (λ z=>hc (by simp[z])) e⟩) (λ _ _ _ _ n=>n)
  (λ b o hc e=>⟨o,k b o (λ z=>hc (by simp[z])) e⟩) (λ _ _ e=>e) (λ _ _ _ e=>e) (λ b ps e=>⟨#[],by rw[e];simp⟩) (λ m hm=>?_) (λ b u e=>?_) I.bare
 ·have e:b=it:=by simpa using hb
  subst e;exact ⟨h1,hL,h2,h3⟩
 ·obtain ⟨o,es,ep,ho,r⟩:=hm;exact ⟨o,es,ep,k _ o (Ne.symm hL) ho,r⟩
 ·refine (I.hok b u e).stay (λ c v hc q=>k c v ?_ q) (λ _ q=>q) λ _ _ q=>q;rcases hc with z|z
  ·rw[z];exact nit b u e
  ·exact nit c _ z
def Inv.tok(I:Inv X pins σ H s)(t:Nat):Inv X pins σ H {s with toks:=t}:=I.un (h':=s.heap) (t':=t) Un.refl I.hok
def Inv.kept{t':Nat}(I:Inv X pins σ H s)(k:∀b u,s.heap.get? b=some u->h'.get? b=some u):Inv X pins σ H {s with heap:=h',toks:=t'}:=I.un (Un.kept k) (I.hok.kept k)
def Inv.laid{a:Addr}{o:HO}{t':Nat}(I:Inv X pins σ H s)(k:∀b u,s.heap.get? b=some u->h'.get? b=some u)(hp:s.heap.objs.size<=a)(new:b9 X.prog X.w (upd H a o) h' a o):
  Inv X pins σ (upd H a o) {s with heap:=h',toks:=t'}:=I.un (Un.laid k hp (I.hok.fresh hp)) (I.hok.laid k hp new)
def Inv.write{x e:Addr}{o:HO}{t':Nat}(I:Inv X pins σ H s)(mu:Mut (H x))(he:e=x\/H e=some (.own x))(k:∀b u,b≠e->s.heap.get? b=some u->h'.get? b=some u)(heo:∃u,h'.get? e=some u) (new:b9 X.prog X.w (upd H x o) h' x o):Inv X pins σ (upd H x o) {s with heap:=h',toks:=t'}:=I.un (Un.write mu he k heo) (I.hok.write mu he k heo new)
def Inv.O9{Pa:List (Addr×Obj)}(I:Inv X pins σ H s)(h:∀p∈Pa,s.heap.get? p.1=some p.2/\H p.1=none/\p.1≠X.env.locals/\p.1∉X.fs/\∀v,p.2.data≠.cell v):Inv X Pa σ H s:=⟨I.ok,I.os,I.bare,I.base,I.loc,I.cell,I.free,I.jD,λ p hp=>(List.mem_append.mp hp).elim (λ z=>I.pin p (List.mem_append_left _ z)) (h p),I.hok,I.len⟩
def yM{N:List Str}(hN:N.Nodup){i j:Nat}{x:Str}(a:N[i]? =some x)(b:N[j]? =some x):i=j:=by obtain ⟨h1,e1⟩:=List.getElem?_eq_some_iff.mp a;obtain ⟨h2,e2⟩:=List.getElem?_eq_some_iff.mp b;exact (List.getElem_inj hN).mp (e1.trans e2.symm)
def QE{M:Model}{A:Around}{E:Value->Shared->Prop}{i:Nat}{x:Str}{v:V}{u:Value}{Q:Unit->Shared->Prop}(I:Inv X pins σ H s)(hN:X.N.Nodup)(hi:X.N[i]? =some x)(hx:Loc X.env.scope x)(r:RelV v u)
  (h:∀s',Inv X pins (σ.set i (some v)) H s'->(∃a,Heap.SameBut a s.heap s'.heap/\(a=X.env.locals\/X.env.cells.lookup x=some a))->Q () s') (hf:X.fn x=true\/X.env.scope.names.lookup x=some .local:=by first|exact .inl rfl|exact .inr rfl|assumption):wpAny M A (storeName X.env x u) Q E s:=by
 obtain ⟨m,hn,hl⟩:=id I.loc
 have hcls:(X.env.scope.kind== .class||(X.env.scope.kind== .module&&X.env.locals !=X.env.globals))=false:=by rw[I.ok.kind];rfl
 have hiσ:i<σ.length:=by rw[I.len];exact (List.getElem?_eq_some_iff.mp hi).1
 have Xo:=I.Xo
 have tracked:∀{a:Addr} {h':Heap},(∃o,s.heap.get? a=some o/\H a=none)->Heap.SameBut a s.heap h'->pW X.prog X.w H h':=λ{a h'} ha hs b ob e=>by
  obtain ⟨_,_,hfree⟩:=ha
  refine (I.hok b ob e).stay (λ c w' hc q=>(hs.2 c ?_).trans q) (λ _ q=>q) λ _ _ q=>q
  rintro rfl
  rcases hc with rfl|hc
  ·rw[hfree] at e;cases e
  ·rw[hfree] at hc;cases hc
 rcases hx with hk|hk
 ·refine wpAny_storeName_local hk hn (λ h' hn' hs=>?_) hcls
  obtain ⟨oL,_,_,hoL,_⟩:=id hn
  refine h _ ⟨I.ok,I.os,I.bare,⟨λ b o e n hb hx=>?_,λ b o e n hb hx=>?_,I.base.free,λ b o e hx=>?_,I.base.tups,I.base.rQ,I.base.sH⟩,⟨_,hn',λ j y v' e1 e2 e3=>?_⟩,λ y c e=>?_,I.free,I.jD,λ p hp=>?_,tracked ⟨oL,hoL,I.free⟩ hs,by simpa using I.len⟩ ⟨_,hs,.inl rfl⟩
  ·exact (hs.2 b (Nat.ne_of_lt (Nat.lt_of_lt_of_le (Heap.lt_size e) I.ok.above))).trans (I.base.keep b o e n hb hx)
  ·obtain ⟨sl,e1⟩:=I.base.slot b o e n hb hx
   exact ⟨sl,(hs.2 b (Nat.ne_of_lt (Nat.lt_of_lt_of_le (Heap.lt_size e) I.ok.above))).trans e1⟩
  ·obtain ⟨o',e1⟩:=I.base.there b o e hx
   exact ⟨o',(hs.2 b (Nat.ne_of_lt (Nat.lt_of_lt_of_le (Heap.lt_size e) I.ok.above))).trans e1⟩
  ·by_cases hj:j=i
   ·subst hj
    rw[hi] at e1;cases e1
    rw[List.getElem?_set_self hiσ] at e2
    cases e2
    exact ⟨u,r,.inl ⟨hk,by simp⟩⟩
   ·rw[List.getElem?_set_ne (Ne.symm hj)] at e2
    obtain ⟨u',r',q⟩:=hl j y v' e1 e2 e3
    refine ⟨u',r',?_⟩
    rcases q with ⟨k,e⟩|⟨k,c,e,z⟩
    ·refine .inl ⟨k,?_⟩
     have:y≠x:=λ e=>hj (yM hN e1 (e▸hi))
     simp[this,e]
    ·exact .inr ⟨k,c,e,z.sameBut hs (Xo y c e)⟩
  ·obtain ⟨w',z⟩:=I.cell y c e
   exact ⟨w',z.sameBut hs (Xo y c e)⟩
  ·obtain ⟨e,n,ne,nf,d⟩:=I.pin p hp
   exact ⟨(hs.2 p.1 ne).trans e,n,ne,nf,d⟩
 ·have hfn:X.fn x=true:=by
   rcases hf with z|z
   ·exact z
   ·rw[z] at hk;cases hk
  obtain ⟨c,hc⟩:=I.ok.has x (.inl hk)
  obtain ⟨w',z⟩:=I.cell x c hc
  refine wpAny_storeName_cell I.ok.kind hk hc z (λ h' hc' hs=>?_)
  obtain ⟨oc,hoc,amm⟩:=id z
  refine h {s with heap:=h'} ⟨I.ok,I.os,I.bare,⟨λ b o e n hb hx=>?_,λ b o e n hb hx=>?_,I.base.free,λ b o e hx=>?_,I.base.tups,I.base.rQ,I.base.sH⟩,⟨m,hn.sameBut hs (Ne.symm (Xo x c hc)),λ j y v' e1 e2 e3=>?_⟩,λ y c' e=>?_,I.free,I.jD,λ p hp=>?_,tracked ⟨oc,hoc,I.jD x c hc⟩ hs,by simpa using I.len⟩ ⟨c,hs,.inr hc⟩
  ·exact (hs.2 b (Nat.ne_of_lt (Nat.lt_of_lt_of_le (Heap.lt_size e) (I.ok.cab x c hfn hc)))).trans (I.base.keep b o e n hb hx)
  ·obtain ⟨sl,e1⟩:=I.base.slot b o e n hb hx
   exact ⟨sl,(hs.2 b (Nat.ne_of_lt (Nat.lt_of_lt_of_le (Heap.lt_size e) (I.ok.cab x c hfn hc)))).trans e1⟩
  ·obtain ⟨o',e1⟩:=I.base.there b o e hx
   exact ⟨o',(hs.2 b (Nat.ne_of_lt (Nat.lt_of_lt_of_le (Heap.lt_size e) (I.ok.cab x c hfn hc)))).trans e1⟩
  ·by_cases hj:j=i
   ·subst hj
    rw[hi] at e1;cases e1
    rw[List.getElem?_set_self hiσ] at e2
    cases e2
    exact ⟨u,r,.inr ⟨.inl hk,c,hc,hc'⟩⟩
   ·rw[List.getElem?_set_ne (Ne.symm hj)] at e2
    obtain ⟨u',r',q⟩:=hl j y v' e1 e2 e3
    refine ⟨u',r',?_⟩
    rcases q with q|⟨k,c',e,z'⟩
    ·exact .inl q
    ·refine .inr ⟨k,c',e,z'.sameBut hs ?_⟩
     rintro rfl
     exact hj (yM hN e1 (I.ok.inj _ _ _ e hc▸hi))
  ·by_cases hcc:c'=c
   ·subst hcc;exact ⟨_,hc'⟩
   ·obtain ⟨w2,z2⟩:=I.cell y c' e
    exact ⟨w2,z2.sameBut hs hcc⟩
  ·obtain ⟨e,n,ne,nf,d⟩:=I.pin p hp
   refine ⟨(hs.2 p.1 ?_).trans e,n,ne,nf,d⟩
   intro q
   rw[q,hoc] at e
   have q':oc=p.2:=Option.some.inj e
   exact d w' (by rw[<-q'];exact amm)
def oU{M:Model}{A:Around}{E:Value->Shared->Prop}{i:Nat}{x:Str}{v:V}{u:Value}{Q:Unit->Shared->Prop}(I:Inv X pins σ H s)(hN:X.N.Nodup)(hi:X.N[i]? =some x)(hx:Loc X.env.scope x)(r:RelV v u) (h:∀s',Inv X pins (σ.set i (some v)) H s'->Q () s') (hf:X.fn x=true\/X.env.scope.names.lookup x=some .local:=by first|exact .inl rfl|exact .inr rfl|assumption):wpAny M A (storeName X.env x u) Q E s:=QE I hN hi hx r (λ s' I' _=>h s' I') hf
def Inv.Qd{s':Shared}{ch:List Addr}(I:Inv X pins σ H s)(ho:s'.os=s.os)(u:Un (frs X.stack) ch H H' s.heap s'.heap)(hok:pW X.prog X.w H' s'.heap)(hg:AllBare s'.gens) (hch:∀b∈ch,(b∈X.ex\/X.s₀.heap.objs.size<=b)/\b≠X.env.locals/\(∀x c,X.env.cells.lookup x=some c->c≠b)/\∀p∈X.pn++pins,p.1≠b):Inv X pins σ H' s':=by obtain ⟨h',g',d',t',o'⟩:=s';have e:o'=s.os:=ho;subst e;exact I.call (g':=g') (t':=t') (d':=d') u hok hg hch
end
abbrev XK:=Value->Option Addr->Hp->Prop
noncomputable abbrev St:=List (Option V)
abbrev VK:=V->Hp->Prop
abbrev TE:=St->Hp->VK->Prop
abbrev TT:=St->Hp->(Bool->Hp->Prop)->Prop
abbrev TA:=St->Hp->(List V->Hp->Prop)->Prop
structure Ends where
 nx:St->Hp->Prop
 rt:VK
 bk:St->Hp->Prop:=λ _ _=>False
 ct:St->Hp->Prop:=λ _ _=>False
abbrev TS:=Ends->St->Hp->Prop
def EP(X:Cx)(pins:List (Addr×Obj))(σ:St)(Q:VK)(u:Value)(s':Shared):Prop:=∃v H',Inv X pins σ H' s'/\RelV v u/\Q v H'
def TP(X:Cx)(pins:List (Addr×Obj))(σ:St)(Q:Bool->Hp->Prop)(b:Bool)(s':Shared):Prop:=∃H',Inv X pins σ H' s'/\Q b H'
def AP(X:Cx)(pins:List (Addr×Obj))(σ:St)(Q:List V->Hp->Prop)(us:List Value)(s':Shared):Prop:=∃vs H',Inv X pins σ H' s'/\Vals vs us/\Q vs H'
def SP(X:Cx)(pins:List (Addr×Obj))(D:Ends)(f:Flow)(s':Shared):Prop:=match f with
 | .next=>∃σ' H',Inv X pins σ' H' s'/\D.nx σ' H'
 | .brk=>∃σ' H',Inv X pins σ' H' s'/\D.bk σ' H'
 | .cont=>∃σ' H',Inv X pins σ' H' s'/\D.ct σ' H'
 | .ret u=>∃v σ' H',Inv X pins σ' H' s'/\RelV v u/\D.rt v H'
def PE(X:Cx)(e:Expr)(t:TE):Prop:=∀(pins:List (Addr×Obj)) (s:Shared) (σ:St) (H:Hp) (Q:VK),Inv X pins σ H s->t σ H Q->wpAny (model X.prog X.w) X.A (eval e X.env) (EP X pins σ Q) X.xe s
def PT(X:Cx)(e:Expr)(t:TT):Prop:=∀(pins:List (Addr×Obj)) (s:Shared) (σ:St) (H:Hp) (Q:Bool->Hp->Prop),Inv X pins σ H s->t σ H Q->wpAny (model X.prog X.w) X.A (isTrue e X.env (eval e X.env)) (TP X pins σ Q) X.xe s
def PW(X:Cx)(e:Expr)(t:TT):Prop:=∀(whole:Sem Value) (pins:List (Addr×Obj)) (s:Shared) (σ:St) (H:Hp) (Q:Bool->Hp->Prop),Inv X pins σ H s->t σ H Q->wpAny (model X.prog X.w) X.A (isTrue e X.env whole) (TP X pins σ Q) X.xe s
def PW.pt{X:Cx}{e:Expr}{t:TT}(h:PW X e t):PT X e t:=h _
def PA(X:Cx)(es:List Expr)(t:TA):Prop:=∀(pos:Pos) (pins:List (Addr×Obj)) (s:Shared) (σ:St) (H:Hp) (Q:List V->Hp->Prop),Inv X pins σ H s->t σ H Q->wpAny (model X.prog X.w) X.A (spliced (backTo pos (starEach es X.env))) (AP X pins σ Q) X.xe s
def PS(X:Cx)(st:Stmt)(t:TS):Prop:=∀(pins:List (Addr×Obj)) (s:Shared) (σ:St) (H:Hp) (D:Ends),Inv X pins σ H s->t D σ H->wpAny (model X.prog X.w) X.A (exec st X.env) (SP X pins D) X.xe s
def HZ(X:Cx)(st:List Stmt)(t:TS):Prop:=∀(pins:List (Addr×Obj)) (s:Shared) (σ:St) (H:Hp) (D:Ends),Inv X pins σ H s->t D σ H->wpAny (model X.prog X.w) X.A (execs st X.env) (SP X pins D) X.xe s
def dc{α:Type}{t:Sem α}{Q Q':α->Shared->Prop}{M:Model}{A:Around}{E:Value->Shared->Prop}{s:Shared}(h:wpAny M A t Q E s)(hQ:∀a s,Q a s->Q' a s):wpAny M A t Q' E s:=wpAny_mono h hQ λ _ _ x=>x
section
variable{X:Cx}
def alk(i:Nat):TE:=λ σ H Q=>∃v,σ[i]? =some (some v)/\Q v H
def tC(v:V):TE:=λ _ H Q=>Q v H
def yz{i:Nat}{x:Str}{pos:Pos}(hN:X.N[i]? =some x)(hv:SG X.env.scope x)(hd:(x==("__debug__":Str))=false:=by decide)(hcd:(x==("__classdict__":Str))=false:=by decide):PE X (.Name x pos) (alk i):=by
 intro pins s σ H Q I h;obtain ⟨v,e,h⟩:=h;obtain ⟨m,hn,hl⟩:=I.loc;obtain ⟨u,r,l⟩:=hl i x v hN e hv;have fin:EP X pins σ Q u s:=⟨v,H,I,r,h⟩;rcases l with ⟨hk,hm⟩|⟨hk,c,hc,hcell⟩
 ·exact wpAny_Name (wpAny_loadName_local I.ok.kind hk hn hm fin) hd
 ·rcases hk with hk|hk
  ·exact wpAny_Name (wpAny_loadName_cell I.ok.kind hk hc hcell fin) hd
  ·exact wpAny_Name (wpAny_loadName_free I.ok.kind hk hc hcell fin hcd) hd
def aeg{i j pos}:PE X (.Constant (.int i) j pos) (tC (.int i)):=λ _ _ _ H _ I h=>wpAny_Constant_int ⟨.int i,H,I.tok _,⟨_,rfl⟩,h⟩
def ahS{b j pos}:PE X (.Constant (.bool b) j pos) (tC (.bl b)):=λ _ _ _ H _ I h=>Constant_bool ⟨.bl b,H,I,rfl,h⟩
def aee{j pos}:PE X (.Constant .none j pos) (tC .dY):=λ _ _ _ H _ I h=>Constant_none ⟨.dY,H,I,rfl,h⟩
def aeb{x j pos}:PE X (.Constant (.str x) j pos) (tC (.str x)):=λ _ _ _ H _ I h=>Calls.Constant_str ⟨.str x,H,I.tok _,⟨_,rfl⟩,h⟩
def Gl(X:Cx)(x:Str):Prop:=X.env.kindOf x=some .globalImplicit
def qe{E:Value->Shared->Prop}{pins:List (Addr×Obj)}{s:Shared}{σ:St}{H:Hp}{x:Str}{u:Value}{pos:Pos}{Q:Value->Shared->Prop}(I:Inv X pins σ H s)(hg:Gl X x)(hm:X.mg x=some u)(h:Q u s) (hd:(x==("__debug__":Str))=false:=by decide):wpAny (model X.prog X.w) X.A (eval (.Name x pos) X.env) Q E s:=Calls.Name_function_global I.ok.kind hg (Calls.loadGlobal_global (by rw[I.ok.glob];exact I.mod.glob.keeps I.bk) hm h) hd
def zb{E:Value->Shared->Prop}{pins:List (Addr×Obj)}{s:Shared}{σ:St}{H:Hp}{x:Str}{u:Value}{pos:Pos}{Q:Value->Shared->Prop}(I:Inv X pins σ H s)(hg:Gl X x)(hm:X.mg x=none)(hv:bootBuiltins x=some u)(h:Q u s) (hn:x≠"__name__":=by decide) (hd:(x==("__debug__":Str))=false:=by decide):wpAny (model X.prog X.w) X.A (eval (.Name x pos) X.env) Q E s:=by obtain ⟨mb,h1,h2⟩:=I.mod.blt;exact Calls.Name_function_global I.ok.kind hg (Calls.loadGlobal_builtin (by rw[I.ok.glob];exact I.mod.glob.keeps I.bk) hm (by rw[I.ok.blt];exact h1.keeps I.bk) ((h2 x hn).trans hv) h) hd
def Pb{x:Str}{v:V}{u:Value}{pos:Pos}(hg:Gl X x)(hm:X.mg x=some u)(r:RelV v u)(hd:(x==("__debug__":Str))=false:=by decide):PE X (.Name x pos) (tC v):=λ _ _ _ H _ I h=>qe I hg hm ⟨v,H,I,r,h⟩ hd
def Z7{x:Str}{v:V}{u:Value}{pos:Pos}(hg:Gl X x)(hm:X.mg x=none)(hv:bootBuiltins x=some u)(r:RelV v u)(hn:x≠"__name__":=by decide)(hd:(x==("__debug__":Str))=false:=by decide):PE X (.Name x pos) (tC v):=λ _ _ _ H _ I h=>zb I hg hm hv ⟨v,H,I,r,h⟩ hn hd
variable{a b:Expr}{ta tb:TE}{pos:Pos}
def tB(t:TE):TT:=λ σ H Q=>t σ H λ x H1=>∃c,x= .bl c/\Q c H1
def ad1{e:Expr}{t:TE}(h:PE X e t)(he:∀whole,isTrue e X.env whole=(do let v <-whole;standAt e.pos;holding [v] (truthy v)):=by intro _;rfl):PT X e (tB t):=by
 intro pins s σ H Q I hw
 refine isTrue_plain (dc (h pins s σ H _ I hw) λ v s1 ⟨x,H1,I1,r1,q1⟩=>?_) (he _)
 obtain ⟨d,rfl,q⟩:=q1
 cases r1
 exact wpAny_truthy_bool ⟨H1,I1,q⟩
variable{tA tB':TT}{rest:List Expr}
def aly(t u:TT):TT:=λ σ H Q=>t σ H λ c H1=>if c=true then u σ H1 Q else Q false H1
def tOr(t u:TT):TT:=λ σ H Q=>t σ H λ c H1=>if c=true then Q true H1 else u σ H1 Q
def alq(t:TT):TT:=λ σ H Q=>t σ H λ c H1=>Q (!c) H1
def ZS(ha:PT X a tA):PW X (.BoolOp .And [a] pos) tA:=by
 intro wh pins s σ H Q I h;refine isTrue_and (dc (ha pins s σ H Q I h) λ c s1 e=>?_);cases c with
 |true=>exact isTrue_and_nil e
 |false=>exact e
def adZ(ha:PT X a tA):PW X (.BoolOp .Or [a] pos) tA:=by
 intro wh pins s σ H Q I h;refine isTrue_or (dc (ha pins s σ H Q I h) λ c s1 e=>?_);cases c with
 |false=>exact isTrue_or_nil e
 |true=>exact e
def ad0(ha:PT X a tA)(hb:PW X (.BoolOp .And (b::rest) pos) tB'):PW X (.BoolOp .And (a::b::rest) pos) (aly tA tB'):=by
 intro wh pins s σ H Q I h;refine isTrue_and (dc (ha pins s σ H _ I h) λ c s1 ⟨H1,I1,q1⟩=>?_);cases c with
 |true=>exact hb wh pins s1 σ H1 Q I1 q1
 |false=>exact ⟨H1,I1,q1⟩
def ahM(ha:PT X a tA)(hb:PW X (.BoolOp .Or (b::rest) pos) tB'):PW X (.BoolOp .Or (a::b::rest) pos) (tOr tA tB'):=by
 intro wh pins s σ H Q I h;refine isTrue_or (dc (ha pins s σ H _ I h) λ c s1 ⟨H1,I1,q1⟩=>?_);cases c with
 |true=>exact ⟨H1,I1,q1⟩
 |false=>exact hb wh pins s1 σ H1 Q I1 q1
def ad2(ha:PT X a tA):PT X (.UnaryOp .Not a pos) (alq tA):=by intro pins s σ H Q I h;exact isTrue_not (ha pins s σ H (λ c H1=>Q (!c) H1) I h)
def ahu(ta tb:TE):TE:=λ σ H Q=>ta σ H λ x H1=>∃c,x= .bl c/\if c=true then tb σ H1 Q else Q (.bl false) H1
def aho(ta:TE):TE:=λ σ H Q=>ta σ H λ x H1=>∃c,x= .bl c/\Q (.bl (!c)) H1
def aec{op}{t:TE}(h:PE X a t):PE X (.BoolOp op [a] pos) t:=λ pins s σ H Q I hw=>BoolOp_one (h pins s σ H Q I hw)
def aej(ha:PE X a ta)(hb:PE X (.BoolOp .And (b::rest) pos) tb):PE X (.BoolOp .And (a::b::rest) pos) (ahu ta tb):=by
 intro pins s σ H Q I h;refine BoolOp_and (dc (ha pins s σ H _ I h) λ v s1 ⟨x,H1,I1,r1,q1⟩=>?_);obtain ⟨c,rfl,q1⟩:=q1;cases r1;refine wpAny_truthy_bool ?_;cases c with
 |true=>exact hb pins s1 σ H1 Q I1 q1
 |false=>exact ⟨.bl false,H1,I1,rfl,q1⟩
def aed(ha:PE X a ta):PE X (.UnaryOp .Not a pos) (aho ta):=by intro pins s σ H Q I h;refine UnaryOp_ (dc (ha pins s σ H _ I h) λ v s1 ⟨x,H1,I1,r1,q1⟩=>?_);obtain ⟨c,rfl,q1⟩:=q1;cases r1;exact not_of (wpAny_truthy_bool ⟨.bl (!c),H1,I1,rfl,q1⟩)
end
def oA(K:W.Frag)(H:Hp)(a:Addr)(xs:List V):Prop:=Rd H a (.lst xs)\/∃(o:Obj) (its:Array Value) (n:Nat),K.lookup a=some o/\o.cls= .type "list"/\o.dict=none/\o.data= .seq its n/\its.size<=sizeLine/\Vals xs its.toList
def vB(K:W.Frag)(H:Hp)(a:Addr)(xs:List V):Prop:=Rd H a (.tup xs)\/∃(o:Obj) (its:Array Value) (n:Nat),K.lookup a=some o/\o.cls= .type "tuple"/\o.data= .seq its n/\its.size<=sizeLine/\Vals xs its.toList
noncomputable def amY:Value->Option V
 | .none=>some .dY
 | .bool b=>some (.bl b)
 | .int i _=>some (.int i)
 | .str x _=>some (.str x)
 | .bytes b _=>some (.byt b)
 | .float b _=>some (.flt b)
 | .ref a=>some (.ref a)
 | .type n=>some (.ty n)
 |_=>none
def RelV.abs{x:V}{u:Value}(r:RelV x u):amY u=some x:=by
 cases x with
 |dY=>cases r;rfl
 |bl _=>cases r;rfl
 |int _=>obtain ⟨t,rfl⟩:=r;rfl
 |str _=>obtain ⟨t,rfl⟩:=r;rfl
 |byt _=>obtain ⟨t,rfl⟩:=r;rfl
 |flt _=>obtain ⟨t,rfl⟩:=r;rfl
 |ref _=>cases r;rfl
 |ty _=>cases r;rfl
def RelV.inj{x y:V}{u:Value}(r:RelV x u)(q:RelV y u):x=y:=Option.some.inj (r.abs.symm.trans q.abs)
def Vals.inj:∀{xs ys:List V} {us:List Value},Vals xs us->Vals ys us->xs=ys
 |_,_,_,.nil,.nil=>rfl
 |_,_,_,.cons r t,.cons r' t'=>by rw[r.inj r',Vals.inj t t']
section
variable{X:Cx}{pins:List (Addr×Obj)}{σ:St}{H:Hp}{s:Shared}{a:Addr}{xs ys:List V}
def oA.of{K:W.Frag}(h:H a=some (.lst xs)):oA K H a xs:= .inl (.inl h)
def Inv.list(I:Inv X pins σ H s)(h:oA X.K H a xs):∃its:List Value,Vals xs its/\PlainL s.heap a its.toArray/\xs.length<=sizeLine:=by
 rcases h with h|⟨o,its,n,hk,hc,hd,hs,hz,r⟩
 ·obtain ⟨z,its,n,r,e⟩:=h.ok I.hok;exact ⟨its,r,⟨_,n,e,rfl,rfl,rfl⟩,z⟩
 ·refine ⟨its.toList,r,⟨o,n,I.xB a o hk,hc,hd,by simpa using hs⟩,?_⟩;have e:=r.length;simp only[Array.length_toList] at e;omega
def Inv.tuple(I:Inv X pins σ H s)(h:vB X.K H a xs):∃its:List Value,Vals xs its/\IsTup s.heap a its.toArray/\xs.length<=sizeLine:=by
 rcases h with h|⟨o,its,n,hk,hc,hs,hz,r⟩
 ·obtain ⟨z,its,r,p⟩:=h.ok I.hok;exact ⟨its,r,p,z⟩
 ·refine ⟨its.toList,r,⟨o,I.xB a o hk,hc,n,by simpa using hs⟩,?_⟩;have e:=r.length;simp only[Array.length_toList] at e;omega
def Inv.VL(I:Inv X pins σ H s)(h:oA X.K H a xs)(h':oA X.K H a ys):xs=ys:=by
 obtain ⟨its,r,⟨o,n,e,_,_,d⟩,_⟩:=I.list h;obtain ⟨its',r',⟨o',n',e',_,_,d'⟩,_⟩:=I.list h';rw[e] at e';cases e';rw[d] at d';injection d' with d1 _;have:its=its':=by simpa using congrArg Array.toList d1
 subst this;exact r.inj r'
def Inv.BO(I:Inv X pins σ H s)(h:vB X.K H a xs)(h':vB X.K H a ys):xs=ys:=by
 obtain ⟨its,r,⟨o,e,_,n,d⟩,_⟩:=I.tuple h;obtain ⟨its',r',⟨o',e',_,n',d'⟩,_⟩:=I.tuple h';rw[e] at e';cases e';rw[d] at d';injection d' with d1 _;have:its=its':=by simpa using congrArg Array.toList d1
 subst this;exact r.inj r'
end
section
variable{X:Cx}{pins:List (Addr×Obj)}{σ:St}{H:Hp}{s:Shared}{E:Value->Shared->Prop}
end
section
variable{X:Cx}{st:Stmt}{rest:List Stmt}{t u:TS}{e:Expr}{te:TE}{pos:Pos}
def ahq:TS:=λ D σ H=>D.nx σ H
def aln(t u:TS):TS:=λ D σ H=>t {D with nx:=u D} σ H
def ZV:HZ X [] ahq:=λ _ _ σ H _ I h=>wpAny_execs_nil ⟨σ,H,I,h⟩
def UD(h1:PS X st t)(h2:HZ X rest u):HZ X (st::rest) (aln t u):=by
 intro pins s σ H D I h;refine wpAny_execs_cons (dc (h1 pins s σ H {D with nx:=u D} I h) λ f s1 q=>?_);cases f with
 |next=>obtain ⟨σ',H',I',q⟩:=q;exact h2 pins s1 σ' H' D I' q
 |ret v=>exact q
 |brk=>exact q
 |cont=>exact q
def ZU(h1:PS X st t):HZ X [st] t:=by
 intro pins s σ H D I h;refine wpAny_execs_cons (dc (h1 pins s σ H D I h) λ f s1 q=>?_);cases f with
 |next=>exact wpAny_execs_nil q
 |ret v=>exact q
 |brk=>exact q
 |cont=>exact q
def Inv.quiet{pins:List (Addr×Obj)}{σ:St}{H:Hp}{s:Shared}(I:Inv X pins σ H s):interactive X.env=false:=by simp[interactive,I.ok.kind]
def ahr(te:TE):TS:=λ D σ H=>te σ H λ _ H1=>D.nx σ H1
def sS(he:PE X e te)(hs:swapsWith e none pos.line X.env=pure false:=by rfl):PS X (.Expr e pos) (ahr te):=by intro pins s σ H D I h;exact wpAny_Expr_any (dc (he pins s σ H _ I h) λ v s1 ⟨x,H1,I1,r1,q1⟩=>⟨σ,H1,I1,q1⟩) I.quiet hs
def alo(te:TE):TS:=λ D σ H=>te σ H D.rt
def yu(he:PE X e te):PS X (.Return (some e) pos) (alo te):=by intro pins s σ H D I h;exact wpAny_Return_some (dc (he pins s σ H _ I h) λ v s1 ⟨x,H1,I1,r1,q1⟩=>⟨x,σ,H1,I1,r1,q1⟩)
def als(c:TT)(t u:TS):TS:=λ D σ H=>c σ H λ b H1=>if b=true then t D σ H1 else u D σ H1
def ab4{c:Expr}{a b:List Stmt}{tc:TT}(hc:PT X c tc)(ha:HZ X a t)(hb:HZ X b u):PS X (.If c a b pos) (als tc t u):=by
 intro pins s σ H D I h;refine wpAny_If (dc (hc pins s σ H _ I h) λ d s1 ⟨H1,I1,q1⟩=>?_);cases d with
 |true=>exact ha pins s1 σ H1 D I1 q1
 |false=>exact hb pins s1 σ H1 D I1 q1
end
abbrev TG:=V->St->Hp->(St->Hp->Prop)->Prop
abbrev Y8:=List V->St->Hp->(St->Hp->Prop)->Prop
def PG(X:Cx)(target:Expr)(t:TG):Prop:=∀(pins:List (Addr×Obj)) (s:Shared) (σ:St) (H:Hp) (v:V) (u:Value) (Q:St->Hp->Prop),Inv X pins σ H s->RelV v u->t v σ H Q->wpAny (model X.prog X.w) X.A (assign target X.env u) (λ _ s'=>∃σ' H',Inv X pins σ' H' s'/\Q σ' H') X.xe s
def YS(X:Cx)(ts:List Expr)(t:Y8):Prop:=∀(pins:List (Addr×Obj)) (s:Shared) (σ:St) (H:Hp) (vs:List V) (us:List Value) (Q:St->Hp->Prop),Inv X pins σ H s->Vals vs us->t vs σ H Q->wpAny (model X.prog X.w) X.A (assignInOrder ((assignEach ts X.env).map (·.2)) us) (λ _ s'=>∃σ' H',Inv X pins σ' H' s'/\Q σ' H') X.xe s
abbrev afP:=V->V->V->Hp->(Hp->Prop)->Prop
def ajB(X:Cx)(t:afP):Prop:=∀(pins:List (Addr×Obj)) (s:Shared) (σ:St) (H:Hp) (o i v:V) (ov iv u:Value) (Q:Hp->Prop),Inv X pins σ H s->RelV o ov->RelV i iv->RelV v u->t o i v H Q->wpAny (model X.prog X.w) X.A (setItem ov iv u) (λ _ s'=>∃H',Inv X pins σ H' s'/\Q H') X.xe s
section
variable{X:Cx}{pos:Pos}
def ack(i:Nat):TG:=λ v σ H Q=>Q (σ.set i (some v)) H
def Z4{i:Nat}{x:Str}(hN:X.N.Nodup)(hi:X.N[i]? =some x)(hx:Loc X.env.scope x)(hf:X.fn x=true\/X.env.scope.names.lookup x=some .local:=by first|exact .inl rfl|exact .inr rfl|assumption):PG X (.Name x pos) (ack i):=by intro pins s σ H v u Q I r h;exact wpAny_assign_Name (oU I hN hi hx r (λ s' I'=>⟨_,H,I',h⟩) hf)
def amB:Y8:=λ vs σ H Q=>vs=[]/\Q σ H
def aiy(t:TG)(u:Y8):Y8:=λ vs σ H Q=>∃v r,vs=v::r/\t v σ H λ σ' H'=>u r σ' H' Q
def Z3:YS X [] amB:=by intro pins s σ H vs us Q I r h;obtain ⟨e,h⟩:=h;subst e;cases r;exact assignInOrder_nil ⟨σ,H,I,h⟩
def UQ{e:Expr}{es:List Expr}{t:TG}{u:Y8}(h1:PG X e t)(h2:YS X es u) (hs:(assignEach (e::es) X.env).map (·.2)=assign e X.env::(assignEach es X.env).map (·.2):=by rfl):YS X (e::es) (aiy t u):=by
 intro pins s σ H vs us Q I r h;obtain ⟨v,vr,e1,h⟩:=h;subst e1;cases r with
 |cons r rr=>rw[hs];refine assignInOrder_cons (dc (h1 pins s σ H _ _ _ I r h) λ _ s1 ⟨σ1,H1,I1,q1⟩=>?_);exact h2 pins s1 σ1 H1 _ _ Q I1 rr q1
def amz(K:W.Frag)(n:Nat)(t:Y8):TG:=λ v σ H Q=>∃a xs,v= .ref a/\vB K H a xs/\xs.length=n/\t xs σ H Q
def ad9{es:List Expr}{k:Nat}{t:Y8}{n:Nat}(hc:X.calm=true)(h:YS X es t) (hn:(assignEach es X.env).length=n:=by rfl) (hst:(assignEach es X.env).findIdx? (·.1)=none:=by rfl):PG X (.Tuple es k pos) (amz X.K n t):=by intro pins s σ H v u Q I r hw;obtain ⟨a,xs,e1,hq,hl,hw⟩:=hw;subst e1;cases r;obtain ⟨its,rv,ht,hz⟩:=I.tuple hq;refine assign_Tuple_tuple (I.ok.hd hc) ht (by simp[hn, <-hl,rv.length]) hst λ h' hx=>?_;have I1:Inv X pins σ H {s with heap:=h'}:=I.kept (t':=s.toks) λ b o e=>hx b o (Nat.ne_of_lt (Heap.lt_size e)) e;exact h pins _ σ H xs _ Q I1 (by simpa using rv) hw
def amA(to ti:TE)(t:afP):TG:=λ v σ H Q=>to σ H λ o H1=>ti σ H1 λ i H2=>t o i v H2 λ H3=>Q σ H3
def aea{o i:Expr}{to ti:TE}{t:afP}(ho:PE X o to)(hi:PE X i ti)(hs:ajB X t)
  (ha:∀v,assign (.Subscript o i pos) X.env v=(do
   let ov <-holding [v] (eval o X.env)
   let iv <-holding [v,ov] (eval i X.env)
   standAt pos
   holding [v,ov,iv] (setItem ov iv v)
   release [v,ov,iv] []):=by intro _;rfl):PG X (.Subscript o i pos) (amA to ti t):=by
 intro pins s σ H v u Q I r h
 rw[ha]
 refine wpAny_bind (wpAny_holding (dc (ho pins s σ H _ I h) λ ov s1 ⟨x,H1,I1,r1,q1⟩=>?_))
 refine wpAny_bind (wpAny_holding (dc (hi pins s1 σ H1 _ I1 q1) λ iv s2 ⟨y,H2,I2,r2,q2⟩=>?_))
 refine wpAny_bind (wpAny_standAt (wpAny_bind (wpAny_holding (dc (hs pins s2 σ H2 x y v ov iv u _ I2 r1 r2 r q2) λ _ s3 ⟨H3,I3,q3⟩=>?_))))
 exact wpAny_release ⟨σ,H3,I3,q3⟩
def aht(te:TE)(g:TG):TS:=λ D σ H=>te σ H λ x H1=>g x σ H1 D.nx
def UG{tg e:Expr}{te:TE}{g:TG}(he:PE X e te)(hg:PG X tg g)(hs:swapsWithSole [tg] e pos.line X.env=pure false:=by rfl)(hw:swappedStores [tg] e X.env=pure none:=by rfl) (h1:(assignEach [tg] X.env).map (·.2)=[assign tg X.env]:=by rfl):PS X (.Assign [tg] e pos) (aht te g):=by intro pins s σ H D I h;refine wpAny_Assign_stores (dc (he pins s σ H _ I h) λ v s1 ⟨x,H1,I1,r1,q1⟩=>?_) hs hw;rw[h1];exact dc (hg pins s1 σ H1 x v _ I1 r1 q1) λ _ s2 q=>q
def Dd{i:Nat}{x:Str}{e:Expr}{te:TE}{pos':Pos}(hN:X.N.Nodup)(hi:X.N[i]? =some x)(hx:Loc X.env.scope x)(he:PE X e te)(hs:swapsWith e (some (.Name x pos')) pos.line X.env=pure false:=by rfl)(hf:X.fn x=true\/X.env.scope.names.lookup x=some .local:=by first|exact .inl rfl|exact .inr rfl|assumption):
  PS X (.Assign [.Name x pos'] e pos) (aht te (ack i)):=by
 intro pins s σ H D I h;refine wpAny_Assign_Name (dc (he pins s σ H _ I h) λ v s1 ⟨y,H1,I1,r1,q1⟩=>?_) hs;exact oU I1 hN hi hx r1 (λ s2 I2=>⟨_,H1,I2,q1⟩) hf
def alp(i j:Nat)(ta:TA):TS:=λ D σ H=>ta σ H λ vs H1=>∃v w,vs=[v,w]/\D.nx ((σ.set i (some v)).set j (some w)) H1
def ad4{i j:Nat}{x y:Str}{a b:Expr}{ta:TA}{px py pt:Pos}{kt k2 pt2}(hc:X.calm=true)(hN:X.N.Nodup)(hi:X.N[i]? =some x)(hj:X.N[j]? =some y)(hij:i≠j)
  (hx:X.env.scope.names.lookup x=some .local) (hy:X.env.scope.names.lookup y=some .local) (ha:PA X [a,b] ta)
  (hw:swappedStores [.Tuple [.Name x px,.Name y py] kt pt] (.Tuple [a,b] k2 pt2) X.env=pure (some [x,y]))
  (hs:swapsWithSole [.Tuple [.Name x px,.Name y py] kt pt] (.Tuple [a,b] k2 pt2) pos.line X.env=pure false:=by rfl):
  PS X (.Assign [.Tuple [.Name x px,.Name y py] kt pt] (.Tuple [a,b] k2 pt2) pos) (alp i j ta):=by
 intro pins s σ H D I h
 rw[exec_Assign_arm]
 refine wpAny_bind (wpAny_standAt ?_)
 rw[hs]
 refine wpAny_bind (wpAny_pure ?_)
 rw[if_neg (by decide)]
 refine wpAny_bind (Tuple_ (dc (ha _ pins s σ H _ I h) λ us s1 ⟨vs,H1,I1,r1,q1⟩=>?_))
 obtain ⟨v,w,e1,q1⟩:=q1
 subst e1
 obtain ⟨u1,u2,rfl,rv,rw'⟩:∃u1 u2,us=[u1,u2]/\RelV v u1/\RelV w u2:=by
  cases r1 with
  |cons p q=>
   cases q with
   |cons p' q'=>
    cases q'
    exact ⟨_,_,rfl,p,p'⟩
 refine wpAny_newObj_type ?_ (by show 2<=sizeLine;decide)
 have I2:Inv X pins σ H1 {s1 with heap:=s1.heap.push {cls:= .type "tuple",data:= .seq [u1,u2].toArray}}:=I1.kept (t':=s1.toks) λ b o e=>Heap.get?_push_of_some _ e
 rw[hw]
 refine wpAny_bind (wpAny_pure ?_)
 show wpAny (model X.prog X.w) X.A (do rule "assign.swapped-stores";let items <-unpackItems (.ref s1.heap.objs.size) 2 none;assignInOrder [λ v=>bindName X.env y v,λ v=>bindName X.env x v] items.reverse;pure Flow.next) _ _ _
 refine wpAny_bind (wpAny_rule (wpAny_bind (unpackItems_tuple (items:= #[u1,u2]) (I.ok.hd hc) (IsTup.new s1.heap _) λ h' hx'=>?_)))
 have I3:=I2.kept (h':=h') (t':=s1.toks) λ b o e=>hx' b o (Nat.ne_of_lt (Heap.lt_size e)) e
 show wpAny _ _ (assignInOrder [λ v=>bindName X.env y v,λ v=>bindName X.env x v] [u2,u1]>>=λ _=>pure Flow.next) _ _ _
 refine wpAny_bind (assignInOrder_cons (wpAny_bindName (oU I3 hN hj (.inl hy) rw' (λ s2 I4=>?_) (.inr hy))))
 refine assignInOrder_cons (wpAny_bindName (oU I4 hN hi (.inl hx) rv (λ s3 I5=>assignInOrder_nil (wpAny_pure ?_)) (.inr hx)))
 rw[List.set_comm _ _ (Ne.symm hij)] at I5
 exact ⟨_,H1,I5,q1⟩
def adI(c:TT)(tb:TS):TS:=λ D σ H=>∃W:Nat->St->Hp->Prop,(∃m,W m σ H)/\∀m σ H,W m σ H->c σ H λ b H1=>if b=true then ∃N:St->Hp->Prop,(∀σ' H',N σ' H'->∃m',m'<m/\W m' σ' H')/\tb {D with nx:=N,ct:=N,bk:=D.nx} σ H1 else D.nx σ H1
def UE{c:Expr}{body:List Stmt}{tc:TT}{tb:TS}(hp:PassesOwn (model X.prog X.w) X.A X.env X.xe)(hc:PT X c tc)(hb:HZ X body tb):PS X (.While c body [] pos) (adI tc tb):=by
 intro pins s σ H D I h;obtain ⟨W,⟨m0,w0⟩,turn⟩:=h;refine wpAny_While (codeAny_whileLoop (λ n s'=>∃σ' H',Inv X pins σ' H' s'/\W n σ' H') ?_ m0 ⟨σ,H,I,w0⟩)
 rintro n s1 ⟨σ1,H1,I1,w1⟩
 refine wpAny_passesOwn hp (dc (hc pins s1 σ1 H1 _ I1 (turn n σ1 H1 w1)) λ b s2 ⟨H2,I2,q2⟩=>?_);cases b with
 |true=>
  obtain ⟨N,hN,q2⟩:=q2;rw[if_pos rfl];refine wpAny_passesOwn hp (dc (hb pins s2 σ1 H2 _ I2 q2) λ f s3 q3=>?_);cases f with
  |next=>obtain ⟨σ3,H3,I3,n3⟩:=q3;obtain ⟨m',hm,w3⟩:=hN σ3 H3 n3;exact ⟨m',hm,σ3,H3,I3,w3⟩
  |cont=>obtain ⟨σ3,H3,I3,n3⟩:=q3;obtain ⟨m',hm,w3⟩:=hN σ3 H3 n3;exact ⟨m',hm,σ3,H3,I3,w3⟩
  |brk=>exact q3
  |ret v=>exact q3
 |false=>rw[if_neg Bool.false_ne_true];exact wpAny_execs_nil ⟨σ1,H2,I2,q2⟩
end
structure It where
 go:Nat->Hp->Prop
 yld:Nat->Hp->V->Hp->Prop
 stop:Nat->Hp->Prop
def BC(X:Cx)(pins:List (Addr×Obj))(H:Hp)(b:Addr):Prop:=H b=none/\b≠X.env.locals/\b∉X.fs/\(b∈X.ex\/X.s₀.heap.objs.size<=b)/\(∀x c,X.env.cells.lookup x=some c->c≠b)/\∀p∈X.pn++pins,p.1≠b
def Inv.R3{X:Cx}{pins:List (Addr×Obj)}{σ:St}{H H':Hp}{s:Shared}{b:Addr}(I:Inv X pins σ H s)(hb:s.heap.objs.size<=b)(hn:H' b=none):BC X pins H' b:=by
 refine ⟨hn,Nat.ne_of_gt (Nat.lt_of_lt_of_le I.lt hb),I.alT hb,.inr (Nat.le_trans I.sz hb),λ x c e z=>?_,λ p hp z=>?_⟩
 ·obtain ⟨v,q⟩:=I.cell x c e;exact absurd (Nat.lt_of_lt_of_le q.lt (by rw[z];exact hb)) (Nat.lt_irrefl _)
 ·exact absurd (Nat.lt_of_lt_of_le (Heap.lt_size (I.pin p hp).1) (by rw[z];exact hb)) (Nat.lt_irrefl _)
structure Turn(P:Program)(w:World)(K:W.Frag)(tg:Expr)(J:It)(fp:List Addr)(it:Addr)(tn:Nat->Heap->Prop):Prop where
 mem:it∈fp
 obj:∀i h,tn i h->∀b∈fp,∃o,h.get? b=some o/\∀v,o.data≠.cell v
 keep:∀i h h',tn i h->(∀b∈fp,∀o,h.get? b=some o->h'.get? b=some o)->tn i h'
 item:∀(X:Cx),X.prog=P->X.w=w->X.K=K->X.calm=true->∀(i:Nat) (pins:List (Addr×Obj)) (s:Shared) (σ:St) (H:Hp) (E:Value->Shared->Prop),Inv X pins σ H s->(∀b∈fp,BC X pins H b)->tn i s.heap->J.go i H->
  wpAny (model P w) X.A (pyNext (.ref it)) (λ r s1=>∃u,r=some u/\
   wpAny (model P w) X.A (letOwnedTupleGo tg (.ref it) u) (λ _ s2=>∃x H',Inv X pins σ H' s2/\RelV x u/\J.yld i H x H'/\tn (i+1) s2.heap/\∀b∈fp,H' b=none) E s1) E s
 done:∀(X:Cx),X.prog=P->X.w=w->X.K=K->X.calm=true->∀(i:Nat) (pins:List (Addr×Obj)) (s:Shared) (σ:St) (H:Hp) (E:Value->Shared->Prop),Inv X pins σ H s->(∀b∈fp,BC X pins H b)->tn i s.heap->J.stop i H->
  wpAny (model P w) X.A (pyNext (.ref it)) (λ r s1=>r=none/\Inv X pins σ H s1) E s
 self:∀(A:Around) (i:Nat) (s:Shared) (Q:Value->Shared->Prop) (E:Value->Shared->Prop),tn i s.heap->Q (.ref it) s->wpAny (model P w) A (pyIter (.ref it)) Q E s
abbrev TI:=St->Hp->(It->Hp->Prop)->Prop
def PIE(X:Cx)(pins:List (Addr×Obj))(σ:St)(tg:Expr)(R:It->Hp->Prop)(itv:Value)(s2:Shared):Prop:=∃(it:Addr) (fp:List Addr) (tn:Nat->Heap->Prop) (J:It) (H':Hp),itv= .ref it/\Inv X pins σ H' s2/\Turn X.prog X.w X.K tg J fp it tn/\tn 0 s2.heap/\(∀b∈fp,BC X pins H' b)/\R J H'
def PI(X:Cx)(tg iter:Expr)(wi:TI):Prop:=∀(pins:List (Addr×Obj)) (s:Shared) (σ:St) (H:Hp) (R:It->Hp->Prop),Inv X pins σ H s->wi σ H R->wpAny (model X.prog X.w) X.A (eval iter X.env) (λ v s1=>wpAny (model X.prog X.w) X.A (pyIter v) (PIE X pins σ tg R) X.xe s1) X.xe s
def WK{M:Model}{A:Around}{E:Value->Shared->Prop}{s:Shared}{tg:Expr}{it:Addr}{u:Value}{o:Obj}{n:String}{vs:Array Value}{Q:Unit->Shared->Prop}(ho:s.heap.get? it=some o)(hc:o.cls= .type n)(hd:o.data= .fields vs) (hn:["enumerate","zip","dict_itemiterator","dict_reverseitemiterator","odict_iterator","itertools.zip_longest","itertools.pairwise"].contains n=false) (hQ:Q () s):wpAny M A (letOwnedTupleGo tg (.ref it) u) Q E s:=by
 unfold letOwnedTupleGo;cases tg<;>first
  |exact wpAny_pure hQ
  |(cases u<;>first
    |exact wpAny_pure hQ
    |(refine wpAny_bind (wpAny_load ho ?_)
      rw[hc,hd]
      show wpAny M A (if (["enumerate","zip","dict_itemiterator","dict_reverseitemiterator","odict_iterator","itertools.zip_longest","itertools.pairwise"].contains n&&vs[0]? ==some (rawInt _))=true then _ else _) Q E s
      rw[if_neg (by intro h;rw[hn,Bool.false_and] at h;cases h)]
      exact wpAny_pure hQ))
def Itl(K:W.Frag)(a:Addr):It:=⟨λ i H=>∃xs x,oA K H a xs/\xs[i]? =some x,λ i H x H'=>H'=H/\∀xs,oA K H a xs->xs[i]? =some x,λ i H=>∃xs,oA K H a xs/\xs.length<=i⟩
def Itt(K:W.Frag)(a:Addr):It:=⟨λ i H=>∃xs x,vB K H a xs/\xs[i]? =some x,λ i H x H'=>H'=H/\∀xs,vB K H a xs->xs[i]? =some x,λ i H=>∃xs,vB K H a xs/\xs.length<=i⟩
def Itr(lo:Int)(n:Nat):It:=⟨λ i _=>i<n,λ i H x H'=>H'=H/\x= .int (lo+i),λ i _=>n<=i⟩
def QA{P:Program}{w:World}{K:W.Frag}{tg:Expr}(a it:Addr):Turn P w K tg (Itl K a) [it] it (λ i h=>h.IsListIter it a i) where
 mem:=by simp
 obj:=λ i h st b hb=>by
  have e:b=it:=by simpa using hb
  subst e
  obtain ⟨o,e,c,d⟩:=st
  exact ⟨o,e,λ v z=>by rw[d] at z;cases z⟩
 keep:=λ i h h' st k=>st.at λ o e=>k it (by simp) o e
 item:=by
  intro X hP hw hK hc i pins s σ H E I hf st hg
  subst hP hw hK
  obtain ⟨xs,x,hq,hx⟩:=hg
  obtain ⟨its,rv,p,hz⟩:=I.list hq
  obtain ⟨u,hu,ru⟩:=rv.get hx
  obtain ⟨f0,f1,f2,f3,f4,f5⟩:=hf it (by simp)
  refine wpAny_pyNext_list_item st p.isList (x:=u) (by simpa using hu) λ h' st' sb=>?_
  have I1:Inv X pins σ H {s with heap:=h'}:=I.turned (t':=s.toks) (λ b o hb e=>(sb.2 b hb).trans e) f0 f1 f3 f4 f5
  obtain ⟨o,e,c,d⟩:=id st'
  exact ⟨u,rfl,WK (s:={s with heap:=h'}) e c d (by decide) ⟨x,H,I1,ru,⟨rfl,λ ys hy=>by rw[I.VL hy hq];exact hx⟩,st',λ b hb=>(hf b hb).1⟩⟩
 done:=by
  intro X hP hw hK hc i pins s σ H E I hf st hg
  subst hP hw hK
  obtain ⟨xs,hq,hx⟩:=hg
  obtain ⟨its,rv,p,hz⟩:=I.list hq
  obtain ⟨f0,f1,f2,f3,f4,f5⟩:=hf it (by simp)
  have hl:=rv.length
  exact wpAny_pyNext_list_end (I.ok.hd hc) st p.isList (by simp;omega) λ h' eb=>⟨rfl,I.turned (t':=s.toks) (λ b o hb e=>eb b o hb e) f0 f1 f3 f4 f5⟩
 self:=λ _ _ _ _ _ st h=>wpAny_pyIter_listiter st h
def IA{P:Program}{w:World}{K:W.Frag}{tg:Expr}(a it:Addr):Turn P w K tg (Itt K a) [it] it (λ i h=>h.IsTupleIter it a i) where
 mem:=by simp
 obj:=λ i h st b hb=>by
  have e:b=it:=by simpa using hb
  subst e
  obtain ⟨o,e,c,d⟩:=st
  exact ⟨o,e,λ v z=>by rw[d] at z;cases z⟩
 keep:=λ i h h' st k=>st.at λ o e=>k it (by simp) o e
 item:=by
  intro X hP hw hK hc i pins s σ H E I hf st hg
  subst hP hw hK
  obtain ⟨xs,x,hq,hx⟩:=hg
  obtain ⟨its,rv,p,hz⟩:=I.tuple hq
  obtain ⟨u,hu,ru⟩:=rv.get hx
  obtain ⟨f0,f1,f2,f3,f4,f5⟩:=hf it (by simp)
  refine wpAny_pyNext_tuple_item st (show s.heap.IsTuple a its.toArray from p) (x:=u) (by simpa using hu) λ h' st' sb=>?_
  have I1:Inv X pins σ H {s with heap:=h'}:=I.turned (t':=s.toks) (λ b o hb e=>(sb.2 b hb).trans e) f0 f1 f3 f4 f5
  obtain ⟨o,e,c,d⟩:=id st'
  exact ⟨u,rfl,WK (s:={s with heap:=h'}) e c d (by decide) ⟨x,H,I1,ru,⟨rfl,λ ys hy=>by rw[I.BO hy hq];exact hx⟩,st',λ b hb=>(hf b hb).1⟩⟩
 done:=by
  intro X hP hw hK hc i pins s σ H E I hf st hg
  subst hP hw hK
  obtain ⟨xs,hq,hx⟩:=hg
  obtain ⟨its,rv,p,hz⟩:=I.tuple hq
  obtain ⟨f0,f1,f2,f3,f4,f5⟩:=hf it (by simp)
  have hl:=rv.length
  exact wpAny_pyNext_tuple_end (I.ok.hd hc) st (show s.heap.IsTuple a its.toArray from p) (by simp;omega) λ h' eb=>⟨rfl,I.turned (t':=s.toks) (λ b o hb e=>eb b o hb e) f0 f1 f3 f4 f5⟩
 self:=λ _ _ _ _ _ st h=>wpAny_pyIter_tupleiter st h
def IB{P:Program}{w:World}{K:PySem.W.Frag}{tg:Expr}(it:Addr)(lo:Int)(n:Nat):Turn P w K tg (Itr lo n) [it] it (λ i h=>IsRangeIter h it (lo+(i:Nat)*1) ((n:Int) -(i:Nat)) 1) where
 mem:=by simp
 obj:=λ i h st b hb=>by
  have e:b=it:=by simpa using hb
  subst e
  exact ⟨_,st,λ v z=>by
   have z':Data.fields _=Data.cell v:=z
   cases z'⟩
 keep:=λ i h h' st k=>k it (by simp) _ st
 item:=by
  intro X hP hw hK hc i pins s σ H E I hf st hg
  subst hP hw hK
  obtain ⟨f0,f1,f2,f3,f4,f5⟩:=hf it (by simp)
  have W:=Walks.range (prog:=X.prog) (w:=X.w) (I.ok.hd hc) it lo 1 n
  refine W.item i s _ _ hg st λ v h' tk hv st' kk=>?_
  obtain ⟨t,rfl⟩:=hv
  have I1:Inv X pins σ H {s with heap:=h',toks:=tk}:=I.turned (λ b o hb e=>kk b o (by simpa using hb) e) f0 f1 f3 f4 f5
  refine ⟨_,rfl,WK (s:={s with heap:=h',toks:=tk}) (n:="range_iterator") st' rfl rfl (by decide) ⟨.int (lo+i),H,I1,⟨t,?_⟩,⟨rfl,rfl⟩,st',λ b hb=>(hf b hb).1⟩⟩
  rw[Int.mul_one]
 done:=by
  intro X hP hw hK hc i pins s σ H E I hf st hg
  subst hP hw hK
  obtain ⟨f0,f1,f2,f3,f4,f5⟩:=hf it (by simp)
  exact wpAny_pyNext_range_end (I.ok.hd hc) st (by have:n<=i:=hg;omega) λ h' eb=>⟨rfl,I.turned (t':=s.toks) (λ b o hb e=>eb b o hb e) f0 f1 f3 f4 f5⟩
 self:=λ _ _ _ _ _ st h=>wpAny_pyIter_rangeiter st h
section
variable{X:Cx}{tg:Expr}
def air(K:W.Frag)(tl:TE):TI:=λ σ H R=>tl σ H λ x H1=>∃a,x= .ref a/\(∃xs,oA K H1 a xs)/\R (Itl K a) H1
def amc(K:W.Frag)(tl:TE):TI:=λ σ H R=>tl σ H λ x H1=>∃a,x= .ref a/\(∃xs,vB K H1 a xs)/\R (Itt K a) H1
def Dj{l:Expr}{tl:TE}(hl:PE X l tl):PI X tg l (air X.K tl):=by
 intro pins s σ H R I h;refine dc (hl pins s σ H _ I h) λ v s1 ⟨x,H1,I1,r1,q1⟩=>?_;obtain ⟨a,e,⟨xs,hq⟩,q⟩:=q1;subst e;cases r1;obtain ⟨its,rv,p,hz⟩:=I1.list hq;refine wpAny_pyIter_list p.isList ?_;refine ⟨s1.heap.objs.size,[s1.heap.objs.size],_,_,H1,rfl,I1.kept (t':=s1.toks) λ b o e=>Heap.get?_push_of_some _ e,QA a _,⟨_,Heap.get?_push_size _ rfl,rfl,rfl⟩,λ b hb=>?_,q⟩;have e:b=s1.heap.objs.size:=by simpa using hb
 subst e;exact I1.R3 (Nat.le_refl _) (I1.hok.fresh (Nat.le_refl _))
def UP{l:Expr}{tl:TE}(hl:PE X l tl):PI X tg l (amc X.K tl):=by
 intro pins s σ H R I h;refine dc (hl pins s σ H _ I h) λ v s1 ⟨x,H1,I1,r1,q1⟩=>?_;obtain ⟨a,e,⟨xs,hq⟩,q⟩:=q1;subst e;cases r1;obtain ⟨its,rv,p,hz⟩:=I1.tuple hq;refine wpAny_pyIter_tuple (show s1.heap.IsTuple a its.toArray from p) ?_;refine ⟨s1.heap.objs.size,[s1.heap.objs.size],_,_,H1,rfl,I1.kept (t':=s1.toks) λ b o e=>Heap.get?_push_of_some _ e,IA a _,⟨_,Heap.get?_push_size _ rfl,rfl,rfl⟩,λ b hb=>?_,q⟩;have e:b=s1.heap.objs.size:=by simpa using hb
 subst e;exact I1.R3 (Nat.le_refl _) (I1.hok.fresh (Nat.le_refl _))
def Uy{pins:List (Addr×Obj)}{σ:St}{H:Hp}{s:Shared}{R:It->Hp->Prop}{E:Value->Shared->Prop}{lo hi:Int}{t u v:Tok}{tk:Nat}(I:Inv X pins σ H s)(h1: -(2^62)<=lo)(h2:lo<2^62)(h3: -(2^62)<=hi)(h4:hi<2^62) (q:R (Itr lo (hi- lo).toNat) H):wpAny (model X.prog X.w) X.A (pyIter (.ref s.heap.objs.size)) (PIE X pins σ tg R) E {s with heap:=s.heap.push {cls:= .type "range",data:= .fields #[.int lo t,.int hi u,.int 1 v]},toks:=tk}:=by
 refine wpAny_pyIter_range (IsRange.new ..) (small_one h1 h2 h3 h4) ?_;have I1:Inv X pins σ H {s with heap:=s.heap.push {cls:= .type "range",data:= .fields #[.int lo t,.int hi u,.int 1 v]},toks:=tk}:=I.kept λ b o e=>Heap.get?_push_of_some _ e;refine ⟨(s.heap.push {cls:= .type "range",data:= .fields #[.int lo t,.int hi u,.int 1 v]}).objs.size,[(s.heap.push {cls:= .type "range",data:= .fields #[.int lo t,.int hi u,.int 1 v]}).objs.size],_,_,H,rfl,
  I1.kept (t':=tk) λ b o e=>Heap.get?_push_of_some _ e,IB _ lo (hi- lo).toNat,?_,λ b hb=>?_,q⟩
 ·have e1:lo+((0:Nat):Int)*1=lo:=by simp
  have e2:(((hi- lo).toNat:Nat):Int) -((0:Nat):Int)=Builtin.Range.rangeSize lo hi 1:=by rw[rangeSize_one];split<;>omega
  show IsRangeIter _ _ (lo+((0:Nat):Int)*1) ((((hi- lo).toNat:Nat):Int) -((0:Nat):Int)) 1;rw[e1,e2];exact Heap.get?_push_size _ rfl
 ·have e:b=(s.heap.push {cls:= .type "range",data:= .fields #[.int lo t,.int hi u,.int 1 v]}).objs.size:=by simpa using hb
  subst e;exact I1.R3 (Nat.le_refl _) (I1.hok.fresh (Nat.le_refl _))
def pM(ta:TA):TI:=λ σ H R=>ta σ H λ vs H1=>∃j:Int,vs=[.int j]/\ -(2^62)<=j/\j<2^62/\R (Itr 0 j.toNat) H1
def QT{a:Expr}{ta:TA}{p pos:Pos}(hg:Gl X "range")(hm:X.mg "range"=none)(ha:PA X [a] ta)(hs:starEach [a] X.env=[(false,eval a X.env)]:=by rfl):PI X tg (.Call (.Name "range" p) [a] [] pos) (pM ta):=by
 intro pins s σ H R I h;refine Call_ (zb I hg hm boot_range (PyProof.Rows.callWith_type1 (dc (ha pos pins s σ H _ I h) λ us s1 ⟨vs,H1,I1,r1,q1⟩=>?_) hs rfl));obtain ⟨j,e,q1,q2,q⟩:=q1;subst e;cases r1 with
 |cons r rr=>cases rr;obtain ⟨t,rfl⟩:=r;exact call_range_1 (Uy I1 (by omega) (by omega) q1 q2 (by simpa using q))
def alu(wi:TI)(g:TG)(tb:TS):TS:=λ D σ H=>wi σ H λ J H1=>∃W:Nat->Nat->St->Hp->Prop,(∃m,W 0 m σ H1)/\∀i m σ H,W i m σ H->(J.stop i H/\D.nx σ H)\/(J.go i H/\∃N:St->Hp->Prop,(∀σ' H',N σ' H'->∃m',m'<m/\W (i+1) m' σ' H')/\∀x H',J.yld i H x H'->g x σ H' λ σ2 H2=>tb {D with nx:=N,ct:=N,bk:=D.nx} σ2 H2)
noncomputable def yy(fp:List Addr)(h:Heap):List (Addr×Obj):=fp.filterMap λ b=>(h.get? b).map λ o=>(b,o)
def nk{fp:List Addr}{h:Heap}{b:Addr}{o:Obj}(hb:b∈fp)(e:h.get? b=some o):(b,o)∈yy fp h:=List.mem_filterMap.mpr ⟨b,hb,by rw[e];rfl⟩
def QZ{fp:List Addr}{h:Heap}{p:Addr×Obj}(hp:p∈yy fp h):p.1∈fp/\h.get? p.1=some p.2:=by
 obtain ⟨b,hb,e⟩:=List.mem_filterMap.mp hp;cases q:h.get? b with
 |none=>rw[q] at e;cases e
 |some o=>rw[q] at e;have e':(b,o)=p:=Option.some.inj e;subst e';exact ⟨hb,q⟩
def Inv.pinned{pins:List (Addr×Obj)}{σ:St}{H:Hp}{s:Shared}{fp:List Addr}(I:Inv X pins σ H s)(hf:∀b∈fp,BC X pins H b)(ho:∀b∈fp,∃o,s.heap.get? b=some o/\∀v,o.data≠.cell v):Inv X (pins++yy fp s.heap) σ H s:=I.O9 λ p hp=>(List.mem_append.mp hp).elim (λ z=>I.pin p (List.mem_append_right _ z)) λ z=>by obtain ⟨hb,e⟩:=QZ z;obtain ⟨f0,f1,f2,_⟩:=hf p.1 hb;obtain ⟨o,e',d⟩:=ho p.1 hb;rw[e] at e';cases e';exact ⟨e,f0,f1,f2,d⟩
def Inv.oR{pins pl:List (Addr×Obj)}{σ:St}{H:Hp}{s:Shared}(I:Inv X (pins++pl) σ H s):Inv X pins σ H s:=I.O9 λ p hp=>I.pin p (List.mem_append_right _ (List.mem_append_left _ hp))
def ad5{iter:Expr}{body:List Stmt}{wi:TI}{g:TG}{tb:TS}{pos:Pos}(hp:PassesOwn (model X.prog X.w) X.A X.env X.xe)(hc:X.calm=true)(hi:PI X tg iter wi)(hg:PG X tg g)(hb:HZ X body tb) (hs:∀x,foldedSetIterable iter X.env x=pure x:=by intro _;rfl):PS X (.For tg iter body [] pos) (alu wi g tb):=by
 intro pins s σ H D I h;refine wpAny_For (dc (hi pins s σ H _ I h) λ v s1 h1=>dc h1 λ itv s2 h2=>?_) hs;obtain ⟨it,fp,tn,J,H2,e,I2,T,st2,f2,W,⟨m0,w0⟩,turn⟩:=h2;subst e
 -- what stays true of Ao aeY objects through Ao loop
 have adM:∀{H':Hp},(∀b∈fp,H' b=none)->∀b∈fp,BC X pins H' b:=λ hn b hb=>⟨hn b hb,(f2 b hb).2⟩;refine codeAny_forLoop_any (λ n s'=>∃i σ' H',Inv X pins σ' H' s'/\tn i s'.heap/\(∀b∈fp,H' b=none)/\W i n σ' H') ?_ m0 ⟨0,σ,H2,I2,st2,λ b hb=>(f2 b hb).1,w0⟩
 rintro n s3 ⟨i,σ3,H3,I3,st3,fr3,w3⟩
 rcases turn i n σ3 H3 w3 with ⟨stop,qn⟩|⟨go,N,hN,step⟩
 ·refine wpAny_passesOwn hp (dc (T.done X rfl rfl rfl hc i pins s3 σ3 H3 X.xe I3 (adM fr3) st3 stop) λ r s4 ⟨hr,I4⟩=>?_);subst hr;exact wpAny_execs_nil ⟨σ3,H3,I4,qn⟩
 ·refine wpAny_passesOwn hp (dc (T.item X rfl rfl rfl hc i pins s3 σ3 H3 X.xe I3 (adM fr3) st3 go) λ r s4 ⟨u,hr,h4⟩=>?_);subst hr;refine wpAny_passesOwn hp (dc h4 λ _ s5 ⟨x,H5,I5,r5,y5,st5,fr5⟩=>?_);have I5':=I5.pinned (adM fr5) (T.obj _ _ st5);refine wpAny_passesOwn hp (dc (hg _ s5 σ3 H5 x u _ I5' r5 (step x H5 y5)) λ _ s6 ⟨σ6,H6,I6,q6⟩=>?_);refine wpAny_passesOwn hp (dc (hb _ s6 σ6 H6 _ I6 q6) λ f s7 q7=>?_);have again:∀{σ7:St} {H7:Hp},Inv X (pins++yy fp s5.heap) σ7 H7 s7->N σ7 H7->∃m,m<n/\∃i σ' H',Inv X pins σ' H' s7/\tn i s7.heap/\(∀b∈fp,H' b=none)/\W i m σ' H':=λ{σ7 H7} I7 n7=>by obtain ⟨m',hm,w7⟩:=hN σ7 H7 n7;refine ⟨m',hm,i+1,σ7,H7,I7.oR,T.keep _ _ _ st5 λ b hb o e=>(I7.pin (b,o) (List.mem_append_right _ (List.mem_append_right _ (nk hb e)))).1,λ b hb=>?_,w7⟩;obtain ⟨o,e,d⟩:=T.obj _ _ st5 b hb;exact (I7.pin (b,o) (List.mem_append_right _ (List.mem_append_right _ (nk hb e)))).2.1
  cases f with
  |next=>obtain ⟨σ7,H7,I7,n7⟩:=q7;exact again I7 n7
  |cont=>obtain ⟨σ7,H7,I7,n7⟩:=q7;exact again I7 n7
  |brk=>obtain ⟨σ7,H7,I7,q7⟩:=q7;exact ⟨σ7,H7,I7.oR,q7⟩
  |ret v=>obtain ⟨x7,σ7,H7,I7,r7,q7⟩:=q7;exact ⟨x7,σ7,H7,I7.oR,r7,q7⟩
end
abbrev R2:=V->V->Hp->VK->Prop
def nU(X:Cx)(f:Value->Value->Sem Value)(r:R2):Prop:=∀(pins:List (Addr×Obj)) (s:Shared) (σ:St) (H:Hp) (x y:V) (v u:Value) (Q:VK),Inv X pins σ H s->RelV x v->RelV y u->r x y H Q->wpAny (model X.prog X.w) X.A (f v u) (EP X pins σ Q) X.xe s
def UnR(X:Cx)(f:Value->Sem Value)(r:V->Hp->VK->Prop):Prop:=∀(pins:List (Addr×Obj)) (s:Shared) (σ:St) (H:Hp) (x:V) (v:Value) (Q:VK),Inv X pins σ H s->RelV x v->r x H Q->wpAny (model X.prog X.w) X.A (f v) (EP X pins σ Q) X.xe s
def n9(X:Cx)(f:Value)(r:List V->Hp->VK->Prop):Prop:=∀(pins:List (Addr×Obj)) (s:Shared) (σ:St) (H:Hp) (xs:List V) (us:List Value) (Q:VK),Inv X pins σ H s->Vals xs us->r xs H Q->wpAny (model X.prog X.w) X.A (call f us) (EP X pins σ Q) X.xe s
def tOp(r:R2)(ta tb:TE):TE:=λ σ H Q=>ta σ H λ x H1=>tb σ H1 λ y H2=>r x y H2 Q
def tUn(r:V->Hp->VK->Prop)(ta:TE):TE:=λ σ H Q=>ta σ H λ x H1=>r x H1 Q
def rI(C:Int->Int->Prop)(g:Int->Int->V):R2:=λ x y H Q=>∃i j,x= .int i/\y= .int j/\C i j/\Q (g i j) H
def rI0(g:Int->Int->V):R2:=λ x y H Q=>∃i j,x= .int i/\y= .int j/\Q (g i j) H
def rU(g:Int->V):V->Hp->VK->Prop:=λ x H Q=>∃i,x= .int i/\Q (g i) H
section
variable{X:Cx}{a b c:Expr}{ta tb tc:TE}{pos:Pos}
def afC(ha:PE X a ta)(hb:PE X b tb){pins:List (Addr×Obj)}{s:Shared}{σ:St}{H:Hp}{R:V->V->Hp->Prop}(I:Inv X pins σ H s) (h:ta σ H λ x H1=>tb σ H1 λ y H2=>R x y H2) {Q:Value->Shared->Prop} {f:Value->Value->Sem Value} (hf:∀v u s2 x y H2,Inv X pins σ H2 s2->RelV x v->RelV y u->R x y H2->wpAny (model X.prog X.w) X.A (f v u) Q X.xe s2):
  wpAny (model X.prog X.w) X.A (eval a X.env) (λ v s₁=>wpAny (model X.prog X.w) X.A (eval b X.env) (λ u s₂=>wpAny (model X.prog X.w) X.A (f v u) Q X.xe s₂) X.xe s₁) X.xe s:=by
 refine dc (ha pins s σ H _ I h) λ v s1 ⟨x,H1,I1,r1,q1⟩=>?_;refine dc (hb pins s1 σ H1 _ I1 q1) λ u s2 ⟨y,H2,I2,r2,q2⟩=>?_;exact hf v u s2 x y H2 I2 r1 r2 q2
def ab5{op:Operator}{r:R2}(ho:nU X (binaryOp op) r)(ha:PE X a ta)(hb:PE X b tb):PE X (.BinOp a op b pos) (tOp r ta tb):=by intro pins s σ H Q I h;exact wpAny_BinOp (afC ha hb I h λ v u s2 x y H2 I2 rx ry q=>ho pins s2 σ H2 x y v u Q I2 rx ry q)
def ahQ{op:UnaryOp}{r:V->Hp->VK->Prop}(ho:UnR X (unaryOp op) r)(ha:PE X a ta):PE X (.UnaryOp op a pos) (tUn r ta):=by intro pins s σ H Q I h;exact UnaryOp_ (dc (ha pins s σ H _ I h) λ v s1 ⟨x,H1,I1,r1,q1⟩=>ho pins s1 σ H1 x v Q I1 r1 q1)
def opI{f:Value->Value->Sem Value}{C:Int->Int->Prop}{g:Int->Int->Int} (rule:∀(i j:Int) (t u:Tok) (s:Shared) (Q:Value->Shared->Prop) (E:Value->Shared->Prop),C i j->Q (.int (g i j) s.toks) {s with toks:=s.toks+1}->wpAny (model X.prog X.w) X.A (f (.int i t) (.int j u)) Q E s):
  nU X f (rI C λ i j=> .int (g i j)):=by
 intro pins s σ H x y v u Q I rx ry h;obtain ⟨i,j,rfl,rfl,hc,q⟩:=h;obtain ⟨t,rfl⟩:=rx;obtain ⟨t',rfl⟩:=ry;exact rule i j t t' s _ _ hc ⟨.int (g i j),H,I.tok _,⟨_,rfl⟩,q⟩
def aep{f:Value->Value->Sem Value}{g:Int->Int->Int} (rule:∀(i j:Int) (t u:Tok) (s:Shared) (Q:Value->Shared->Prop) (E:Value->Shared->Prop),Q (.int (g i j) s.toks) {s with toks:=s.toks+1}->wpAny (model X.prog X.w) X.A (f (.int i t) (.int j u)) Q E s):
  nU X f (rI0 λ i j=> .int (g i j)):=by
 intro pins s σ H x y v u Q I rx ry h;obtain ⟨i,j,rfl,rfl,q⟩:=h;obtain ⟨t,rfl⟩:=rx;obtain ⟨t',rfl⟩:=ry;exact rule i j t t' s _ _ ⟨.int (g i j),H,I.tok _,⟨_,rfl⟩,q⟩
def ahW{f:Value->Value->Sem Value}{g:Int->Int->Bool} (rule:∀(i j:Int) (t u:Tok) (s:Shared) (Q:Value->Shared->Prop) (E:Value->Shared->Prop),Q (.bool (g i j)) s->wpAny (model X.prog X.w) X.A (f (.int i t) (.int j u)) Q E s):
  nU X f (rI0 λ i j=> .bl (g i j)):=by
 intro pins s σ H x y v u Q I rx ry h;obtain ⟨i,j,rfl,rfl,q⟩:=h;obtain ⟨t,rfl⟩:=rx;obtain ⟨t',rfl⟩:=ry;exact rule i j t t' s _ _ ⟨.bl (g i j),H,I,rfl,q⟩
def anh(i j:Int):Prop:=0<=j/\j<=1000000/\i.natAbs<2^64
def aeo:nU X (binaryOp .Add) (rI0 λ i j=> .int (i+j)):=aep λ _ _ _ _ _ _ _ q=>add_int q
def ael:nU X (binaryOp .Sub) (rI0 λ i j=> .int (i- j)):=aep λ _ _ _ _ _ _ _ q=>sub_int q
def aad:nU X (binaryOp .Mod) (rI (λ _ j=>j≠0) λ i j=> .int (i.fmod j)):=opI λ _ _ _ _ _ _ _ hc q=>mod_int' hc q
def aem:nU X (binaryOp .Pow) (rI anh λ i j=> .int (i^j.toNat)):=opI λ _ _ _ _ _ _ _ hc q=>pow_int_small hc.1 hc.2.1 hc.2.2 q
def aek:nU X (binaryOp .BitXor) (rI0 λ i j=> .int (Builtin.bitXor i j)):=aep λ _ _ _ _ _ _ _ q=>xor_int q
def unI{f:Value->Sem Value}{g:Int->Int} (rule:∀(i:Int) (t:Tok) (s:Shared) (Q:Value->Shared->Prop) (E:Value->Shared->Prop),Q (.int (g i) s.toks) {s with toks:=s.toks+1}->wpAny (model X.prog X.w) X.A (f (.int i t)) Q E s):
  UnR X f (rU λ i=> .int (g i)):=by
 intro pins s σ H x v Q I rx h;obtain ⟨i,rfl,q⟩:=h;obtain ⟨t,rfl⟩:=rx;exact rule i t s _ _ ⟨.int (g i),H,I.tok _,⟨_,rfl⟩,q⟩
def adD:UnR X (unaryOp .USub) (rU λ i=> .int (-i)):=unI λ _ _ _ _ _ q=>neg_int q
def Pe:nU X (compareOp .Lt) (rI0 λ i j=> .bl (decide (i<j))):=ahW λ _ _ _ _ _ _ _ q=>lt_int q
def BZ:nU X (compareOp .LtE) (rI0 λ i j=> .bl (decide (i<=j))):=ahW λ _ _ _ _ _ _ _ q=>le_int q
def nU.or{f:Value->Value->Sem Value}{r r':R2}(h:nU X f r)(h':nU X f r'):nU X f (λ x y H Q=>r x y H Q\/r' x y H Q):=by
 intro pins s σ H x y v u Q I rx ry q;rcases q with q|q
 ·exact h pins s σ H x y v u Q I rx ry q
 ·exact h' pins s σ H x y v u Q I rx ry q
def yL(b:Expr){op:CmpOp}(h:op≠.In:=by decide)(h2:op≠.NotIn:=by decide):behindInMarks op b=false:=by
 have e1:(op==CmpOp.In)=false:=by cases op<;>first|rfl|exact absurd rfl h
 have e2:(op==CmpOp.NotIn)=false:=by cases op<;>first|rfl|exact absurd rfl h2
 cases b<;>simp[behindInMarks,e1,e2]
def Z6{op:CmpOp}{r:R2}(ho:nU X (compareOp op) r)(ha:PE X a ta)(hb:PE X b tb)(hm:behindInMarks op b=false):PE X (.Compare a [op] [b] pos) (tOp r ta tb):=by intro pins s σ H Q I h;exact wpAny_Compare1 (afC ha hb I h λ v u s2 x y H2 I2 rx ry q=>ho pins s2 σ H2 x y v u Q I2 rx ry q) hm
def Ub(t:TE):TT:=λ σ H Q=>t σ H λ x H'=>∃k,x= .bl k/\Q k H'
def ZT{op:CmpOp}{r:R2}(ho:nU X (compareOp op) r)(ha:PE X a ta)(hb:PE X b tb)(hm:behindInMarks op b=false):PT X (.Compare a [op] [b] pos) (Ub (tOp r ta tb)):=by intro pins s σ H Q I h;refine wpAny_isTrue_Compare1 (dc (ha pins s σ H _ I h) λ v s1 ⟨x,H1,I1,r1,q1⟩=>dc (hb pins s1 σ H1 _ I1 q1) λ u s2 ⟨y,H2,I2,r2,q2⟩=>dc (ho pins s2 σ H2 x y v u _ I2 r1 r2 q2) λ c s3 ⟨z,H3,I3,r3,k,e,q3⟩=>?_) hm;subst e;cases r3;exact wpAny_truthy_bool ⟨H3,I3,q3⟩
def II(r r':R2)(ta tb tc:TE):TE:=λ σ H Q=>ta σ H λ x H1=>tb σ H1 λ y H2=>r x y H2 λ z H3=>∃k,z= .bl k/\(if k=true then tc σ H3 λ w' H4=>r' y w' H4 Q else Q (.bl false) H3)
def UZ{op op':CmpOp}{r r':R2}(ho:nU X (compareOp op) r)(ho':nU X (compareOp op') r')(ha:PE X a ta)(hb:PE X b tb)(hc:PE X c tc) (hm:lastMarks [op,op'] [b,c]=false:=by with_unfolding_all rfl):PE X (.Compare a [op,op'] [b,c] pos) (II r r' ta tb tc):=by
 intro pins s σ H Q I h;refine Compare_chain (dc (ha pins s σ H _ I h) λ v s1 ⟨x,H1,I1,r1,q1⟩=>chain_link (dc (hb pins s1 σ H1 _ I1 q1) λ u s2 ⟨y,H2,I2,r2,q2⟩=>dc (ho pins s2 σ H2 x y v u _ I2 r1 r2 q2) λ d s3 ⟨z,H3,I3,r3,k,e,q3⟩=>?_)) hm;subst e;cases r3;refine wpAny_truthy_bool ?_;cases k with
 |false=>exact ite_ff ⟨.bl false,H3,I3,rfl,q3⟩
 |true=>exact ite_tt (chain_last (dc (hc pins s3 σ H3 _ I3 q3) λ w' s4 ⟨z',H4,I4,r4,q4⟩=>ho' pins s4 σ H4 y z' u w' Q I4 r2 r4 q4))
def UC{op op':CmpOp}{r r':R2}(ho:nU X (compareOp op) r)(ho':nU X (compareOp op') r')(ha:PE X a ta)(hb:PE X b tb)(hc:PE X c tc) (hm:lastMarks [op,op'] [b,c]=false:=by with_unfolding_all rfl):PT X (.Compare a [op,op'] [b,c] pos) (Ub (II r r' ta tb tc)):=by
 intro pins s σ H Q I h;refine isTrue_chain (dc (ha pins s σ H _ I h) λ v s1 ⟨x,H1,I1,r1,q1⟩=>test_link (dc (hb pins s1 σ H1 _ I1 q1) λ u s2 ⟨y,H2,I2,r2,q2⟩=>dc (ho pins s2 σ H2 x y v u _ I2 r1 r2 q2) λ d s3 ⟨z,H3,I3,r3,k,e,q3⟩=>?_)) hm;subst e;cases r3;refine wpAny_truthy_bool ?_;cases k with
 |false=>obtain ⟨k',e',q'⟩:=q3;cases e';exact ite_ff ⟨H3,I3,q'⟩
 |true=>refine ite_tt (test_last (dc (hc pins s3 σ H3 _ I3 q3) λ w' s4 ⟨z',H4,I4,r4,q4⟩=>dc (ho' pins s4 σ H4 y z' u w' _ I4 r2 r4 q4) λ d' s5 ⟨z2,H5,I5,r5,k2,e2,q5⟩=>?_));subst e2;cases r5;exact wpAny_truthy_bool ⟨H5,I5,q5⟩
def yX:(sizeLine:Nat)<2^63:=by rw[sizeLine_eq];decide
def Jg:nU X (binaryOp .Add) (λ x y H Q=>∃i j,x= .str i/\y= .str j/\i.length+j.length<=sizeLine/\Q (.str (i++j)) H):=by intro pins s σ H x y v u Q I rx ry h;obtain ⟨i,j,rfl,rfl,hz,q⟩:=h;obtain ⟨t,rfl⟩:=rx;obtain ⟨t',rfl⟩:=ry;exact add_str (λ t' tk=>⟨.str (i++j),H,I.tok _,⟨_,rfl⟩,q⟩) hz
def vals1{x:V}{us:List Value}(r:Vals [x] us):∃u,us=[u]/\RelV x u:=by
 cases r with
 |cons r1 r2=>cases r2;exact ⟨_,rfl,r1⟩
def Xy:n9 X (.builtin "abs") (λ xs H Q=>∃i,xs=[.int i]/\Q (.int (if i<0 then -i else i)) H):=by intro pins s σ H xs us Q I r h;obtain ⟨i,rfl,q⟩:=h;obtain ⟨u,rfl,t,rfl⟩:=vals1 r;exact call_abs_int λ u tk=>⟨.int (if i<0 then -i else i),H,I.tok _,⟨_,rfl⟩,q⟩
def am9(K:W.Frag)(x:V)(H:Hp)(n:Nat):Prop:=match x with
 | .str y=>y.length<=sizeLine/\n=y.length
 | .byt y=>y.size<=sizeLine/\n=y.size
 | .ref p=>(∃xs,oA K H p xs/\n=xs.length)\/∃xs,vB K H p xs/\n=xs.length
 |_=>False
def Xv:n9 X (.builtin "len") (λ xs H Q=>∃x n,xs=[x]/\am9 X.K x H n/\Q (.int n) H):=by
 intro pins s σ H xs us Q I r h;obtain ⟨x,n,rfl,e,q⟩:=h;obtain ⟨u,rfl,rx⟩:=vals1 r;have hl:=yX;have hs:sizeLine=16777216:=sizeLine_eq;cases x with
 |str y=>obtain ⟨t,rfl⟩:=rx;obtain ⟨hy,e'⟩:y.length<=sizeLine/\n=y.length:=e;subst e';exact len_str (by omega) ⟨.int _,H,I.tok _,⟨_,rfl⟩,q⟩
 |byt y=>obtain ⟨t,rfl⟩:=rx;obtain ⟨hy,e'⟩:y.size<=sizeLine/\n=y.size:=e;subst e';exact W.len_bytes (by omega) ⟨.int _,H,I.tok _,⟨_,rfl⟩,q⟩
 |ref p=>
  cases rx;have e':(∃xs,oA X.K H p xs/\n=xs.length)\/∃xs,vB X.K H p xs/\n=xs.length:=e;rcases e' with ⟨xs,hx,e'⟩|⟨xs,hx,e'⟩
  ·subst e';obtain ⟨its,r',pl,hz⟩:=I.list hx;have hlen:=r'.length;exact Calls.call_len_list pl.isList (by simp only[List.size_toArray];omega) ⟨.int xs.length,H,I.tok _,⟨_,by simp only[List.size_toArray];rw[hlen]⟩,q⟩
  ·subst e';obtain ⟨its,r',pl,hz⟩:=I.tuple hx;have hlen:=r'.length;exact len_tuple pl (by simp only[List.size_toArray];omega) ⟨.int xs.length,H,I.tok _,⟨_,by simp only[List.size_toArray];rw[hlen]⟩,q⟩
 |_=>exact (show False from e).elim
end
structure OM(h:Heap)(x dx C:Addr)(mA:Str->Option Value):Prop where
 obj:h.get? x=some (W.instObj C dx)
 ns:h.Ns1 dx mA
 ne:dx≠x
def Rp{h:Heap}{dx:Addr}{mA:Str->Option Value}(n:h.Ns1 dx mA):∃od,h.get? dx=some od/\∀name,W.lookIn name od=some (mA name):=by
 obtain ⟨o,es,ep,ho,hd,hk,_,hm⟩:=n;refine ⟨o,ho,λ name=>?_⟩;have e:=hm name;unfold nsFind findBy at e;rw[<-Array.find?_toList] at e;unfold W.lookIn;rw[hd];dsimp only;split
 ·rename_i y q;rw[q] at e;exact congrArg some e
 ·rename_i q;rw[q] at e;have a:es.toList.any (·.refKey)=false:=by rw[List.any_eq_false];intro y hy;obtain ⟨z,t,hkey⟩:=hk y (Array.mem_toList_iff.mp hy);simp[DictEntry.refKey,hkey]
  have a':¬es.toList.any (·.refKey)=true:=by rw[a];exact Bool.false_ne_true
  rw[if_neg a'];exact congrArg some e
def OM.look{h:Heap}{x dx C:Addr}{mA:Str->Option Value}(I:OM h x dx C mA):∃od,W.InstAt h x (W.instObj C dx) C (some od)/\∀name,W.lookIn name od=some (mA name):=let ⟨od,ho,hl⟩:=Rp I.ns
 ⟨od,⟨I.obj,rfl,rfl,ho⟩,hl⟩
section
variable{prog:Program}{w:World}{A:Around}{E:Value->Shared->Prop}{s:Shared}{K:W.Frag}{x dx C f:Addr}{mA:Str->Option Value}{name:Str}{v:Value}
def get_map{expr:Bool}{Q:Value->Shared->Prop}(X:K.In s.heap)(I:OM s.heap x dx C mA)(hg:W.plainGet K C name=true)(hh:W.hasDictIn K C=true) (ha:W.findIn K (.ref C) name=some none) (hv:mA name=some v) (hv':W.handedIn v=true) (h:Q v {s with toks:=s.toks+1}):
  wpAny (model prog w) A (getAttr (.ref x) name expr) Q E s:=by
 obtain ⟨od,J,hl⟩:=I.look;exact W.get_value X J (W.plainGet_of hg).1 (W.findObj_own hh ha rfl (by rw[hl,hv])) hv' h
def WN{pl:Sem Bool}{Q:Value×List Value->Shared->Prop}(X:K.In s.heap)(I:OM s.heap x dx C mA)(hg:W.plainGet K C name=true) (hf:W.findIn K (.ref C) name=some (some (.ref f))) (ht:W.isFn K (.ref f)=true) (hv:mA name=none) (h:Q (.ref f,[.ref x]) s):
  wpAny (model prog w) A (getMethod (.ref x) name pl) Q E s:=by
 obtain ⟨od,J,hl⟩:=I.look;exact W.method_fn X J (W.plainGet_of hg).1 (W.plainGet_of hg).2 hf (beq_iff_eq.mp ht) (by show (W.lookIn name od).map (·.isSome)=some false;rw[hl,hv];rfl) h
def ZH{ns:List Str}{Q:Unit->Shared->Prop}(X:K.In s.heap)(I:OM s.heap x dx C mA) (hs:W.findIn K (.ref C) "__setattr__"=some (some (.builtin "object.__setattr__"))) (hp:W.plainOver K C=true) (ht:W.takerIn K C name=some none) (hh:W.hasDictIn K C=true) (hw:PySem.Within mA ns) (hsz:ns.length<=sizeLine) (h:∀h',OM h' x dx C (λ y=>if y=name then some v else mA y)->Heap.SameBut dx s.heap h'->Q () {s with heap:=h',toks:=s.toks+2}):
  wpAny (model prog w) A (setAttr (.ref x) name v) Q E s:=by
 obtain ⟨od,J,hl⟩:=I.look;refine W.set_plain X J hs (W.osa_open (s:={s with toks:=s.toks+1}) (r:=none) X J hp ht λ b=>?_);obtain ⟨cd,hc,hd'⟩:=W.any_some hh;have hx:s.heap.get? x=some ⟨.ref C,some dx,.plain, #[]⟩:=I.obj;refine wpAny_bind (wpAny_pure (wpAny_bind (wpAny_bind (wpAny_loadPart hx (wpAny_bind (W.Looks.here (s:={s with toks:=s.toks+1}) (W.looks_clsIn X hc) ?_))))));rw[hd'];refine wpAny_pure (a:=some dx) (wpAny_bind (wpAny_pure (wpAny_bind ?_)));refine wpAny_nsSet1 (s:={s with toks:=s.toks+1}) I.ns λ h' hn2 hs2=>?_;obtain ⟨oD,esD,epD,hoD,hdD,hcD⟩:=hn2.count (PySem.Within.cons name v hw);refine wpAny_bind (wpAny_lookBehind hoD (by rw[hdD];exact pastItsLine_dict (Nat.le_trans hcD (by rw[List.length_cons];omega))) ?_);exact wpAny_pure (h _ ⟨(hs2.2 _ (Ne.symm I.ne)).trans I.obj,hn2,I.ne⟩ hs2)
def VD{R:Result->Shared->Prop}{vs:List Value}{kw:List (Str×Value)}(X:K.In s.heap)(hm:W.makesIn K C=true) (hi:W.findIn K (.ref C) "__init__"=some (some (.ref f))) (hf:W.typeIn K (.ref f)=some (.type "function")) (h:codeAny (model prog w) (A.under (.builtin "type.__call__" ⟨.ref C::vs,kw⟩)) (.call (.ref f) ⟨.ref (s.heap.objs.size+1)::vs,kw⟩) (W.InitBack (s.heap.objs.size+1) R) {s with heap:=(s.heap.push W.emptyDict).push (W.instObj C s.heap.objs.size)}):
  codeAny (model prog w) A (.call (.ref C) ⟨vs,kw⟩) R s:=by
 obtain ⟨hh,g,d,t,os⟩:=s;exact W.make_core (W.makes_of X hm) (W.looks_findIn X hi) (λ self=>W.bind_fn X self hf) (.inl rfl) h
end
def m7(f:Str)(v:V):List (Str×V)->List (Str×V)
 |[]=>[(f,v)]
 |(g,x)::r=>if g=f then (g,v)::r else (g,x)::m7 f v r
def vK(f g:Str)(v:V):∀fs:List (Str×V),(m7 f v fs).lookup g=if g=f then some v else fs.lookup g
 |[]=>by
  show List.lookup g [(f,v)]=_;by_cases h:g=f
  ·have hb:(g==f)=true:=beq_iff_eq.mpr h;simp only[List.lookup,hb,if_pos h]
  ·have hb:(g==f)=false:=beq_eq_false_iff_ne.mpr h;simp only[List.lookup,hb,if_neg h]
 |(k,x)::r=>by
  have ih:=vK f g v r;rw[show m7 f v ((k,x)::r)=(if k=f then (k,v)::r else (k,x)::m7 f v r) from rfl];by_cases hk:k=f
  ·rw[if_pos hk];by_cases h:g=k
   ·have hb:(g==k)=true:=beq_iff_eq.mpr h;simp only[List.lookup,hb,if_pos (h.trans hk)]
   ·have hb:(g==k)=false:=beq_eq_false_iff_ne.mpr h;simp only[List.lookup,hb,if_neg (λ e:g=f=>h (e.trans hk.symm))]
  ·rw[if_neg hk];by_cases h:g=k
   ·have hb:(g==k)=true:=beq_iff_eq.mpr h;simp only[List.lookup,hb,if_neg (λ e:g=f=>hk (h.symm.trans e))]
   ·have hb:(g==k)=false:=beq_eq_false_iff_ne.mpr h;simp only[List.lookup,hb];exact ih
def vg(f:Str)(v:V):∀fs:List (Str×V),f∈(m7 f v fs).map (·.1)/\∀g,g∈fs.map (·.1)->g∈(m7 f v fs).map (·.1)
 |[]=>⟨by simp[m7],λ g h=>by simp at h⟩
 |(k,x)::r=>by
  obtain ⟨i1,i2⟩:=vg f v r;rw[show m7 f v ((k,x)::r)=(if k=f then (k,v)::r else (k,x)::m7 f v r) from rfl];by_cases hk:k=f
  ·rw[if_pos hk];subst hk;exact ⟨by simp,λ g h=>by simpa using h⟩
  ·rw[if_neg hk];refine ⟨?_,λ g h=>?_⟩
   ·rw[List.map_cons];exact List.mem_cons_of_mem _ i1
   ·rw[List.map_cons] at h ⊢;rcases List.mem_cons.mp h with e|e
    ·exact List.mem_cons.mpr (.inl e)
    ·exact List.mem_cons_of_mem _ (i2 g e)
def vM(f:Str)(v:V):∀fs:List (Str×V),(m7 f v fs).length<=fs.length+1
 |[]=>by simp[m7]
 |(k,x)::r=>by
  have ih:=vM f v r;rw[show m7 f v ((k,x)::r)=(if k=f then (k,v)::r else (k,x)::m7 f v r) from rfl];by_cases hk:k=f
  ·rw[if_pos hk,List.length_cons,List.length_cons];omega
  ·rw[if_neg hk,List.length_cons,List.length_cons];omega
def oB.some_of{v:V}{o:Option Value}(r:oB (some v) o):∃u,o=some u/\RelV v u:=by
 cases o with
 |none=>exact (show False from r).elim
 |some u=>exact ⟨u,rfl,r⟩
def oB.none_of{o:Option Value}(r:oB none o):o=none:=by
 cases o with
 |none=>rfl
 |some u=>exact (show False from r).elim
def RU{v:V}{u:Value}(r:RelV v u):W.handedIn u=true:=by
 cases v with
 |dY=>cases (show u=Value.none from r);rfl
 |bl b=>cases (show u=Value.bool b from r);rfl
 |int i=>obtain ⟨t,e⟩:=(show ∃t,u=Value.int i t from r);cases e;rfl
 |str x=>obtain ⟨t,e⟩:=(show ∃t,u=Value.str x t from r);cases e;rfl
 |byt b=>obtain ⟨t,e⟩:=(show ∃t,u=Value.bytes b t from r);cases e;rfl
 |flt b=>obtain ⟨t,e⟩:=(show ∃t,u=Value.float b t from r);cases e;rfl
 |ref a=>cases (show u=Value.ref a from r);rfl
 |ty n=>cases (show u=Value.type n from r);rfl
section
variable{P:Program}{w:World}{H H':Hp}{h h':Heap}{a C dx:Addr}{fs fs':List (Str×V)}
def xD(hok:pW P w H h)(e:H a=some (.ins C dx fs)):∃mA,OM h a dx C mA/\(∀f,oB (fs.lookup f) (mA f))/\PySem.Within mA (fs.map (·.1))/\fs.length<=1000/\H dx=some (.own a):=by obtain ⟨d,z,ne,ob,mA,n,r,q⟩:=(show b9 P w H h a (.ins C dx fs) from hok a _ e);exact ⟨mA,⟨ob,n,ne⟩,r,q,z,d⟩
end
structure HV(K:W.Frag)(C:Addr):Prop where
 pg:W.plainGet K C Str.empty=true
 hd:W.hasDictIn K C=true
 po:W.plainOver K C=true
 sa:W.findIn K (.ref C) "__setattr__"=some (some (.builtin "object.__setattr__"))
def HV.get{K:W.Frag}{C:Addr}(c:HV K C)(f:Str):W.plainGet K C f=true:=c.pg
noncomputable def pV(K:W.Frag)(C:Addr)(f:Str):Prop:=W.findIn K (.ref C) f=some none
def pV.ahl{K:W.Frag}{C:Addr}{f:Str}(n:pV K C f):W.takerIn K C f=some none:=by unfold W.takerIn;rw[show W.findIn K (.ref C) f=some none from n];rfl
structure Con(K:W.Frag)(C:Addr)(f:Str)(v:V)(u:Value):Prop where
 at_:W.findIn K (.ref C) f=some (some u)
 rel:RelV v u
 get:W.specialIn K u "__get__"=some none
 cp:W.copiedNames.contains f=false
structure Meth(K:W.Frag)(C:Addr)(m:Str)(f:Addr):Prop where
 at_:W.findIn K (.ref C) m=some (some (.ref f))
 fn:W.isFn K (.ref f)=true
 kp:W.keepIn K (.ref f)=true
section
variable{X:Cx}{pins:List (Addr×Obj)}{σ:St}{H:Hp}{s:Shared}{a C dx:Addr}{fs:List (Str×V)}{f:Str}{v:V}{A:Around}{E:Value->Shared->Prop}
def Ke{b:Bool}{Q:Value->Shared->Prop}(I:Inv X pins σ H s)(e:H a=some (.ins C dx fs))(c:HV X.K C)(n:pV X.K C f)(l:fs.lookup f=some v) (h:∀u s',Inv X pins σ H s'->RelV v u->Q u s'):wpAny (model X.prog X.w) A (getAttr (.ref a) f b) Q E s:=by obtain ⟨mA,O,r,_,_,_⟩:=xD I.hok e;obtain ⟨u,hu,ru⟩:=oB.some_of (v:=v) (o:=mA f) (by rw[<-l];exact r f);exact get_map I.xB O (c.get f) c.hd n hu (RU ru) (h u _ (I.tok _) ru)
def zD{m:Str}{g:Addr}{pl:Sem Bool}{Q:Value×List Value->Shared->Prop}(I:Inv X pins σ H s)(e:H a=some (.ins C dx fs))(c:HV X.K C)(k:Meth X.K C m g)(l:fs.lookup m=none) (h:Q (.ref g,[.ref a]) s):wpAny (model X.prog X.w) A (getMethod (.ref a) m pl) Q E s:=by obtain ⟨mA,O,r,_,_,_⟩:=xD I.hok e;have hn:mA m=none:=oB.none_of (by rw[<-l];exact r m);exact WN I.xB O (c.get m) k.at_ k.fn hn h
def IZ{y:V}{u:Value}{Q:Unit->Shared->Prop}(I:Inv X pins σ H s)(e:H a=some (.ins C dx fs))(c:HV X.K C)(n:pV X.K C f)(hl:fs.length<1000)(ry:RelV y u) (h:∀s',Inv X pins σ (upd H a (.ins C dx (m7 f y fs))) s'->Q () s'):wpAny (model X.prog X.w) A (setAttr (.ref a) f u) Q E s:=by
 obtain ⟨mA,O,r,wi,_,ho⟩:=xD I.hok e;have hz:(fs.map (·.1)).length<=sizeLine:=by rw[List.length_map,sizeLine_eq];omega
 refine ZH I.xB O c.sa c.po n.ahl c.hd wi hz λ h' O' sb=>h _ ?_;have hd:∃o,h'.get? dx=some o:=let ⟨o,_,_,e',_⟩:=O'.ns;⟨o,e'⟩
 refine I.write (x:=a) (e:=dx) (by rw[e];exact True.intro) (.inr ho) (λ b q hb z=>(sb.2 b hb).trans z) hd ?_;refine ⟨by rw[aC O.ne];exact ho,?_,O.ne,O'.obj,_,O'.ns,λ g=>?_,λ g hg=>?_⟩
 ·have:=vM f y fs;omega
 ·show oB ((m7 f y fs).lookup g) (if g=f then some u else mA g);rw[vK];by_cases q:g=f
  ·rw[if_pos q,if_pos q];exact ry
  ·rw[if_neg q,if_neg q];exact r g
 ·by_cases q:g=f
  ·rw[q];exact (vg f y fs).1
  ·refine (vg f y fs).2 g (wi g λ z=>hg ?_);show (if g=f then some u else mA g)=none;rw[if_neg q];exact z
def Inv.made(I:Inv X pins σ H s):Inv X pins σ (upd (upd H s.heap.objs.size (.own (s.heap.objs.size+1))) (s.heap.objs.size+1) (.ins C s.heap.objs.size [])) {s with heap:=(s.heap.push W.emptyDict).push (W.instObj C s.heap.objs.size)}:=by
 have e1:(s.heap.push W.emptyDict).get? s.heap.objs.size=some W.emptyDict:=Heap.get?_push_size s.heap rfl;have e2:((s.heap.push W.emptyDict).push (W.instObj C s.heap.objs.size)).get? (s.heap.objs.size+1)=some (W.instObj C s.heap.objs.size):=by have:=Heap.get?_push_size (s.heap.push W.emptyDict) (o:=W.instObj C s.heap.objs.size) rfl;rwa [Heap.size_push] at this
 have e3:(s.heap.push W.emptyDict).Ns s.heap.objs.size (λ _=>none):=⟨W.emptyDict, #[],_,e1,rfl,(λ e he=>absurd he (by simp)),λ _=>rfl⟩;have I1:=I.laid (a:=s.heap.objs.size) (o:= .own (s.heap.objs.size+1)) (h':=s.heap.push W.emptyDict) (t':=s.toks) (λ b u q=>Heap.get?_push_of_some _ q) (Nat.le_refl _) ⟨_,e1⟩;refine I1.laid (a:=s.heap.objs.size+1) (o:= .ins C s.heap.objs.size []) (t':=s.toks) (λ b u q=>Heap.get?_push_of_some _ q) (Nat.le_of_eq (Heap.size_push _ _)) ?_;have ne:s.heap.objs.size≠s.heap.objs.size+1:=Nat.ne_of_lt (Nat.lt_succ_self _);refine ⟨by rw[aC ne,aD],Nat.zero_le _,ne,e2,λ _=>none,(Heap.Ns1.of_empty e3).at λ o q=>Heap.get?_push_of_some _ q,λ _=>True.intro,λ y hy=>absurd rfl hy⟩
def abG{prog:Program}{w:World}{env:Env}{e:Expr}{f:Str}{pos:Pos}{s:Shared}{Q:Value->Shared->Prop}(hb:attributeBase e f env (eval e env)=eval e env) (h:wpAny (model prog w) A (eval e env) (λ o s₁=>wpAny (model prog w) A (getAttr o f true) Q E s₁) E s):wpAny (model prog w) A (eval (.Attribute e f pos) env) Q E s:=Attribute_any_ h (by rw[arm_eval_Attribute,hb])
end
def alv(K:W.Frag)(ta:TE)(f:Str):TE:=λ σ H Q=>ta σ H λ x H1=>∃a C dx fs v,x= .ref a/\H1 a=some (.ins C dx fs)/\HV K C/\pV K C f/\fs.lookup f=some v/\Q v H1
def alA(K:W.Frag)(ta tv:TE)(f:Str):TS:=λ D σ H=>tv σ H λ y H1=>ta σ H1 λ x H2=>∃a C dx fs,x= .ref a/\H2 a=some (.ins C dx fs)/\HV K C/\pV K C f/\fs.length<1000/\D.nx σ (upd H2 a (.ins C dx (m7 f y fs)))
section
variable{X:Cx}{o e value:Expr}{f:Str}{pos pos' tpos:Pos}{ta tv:TE}
def aeh(he:PE X e ta)(hb:attributeBase e f X.env (eval e X.env)=eval e X.env):PE X (.Attribute e f pos) (alv X.K ta f):=by intro pins s σ H Q I h;refine abG hb (dc (he pins s σ H _ I h) λ u s1 ⟨x,H1,I1,rx,a,C,dx,fs,v,ex,ea,c,n,l,q⟩=>?_);subst ex;obtain rfl:u=Value.ref a:=rx;exact Ke I1 ea c n l λ u' s2 I2 ru=>⟨v,H1,I2,ru,q⟩
def ad6(ha:PE X o ta)(hv:PE X value tv)(hs:swapsWith value (some (.Attribute o f pos')) pos.line X.env=pure false):PS X (.Assign [.Attribute o f pos'] value pos) (alA X.K ta tv f):=by intro pins s σ H D I h;refine plainObj_wpAny_Assign_Attribute (dc (hv pins s σ H _ I h) λ u s1 ⟨y,H1,I1,ry,q⟩=>dc (ha pins s1 σ H1 _ I1 q) λ ov s2 ⟨x,H2,I2,rx,a,C,dx,fs,ex,ea,c,n,l,q2⟩=>?_) hs;subst ex;obtain rfl:ov=Value.ref a:=rx;exact IZ I2 ea c n l ry λ s3 I3=>⟨σ,_,I3,q2⟩
end
section
variable{X:Cx}{pins:List (Addr×Obj)}{σ:St}{H:Hp}{s:Shared}{A:Around}{E:Value->Shared->Prop}{Q:Value->Shared->Prop}{c:Value}{b:Bool}
inductive Ab(K:W.Frag)(H:Hp):V->Value->Prop where
 |dY:Ab K H .dY (.type "NoneType")
 |bl (x:Bool):Ab K H (.bl x) (.type "bool")
 |int (i:Int):Ab K H (.int i) (.type "int")
 |str (x:Str):Ab K H (.str x) (.type "str")
 |flt (x:UInt64):Ab K H (.flt x) (.type "float")
 |lst {a:Addr} {xs:List V} (e:H a=some (.lst xs)):Ab K H (.ref a) (.type "list")
 |Bd {a:Addr} {o:Obj} {xs:List V} (e:H a=some (.Bd o (.lst xs))):Ab K H (.ref a) (.type "list")
 |tup {a:Addr} {xs:List V} (e:H a=some (.tup xs)):Ab K H (.ref a) (.type "tuple")
 |dK {a:Addr} {kvs:List (Key×V)} (e:H a=some (.dK kvs)):Ab K H (.ref a) (.type "dict")
 |dT {a:Addr} {kvs:List (List Key×V)} (e:H a=some (.dT kvs)):Ab K H (.ref a) (.type "dict")
 |ins {a C dx:Addr} {fs:List (Str×V)} (e:H a=some (.ins C dx fs)) (cl:HV K C) (ha:W.findIn K (.ref C) "__class__"=some (some (.builtin "object.__class__")))
   (hn:W.specialIn K (.builtin "object.__class__") "__get__"=some (some (.builtin "getset_descriptor.__get__"))) (htk:W.takesIn K (.builtin "object.__class__")=some true)
   (hm:W.mroIn K C (.type "object")=some true):Ab K H (.ref a) (.ref C)
end
structure dQ(k:Nat)(A:Around):Prop where
 hd:A.handled=none
 dp:A.depth+3*k+5<recursionLimit
 un:A.units+16*k+200<cLine
def dQ.mono{j k:Nat}{A:Around}(r:dQ k A)(h:j<=k):dQ j A:=⟨r.hd,by have:=r.dp;omega,by have:=r.un;omega⟩
def dQ.deeper{k:Nat}{A:Around}(r:dQ (k+1) A)(env:Env):dQ k (A.deeper env):=⟨r.hd,by have:=r.dp;show A.depth+1+3*k+5<_;omega,by have:=r.un;show A.units+3+16*k+200<_;omega⟩
def JR{A:Around}{C:Addr}{us:List Value}{kw:List (Str×Value)}:(A.under (.builtin "type.__call__" ⟨.ref C::us,kw⟩)).depth=A.depth+1:=by first|rfl|simp[Around.under,Code.weight,Code.isCreation,Code.isGuard,Code.isCaller,Code.frames,Code.isFrame,guardIds]
def JQ{A:Around}{C:Addr}{us:List Value}{kw:List (Str×Value)}:(A.under (.builtin "type.__call__" ⟨.ref C::us,kw⟩)).units=A.units+1:=by first|rfl|simp[Around.under,Code.cUnits,Code.frames,Code.isFrame]
def dQ.make{k:Nat}{A:Around}(r:dQ (k+1) A)(C:Addr)(us:List Value)(kw:List (Str×Value)):dQ k (A.under (.builtin "type.__call__" ⟨.ref C::us,kw⟩)):=⟨r.hd,by have:=r.dp;rw[JR];omega,by have:=r.un;rw[JQ];omega⟩
def dQ.depth{k:Nat}{A:Around}(r:dQ k A):A.depth<recursionLimit:=by have:=r.dp;omega
def dQ.units{k:Nat}{A:Around}(r:dQ k A):A.units+64<cLine:=by have:=r.un;omega
def ahp:TA:=λ _ H Q=>Q [] H
def abV(ta:TE)(tr:TA):TA:=λ σ H Q=>ta σ H λ x H1=>tr σ H1 λ xs H2=>Q (x::xs) H2
section
variable{X:Cx}{e:Expr}{es:List Expr}{te:TE}{t:TA}{pos:Pos}
def qY:PA X [] ahp:=λ _ _ _ _ H Q I h=>Calls.spliced_nil ⟨[],H,I,.nil,h⟩
def ja(ha:PE X e te)(hr:PA X es t)(hs:starEach (e::es) X.env=(false,eval e X.env)::starEach es X.env:=by rfl):PA X (e::es) (abV te t):=by intro pos pins s σ H Q I h;rw[hs];show wpAny _ _ (spliced ((false,eval e X.env)::backTo pos (starEach es X.env))) _ _ s;refine Calls.spliced_cons (dc (ha pins s σ H _ I h) λ u s1 ⟨x,H1,I1,r1,q1⟩=>?_);exact dc (hr pos pins s1 σ H1 _ I1 q1) λ us s2 ⟨xs,H2,I2,r2,q2⟩=>⟨x::xs,H2,I2,.cons r1 r2,q2⟩
def alm(t:TA):TE:=λ σ H Q=>t σ H λ xs H1=>xs.length<=sizeLine/\∀p,H1 p=none->Q (.ref p) (upd H1 p (.tup xs))
def alr(t:TA):TE:=λ σ H Q=>t σ H λ xs H1=>xs.length<=sizeLine/\∀p,H1 p=none->Q (.ref p) (upd H1 p (.lst xs))
def UT{x1}(h:PA X es t):PE X (.Tuple es x1 pos) (alm t):=by intro pins s σ H Q I hq;refine wpAny_Tuple_spliced (dc (h pos pins s σ H _ I hq) λ us s1 ⟨xs,H1,I1,r,z,q⟩=>⟨by rw[<-r.length];exact z,?_⟩);have hf:H1 s1.heap.objs.size=none:=I1.hok.fresh (Nat.le_refl _);refine ⟨.ref s1.heap.objs.size,upd H1 s1.heap.objs.size (.tup xs),I1.laid (t':=s1.toks) (λ b u e=>Heap.get?_push_of_some _ e) (Nat.le_refl _) ?_,rfl,q _ hf⟩;exact ⟨z,us,r,⟨_,Heap.get?_push_size _ rfl,rfl,_,rfl⟩⟩
def aef(h:PA X es t):PE X (.List es pos) (alr t):=by intro pins s σ H Q I hq;refine wpAny_List_spliced (dc (h pos pins s σ H _ I hq) λ us s1 ⟨xs,H1,I1,r,z,q⟩=>⟨by rw[<-r.length];exact z,?_⟩);have hf:H1 s1.heap.objs.size=none:=I1.hok.fresh (Nat.le_refl _);refine ⟨.ref s1.heap.objs.size,upd H1 s1.heap.objs.size (.lst xs),I1.laid (t':=s1.toks) (λ b u e=>Heap.get?_push_of_some _ e) (Nat.le_refl _) ?_,rfl,q _ hf⟩;exact ⟨z,us,0,r,Heap.get?_push_size _ rfl⟩
end
abbrev Sp:=List V->Hp->VK->XK->Prop
abbrev YV:=List Env->Hp->Shared->XK->Value->Shared->Prop
structure OO(P:Program)(w:World)(K:W.Frag)(mg:Str->Option Value)(base:Heap)(A:Around)(outer:List Env)(s:Shared)(H:Hp):Prop where
 frames:A.frames=some outer
 mod:Mod K mg base
 bs:∀b o,base.get? b=some o->s.heap.get? b=some o/\H b=none
 bsz:base.objs.size<=s.heap.objs.size
 wK:s.heap.FunFrames base outer
 frf:∀b∈frs outer,H b=none
 hok:pW P w H s.heap
 bare:AllBare s.gens
def CE(outer:List Env)(P:Program)(w:World)(H:Hp)(s:Shared)(Q:VK)(u:Value)(s':Shared):Prop:=∃v H',s'.os=s.os/\AllBare s'.gens/\Un (frs outer) [] H H' s.heap s'.heap/\pW P w H' s'.heap/\RelV v u/\Q v H'
def CR(CX:YV)(outer:List Env)(P:Program)(w:World)(H:Hp)(s:Shared)(Q:VK)(E:XK)(r:Result)(s':Shared):Prop:=match r with
 | .ok (.ret u)=>CE outer P w H s Q u s'
 | .ok _=>False
 | .error e=>CX outer H s E e s'
structure ON(P:Program)(w:World)(K:W.Frag)(mg:Str->Option Value)(base:Heap)(CX:YV)(k:Nat)(f:Addr)(fd:FuncData)(ps:List Str)(sp:Sp):Prop where
 len:∀vs H Q E,sp vs H Q E->vs.length=ps.length
 run:∀(A:Around) (outer:List Env) (s:Shared) (H:Hp) (args:Args) (us:List Value) (vs:List V) (Q:VK) (E:XK),dQ k A->OO P w K mg base A outer s H->BindsTo s fd args (ps.zip us)->Vals vs us->sp vs H Q E->
  codeAny (model P w) A (.call (.ref f) args) (CR CX outer P w H s Q E) s
def ON.imp{P:Program}{w:World}{K:W.Frag}{mg:Str->Option Value}{base:Heap}{CX:YV}{k:Nat}{f:Addr}{fd:FuncData}{ps:List Str}{sp sp':Sp}(F:ON P w K mg base CX k f fd ps sp) (h:∀vs H Q E,sp' vs H Q E->sp vs H Q E):ON P w K mg base CX k f fd ps sp':=⟨λ vs H Q E q=>F.len vs H Q E (h _ _ _ _ q),λ A outer s H args us vs Q E hr he hb hv hs=>F.run A outer s H args us vs Q E hr he hb hv (h _ _ _ _ hs)⟩
def OO.make{P:Program}{w:World}{K:W.Frag}{mg:Str->Option Value}{base:Heap}{A:Around}{outer:List Env}{s:Shared}{H:Hp}(e:OO P w K mg base A outer s H)(C:Addr)(us:List Value)(kw:List (Str×Value)):
  OO P w K mg base (A.under (.builtin "type.__call__" ⟨.ref C::us,kw⟩)) outer s H:=⟨by first|exact e.frames|(simpa[Around.under,Code.envs,Code.isFrame,pushEnvs] using e.frames),e.mod,e.bs,e.bsz,e.wK,e.frf,e.hok,e.bare⟩
section
variable{X:Cx}{pins:List (Addr×Obj)}{σ:St}{H:Hp}{s s':Shared}
def Inv.afk(I:Inv X pins σ H s):OO X.prog X.w X.K X.mg X.base X.A X.stack s H:=⟨I.ok.frames,I.ok.mod,I.bs,Nat.le_trans I.ok.bsz I.sz,I.stack,I.xj,I.hok,I.bare⟩
def Inv.after{Q:VK}{u:Value}(I:Inv X pins σ H s)(h:CE X.stack X.prog X.w H s Q u s'):EP X pins σ Q u s':=by obtain ⟨v,H',os,bare,un,hok,r,q⟩:=h;obtain ⟨hh,g,d,t,os'⟩:=s';obtain rfl:os'=s.os:=os;exact ⟨v,H',I.call (h':=hh) (g':=g) (d':=d) (t':=t) (ch:=[]) un hok bare (λ b z=>absurd z (by simp)),r,q⟩
end
def Binds(K:W.Frag)(fd:FuncData)(ps:List Str)(ds:List Value):Prop:=∀(s:Shared) (us:List Value),K.In s.heap->(us++ds).length=ps.length->BindsTo s fd ⟨us,[]⟩ (ps.zip (us++ds))
def Binds.all{K:W.Frag}{fd:FuncData}{ps:List Str}(h:∀us:List Value,us.length=ps.length->bindArgs fd ⟨us,[]⟩=pure (ps.zip us)):Binds K fd ps []:=λ s us _ hl=>by rw[List.append_nil] at hl ⊢;exact .of_eq (h us hl)
section
variable{X:Cx}{CX:YV}{k:Nat}{f C:Addr}{fd:FuncData}{ps:List Str}{sp:Sp}{dvs:List V}{ds:List Value}{E:XK}{x m:Str}{p pos apos:Pos}{e o:Expr}{es:List Expr}{ta:TE}{t:TA}
structure Mk(K:W.Frag)(C f:Addr):Prop where
 makes:W.makesIn K C=true
 init:W.findIn K (.ref C) "__init__"=some (some (.ref f))
 fn:W.isFn K (.ref f)=true
 kp:W.keepIn K (.ref C)=true
end
section
variable{X:Cx}{CX:YV}{k:Nat}{f C:Addr}{fd:FuncData}{ps ks:List Str}{sp:Sp}{E:XK}{x m:Str}{p pos apos kpos:Pos}{e o:Expr}{es:List Expr}{kws:List Keyword}{te ta:TE}{t tk:TA}{nm:Option Str}
structure ana(K:W.Frag)(fd:FuncData)(ps ks:List Str)(g:List Value->List Value->List Value)(gV:List V->List V->List V):Prop where
 to:∀(s:Shared) (us ws:List Value),K.In s.heap->(g us ws).length=ps.length->BindsTo s fd ⟨us,ks.zip ws⟩ (ps.zip (g us ws))
 rel:∀{vs:List V} {us:List Value} {zs:List V} {ws:List Value},Vals vs us->Vals zs ws->Vals (gV vs zs) (g us ws)
variable{g:List Value->List Value->List Value}{gV:List V->List V->List V}
end
structure lM(N P:List Str)(sc:Scope):Prop where
 kind:sc.kind= .function
 co:sc.isCoroutine=false
 gen:sc.isGenerator=false
 nd:N.Nodup
 pre:N.take P.length=P
 par:∀x∈P,sc.names.lookup x=some .local\/sc.names.lookup x=some .cell
 aez:∀y∈sc.names,y.2≠.free
def Cz{kindOf:Str->Option NameKind}{x:Str}:∀{binds:List (Str×Value)} {m:Str->Option Value},(∀v,(x,v)∉binds)->bindL kindOf binds m x=m x
 |[],_,_=>rfl
 |(n,v)::r,m,h=>by
  unfold bindL;rw[Cz λ w hw=>h w (List.mem_cons_of_mem _ hw)];split
  ·have:x≠n:=by rintro rfl;exact h v List.mem_cons_self
   simp[this]
  ·rfl
def CB{kindOf:Str->Option NameKind}{x:Str}:∀{binds:List (Str×Value)} {m:Str->Option Value},(∀v,(x,v)∉binds)->bindC kindOf binds m x=m x
 |[],_,_=>rfl
 |(n,v)::r,m,h=>by
  unfold bindC;rw[CB λ w hw=>h w (List.mem_cons_of_mem _ hw)];split
  ·rfl
  ·have:x≠n:=by rintro rfl;exact h v List.mem_cons_self
   simp[this]
def CA{kindOf:Str->Option NameKind}{x:Str}{v:Value}:∀{P:List Str} {vs:List Value} {i:Nat} {m:Str->Option Value},P.Nodup->P[i]? =some x->vs[i]? =some v->kindOf x=some .local->bindL kindOf (P.zip vs) m x=some v
 |[],_,_,_,_,h,_,_=>by simp at h
 |_::_,[],_,_,_,_,h,_=>by simp at h
 |p::P,w::vs,0,m,nd,h1,h2,hk=>by simp at h1 h2;subst h1;subst h2;show bindL kindOf ((p,w)::P.zip vs) m p=_;unfold bindL;rw[Cz λ v hv=>(List.nodup_cons.mp nd).1 (List.of_mem_zip hv).1,if_pos hk];simp
 |p::P,w::vs,i+1,m,nd,h1,h2,hk=>by show bindL kindOf ((p,w)::P.zip vs) m x=_;unfold bindL;exact CA (i:=i) (List.nodup_cons.mp nd).2 (by simpa using h1) (by simpa using h2) hk
def CC{kindOf:Str->Option NameKind}{x:Str}{v:Value}:∀{P:List Str} {vs:List Value} {i:Nat} {m:Str->Option Value},P.Nodup->P[i]? =some x->vs[i]? =some v->kindOf x≠some .local->bindC kindOf (P.zip vs) m x=some v
 |[],_,_,_,_,h,_,_=>by simp at h
 |_::_,[],_,_,_,_,h,_=>by simp at h
 |p::P,w::vs,0,m,nd,h1,h2,hk=>by simp at h1 h2;subst h1;subst h2;show bindC kindOf ((p,w)::P.zip vs) m p=_;unfold bindC;rw[CB λ v hv=>(List.nodup_cons.mp nd).1 (List.of_mem_zip hv).1,if_neg hk];simp
 |p::P,w::vs,i+1,m,nd,h1,h2,hk=>by show bindC kindOf ((p,w)::P.zip vs) m x=_;unfold bindC;exact CC (i:=i) (List.nodup_cons.mp nd).2 (by simpa using h1) (by simpa using h2) hk
def start(N:List Str)(vs:List V):St:=vs.map some++List.replicate (N.length- vs.length) none
def lR(CX:YV)(P:Program)(w:World)(K:W.Frag)(mg:Str->Option Value)(base:Heap)(N:List Str)(qual:Str)(scope:Scope)(f:Addr)(cd:Value)(A:Around)(outer:List Env)(s:Shared)(H:Hp)(E:XK):Cx where
 prog:=P
 w:=w
 K:=K
 mg:=mg
 base:=base
 A:=A.deeper (envOfC qual scope s.heap.objs.size f cd)
 N:=N
 s₀:=s
 H₀:=H
 env:=envOfC qual scope s.heap.objs.size f cd
 outer:=outer
 stack:=envOfC qual scope s.heap.objs.size f cd::outer
 ex:=[]
 calm:=true
 fn:=λ _=>true
 pn:=[]
 xe:=λ e s'=>wpAny (model P w) (A.deeper (envOfC qual scope s.heap.objs.size f cd)) (leaving (envOfC qual scope s.heap.objs.size f cd) e) (λ _ s''=>CX outer H s E e s'') (λ e' s''=>CX outer H s E e' s'') s'
def Hx{sc:Scope}{n:Nat}{x:Str}(h:sc.names.lookup x=some .cell):∃c,(cellsFrom n sc.names []).lookup x=some c:=by have q:=W.cellsFrom_some sc.names n [] (.inl h);exact Option.isSome_iff_exists.mp q
def RL{CX:YV}{P:Program}{w:World}{K:W.Frag}{mg:Str->Option Value}{base:Heap}{N ps:List Str}{qual:Str}{scope:Scope}{f:Addr}{cd:Value}{A:Around}{outer:List Env}{s s1:Shared}{H:Hp}{E:XK}{us:List Value}{vs:List V} (S:lM N ps scope) (hd:A.handled=none) (e0:OO P w K mg base A outer s H) (hl:vs.length=ps.length) (r:Vals vs us) (x:InCallC s s.heap.objs.size (bindL (envOfC qual scope s.heap.objs.size f cd).kindOf (ps.zip us) λ _=>none) (cellsFrom (s.heap.objs.size+1) scope.names []) (bindC (envOfC qual scope s.heap.objs.size f cd).kindOf (ps.zip us) λ _=>none) s1):
  Inv (lR CX P w K mg base N qual scope f cd A outer s H E) [] (start N vs) H s1:=by
 have hpl:ps.length<=N.length:=by have:=congrArg List.length S.pre;rw[List.length_take] at this;omega
 obtain ⟨h1,tk,rfl,hk⟩:=x.done;have noA:∀b:Addr,b∉(lR CX P w K mg base N qual scope f cd A outer s H E).ex:=λ b z=>absurd (show b∈([]:List Addr) from z) (by simp);refine ⟨⟨e0.mod,S.kind,rfl,rfl,Nat.le_refl _,λ y z c h1 h2=>?_,λ y hy=>?_,λ y c _ h=>?_,λ _=>hd,Around.frames_deeper e0.frames,.inr ⟨rfl,rfl⟩,λ b z=>absurd z (noA b),e0.bs,e0.bsz,λ b _ _=>noA b,λ b z=>absurd z (noA b),e0.wK,e0.frf⟩,
  rfl,e0.bare,Un.kept hk,⟨_,x.toInCall.ns,λ i y v h1 h2 h3=>?_⟩,λ y c h=>⟨_,x.cell y c h⟩,e0.hok.fresh (Nat.le_refl _),λ y c h=>?_,λ p hp=>absurd (show p∈([]:List (Addr×Obj)) from hp) (by simp),e0.hok.kept hk,?_⟩
 ·exact name_of_addr x.apart (PySem.mem_of_lookup h1) (PySem.mem_of_lookup h2)
 ·have hy:scope.names.lookup y=some .cell\/scope.names.lookup y=some .free:=hy;rcases hy with hy|hy
  ·exact Hx hy
  ·exact absurd rfl (S.aez _ (PySem.mem_of_lookup hy))
 ·exact Nat.le_of_lt (x.above y c (PySem.mem_of_lookup h))
 ·have hi:i<vs.length:=by
   unfold start at h2;by_cases hi:i<vs.length
   ·exact hi
   ·rw[List.getElem?_append_right (by simpa using hi)] at h2;rw[List.getElem?_replicate] at h2;split at h2<;>cases h2
  have ha:vs[i]? =some v:=by
   unfold start at h2;rw[List.getElem?_append_left (by simpa using hi),List.getElem?_map] at h2;cases e:vs[i]? with
   |none=>rw[e] at h2;cases h2
   |some a=>rw[e] at h2;cases h2;rfl
  obtain ⟨u,hu,rv⟩:=r.get ha;have hp:ps[i]? =some y:=by rw[<-S.pre,List.getElem?_take_of_lt (by omega)];exact h1
  have ndP:ps.Nodup:=by rw[<-S.pre];exact S.nd.sublist (List.take_sublist _ _)
  refine ⟨u,rv,?_⟩;rcases S.par y (List.mem_of_getElem? hp) with k|k
  ·exact .inl ⟨k,CA ndP hp hu k⟩
  ·obtain ⟨c,e⟩:=Hx (n:=s.heap.objs.size+1) k;refine .inr ⟨.inl k,c,e,?_⟩;have q:=x.cell y c e;rw[CC ndP hp hu (by show scope.names.lookup y≠_;rw[k];decide)] at q;exact q
 ·exact e0.hok.fresh (Nat.le_of_lt (x.above y c (PySem.mem_of_lookup h)))
 ·unfold start;show _=N.length;rw[List.length_append,List.length_map,List.length_replicate];omega
def acm{CX:YV}{P:Program}{w:World}{K:W.Frag}{mg:Str->Option Value}{base:Heap}{k:Nat}{f:Addr}{name qual:Str}{params:Arguments}{body:List Stmt}{scope:Scope}{dV kV doc pm cdv ct oc:Value}{an od:Option Addr} {osl:Array (Option Value)} {N ps:List Str} {sp:Sp} (lk:K.lookup f=some ⟨oc,od,.func (W.fnOf name qual params body scope dV kV doc pm an cdv ct),osl⟩) (hcd:W.codeIn K cdv qual=true) (S:lM N ps scope) (len:∀vs H Q E,sp vs H Q E->vs.length=ps.length) (hbody:∀(A:Around) (outer:List Env) (s:Shared) (H:Hp) (vs:List V) (Q:VK) (E:XK),dQ k (A.deeper (envOfC qual scope s.heap.objs.size f cdv))->sp vs H Q E->∃t,HZ (lR CX P w K mg base N qual scope f cdv A outer s H E) body t/\t {nx:=λ _ H'=>Q .dY H',rt:=Q} (start N vs) H):
  ON P w K mg base CX (k+1) f (W.fnOf name qual params body scope dV kV doc pm an cdv ct) ps sp:=by
 refine ⟨len,λ A outer s H args us vs Q E hr e0 hb r EM=>?_⟩;have hl:=len _ _ _ _ EM;have KX:K.In s.heap:=e0.mod.kin.keeps λ b o e=>(e0.bs b o e).1;have lim:s.heap.NoLimit:=e0.mod.nolimit.keeps λ b o e=>(e0.bs b o e).1;have hkind:∀y∈ps.zip us,scope.names.lookup y.1=some .local\/(scope.names.lookup y.1=some .cell/\((cellsFrom (s.heap.objs.size+1) scope.names []).lookup y.1).isSome=true):=λ⟨n,v⟩ hy=>by
  rcases S.par n (List.of_mem_zip hy).1 with q|q
  ·exact .inl q
  ·exact .inr ⟨q,W.cellsFrom_some _ _ _ (.inl q)⟩
 refine codeAny_call_function hr.depth (KX _ _ lk) rfl S.co S.gen rfl (W.codeRec_of KX hcd) (hb _ _ _ _ ?_);refine wpAny_newFunctionEnv_cells S.kind hkind λ env he s1 x=>?_;subst he;refine ⟨lim.keeps x.toInCall.keep,codeAny_func ?_⟩;obtain ⟨t,ht,hq⟩:=hbody A outer s H vs Q E (hr.deeper _) EM;have I:Inv (lR CX P w K mg base N qual scope f cdv A outer s H E) [] (start N vs) H s1:=RL S hr.hd e0 hl r x;refine wpAny_mono (ht [] s1 (start N vs) H _ I hq) (λ fl s' hs=>?_) λ e s' hs=>hs;have fin:∀{σ':St} {H':Hp} {v:V} {u:Value},Inv (lR CX P w K mg base N qual scope f cdv A outer s H E) [] σ' H' s'->RelV v u->Q v H'->CE outer P w H s Q u s':=
  λ{σ' H' v u} J rv q=>⟨v,H',J.os,J.bare,J.base,J.hok,rv,q⟩
 cases fl with
 |ret u=>obtain ⟨v,σ',H',J,rv,q⟩:=hs;exact fin J rv q
 |next=>obtain ⟨σ',H',J,q⟩:=hs;exact fin (v:=V.dY) (u:=Value.none) J rfl q
 |brk=>obtain ⟨_,_,_,q⟩:=hs;exact False.elim q
 |cont=>obtain ⟨_,_,_,q⟩:=hs;exact False.elim q
section
variable{X:Cx}{x:Str}{p pos:Pos}{e:Expr}{es:List Expr}{t:TA}{id T:String}{r:List V->Hp->VK->Prop}
def tCB(r:List V->Hp->VK->Prop)(t:TA):TE:=λ σ H Q=>t σ H λ vs H1=>r vs H1 Q
def jw(hc:n9 X (.builtin id) r)(hg:Gl X x)(hm:X.mg x=none)(hv:bootBuiltins x=some (.builtin id))(ha:PA X (e::es) t)(hn:x≠"__name__":=by decide)(hdb:(x==("__debug__":Str))=false:=by decide) (he:starEach (e::es) X.env=(false,eval e X.env)::starEach es X.env:=by rfl) (hpl:(backTo pos (starEach es X.env)).any (·.1)=false:=by rfl):PE X (.Call (.Name x p) (e::es) [] pos) (tCB r t):=by intro pins s σ H Q I h;refine wpAny_Call_Name_kw (zb I hg hm hv ?_ hn hdb);exact PyProof.Rows.callWith_builtin1 (dc (ha pos pins s σ H _ I h) λ us s1 ⟨vs,H1,I1,r1,q1⟩=>hc pins s1 σ H1 vs us Q I1 r1 q1) he hpl
def BY(hc:n9 X (.type T) r)(hg:Gl X x)(hm:X.mg x=none)(hv:bootBuiltins x=some (.type T))(ha:PA X (e::es) t)(hn:x≠"__name__":=by decide)(hdb:(x==("__debug__":Str))=false:=by decide) (he:starEach (e::es) X.env=(false,eval e X.env)::starEach es X.env:=by rfl) (hpl:(backTo pos (starEach es X.env)).any (·.1)=false:=by rfl):PE X (.Call (.Name x p) (e::es) [] pos) (tCB r t):=by intro pins s σ H Q I h;refine wpAny_Call_Name_kw (zb I hg hm hv ?_ hn hdb);exact PyProof.Rows.callWith_type1 (dc (ha pos pins s σ H _ I h) λ us s1 ⟨vs,H1,I1,r1,q1⟩=>hc pins s1 σ H1 vs us Q I1 r1 q1) he hpl
end
end L2
namespace HT
open PySem PyProof.Rows
def lexLt:List Int->List Int->Bool
 |[],[]=>false
 |[],_::_=>true
 |_::_,[]=>false
 |x::xs,y::ys=>if x=y then lexLt xs ys else decide (x<y)
def JU(x y:Int)(xs ys:List Int):lexLt (x::xs) (y::ys)=if x=y then lexLt xs ys else decide (x<y):=rfl
def AY:lexLt [] []=false:=rfl
def yZ(y:Int)(ys:List Int):lexLt [] (y::ys)=true:=rfl
def y9(x:Int)(xs:List Int):lexLt (x::xs) []=false:=rfl
def W4(A:Around)(s:Shared)(a:Int)(t:Tok)(c:Int)(u:Tok):∃e,SeqAt.EqAt A s (.int a t) (.int c u) e/\(e=true ↔ a=c):=⟨(a==c),SeqAt.EqAt.int_int a t c u,by simp⟩
def Ux(A:Around)(s:Shared)(a:Int)(t:Tok)(c:Int)(u:Tok)(prog:Program)(w:World)(E:Value->Shared->Prop)(Q:Value->Shared->Prop)(h:Q (.bool (decide (a<c))) s):
  wpAny (model prog w) A (richCompare .Lt (.int a t) (.int c u)) Q E s:=
 (PyProof.Rows.lt_int h:wpAny (model prog w) A (compareOp .Lt (.int a t) (.int c u)) Q E s)
section
open PySem.SeqAt
open PySem.AutoSeq1 (wpAny_loadPart')
open PySem.MeetsSeq PySem.MeetsSeq2 PySem.MeetsSeq3
def An(l b:Addr)(items items2:Array Value)(n n2:Nat)(dd dd2:Option Addr)(sl sl2:Array (Option Value))(ns ms:List Int)(hi:IntsAre items.toList ns)(hj:IntsAre items2.toList ms):
  Meets (Builtin.«tuple.__lt__» ⟨[.ref l,.ref b],[]⟩)
   (λ _ R s=>s.heap.get? l=some {cls:= .type "tuple",dict:=dd,data:= .seq items n,slots:=sl}/\s.heap.get? b=some {cls:= .type "tuple",dict:=dd2,data:= .seq items2 n2,slots:=sl2}/\R (.ok (.ret (.bool (lexLt ns ms)))) s):=
 .of_wp λ prog w A R s h=>by
  obtain ⟨hp,g,d,tk,os⟩:=s;obtain ⟨hl,hb,h⟩:=h;have f2:=AutoSeq1.sub_tuple_tuple;have z1:items.size=ns.length:=by rw[<-hi.length];simp
  have z2:items2.size=ms.length:=by rw[<-hj.length];simp
  wp_walk using wpAny_loadPart' hl,wpAny_loadPart' hb,wpAny_forIn_list _ (λ rest b s'=>b.1=none/\s'=⟨hp,g,d,tk,os⟩/\∃(vs ws:List Value) (ns' ms':List Int),rest=vs.zip ws/\IntsAre vs ns'/\IntsAre ws ms'/\ns'.length+items2.size=ms'.length+items.size/\R (.ok (.ret (.bool (lexLt ns' ms')))) ⟨hp,g,d,tk,os⟩) _;case turn=>
   rintro ⟨y,x⟩ rest b s' ⟨hb',rfl,vs,ws,ns',ms',hz,hvi,hwi,hlen,hR⟩
   cases hvi with
   |nil=>rw[List.zip_nil_left] at hz;cases hz
   |cons a t amh=>
    cases hwi with
    |nil=>rw[List.zip_nil_right] at hz;cases hz
    |cons c u amg=>
     rw[List.zip_cons_cons] at hz;injection hz with hyx hrest
     injection hyx with hy hx
     subst hy hx;rw[JU] at hR;simp only[List.length_cons] at hlen;obtain ⟨e,he,hiff⟩:=W4 A.in1 ⟨hp,g,d,tk,os⟩ a t c u;refine wpAny_bind (he prog w _ _ ?_);cases e with
     |true=>rw[if_pos (hiff.mp rfl)] at hR;wp_walk;exact ⟨rfl,rfl,_,_,_,_,hrest,amh,amg,by omega,hR⟩
     |false=>rw[if_neg (λ q=>absurd (hiff.mpr q) Bool.false_ne_true)] at hR;have hri:=Ux A.in1 ⟨hp,g,d,tk,os⟩ a t c u prog w;wp_walk using hri;exact ⟨_,rfl,by simpa using hR⟩
  case fin=>
   rintro ⟨b1,b2⟩ s' ⟨hb',rfl,vs,ws,ns',ms',hz,hvi,hwi,hlen,hR⟩
   simp only at hb';subst hb';have hv:lexLt ns' ms'=decide (items.size<items2.size):=by
    cases hvi with
    |nil=>
     cases hwi with
     |nil=>simp only[List.length_nil] at hlen;rw[AY];exact (decide_eq_false (by omega)).symm
     |cons c u hw=>simp only[List.length_nil,List.length_cons] at hlen;rw[yZ];exact (decide_eq_true (by omega)).symm
    |cons a t hv=>
     cases hwi with
     |nil=>simp only[List.length_nil,List.length_cons] at hlen;rw[y9];exact (decide_eq_false (by omega)).symm
     |cons c u hw=>rw[List.zip_cons_cons] at hz;cases hz
   rw[hv] at hR;wp_walk;exact ⟨_,rfl,by simpa[Builtin.Tuple.tupleCompareSizes] using hR⟩
  case h=>exact ⟨rfl,rfl,items.toList,items2.toList,ns,ms,rfl,hi,hj,by omega,h⟩
end
section
variable{prog:Program}{w:World}{A:Around}{E:Value->Shared->Prop}{s:Shared}
def JS{l b:Addr}{items items2:Array Value}{ns ms:List Int}{Q:Value->Shared->Prop}(hl:IsTup s.heap l items)(hb:IsTup s.heap b items2)(hi:IntsAre items.toList ns)(hj:IntsAre items2.toList ms) (hu:A.units<cLine) (h:Q (.bool (lexLt ns ms)) s):wpAny (model prog w) A (compareOp .Lt (.ref l) (.ref b)) Q E s:=by obtain ⟨⟨cls,dd,data,sl⟩,ho,hc,n,hd⟩:=id hl;obtain ⟨⟨amQ,dd2,data2,sl2⟩,ho2,hc2,n2,hd2⟩:=id hb;simp only at hc hd hc2 hd2;subst hc hd hc2 hd2;exact richCompare_meets_room (op:= .Lt) ⟨_,ho,rfl⟩ ⟨_,ho2,rfl⟩ PySem.F.slot_tuple_lt PySem.F.entry_tuple_lt (PySem.F.args_tuple_lt_2 _ _) (An l b items items2 n n2 dd dd2 sl sl2 ns ms hi hj) ⟨ho,ho2,show Value.bool (lexLt ns ms)≠Value.notImplemented/\Q (.bool (lexLt ns ms)) s from ⟨(λ x=>nomatch x),h⟩⟩ hu
def abx{t b:Addr}{vs ws:List Value}{Q:Value->Shared->Prop}(ht:IsTup s.heap t vs.toArray)(hb:IsTup s.heap b ws.toArray)(hv:vs≠[]) (h1:ws=[]->Q (.ref t) s) (h2:ws≠[]->Q (.ref s.heap.objs.size) {s with heap:=s.heap.push {cls:= .type "tuple",data:= .seq (vs++ws).toArray}}) (hsz:vs.length+ws.length<=sizeLine):wpAny (model prog w) A (binaryOp .Add (.ref t) (.ref b)) Q E s:=by
 obtain ⟨⟨cls,dd,data,sl⟩,ho,hc,n,hd⟩:=id ht;obtain ⟨⟨amQ,dd2,data2,sl2⟩,ho2,hc2,n2,hd2⟩:=id hb;simp only at hc hd hc2 hd2;subst hc hd hc2 hd2;have e:vs.toArray++ws.toArray=(vs++ws).toArray:=by simp
 by_cases hw:ws=[]
 ·exact concat_meets ⟨_,ho,rfl⟩ ⟨_,ho2,rfl⟩ noFill_tuple_add seq_tuple_add PySem.F.slot_tuple_add PySem.F.entry_tuple_add (PySem.F.args_tuple_add_2 _ _)
   (tuple_addW1 t b vs.toArray ws.toArray n n2 dd dd2 sl sl2 (by simpa using hv) (by simp[hw])) ⟨ho,ho2,h1 hw⟩
 ·refine concat_meets ⟨_,ho,rfl⟩ ⟨_,ho2,rfl⟩ noFill_tuple_add seq_tuple_add PySem.F.slot_tuple_add PySem.F.entry_tuple_add (PySem.F.args_tuple_add_2 _ _)
   (tuple_addW2 t b vs.toArray ws.toArray n n2 dd dd2 sl sl2 (by simpa using hv) (by simpa using hw) (by rw[List.size_toArray,List.size_toArray];exact hsz)) ⟨ho,ho2,?_⟩
  rw[e];exact h2 hw
def BV(n d:Nat):Option Int->Nat
 |none=>d
 |some v=>if v<0 then (v+(n:Int)).toNat else min v.toNat n
def ahE(n d:Nat):BV n d none=d:=rfl
end
end HT
namespace L2
open PySem PySem.Spec PyProof.Rows
abbrev TO:=St->Hp->(Option Int->Hp->Prop)->Prop
def PO(X:Cx)(e:Option Expr)(t:TO):Prop:=∀(pins:List (Addr×Obj)) (s:Shared) (σ:St) (H:Hp) (Q:Option Int->Hp->Prop),Inv X pins σ H s->t σ H Q->wpAny (model X.prog X.w) X.A (evalPart e X.env) (λ u s'=>∃o H',Inv X pins σ H' s'/\IsPart u o/\Q o H') X.xe s
def ahm(t:TE):TO:=λ σ H Q=>t σ H λ x H1=>∃i,x= .int i/\Q (some i) H1
def intsAre_of{ns:List Int}:∀{us:List Value},Vals (ns.map V.int) us->IntsAre us ns:=by
 induction ns with
 |nil=>intro us r;rw[List.map_nil] at r;cases r;exact .nil
 |cons n ns ih=>
  intro us r;rw[List.map_cons] at r;cases r with
  |cons r1 r2=>obtain ⟨t,e⟩:=r1;subst e;exact .cons n t (ih r2)
section
variable{X:Cx}{e:Expr}{te:TE}{lo hi:Option Expr}{tl th:TO}{pos p2:Pos}
def ZX(h:PE X e te):PO X (some e) (ahm te):=by intro pins s σ H Q I hw;rw[evalPart_some];refine dc (h pins s σ H _ I hw) λ u s1 ⟨x,H1,I1,r1,q1⟩=>?_;obtain ⟨i,rfl,q⟩:=q1;obtain ⟨t,rfl⟩:=r1;exact ⟨some i,H1,I1,.int i t,q⟩
def SlR(X:Cx)(r:V->Option Int->Option Int->Hp->VK->Prop):Prop:=∀(pins:List (Addr×Obj)) (s:Shared) (σ:St) (H:Hp) (x:V) (v vl vu:Value) (lo hi:Option Int) (sl:Addr) (Q:VK),Inv X pins σ H s->RelV x v->s.heap.IsSliceOf sl vl vu .none->IsPart vl lo->IsPart vu hi->r x lo hi H Q->∃T id,typeLookup (.type T) "__getitem__"=pure (some (.builtin id))/\s.TypeIs v T/\wpAny (model X.prog X.w) X.A (getItem v (.ref sl)) (EP X pins σ Q) X.xe s
def tSl(r:V->Option Int->Option Int->Hp->VK->Prop)(te:TE)(tl th:TO):TE:=λ σ H Q=>te σ H λ x H1=>tl σ H1 λ l H2=>th σ H2 λ u H3=>r x l u H3 Q
def UU{r:V->Option Int->Option Int->Hp->VK->Prop}(hr:SlR X r)(he:PE X e te)(hl:PO X lo tl)(hu:PO X hi th):PE X (.Subscript e (.Slice lo hi none p2) pos) (tSl r te tl th):=by intro pins s σ H Q I h;refine Subscript_ (dc (he pins s σ H _ I h) λ v s1 ⟨x,H1,I1,r1,q1⟩=>?_);refine wpAny_Slice (dc (hl pins s1 σ H1 _ I1 q1) λ vl s2 ⟨l,H2,I2,pl,q2⟩=>dc (hu pins s2 σ H2 _ I2 q2) λ vu s3 ⟨u,H3,I3,pu,q3⟩=>?_);rw[evalPart_none];refine wpAny_pure ?_;have I4:Inv X pins σ H3 {s3 with heap:=s3.heap.push {cls:= .type "slice",data:= .fields #[vl,vu,.none]}}:=I3.kept (t':=s3.toks) λ b ob q=>Heap.get?_push_of_some _ q;obtain ⟨T,id,hT,ht,hg⟩:=hr pins {s3 with heap:=s3.heap.push {cls:= .type "slice",data:= .fields #[vl,vu,.none]}} σ H3 x v vl vu l u s3.heap.objs.size Q I4 r1 (Heap.IsSliceOf.new ..) pl pu q3;show wpAny (model X.prog X.w) X.A (subscriptTail e (.Slice lo hi none p2) v (.ref s3.heap.objs.size)) (EP X pins σ Q) X.xe {s3 with heap:=s3.heap.push {cls:= .type "slice",data:= .fields #[vl,vu,.none]}};exact tail_any (ops:=[.ref s3.heap.objs.size,v]) ht hT hg (by with_unfolding_all rfl)
def KA(xs:List V)(lo hi:Option Int):List V:=(xs.drop (HT.BV xs.length 0 lo)).take (HT.BV xs.length xs.length hi- HT.BV xs.length 0 lo)
def Hl(xs:List V)(lo hi:Option Int):(KA xs lo hi).length<=xs.length:=by unfold KA;rw[List.length_take,List.length_drop];omega
def ahK(K:W.Frag):R2:=λ x y H Q=>∃a b xs ys,x= .ref a/\y= .ref b/\vB K H a xs/\vB K H b ys/\xs≠[]/\xs.length+ys.length<=sizeLine/\(ys=[]->Q (.ref a) H)/\(ys≠[]->∀p,H p=none->Q (.ref p) (upd H p (.tup (xs++ys))))
def Vals.DH{xs:List V}{us:List Value}(r:Vals xs us):us=[]↔ xs=[]:=by
 cases r with
 |nil=>simp
 |cons _ _=>simp
def aae:nU X (binaryOp .Add) (ahK X.K):=by intro pins s σ H x y v u Q I rx ry h;obtain ⟨a,b,xs,ys,rfl,rfl,ha,hb,hx,hz,q1,q2⟩:=h;cases rx;cases ry;obtain ⟨its,r1,p1,_⟩:=I.tuple ha;obtain ⟨its2,r2,p2,_⟩:=I.tuple hb;refine HT.abx p1 p2 (λ z=>hx (r1.DH.mp z)) (λ z=>⟨.ref a,H,I,rfl,q1 (r2.DH.mp z)⟩) (λ z=>?_) (by rw[<-r1.length, <-r2.length];exact hz);refine ⟨.ref s.heap.objs.size,_,I.laid (t':=s.toks) (o:= .tup (xs++ys)) (λ b ob q=>Heap.get?_push_of_some _ q) (Nat.le_refl _) ?_,rfl,q2 (λ w=>z (r2.DH.mpr w)) _ (I.hok.fresh (Nat.le_refl _))⟩;exact ⟨by rw[List.length_append];exact hz,_,r1.append r2,IsTup.new _ _⟩
end
noncomputable def xC(n:Nat)(i:Int):Option Nat:=if 0<=i then (if i<n then some i.toNat else none) else if -(n:Int)<=i then some (i+n).toNat else none
def Ah{α:Type}(xs:List α)(i:Int):Option α:=(xC xs.length i).bind λ j=>xs[j]?
def PC{n:Nat}{i:Int}{j:Nat}(h:xC n i=some j):seqIndex? i n=some j/\j<n/\ -(n:Int)<=i/\i<n:=by
 unfold xC at h;by_cases h0:0<=i
 ·rw[if_pos h0] at h;by_cases h1:i<n
  ·rw[if_pos h1] at h;have e:i.toNat=j:=Option.some.inj h;exact ⟨by rw[seqIndex_of h0 h1,e],by omega,by omega,h1⟩
  ·rw[if_neg h1] at h;cases h
 ·rw[if_neg h0] at h;by_cases h1: -(n:Int)<=i
  ·rw[if_pos h1] at h;have e:(i+n).toNat=j:=Option.some.inj h;exact ⟨by rw[seqIndex_neg (by omega) h1,e],by omega,h1,by omega⟩
  ·rw[if_neg h1] at h;cases h
def EB{α:Type}{xs:List α}{i:Int}{v:α}(h:Ah xs i=some v):∃j,seqIndex? i xs.length=some j/\xs[j]? =some v/\j<xs.length/\ -(xs.length:Int)<=i/\i<xs.length:=by
 unfold Ah at h;cases e:xC xs.length i with
 |none=>rw[e] at h;cases h
 |some j=>rw[e] at h;obtain ⟨h1,h2,h3,h4⟩:=PC e;exact ⟨j,h1,h,h2,h3,h4⟩
noncomputable def Qk(b:Expr):Prop:=∀o i,subscripted b false o i=operate [o,i] (getItem o i)
def IxR(X:Cx)(r:R2):Prop:=∀(value slice:Expr) (pins:List (Addr×Obj)) (s:Shared) (σ:St) (H:Hp) (x y:V) (v u:Value) (Q:VK),Inv X pins σ H s->RelV x v->RelV y u->r x y H Q->subscripted slice false v u=operate [v,u] (getItem v u)->wpAny (model X.prog X.w) X.A (subscriptTail value slice v u) (EP X pins σ Q) X.xe s
def MtR(X:Cx)(id:String)(r:V->List V->Hp->VK->Prop):Prop:=∀(pins:List (Addr×Obj)) (s:Shared) (σ:St) (H:Hp) (x:V) (xs:List V) (v:Value) (us:List Value) (Q:VK),Inv X pins σ H s->RelV x v->Vals xs us->r x xs H Q->wpAny (model X.prog X.w) X.A (call (.builtin id) (v::us)) (EP X pins σ Q) X.xe s
section
variable{X:Cx}{a b:Expr}{ta tb:TE}{pos:Pos}
def IxR.or{r r':R2}(h:IxR X r)(h':IxR X r'):IxR X (λ x y H Q=>r x y H Q\/r' x y H Q):=by
 intro value slice pins s σ H x y v u Q I rx ry q hs;rcases q with q|q
 ·exact h value slice pins s σ H x y v u Q I rx ry q hs
 ·exact h' value slice pins s σ H x y v u Q I rx ry q hs
def ahR{r:R2}(hr:IxR X r)(ha:PE X a ta)(hb:PE X b tb)(hs:Qk b):PE X (.Subscript a b pos) (tOp r ta tb):=by intro pins s σ H Q I h;exact Subscript_ (afC ha hb I h λ v u s2 x y H2 I2 rx ry q=>hr a b pins s2 σ H2 x y v u Q I2 rx ry q (hs _ _))
def ahJ(K:W.Frag):R2:=λ x y H Q=>∃p xs i v,x= .ref p/\y= .int i/\oA K H p xs/\Ah xs i=some v/\Q v H
def ahH(K:W.Frag):R2:=λ x y H Q=>∃p xs i v,x= .ref p/\y= .int i/\vB K H p xs/\Ah xs i=some v/\Q v H
def ahI:R2:=λ x y H Q=>∃z i c,x= .str z/\y= .int i/\z.length<=sizeLine/\Ah z.cps.toList i=some c/\Q (.str ⟨#[c]⟩) H
def aaT:IxR X (ahJ X.K):=by
 intro value slice pins s σ H x y v u Q I rx ry h hs;obtain ⟨p,xs,i,z,rfl,rfl,hq,he,q⟩:=h;cases rx;obtain ⟨t,rfl⟩:=ry;obtain ⟨its,r,pl,hz⟩:=I.list hq;obtain ⟨j,h1,h2,h3,h4,h5⟩:=EB he;obtain ⟨w,ew,rw'⟩:=r.get h2;have hl:=r.length;have hn:=yX;have fin:EP X pins σ Q w s:=⟨z,H,I,rw',q⟩;by_cases h0:0<=i
 ·have hj:i.toNat=j:=by rw[seqIndex_of h0 h5] at h1;exact Option.some.inj h1
  exact item_listR pl.isList h0 (by omega) (by rw[hj];simpa using ew) fin hs
 ·have hj:(i+(its.toArray.size:Int)).toNat=j:=by rw[seqIndex_neg (by omega) h4] at h1;rw[List.size_toArray, <-hl];exact Option.some.inj h1
  exact subscriptTail_builtinR (x:=w) pl.isList.typeIs slot_list_getitem.lookup
   (wpAny_getItem_list_neg (Q:=λ r s'=>r=w/\EP X pins σ Q r s') pl.isList (by omega) (by rw[List.size_toArray]<;>omega) (by omega) (by rw[hj];simpa using ew) ⟨rfl,fin⟩) hs
def aeV:IxR X (ahH X.K):=by
 intro value slice pins s σ H x y v u Q I rx ry h hs;obtain ⟨p,xs,i,z,rfl,rfl,hq,he,q⟩:=h;cases rx;obtain ⟨t,rfl⟩:=ry;obtain ⟨its,r,pl,hz⟩:=I.tuple hq;obtain ⟨j,h1,h2,h3,h4,h5⟩:=EB he;obtain ⟨w,ew,rw'⟩:=r.get h2;have hl:=r.length;have hn:=yX;have fin:EP X pins σ Q w s:=⟨z,H,I,rw',q⟩;exact subscriptTail_builtinR (x:=w) pl.typeIs slot_tuple_getitem.lookup
  (getItem_tuple (j:=j) (Q:=λ r s'=>r=w/\EP X pins σ Q r s') pl (by omega) (by omega) (by rw[List.size_toArray, <-hl];exact h1) (by simpa using ew) ⟨rfl,fin⟩) hs
def aeW:IxR X ahI:=by
 intro value slice pins s σ H x y v u Q I rx ry h hs;obtain ⟨z,i,c,rfl,rfl,hz,he,q⟩:=h;obtain ⟨t,rfl⟩:=rx;obtain ⟨t',rfl⟩:=ry;obtain ⟨j,h1,h2,h3,h4,h5⟩:=EB he;have hl:z.cps.toList.length=z.length:=by simp[Str.length]
 rw[hl] at h1 h4 h5;have hn:=yX;exact tail_any (typeIs_str s z t) slot_str_getitem.lookup (getItem_str (c:=c) (by have e1:decide (i< -(2^63:Int))=false:=decide_eq_false (by omega);have e2:decide (i>=2^63)=false:=decide_eq_false (by omega);rw[e1,e2,Bool.or_false]) (by rw[h1];simpa using h2) ⟨.str ⟨#[c]⟩,H,I.tok _,⟨_,rfl⟩,q⟩) hs
def rIx(K:W.Frag):R2:=λ x y H Q=>ahJ K x y H Q\/ahH K x y H Q\/ahI x y H Q
def aeX:IxR X (rIx X.K):=aaT.or (aeV.or aeW)
def JP(its:List Value)(n j:Nat)(u:Value):Obj.mapSeq (·.setIfInBounds j u) {cls:= .type "list",data:= .seq its.toArray n}={cls:= .type "list",data:= .seq (its.set j u).toArray n}:=by simp[Obj.mapSeq]
def Inv.lst{pins:List (Addr×Obj)}{σ:St}{H:Hp}{s:Shared}{p:Addr}{xs:List V}(I:Inv X pins σ H s)(h:H p=some (.lst xs)):
  ∃(its:List Value) (n:Nat),Vals xs its/\s.heap.get? p=some {cls:= .type "list",data:= .seq its.toArray n}/\xs.length<=sizeLine:=by
 obtain ⟨z,its,n,r,e⟩:=I.hok p _ h;exact ⟨its,n,r,e,z⟩
def Inv.aeI{pins:List (Addr×Obj)}{σ:St}{H:Hp}{s:Shared}{p:Addr}{xs ys:List V}{its its':List Value}{n n':Nat}{f:Obj->Obj}(I:Inv X pins σ H s)(h:H p=some (.lst xs)) (ho:s.heap.get? p=some {cls:= .type "list",data:= .seq its.toArray n}) (hf:f {cls:= .type "list",data:= .seq its.toArray n}={cls:= .type "list",data:= .seq its'.toArray n'}) (r:Vals ys its') (hz:ys.length<=sizeLine) (t:Nat):
  Inv X pins σ (upd H p (.lst ys)) {s with heap:=s.heap.update p f,toks:=t}:=by
 have e:(s.heap.update p f).get? p=some {cls:= .type "list",data:= .seq its'.toArray n'}:=by rw[Heap.get?_update_self f ho (by rw[hf]<;>rfl),hf]
 refine I.write (x:=p) (e:=p) (by rw[h];trivial) (.inl rfl) (λ b u hb q=>(Heap.get?_update_other _ _ (Ne.symm hb)).trans q) ⟨_,e⟩ ?_;exact ⟨hz,its',n',r,e⟩
def ahG:V->V->V->Hp->(Hp->Prop)->Prop:=λ o i v H Q=>∃p xs k j,o= .ref p/\i= .int k/\H p=some (.lst xs)/\xC xs.length k=some j/\Q (upd H p (.lst (xs.set j v)))
def set_list:ajB X ahG:=by
 intro pins s σ H o i v ov iv u Q I ro ri rv h;obtain ⟨p,xs,k,j,rfl,rfl,hp,hj,q⟩:=h;cases ro;obtain ⟨t,rfl⟩:=ri;obtain ⟨its,n,r,ho,hz⟩:=I.lst hp;obtain ⟨h1,h2,h3,h4⟩:=PC hj;have hl:=r.length;have hn:=yX;have I':Inv X pins σ (upd H p (.lst (xs.set j v))) {s with heap:=s.heap.update p (Obj.mapSeq (·.setIfInBounds j u))}:=
  I.aeI hp ho (JP its n j u) (r.set rv j) (by rw[List.length_set];exact hz) s.toks
 by_cases h0:0<=k
 ·have hk:k.toNat=j:=by rw[seqIndex_of h0 h4] at h1;exact Option.some.inj h1
  exact W.ki_setAt ho h0 (by omega) (by rw[List.size_toArray, <-hl];exact h4) (by rw[hk];exact ⟨_,I',q⟩)
 ·have hk:(k+(its.toArray.size:Int)).toNat=j:=by rw[seqIndex_neg (by omega) h3] at h1;rw[List.size_toArray, <-hl];exact Option.some.inj h1
  exact W.ki_setBack ho (by omega) (by rw[List.size_toArray, <-hl];exact h3) (by omega) (by rw[hk];exact ⟨_,I',q⟩)
def CW(lo hi:Option Int)(n:Nat):(sliceBounds lo hi none n).1=((HT.BV n 0 lo:Nat):Int)/\(sliceBounds lo hi none n).2.1=((HT.BV n n hi:Nat):Int)/\(sliceBounds lo hi none n).2.2=1:=by
 refine ⟨?_,?_,rfl⟩
 ·cases lo with
  |none=>simp[sliceBounds,HT.BV]
  |some i=>
   simp only[sliceBounds,HT.BV,Option.getD_none,show (1:Int)>0 by decide,if_true];by_cases h:i<0
   ·simp only[h,if_true]<;>omega
   ·simp only[h,if_false]<;>omega
 ·cases hi with
  |none=>simp[sliceBounds,HT.BV]
  |some i=>
   simp only[sliceBounds,HT.BV,Option.getD_none,show (1:Int)>0 by decide,if_true];by_cases h:i<0
   ·simp only[h,if_true]<;>omega
   ·simp only[h,if_false]<;>omega
def Aq(its:List Value)(lo hi:Option Int):slicePick its.toArray lo hi none=((its.drop (HT.BV its.length 0 lo)).take (HT.BV its.length its.length hi- HT.BV its.length 0 lo)).toArray:=by obtain ⟨h1,h2,h3⟩:=CW lo hi its.toArray.size;unfold slicePick;rw[h1,h2,h3];simp only[sliceRange_one,pick_run,List.size_toArray]<;>rfl
def alD(K:W.Frag):V->Option Int->Option Int->Hp->VK->Prop:=λ x lo hi H Q=>∃a xs,x= .ref a/\oA K H a xs/\∀p,H p=none->Q (.ref p) (upd H p (.lst (KA xs lo hi)))
def ZG:SlR X (alD X.K):=by intro pins s σ H x v vl vu lo hi sl Q I rx hs pl pu h;obtain ⟨a,xs,rfl,hx,q⟩:=h;cases rx;obtain ⟨its,r,ht,hz⟩:=I.list hx;have hlen:=r.length;refine ⟨"list",_,slot_list_getitem.lookup,ht.isList.typeIs,?_⟩;refine wpAny_getItem_list_slice ht.isList hs pl pu .none (by simp) ?_ (by rw[List.size_toArray]<;>omega);rw[Aq, <-hlen];refine ⟨.ref s.heap.objs.size,_,I.laid (t':=s.toks) (o:= .lst (KA xs lo hi)) (λ b ob q=>Heap.get?_push_of_some _ q) (Nat.le_refl _) ?_,rfl,q _ (I.hok.fresh (Nat.le_refl _))⟩;exact ⟨Nat.le_trans (Hl xs lo hi) hz,_,0,(r.drop (HT.BV xs.length 0 lo)).take (HT.BV xs.length xs.length hi- HT.BV xs.length 0 lo),Heap.get?_push_size _ rfl⟩
noncomputable def qN:V->Bool
 | .dY=>true
 | .bl _=>true
 | .int _=>true
 | .str _=>true
 |_=>false
noncomputable def eqV:V->V->Bool
 | .dY,.dY=>true
 | .bl a,.bl b=>a==b
 | .bl a,.int b=>(if a then 1 else 0)==b
 | .int a,.bl b=>a==(if b then 1 else 0)
 | .int a,.int b=>a==b
 | .str a,.str b=>a==b
 |_,_=>false
def afj{A:Around}{s:Shared}{y x:V}{u v:Value}(ry:RelV y u)(rx:RelV x v)(fy:qN y=true)(fx:qN x=true):SeqAt.EqAt A s u v (eqV y x):=by
 cases y with
 |dY=>
  cases ry;cases x with
  |dY=>cases rx;exact SeqAt.EqAt.same _
  |bl b=>cases rx;exact SeqAt.EqAt.none_bool b
  |int b=>obtain ⟨t,rfl⟩:=rx;exact SeqAt.EqAt.none_int b t
  |str b=>obtain ⟨t,rfl⟩:=rx;exact SeqAt.EqAt.none_str b t
  |_=>exact absurd (show false=true from fx) Bool.false_ne_true
 |bl a=>
  cases ry;cases x with
  |dY=>cases rx;exact SeqAt.EqAt.bool_none a
  |bl b=>cases rx;exact SeqAt.EqAt.bool_bool a b
  |int b=>obtain ⟨t,rfl⟩:=rx;exact SeqAt.EqAt.bool_int a b t
  |str b=>obtain ⟨t,rfl⟩:=rx;exact SeqAt.EqAt.bool_str a b t
  |_=>exact absurd (show false=true from fx) Bool.false_ne_true
 |int a=>
  obtain ⟨t',rfl⟩:=ry;cases x with
  |dY=>cases rx;exact SeqAt.EqAt.int_none a t'
  |bl b=>cases rx;exact SeqAt.EqAt.int_bool a t' b
  |int b=>obtain ⟨t,rfl⟩:=rx;exact SeqAt.EqAt.int_int a t' b t
  |str b=>obtain ⟨t,rfl⟩:=rx;exact SeqAt.EqAt.int_str a t' b t
  |_=>exact absurd (show false=true from fx) Bool.false_ne_true
 |str a=>
  obtain ⟨t',rfl⟩:=ry;cases x with
  |dY=>cases rx;exact SeqAt.EqAt.str_none a t'
  |bl b=>cases rx;exact SeqAt.EqAt.str_bool a t' b
  |int b=>obtain ⟨t,rfl⟩:=rx;exact SeqAt.EqAt.str_int a t' b t
  |str b=>obtain ⟨t,rfl⟩:=rx;exact SeqAt.EqAt.str_str a t' b t
  |_=>exact absurd (show false=true from fx) Bool.false_ne_true
 |_=>exact absurd (show false=true from fy) Bool.false_ne_true
def eqU(x:V)(u:Value):Bool:=match u with
 | .none=>eqV .dY x
 | .bool b=>eqV (.bl b) x
 | .int i _=>eqV (.int i) x
 | .str z _=>eqV (.str z) x
 |_=>false
def W3{x y:V}{u:Value}(r:RelV y u)(f:qN y=true):eqU x u=eqV y x:=by
 cases y with
 |dY=>cases r;rfl
 |bl b=>cases r;rfl
 |int i=>obtain ⟨t,rfl⟩:=r;rfl
 |str z=>obtain ⟨t,rfl⟩:=r;rfl
 |_=>exact absurd (show false=true from f) Bool.false_ne_true
def EC{x:V}:∀{xs:List V} {us:List Value},Vals xs us->xs.all qN=true->us.any (eqU x)=xs.any λ y=>eqV y x
 |_,_,.nil,_=>rfl
 |y::xs,u::us,.cons r t,f=>by rw[List.all_cons,Bool.and_eq_true] at f;rw[List.any_cons,List.any_cons,W3 r f.1,EC t f.2]
def yT{A:Around}{s:Shared}{x:V}{v:Value}(rx:RelV x v)(fx:qN x=true):∀{xs:List V} {us:List Value},Vals xs us->xs.all qN=true->∀u∈us,SeqAt.EqAt A s u v (eqU x u)
 |_,_,.nil,_=>λ u hu=>by cases hu
 |y::xs,u::us,.cons r t,f=>λ u' hu=>by
  rw[List.all_cons,Bool.and_eq_true] at f;rcases List.mem_cons.mp hu with rfl|hu
  ·rw[W3 r f.1];exact afj r rx f.1 fx
  ·exact yT rx fx t f.2 u' hu
def inV(x:V)(xs:List V):Bool:=xs.any λ y=>eqV y x
def rIn(K:W.Frag)(neg:Bool):R2:=λ x y H Q=>∃p xs,y= .ref p/\(oA K H p xs\/vB K H p xs)/\qN x=true/\xs.all qN=true/\Q (.bl (if neg then !inV x xs else inV x xs)) H
def Dm:nU X (compareOp .NotIn) (rIn X.K true):=by
 intro pins s σ H x y v u Q I rx ry h;obtain ⟨p,xs,rfl,hq,fx,fs,q⟩:=h;cases ry;rcases hq with hq|hq
 ·obtain ⟨its,r,pl,hz⟩:=I.list hq;refine SeqAt.notIn_listAt (eqU x) pl.isList (λ w hw=>yT rx fx r fs w (by simpa using hw)) ⟨.bl _,H,I,rfl,?_⟩;rw[show its.toArray.any (eqU x)=its.any (eqU x) by simp,EC r fs];exact q
 ·obtain ⟨its,r,pl,hz⟩:=I.tuple hq;refine SeqAt.notIn_tupleAt (eqU x) pl (λ w hw=>yT rx fx r fs w (by simpa using hw)) ⟨.bl _,H,I,rfl,?_⟩;rw[show its.toArray.any (eqU x)=its.any (eqU x) by simp,EC r fs];exact q
def Ew:n9 X (.type "list") (λ xs H Q=>∃p ys,xs=[.ref p]/\(oA X.K H p ys\/vB X.K H p ys)/\∀l,H l=none->Q (.ref l) (upd H l (.lst ys))):=by
 intro pins s σ H xs us Q I r h;obtain ⟨p,ys,rfl,hq,q⟩:=h;obtain ⟨u,rfl,rx⟩:=vals1 r;cases rx;have fin:∀(its:List Value),Vals ys its->ys.length<=sizeLine->∀(h':Heap) (c':Nat),(∀b o',s.heap.get? b=some o'->h'.get? b=some o')->
   h'.get? s.heap.objs.size=some {cls:= .type "list",dict:=none,data:= .seq its.toArray c',slots:= #[]}->EP X pins σ Q (.ref s.heap.objs.size) {s with heap:=h'}:=λ its r' hz h' c' kp e=>
  ⟨.ref s.heap.objs.size,_,I.laid (t':=s.toks) kp (Nat.le_refl _) (show b9 X.prog X.w _ h' _ (.lst ys) from ⟨hz,its,c',r',e⟩),rfl,q _ (I.hok.fresh (Nat.le_refl _))⟩
 rcases hq with hq|hq
 ·obtain ⟨its,r',pl,hz⟩:=I.list hq;have hlen:=r'.length;obtain ⟨o,ho,hc,n,hd⟩:=pl.isList;exact call_list_seq p (.inl rfl) ho hc hd (λ h' c' kp e=>fin its r' hz h' c' kp e) (by simp only[List.size_toArray]<;>omega)
 ·obtain ⟨its,r',pl,hz⟩:=I.tuple hq;have hlen:=r'.length;obtain ⟨o,ho,hc,n,hd⟩:=pl;exact call_list_seq p (.inr rfl) ho hc hd (λ h' c' kp e=>fin its r' hz h' c' kp e) (by simp only[List.size_toArray]<;>omega)
def Bt:n9 X (.type "tuple") (λ xs H Q=>∃p ys,xs=[.ref p]/\((oA X.K H p ys/\∀l,H l=none->Q (.ref l) (upd H l (.tup ys)))\/(vB X.K H p ys/\Q (.ref p) H))):=by
 intro pins s σ H xs us Q I r h;obtain ⟨p,ys,rfl,h⟩:=h;obtain ⟨u,rfl,rx⟩:=vals1 r;cases rx;rcases h with ⟨hq,q⟩|⟨hq,q⟩
 ·obtain ⟨its,r',pl,hz⟩:=I.list hq;have hlen:=r'.length;refine call_tuple_list pl.isList (λ h' kp=>?_) (by simp only[List.size_toArray]<;>omega);have I1:Inv X pins σ H {s with heap:=h'}:=I.kept (t':=s.toks) kp;have I2:Inv X pins σ (upd H h'.objs.size (.tup ys)) {s with heap:=h'.push {cls:= .type "tuple",data:= .seq its.toArray}}:=
   I1.laid (t':=s.toks) (λ b o e=>Heap.get?_push_of_some _ e) (Nat.le_refl _) (show b9 X.prog X.w _ _ _ (.tup ys) from ⟨hz,its,r',IsTup.new _ _⟩)
  exact ⟨.ref h'.objs.size,_,I2,rfl,q _ (I1.hok.fresh (Nat.le_refl _))⟩
 ·obtain ⟨its,r',pl,hz⟩:=I.tuple hq;exact call_tuple_same pl ⟨.ref p,H,I,rfl,q⟩
def tyV(K:W.Frag)(T:String)(x:V)(H:Hp):Prop:=match x with
 | .str _=>T="str"
 | .int _=>T="int"
 | .ref p=>(T="list"/\∃xs,oA K H p xs)\/(T="tuple"/\∃o,K.lookup p=some o/\o.cls= .type "tuple"/\o.dict=none)\/(T="dict"/\((∃kvs,H p=some (.dK kvs))\/∃kvs,H p=some (.dT kvs)))\/(T="set"/\∃S n,H p=some (.set S n))
 |_=>False
def TR{pins:List (Addr×Obj)}{σ:St}{H:Hp}{s:Shared}{T:String}{x:V}{v:Value}(I:Inv X pins σ H s)(r:RelV x v)(ty:tyV X.K T x H):
  s.TypeIs v T/\∀a,v= .ref a->∃ob,s.heap.get? a=some ob/\ob.dict=none:=by
 cases x with
 |str z=>obtain ⟨t,rfl⟩:=r;cases (show T="str" from ty);exact ⟨typeIs_str s z t,λ _ e=>nomatch e⟩
 |int i=>obtain ⟨t,rfl⟩:=r;cases (show T="int" from ty);exact ⟨typeIs_int s i t,λ _ e=>nomatch e⟩
 |ref p=>
  cases r;rcases ty with ⟨rfl,xs,hq⟩|⟨rfl,o,hk,hc,hd⟩|⟨rfl,hk⟩|⟨rfl,S,n,hk⟩
  ·obtain ⟨its,_,pl,_⟩:=I.list hq;refine ⟨pl.isList.typeIs,λ a e=>?_⟩;cases e;obtain ⟨o,n,e,c,hd,_⟩:=pl;exact ⟨o,e,hd⟩
  ·refine ⟨⟨o,I.xB p o hk,hc⟩,λ a e=>?_⟩;cases e;exact ⟨o,I.xB _ o hk,hd⟩
  ·have z:∃o,s.heap.get? p=some o/\o.ExactDict:=by
    rcases hk with ⟨kvs,hk⟩|⟨kvs,hk⟩
    ·obtain ⟨_,_,_,_,o,_,_,e,ex,_⟩:=I.hok p _ hk;exact ⟨o,e,ex⟩
    ·obtain ⟨_,_,_,_,o,_,_,e,ex,_⟩:=I.hok p _ hk;exact ⟨o,e,ex⟩
   obtain ⟨o,e,ex⟩:=z;refine ⟨⟨o,e,ex.1⟩,λ a e2=>?_⟩;cases e2;exact ⟨o,e,ex.2.1⟩
  ·obtain ⟨o,_,_,_,e,ex,_⟩:=I.hok p _ hk;refine ⟨⟨o,e,ex.1⟩,λ a e2=>?_⟩;cases e2;exact ⟨o,e,ex.2.1⟩
 |_=>exact False.elim ty
def alx(K:W.Frag)(T:String)(r:V->List V->Hp->VK->Prop)(to:TE):TE:=λ σ H Q=>to σ H λ x H1=>tyV K T x H1/\r x [] H1 Q
def tBM(K:W.Frag)(T:String)(r:V->List V->Hp->VK->Prop)(to:TE)(t:TA):TE:=λ σ H Q=>to σ H λ x H1=>tyV K T x H1/\t σ H1 λ xs H2=>r x xs H2 Q
variable{o e:Expr}{es:List Expr}{to:TE}{t:TA}{name:Str}{apos cpos:Pos}{T id:String}{r:V->List V->Hp->VK->Prop}
def aei(pa:PlainAttrs T)(slot:Slot T name id)(hty:typeOf (.builtin id)=pure (.type "method_descriptor"))(hm:MtR X id r)(ho:PE X o to) (hbase:attributeBase o name X.env (eval o X.env)=eval o X.env:=by rfl) (hline:(apos.endLine==cpos.line)=true:=by rfl):PE X (.Call (.Attribute o name apos) [] [] cpos) (alx X.K T r to):=by intro pins s σ H Q I h;refine wpAny_Call_method0_late hbase hline (dc (ho pins s σ H _ I h) λ v s1 ⟨x,H1,I1,r1,ty,q1⟩=>?_);obtain ⟨h1,h2⟩:=TR I1 r1 ty;exact ⟨T,id,pa,slot,hty,h1,h2,Calls.callWith_builtin rfl (PySem.evalArgs_none (hm pins s1 σ H1 x [] v [] Q I1 r1 .nil q1))⟩
def ab6(pa:PlainAttrs T)(slot:Slot T name id)(hty:typeOf (.builtin id)=pure (.type "method_descriptor"))(hm:MtR X id r)(ho:PE X o to)(ha:PA X (e::es) t) (hbase:attributeBase o name X.env (eval o X.env)=eval o X.env:=by rfl) (hfew:((backTo cpos (starEach (e::es) X.env)).all (λ x=>!x.1)&&(backToKw cpos (keywordEach [] X.env)).all (λ x=>x.1.isSome)
   &&decide ((e::es).length+([]:List Keyword).length+(if ([]:List Keyword).isEmpty then 0 else 1)<30))=true:=by rfl)
  (hline:(apos.endLine==cpos.line)=true:=by rfl) (hs:starEach (e::es) X.env=(false,eval e X.env)::starEach es X.env:=by rfl) (hplain:(backTo cpos (starEach es X.env)).any (·.1)=false:=by rfl):
  PE X (.Call (.Attribute o name apos) (e::es) [] cpos) (tBM X.K T r to t):=by
 intro pins s σ H Q I h;refine wpAny_Call_method_late hbase hfew hline rfl (dc (ho pins s σ H _ I h) λ v s1 ⟨x,H1,I1,r1,ty,q1⟩=>?_);obtain ⟨h1,h2⟩:=TR I1 r1 ty;refine ⟨T,id,pa,slot,hty,h1,h2,?_⟩;have hA:=ha cpos pins s1 σ H1 _ I1 q1;rw[hs] at hA ⊢;refine Calls.callWith_builtin (by show (false||(backTo cpos (starEach es X.env)).any (·.1))=false;rw[hplain]<;>rfl) (Calls.evalArgs_plain ?_);exact dc hA λ us s2 ⟨vs,H2,I2,r2,q2⟩=>hm pins s2 σ H2 x vs v us Q I2 r1 r2 q2
end
def MtM(X:Cx)(id:String)(r:V->List V->Hp->VK->Prop):Prop:=∀(pins:List (Addr×Obj)) (s:Shared) (σ:St) (H:Hp) (x:V) (xs:List V) (v:Value) (us:List Value) (Q:VK),Inv X pins σ H s->RelV x v->Vals xs us->r x xs H Q->wpAny (model X.prog X.w) X.A (call (.builtin id) (v::us)) (EP X pins σ Q) X.xe s
def Vals.one:∀{x:V} {us:List Value},Vals [x] us->∃u,us=[u]/\RelV x u
 |_,_,.cons r .nil=>⟨_,rfl,r⟩
def Vals.zero:∀{us:List Value},Vals [] us->us=[]
 |_,.nil=>rfl
section
variable{X:Cx}{pins:List (Addr×Obj)}{σ:St}{H:Hp}{s:Shared}{l b:Addr}{xs ys zs:List V}
def Inv.aeJ{its its':List Value}{n:Nat}{f:Array Value->Array Value}{t':Nat}(I:Inv X pins σ H s)(hH:H l=some (.lst xs)) (e:s.heap.get? l=some {cls:= .type "list",data:= .seq its.toArray n}) (hf:f its.toArray=its'.toArray) (hv:Vals ys its') (hz:ys.length<=sizeLine):
  Inv X pins σ (upd H l (.lst ys)) {s with heap:=s.heap.update l (Obj.mapSeq f),toks:=t'}:=by
 have q:=PySem.IsL.update e f;rw[hf] at q;refine I.write (x:=l) (e:=l) (by rw[hH];exact trivial) (.inl rfl) (λ b' u hb hu=>(Heap.get?_update_other s.heap (Obj.mapSeq f) (Ne.symm hb)).trans hu) ⟨_,q⟩ ?_;exact ⟨hz,its',_,hv,q⟩
def Inv.al2{its:List Value}{t':Nat}(I:Inv X pins σ H s)(hv:Vals ys its)(hz:ys.length<=sizeLine):
  Inv X pins σ (upd H s.heap.objs.size (.lst ys)) {s with heap:=s.heap.push {cls:= .type "list",data:= .seq its.toArray},toks:=t'}:=
 I.laid (λ _ _ q=>Heap.get?_push_of_some _ q) (Nat.le_refl _) ⟨hz,its,0,hv,Heap.get?_push_size _ rfl⟩
def Inv.fresh(I:Inv X pins σ H s):H s.heap.objs.size=none:=I.hok.fresh (Nat.le_refl _)
def Inv.aaC(I:Inv X pins σ H s)(hH:H l=some (.lst xs)):xs.length<=sizeLine/\∃(its:List Value) (n:Nat),Vals xs its/\xs.length=its.length/\s.heap.get? l=some {cls:= .type "list",data:= .seq its.toArray n}:=by obtain ⟨z,its,n,r,e⟩:=I.hok l _ hH;exact ⟨z,its,n,r,r.length,e⟩
def Vq{n:Nat}(h:n<=sizeLine):Builtin.List.listTooLong n=false:=by unfold Builtin.List.listTooLong;exact decide_eq_false (by omega)
end
section
variable{X:Cx}
def ZQ:V->List V->Hp->VK->Prop:=λ x vs H Q=>∃l xs y,x= .ref l/\vs=[y]/\H l=some (.lst xs)/\xs.length<sizeLine/\Q .dY (upd H l (.lst (xs++[y])))
def B6:MtM X "list.append" ZQ:=by intro pins s σ H x vs v us Q I rx rv h;obtain ⟨l,xs,y,rfl,rfl,hH,hz,q⟩:=h;cases rx;obtain ⟨u,rfl,ru⟩:=rv.one;obtain ⟨z,its,n,r,hl,e⟩:=I.aaC hH;refine call_meets F.slot_list_append ⟨_,e,rfl⟩ F.entry_list_append (F.args_list_append_2 _ _) (PySem.list_append l its.toArray n u (by rw[List.size_toArray];omega)) ⟨e,?_⟩;refine ⟨.dY,_,I.aeJ (its':=its++[u]) hH e (by simp) (r.append (.cons ru .nil)) ?_,rfl,q⟩;rw[List.length_append,List.length_singleton];omega
def ZO:V->List V->Hp->VK->Prop:=λ x vs H Q=>∃l b xs zs,x= .ref l/\vs=[.ref b]/\H l=some (.lst xs)/\H b=some (.lst zs)/\xs.length+zs.length<=sizeLine/\Q .dY (upd H l (.lst (xs++zs)))
def Ri:MtM X "list.extend" ZO:=by
 intro pins s σ H x vs v us Q I rx rv h;obtain ⟨l,b,xs,zs,rfl,rfl,hH,hB,hz,q⟩:=h;cases rx;obtain ⟨u,rfl,ru⟩:=rv.one;cases ru;obtain ⟨z,its,n,r,hl,e⟩:=I.aaC hH;obtain ⟨z2,its2,n2,r2,hl2,e2⟩:=I.aaC hB;have hsz:its.toArray.size+its2.toArray.size<=sizeLine:=by rw[List.size_toArray,List.size_toArray];omega
 have ait:¬(!its.toArray.isEmpty&&Builtin.List.listTooLong (its.toArray.size+its2.toArray.size))=true:=by rw[Vq hsz,Bool.and_false];exact Bool.false_ne_true
 refine call_meets F.slot_list_extend ⟨_,e,rfl⟩ F.entry_list_extend (F.args_list_extend_2 _ _)
  (AutoSeq1.list_extend_list_list_0 l its.toArray n b its2.toArray n2 ait (by rw[List.size_toArray];omega) (by omega)) ⟨e,e2,?_⟩
 refine ⟨.dY,_,I.aeJ (its':=its++its2) hH e (by simp) (r.append r2) ?_,rfl,q⟩;rw[List.length_append];omega
def adY:V->List V->Hp->VK->Prop:=λ x vs H Q=>∃l xs,x= .ref l/\vs=[]/\H l=some (.lst xs)/\Q .dY (upd H l (.lst []))
def Vz:MtM X "list.clear" adY:=by intro pins s σ H x vs v us Q I rx rv h;obtain ⟨l,xs,rfl,rfl,hH,q⟩:=h;cases rx;have hus:=rv.zero;subst hus;obtain ⟨z,its,n,r,hl,e⟩:=I.aaC hH;refine call_meets F.slot_list_clear ⟨_,e,rfl⟩ F.entry_list_clear (F.args_list_clear_1 _) (AutoSeq1.list_clear_list_0 l its.toArray n (by rw[List.size_toArray];omega)) ⟨e,?_⟩;exact ⟨.dY,_,I.aeJ (its':=[]) (ys:=[]) hH e rfl .nil (Nat.zero_le _),rfl,q⟩
end
section
variable{prog:Program}{w:World}{A:Around}{E:Value->Shared->Prop}{s:Shared}
end
section
variable{X:Cx}
end
section
variable{κ:Type} [DecidableEq κ]
noncomputable def oQ(kvs:List (κ×V))(k:κ):Option V:=(kvs.find? λ kv=>decide (kv.1=k)).map (·.2)
def putK(kvs:List (κ×V))(k:κ)(v:V):List (κ×V):=if (kvs.any λ kv=>decide (kv.1=k))=true then kvs.map (λ kv=>if kv.1=k then (kv.1,v) else kv) else kvs++[(k,v)]
def ahh{k:κ}:oQ ([]:List (κ×V)) k=none:=rfl
def xX{p:κ×V}{r:List (κ×V)}{k:κ}(e:p.1=k):oQ (p::r) k=some p.2:=by simp[oQ,List.find?_cons,e]
def xY{p:κ×V}{r:List (κ×V)}{k:κ}(e:¬p.1=k):oQ (p::r) k=oQ r k:=by simp[oQ,List.find?_cons,e]
def E4(k:κ):∀kvs:List (κ×V),(kvs.any λ kv=>decide (kv.1=k))=(oQ kvs k).isSome
 |[]=>rfl
 |p::r=>by
  rw[List.any_cons];by_cases e:p.1=k
  ·simp only[xX e,decide_eq_true e,Bool.true_or,Option.isSome_some]
  ·rw[xY e,decide_eq_false e,Bool.false_or];exact E4 k r
def vL(kvs:List (κ×V))(k:κ)(v:V):(putK kvs k v).length<=kvs.length+1:=by
 unfold putK;split
 ·rw[List.length_map];omega
 ·rw[List.length_append,List.length_cons,List.length_nil];omega
def oB.RK{o:Option V}{u:Option Value}(r:oB o u):o.isSome=u.isSome:=by
 cases o with
 |none=>cases u with
  |none=>rfl
  |some _=>exact (show False from r).elim
 |some _=>cases u with
  |none=>exact (show False from r).elim
  |some _=>rfl
def oB.getD{o:Option V}{u:Option Value}{d:V}{d':Value}(r:oB o u)(rd:RelV d d'):RelV (o.getD d) (u.getD d'):=by
 cases o with
 |none=>cases u with
  |none=>exact rd
  |some _=>exact (show False from r).elim
 |some _=>cases u with
  |none=>exact (show False from r).elim
  |some _=>exact r
def KV.val{kvs:List (κ×V)}{vs:List (κ×Value)}(r:KV kvs vs)(k:κ):oB (oQ kvs k) (valueAt vs k):=by
 unfold KV at r;induction r with
 |nil=>exact True.intro
 | @cons p q ps qs h t ih=>
  obtain ⟨h1,h2⟩:=h;by_cases e:p.1=k
  ·have e':q.1=k:=h1.symm.trans e;have b:valueAt (q::qs) k=some q.2:=by simp[valueAt,List.find?_cons,e']
   rw[xX e,b];exact h2
  ·have e':¬q.1=k:=λ z=>e (h1.trans z);have b:valueAt (q::qs) k=valueAt qs k:=by simp[valueAt,List.find?_cons,e']
   rw[xY e,b];exact ih
def KV.any{kvs:List (κ×V)}{vs:List (κ×Value)}(r:KV kvs vs)(k:κ):(kvs.any λ kv=>decide (kv.1=k))=vs.any λ kv=>decide (kv.1=k):=by
 unfold KV at r;induction r with
 |nil=>rfl
 |cons h t ih=>rw[List.any_cons,List.any_cons,ih,h.1]
def KV.repl{kvs:List (κ×V)}{vs:List (κ×Value)}(r:KV kvs vs)(k:κ){y:V}{u:Value}(ry:RelV y u):
  KV (kvs.map λ kv=>if kv.1=k then (kv.1,y) else kv) (vs.map λ kv=>if kv.1=k then (kv.1,u) else kv):=by
 unfold KV at r ⊢;induction r with
 |nil=>exact .nil
 | @cons p q ps qs h t ih=>
  rw[List.map_cons,List.map_cons];refine .cons ?_ ih;obtain ⟨h1,h2⟩:=h;by_cases e:p.1=k
  ·rw[if_pos e,if_pos (h1.symm.trans e)];exact ⟨h1,ry⟩
  ·rw[if_neg e,if_neg (λ z=>e (h1.trans z))];exact ⟨h1,h2⟩
def KV.put{kvs:List (κ×V)}{vs:List (κ×Value)}(r:KV kvs vs)(k:κ){y:V}{u:Value}(ry:RelV y u):KV (putK kvs k y) (stored vs k u):=by
 unfold putK stored;rw[r.any k];by_cases e:(vs.any λ kv=>decide (kv.1=k))=true
 ·rw[if_pos e,if_pos e];exact r.repl k ry
 ·rw[if_neg e,if_neg e];exact Paired.snoc r ⟨rfl,ry⟩
def KV.length{kvs:List (κ×V)}{vs:List (κ×Value)}(r:KV kvs vs):kvs.length=vs.length:=Paired.length r
end
def Pz{P:Program}{w:World}{k:Key}{u:Value}(r:RelV (kV k) u):(cI P w).is k u=true:=by
 cases k with
 |inl i=>obtain ⟨t,e⟩:=(show ∃t,u=Value.int i t from r);subst e;exact Gq P w i t
 |inr x=>obtain ⟨t,e⟩:=(show ∃t,u=Value.str x t from r);subst e;exact Gp P w x t
def Cj{P:Program}{w:World}:∀{ks:List Key} {us:List Value},Vals (ks.map kV) us->ItemsAre (cI P w) ks us
 |[],_,r=>by rw[List.map_nil] at r;cases r;exact .nil
 |k::ks,_,r=>by
  rw[List.map_cons] at r;cases r with
  |cons h t=>exact .cons (Pz h) (Cj t)
abbrev KT(H:Hp):List (List Key×V)->List (List Key×Addr×Value)->Prop:=Paired λ p q=>p.1=q.1/\H q.2.1=some (.tup (p.1.map kV))/\RelV p.2 q.2.2
def KT.val{H:Hp}{kvs:List (List Key×V)}{xs:List (List Key×Addr×Value)}(r:KT H kvs xs)(k:List Key):oB (oQ kvs k) ((atKey xs k).map (·.2)):=by
 induction r with
 |nil=>exact True.intro
 | @cons p q ps qs h t ih=>
  obtain ⟨h1,_,h2⟩:=h;by_cases e:p.1=k
  ·have e':q.1=k:=h1.symm.trans e;have b:atKey (q::qs) k=some q.2:=by simp[atKey,List.find?_cons,e']
   rw[xX e,b];exact h2
  ·have e':¬q.1=k:=λ z=>e (h1.trans z);have b:atKey (q::qs) k=atKey qs k:=by simp[atKey,List.find?_cons,e']
   rw[xY e,b];exact ih
def KT.repl{H:Hp}{kvs:List (List Key×V)}{xs:List (List Key×Addr×Value)}(r:KT H kvs xs)(k:List Key){y:V}{u:Value}(ry:RelV y u):
  KT H (kvs.map λ kv=>if kv.1=k then (kv.1,y) else kv) (xs.map (putAt k u)):=by
 induction r with
 |nil=>exact .nil
 | @cons p q ps qs h t ih=>
  rw[List.map_cons,List.map_cons];refine .cons ?_ ih;obtain ⟨h1,h2,h3⟩:=h;unfold putAt;by_cases e:p.1=k
  ·rw[if_pos e,if_pos (h1.symm.trans e)];exact ⟨h1,h2,ry⟩
  ·rw[if_neg e,if_neg (λ z=>e (h1.trans z))];exact ⟨h1,h2,h3⟩
def KT.put{H:Hp}{kvs:List (List Key×V)}{xs:List (List Key×Addr×Value)}(r:KT H kvs xs)(k:List Key){b:Addr}{y:V}{u:Value}(hb:H b=some (.tup (k.map kV)))(ry:RelV y u):
  KT H (putK kvs k y) (storedH xs k b u):=by
 have e:(kvs.any λ kv=>decide (kv.1=k))=(atKey xs k).isSome:=by rw[E4,(r.val k).RK,Option.isSome_map]
 unfold putK storedH;rw[e];by_cases q:(atKey xs k).isSome=true
 ·rw[if_pos q,if_pos q];exact r.repl k ry
 ·rw[if_neg q,if_neg q];exact Paired.snoc r ⟨rfl,hb,ry⟩
def KT.keeps{H H':Hp}{kvs:List (List Key×V)}{xs:List (List Key×Addr×Value)}(r:KT H kvs xs)(ht:∀b ys,H b=some (.tup ys)->H' b=some (.tup ys)):KT H' kvs xs:=Paired.aaA r λ _ _ z=>⟨z.1,ht _ _ z.2.1,z.2.2⟩
section
variable{P:Program}{w:World}{H:Hp}{h:Heap}{a:Addr}
def ab2{u:HO}(ok:pW P w H h)(e:Rd H a u):b9 P w H h a u:=e.ok ok
def G5{kvs:List (Key×V)}(ok:pW P w H h)(e:Rd H a (.dK kvs)):kvs.length<=sizeLine/\(a==sysModules)=false/\∃vs,KV kvs vs/\h.DictOf (cI P w) a vs:=show b9 P w H h a (.dK kvs) from ab2 ok e
def aiH{kvs:List (Key×V)}(ok:pW P w H h)(e:H a=some (.dK kvs)):kvs.length<=sizeLine/\(a==sysModules)=false/\∃vs,KV kvs vs/\h.DictOf (cI P w) a vs:=G5 ok (.inl e)
def zl{ks:List Key}(ok:pW P w H h)(e:H a=some (.tup (ks.map kV))):(tupleKind (cI P w)).is h ks a:=by obtain ⟨_,its,r,o,h1,h2,n,h3⟩:=(show b9 P w H h a (.tup (ks.map kV)) from ok a _ e);exact ⟨o,its.toArray,n,h1,h2,h3,by simpa using Cj r⟩
def zK{kvs:List (List Key×V)}(ok:pW P w H h)(e:Rd H a (.dT kvs)):kvs.length<=sizeLine/\(a==sysModules)=false/\∃xs,KT H kvs xs/\h.DictOfH (tupleKind (cI P w)) a xs:=by
 obtain ⟨z,y,xs,r,o,es,ep,h1,h2,h3,h4,h5⟩:=(show b9 P w H h a (.dT kvs) from ab2 ok e);refine ⟨z,y,xs,r,o,es,ep,h1,h2,h3,h4,λ x hx=>?_,h5⟩;have all:∀{l:List (List Key×V)} {m:List (List Key×Addr×Value)},KT H l m->∀x∈m,(tupleKind (cI P w)).is h x.1 x.2.1:=by
  intro l m q;induction q with
  |nil=>intro x hx;exact nomatch hx
  | @cons p q ps qs hq t ih=>
   intro x hx;rcases List.mem_cons.mp hx with e|hx
   ·subst e;exact zl ok (by rw[<-hq.1];exact hq.2.1)
   ·exact ih x hx
 exact all r x hx
def aiG{kvs:List (List Key×V)}(ok:pW P w H h)(e:H a=some (.dT kvs)):kvs.length<=sizeLine/\(a==sysModules)=false/\∃xs,KT H kvs xs/\h.DictOfH (tupleKind (cI P w)) a xs:=zK ok (.inl e)
end
def YT(H:Hp)(a:Addr)(y:V)(r:Option V):Prop:=(∃kvs k,Rd H a (.dK kvs)/\y=kV k/\r=oQ kvs k)\/∃kvs k b,Rd H a (.dT kvs)/\y= .ref b/\H b=some (.tup (k.map kV))/\r=oQ kvs k
def ajN(H:Hp)(a:Addr)(y v:V)(H':Hp):Prop:=(∃kvs k,H a=some (.dK kvs)/\y=kV k/\kvs.length<sizeLine/\H'=upd H a (.dK (putK kvs k v)))\/∃kvs k b,H a=some (.dT kvs)/\y= .ref b/\H b=some (.tup (k.map kV))/\kvs.length<sizeLine/\H'=upd H a (.dT (putK kvs k v))
section
variable{X:Cx}{pins:List (Addr×Obj)}{σ:St}{H:Hp}{s:Shared}{a:Addr}{y v:V}{u r:Value}{o:Option V}{A:Around}{E:Value->Shared->Prop}
def Inv.big(I:Inv X pins σ H s):sysModules<s.heap.objs.size:=by have h:mainGlobals<s.heap.objs.size:=(I.mod.glob.keeps I.bk).lt;exact Nat.lt_trans (by decide) h
def R9{Q:Value->Shared->Prop}(hu:A.units+1<cLine)(I:Inv X pins σ H s)(g:YT H a y (some v))(ry:RelV y u)(h:∀w' s',Inv X pins σ H s'->RelV v w'->Q w' s'):
  wpAny (model X.prog X.w) A (getItem (.ref a) u) Q E s:=by
 rcases g with ⟨kvs,k,e,ey,l⟩|⟨kvs,k,b,e,ey,eb,l⟩
 ·subst ey;obtain ⟨z,hd,vs,rel,dd⟩:=G5 I.hok e;obtain ⟨w',hw,rw'⟩:=oB.some_of (v:=v) (o:=valueAt vs k) (by rw[l];exact rel.val k);exact wpAny_getItem_of (Pz ry) dd.mapOf hw (h w' _ (I.tok _) rw')
 ·subst ey;cases (show u=Value.ref b from ry);obtain ⟨z,hd,xs,rel,dd⟩:=zK I.hok e;obtain ⟨w',hw,rw'⟩:=oB.some_of (v:=v) (o:=(atKey xs k).map (·.2)) (by rw[l];exact rel.val k);obtain ⟨p,hp,hp2⟩:=Option.map_eq_some_iff.mp hw;refine wpAny_getItem_heap (tupleKind_room_in1 hu) (zl I.hok eb) dd hp ?_;rw[hp2];exact h w' _ (I.tok _) rw'
def P9{h':Heap}{t':Nat}{ob:HO}(I:Inv X pins σ H s)(mu:Mut (H a))(hs:Heap.SameBut a s.heap h')(he:∃q,h'.get? a=some q)(new:b9 X.prog X.w (upd H a ob) h' a ob):
  Inv X pins σ (upd H a ob) {s with heap:=h',toks:=t'}:=
 I.write (x:=a) (e:=a) mu (.inl rfl) (λ b q hb z=>(hs.2 b hb).trans z) he new
def afo{P:Program}{w:World}{H':Hp}{h':Heap}{kvs:List (Key×V)}{vs:List (Key×Value)}(z:kvs.length<=sizeLine)(hd:(a==sysModules)=false)(rel:KV kvs vs)(dd:h'.DictOf (cI P w) a vs):
  b9 P w H' h' a (.dK kvs):=⟨z,hd,vs,rel,dd⟩
def R8{H':Hp}{Q:Unit->Shared->Prop}(hu:A.units+1<cLine)(I:Inv X pins σ H s)(g:ajN H a y v H')(ry:RelV y u)(rv:RelV v r)(h:∀s',Inv X pins σ H' s'->Q () s'):
  wpAny (model X.prog X.w) A (setItem (.ref a) u r) Q E s:=by
 rcases g with ⟨kvs,k,e,ey,l,eH⟩|⟨kvs,k,b,e,ey,eb,l,eH⟩
 ·subst ey eH;obtain ⟨z,hd,vs,rel,dd⟩:=aiH I.hok e;have hz:vs.length<=sizeLine:=by rw[<-rel.length];exact z
  have hl:(putK kvs k v).length<=sizeLine:=by have:=vL kvs k v;omega
  refine wpAny_setItem_pairs (hsz:=hz) (Pz ry) dd λ h' dd' hs=>h _ ?_;have he:∃q,h'.get? a=some q:=let ⟨q,_,_,hq,_⟩:=dd';⟨q,hq⟩
  exact P9 I (by rw[e];exact True.intro) hs he (afo hl hd (rel.put k rv) dd')
 ·subst ey eH;cases (show u=Value.ref b from ry);obtain ⟨z,hd,xs,rel,dd⟩:=aiG I.hok e;have hz:xs.length<=sizeLine:=by rw[<-Paired.length rel];exact z
  have hl:(putK kvs k v).length<=sizeLine:=by have:=vL kvs k v;omega
  refine wpAny_setItem_heap (hsz:=hz) (tupleKind_room_in1 hu) (zl I.hok eb) dd λ h' dd' hs=>h _ ?_;obtain ⟨q,es,ep,hq,h2,h3,h4,_,h5⟩:=dd';refine P9 I (by rw[e];exact True.intro) hs ⟨q,hq⟩ ⟨hl,hd,_,(rel.put k eb rv).keeps λ c ys ec=>?_,q,es,ep,hq,h2,h3,h4,h5⟩;rw[aC (ah8 ec e (λ z=>nomatch z))];exact ec
end
section
variable{X:Cx}{pins:List (Addr×Obj)}{σ:St}{H:Hp}{s:Shared}{a:Addr}{kvs:List (Key×V)}{k:Key}{u:Value}{A:Around}{E:Value->Shared->Prop}
end
noncomputable def afR(i:Expr):Prop:=∀ov iv,subscripted i false ov iv=operate [ov,iv] (getItem ov iv)
def ZC{prog:Program}{w:World}{A:Around}{E:Value->Shared->Prop}{s:Shared}{env:Env}{value slice:Expr}{pos:Pos}{T id:String}{Q:Value->Shared->Prop} (hl:typeLookup (.type T) "__getitem__"=pure (some (.builtin id))) (hs:afR slice) (h:wpAny (model prog w) A (eval value env) (λ o s₁=>wpAny (model prog w) A (eval slice env) (λ i s₂=>s₂.TypeIs o T/\wpAny (model prog w) A (getItem o i) Q E s₂) E s₁) E s):
  wpAny (model prog w) A (eval (.Subscript value slice pos) env) Q E s:=by
 refine Subscript_ (wpAny_mono h (λ o s₁ h₁=>wpAny_mono h₁ (λ i s₂ h₂=>?_) λ _ _ x=>x) λ _ _ x=>x);obtain ⟨hT,h₂⟩:=h₂;unfold subscriptTail;refine wpAny_bind ?_;rw[getitemInPython_of_ne hT.not_modules];refine wpAny_bind (wpAny_specialOf hT hl ?_);have fin:wpAny (model prog w) A (subscripted slice false o i) (λ r s₃=>wpAny (model prog w) A (letTemporaryGo value o r>>=λ _=>pure r) Q E s₃) E s₂:=by rw[hs o i];exact wpAny_operating (wpAny_mono h₂ (λ r s₃ h₃=>wpAny_bind (wpAny_letTemporaryGo (wpAny_pure h₃))) λ _ _ x=>x)
 first
  |exact wpAny_pure (wpAny_bind fin)
  |exact wpAny_bind (wpAny_pure (wpAny_bind fin))
  |exact wpAny_bind fin
def G6{X:Cx}{pins:List (Addr×Obj)}{σ:St}{H:Hp}{s:Shared}{a:Addr}{y:V}{o:Option V}(I:Inv X pins σ H s)(g:YT H a y o):s.TypeIs (.ref a) "dict":=by
 rcases g with ⟨kvs,k,e,_,_⟩|⟨kvs,k,b,e,_,_,_⟩
 ·obtain ⟨_,_,vs,_,dd⟩:=G5 I.hok e;exact dd.typeIs
 ·obtain ⟨_,_,xs,_,dd⟩:=zK I.hok e;exact dd.typeIs
def ahs(td ty:TE):TE:=λ σ H Q=>td σ H λ x H1=>ty σ H1 λ y H2=>∃a v,x= .ref a/\YT H2 a y (some v)/\Q v H2
def ahF(td ty tv:TE):TS:=λ D σ H=>tv σ H λ v H1=>td σ H1 λ x H2=>ty σ H2 λ y H3=>∃a H4,x= .ref a/\ajN H3 a y v H4/\D.nx σ H4
section
variable{X:Cx}{o i e value:Expr}{pos pos' tpos:Pos}{td ty tv:TE}
def Z5(hu:X.A.units+1<cLine)(ho:PE X o td)(hi:PE X i ty)(hs:afR i):PE X (.Subscript o i pos) (ahs td ty):=by intro pins s σ H Q I h;refine ZC PySem.F.slot_dict_getitem.lookup hs (dc (ho pins s σ H _ I h) λ u s1 ⟨x,H1,I1,rx,q1⟩=>dc (hi pins s1 σ H1 _ I1 q1) λ iv s2 ⟨y,H2,I2,ry,a,v,ex,g,q2⟩=>?_);subst ex;obtain rfl:u=Value.ref a:=rx;exact ⟨G6 I2 g,R9 hu I2 g ry λ w' s3 I3 rw'=>⟨v,H2,I3,rw',q2⟩⟩
def ZW(hu:X.A.units+1<cLine)(ho:PE X o td)(hi:PE X i ty)(hv:PE X value tv)(hs:swapsWith value (some (.Subscript o i pos')) pos.line X.env=pure false):
  PS X (.Assign [.Subscript o i pos'] value pos) (ahF td ty tv):=by
 intro pins s σ H D I h;refine wpAny_Assign_Subscript (dc (hv pins s σ H _ I h) λ r s1 ⟨v,H1,I1,rv,q1⟩=>dc (ho pins s1 σ H1 _ I1 q1) λ u s2 ⟨x,H2,I2,rx,q2⟩=>dc (hi pins s2 σ H2 _ I2 q2) λ iv s3 ⟨y,H3,I3,ry,a,H4,ex,g,q3⟩=>?_) hs;subst ex;obtain rfl:u=Value.ref a:=rx;exact R8 hu I3 g ry rv λ s4 I4=>⟨σ,H4,I4,q3⟩
end
def W6{P:Program}{w:World}{H:Hp}(h:Heap)(hb:sysModules<h.objs.size):b9 P w H (h.push {cls:= .type "dict",data:= .dict #[]}) h.objs.size (.dT []):=⟨Nat.zero_le _,beq_eq_false_iff_ne.mpr (Ne.symm (Nat.ne_of_lt hb)),[],.nil,_, #[],0,Heap.get?_push_size _ rfl,⟨rfl,rfl,rfl⟩,rfl,rfl,List.nodup_nil⟩
def adK:TE:=λ _ H Q=>∀p,H p=none->Q (.ref p) (upd H p (.dT []))
section
variable{X:Cx}{pos:Pos}
def UW:PE X (.Dict [] [] pos) adK:=λ pins s σ H Q I h=>wpAny_Dict_empty ⟨.ref s.heap.objs.size,_,I.laid (a:=s.heap.objs.size) (o:= .dT []) (t':=s.toks) (λ _ _ q=>Heap.get?_push_of_some _ q) (Nat.le_refl _) (W6 s.heap I.big),rfl,h _ (I.hok.fresh (Nat.le_refl _))⟩
end
structure M1(X:Cx)(o:Expr)(m:Str)(apos:Pos)(e:Expr)(cpos:Pos):Prop where
 base:attributeBase o m X.env (eval o X.env)=eval o X.env
 few:((backTo cpos (starEach [e] X.env)).all (λ x=>!x.1)&&(backToKw cpos (keywordEach [] X.env)).all (λ x=>x.1.isSome)
  &&decide (([e]:List Expr).length+([]:List Keyword).length+(if ([]:List Keyword).isEmpty then 0 else 1)<30))=true
 line:(apos.endLine==cpos.line)=true
 trees:backTo cpos (starEach [e] X.env)=[(false,eval e X.env)]
structure M2(X:Cx)(o:Expr)(m:Str)(apos:Pos)(e f:Expr)(cpos:Pos):Prop where
 base:attributeBase o m X.env (eval o X.env)=eval o X.env
 few:((backTo cpos (starEach [e,f] X.env)).all (λ x=>!x.1)&&(backToKw cpos (keywordEach [] X.env)).all (λ x=>x.1.isSome)
  &&decide (([e,f]:List Expr).length+([]:List Keyword).length+(if ([]:List Keyword).isEmpty then 0 else 1)<30))=true
 line:(apos.endLine==cpos.line)=true
 trees:backTo cpos (starEach [e,f] X.env)=[(false,eval e X.env),(false,eval f X.env)]
def IsD(H:Hp)(a:Addr):Prop:=(∃kvs,Rd H a (.dK kvs))\/∃kvs,Rd H a (.dT kvs)
def Wn{X:Cx}{pins:List (Addr×Obj)}{σ:St}{H:Hp}{s:Shared}{a:Addr}(I:Inv X pins σ H s)(d:IsD H a):
  s.TypeIs (.ref a) "dict"/\(∀b,Value.ref a= .ref b->∃ob,s.heap.get? b=some ob/\ob.dict=none)/\(a==sysModules)=false:=by
 rcases d with ⟨kvs,e⟩|⟨kvs,e⟩
 ·obtain ⟨_,hd,vs,_,dd⟩:=G5 I.hok e;refine ⟨dd.typeIs,λ b q=>?_,hd⟩;cases q;obtain ⟨ob,_,_,h1,h2,_⟩:=dd;exact ⟨ob,h1,h2.2.1⟩
 ·obtain ⟨_,hd,xs,_,dd⟩:=zK I.hok e;refine ⟨dd.typeIs,λ b q=>?_,hd⟩;cases q;obtain ⟨ob,_,_,h1,h2,_⟩:=dd;exact ⟨ob,h1,h2.2.1⟩
section
variable{X:Cx}{pins:List (Addr×Obj)}{σ:St}{H:Hp}{s:Shared}{a:Addr}{y d:V}{u r:Value}{o:Option V}{A:Around}{E:Value->Shared->Prop}
def afq{Q:Value->Shared->Prop}(hu:A.units+1<cLine)(I:Inv X pins σ H s)(g:YT H a y o)(ry:RelV y u)(rd:RelV d r)(h:∀w' s',Inv X pins σ H s'->RelV (o.getD d) w'->Q w' s'):
  wpAny (model X.prog X.w) A (call (.builtin "dict.get") [.ref a,u,r]) Q E s:=by
 rcases g with ⟨kvs,k,e,ey,l⟩|⟨kvs,k,b,e,ey,eb,l⟩
 ·subst ey;obtain ⟨z,hd,vs,rel,dd⟩:=G5 I.hok e;refine call_meetsIn PySem.F.slot_dict_get dd.typeIs PySem.F.entry_dict_get (PySem.F.args_dict_get_3 _ _ _) (meets_dict_get_default (cI X.prog X.w) a (Pz ry) hd r) ⟨_,dd.mapOf,h _ _ (I.tok _) ?_⟩;rw[l];exact (rel.val k).getD rd
 ·subst ey;cases (show u=Value.ref b from ry);obtain ⟨z,hd,xs,rel,dd⟩:=zK I.hok e;refine call_meetsIn PySem.F.slot_dict_get dd.typeIs PySem.F.entry_dict_get (PySem.F.args_dict_get_3 _ _ _) (meetsH_dict_get_default (tupleKind (cI X.prog X.w)) a b hd r) ⟨tupleKind_room_in1 hu,k,xs,zl I.hok eb,dd,h _ _ (I.tok _) ?_⟩;rw[l];exact (rel.val k).getD rd
end
def adL(td ty tx:TE):TE:=λ σ H Q=>td σ H λ x H1=>∃a,x= .ref a/\IsD H1 a/\ty σ H1 λ y H2=>tx σ H2 λ z H3=>∃o,YT H3 a y o/\Q (o.getD z) H3
section
variable{X:Cx}{o e f:Expr}{apos cpos:Pos}{td ty tx:TE}
def UX(hu:X.A.units+1<cLine)(ho:PE X o td)(he:PE X e ty)(hf:PE X f tx)(m:M2 X o "get" apos e f cpos):PE X (.Call (.Attribute o "get" apos) [e,f] [] cpos) (adL td ty tx):=by intro pins s σ H Q I h;refine wpAny_Call_method m.base m.few m.line PySem.F.plainAttrs_dict PySem.F.slot_dict_get PySem.F.type_dict_get (dc (ho pins s σ H _ I h) λ u s1 ⟨x,H1,I1,rx,a,ex,d,q1⟩=>?_);subst ex;obtain rfl:u=Value.ref a:=rx;obtain ⟨t1,t2,_⟩:=Wn I1 d;refine ⟨t1,t2,?_⟩;rw[m.trees];refine Calls.callWith_builtin rfl (Calls.evalArgs_plain (Calls.spliced_cons (dc (he pins s1 σ H1 _ I1 q1) λ iv s2 ⟨y,H2,I2,ry,q2⟩=>Calls.spliced_cons (dc (hf pins s2 σ H2 _ I2 q2) λ fv s3 ⟨z,H3,I3,rz,ov,g,q3⟩=>Calls.spliced_nil ?_))));exact afq hu I3 g ry rz λ w' s4 I4 rw'=>⟨_,H3,I4,rw',q3⟩
end
section
variable{X:Cx}{pins:List (Addr×Obj)}{σ:St}{H:Hp}{s:Shared}{a:Addr}{kvs:List (Key×V)}{A:Around}{E:Value->Shared->Prop}
end
section
variable{X:Cx}{pins:List (Addr×Obj)}{σ:St}{H:Hp}{s:Shared}{a:Addr}{y:V}{u:Value}{A:Around}{E:Value->Shared->Prop}
end
end L2
namespace Att
open PySem PySem.W PySem.Calls PyProof.Rows
def wH{P:Params}{h:Heap}:∀(ns:List Int) (vs:List Value),WellAll P h vs (ns.map WData.int)->IntsAre vs ns:=by
 intro ns;induction ns with
 |nil=>intro vs w;rw[List.map_nil] at w;cases w;exact .nil
 |cons n ns ih=>
  intro vs w;rw[List.map_cons] at w;cases w with
  |cons a b=>cases a;exact .cons _ _ (ih _ b)
def QJ{l:OpenLaw}{n:Nat}(hn:l.most=some n){P:Params}{h:Heap}{args:List WData}{vals:List Value} (hpre:l.row.toRowW.claim.pre args=true) (hwl:WellAll P h vals args):
  ∃a vs ns,vals=[Value.ref a]/\args=[WData.list (ns.map WData.int)]/\h.get? a=some {cls:= .type "list",data:= .seq vs.toArray}/\IntsAre vs ns/\ns.length<=n:=by
 have hsh:WShape.hasAll [] args [.list .int]=true:=(pre_splitW hpre).1;have hc:l.pre.holds [] {args:=args}=true:=(pre_splitW hpre).2;obtain ⟨d,r,rfl,h1,h2⟩:=hasAllW_cons hsh;obtain rfl:=hasAllW_nil h2;obtain ⟨xs,rfl,h3⟩:=hasW_list h1;obtain ⟨ns,rfl⟩:=items_int h3;have hlen:ns.length<=n:=by
  unfold OpenLaw.pre at hc;have h4:(WTm.not (.lt (.lit (.int (n:Int))) (.len (.arg 0)))).holds [] {args:=[.list (ns.map .int)]}=true:=by have h4:=(holds_andW hc).1;rw[hn] at h4;exact h4
  have h5:=condW_of h4 (w_not (w_lt w_lit (w_len_list (w_arg rfl))));rw[List.length_map] at h5;refine Nat.le_of_not_lt λ q=>?_;have q':(n:Int)<((ns.length:Nat):Int):=by omega
  first
   |(rw[decide_eq_true q'] at h5;exact absurd h5 (by decide))
   |(simp at h5;omega)
 cases hwl with
 |cons w1 w2=>
  cases w2;cases w1 with
  |list ho hall=>exact ⟨_,_,ns,rfl,rfl,ho,wH ns _ hall,hlen⟩
def QN(l:OpenLaw)(args:List WData):l.row.toRowW.claim.post args (.bool true) args=true:=postW_of (r:=l.row.toRowW) (X:=(true==true))
  (show WShape.has [] (.bool true) .bool=true by first|rfl|decide|simp[WShape.has,WShape.arms,WShape.armsAll])
  (show (WTm.eq .res (.lit (.bool true))).value [] {args:=args,res:=some (.bool true),after:=args}=some (.bool (true==true)) from w_eq_bool (w_res rfl) w_lit) rfl
def HH{l:OpenLaw}{n:Nat}{q:Program}{loose:List Str}{XP:(Str->Option Value)->Heap->Prop}{YP:World->Heap->Prop}{d:DefRec} (hn:l.most=some n) (hdf:d.params.defaults=[]) (call:∀(w:World) (s₀ s₁:Shared) (mg mb:Str->Option Value) (fa:Addr) (o:Obj) (pm cd doc:Value) (a:Addr) (vs:List Value) (ns:List Int),Ground q loose [] XP w s₀ mg mb s₁.heap->YP w s₁.heap->s₁.heap.get? fa=some o->o.data= .func (docDef d.name d.params d.body d.scope pm cd doc)->s₁.heap.CodeRec cd d.name->mg d.name=some (.ref fa)->s₁.heap.get? a=some {cls:= .type "list",data:= .seq vs.toArray}->IntsAre vs ns->ns.length<=n->s₁.gens= #[]->codeAny (model l.prog w) callerA (.call (.ref fa) ⟨[.ref a],[]⟩) (λ r s'=>r= .ok (.ret (.bool true))/\OldK s₁.heap s'.heap/\s'.os=s₁.os/\AllBare s'.gens) s₁):
  WalkO q loose XP YP l.row.toRowW d [] (λ f vs=>PySem.call f vs):=by
 intro w s₀ s₁ mg mb G Y fa o pm cd doc dV kV ho hd hcd hD hmg hg args vals as hpre hlay hrd hwl hlo;obtain rfl:dV= .none:=Dflts.none hD hdf;obtain rfl:kV= .none:=Dflts.noKw hD;obtain ⟨a,vs,ns,rfl,rfl,hobj,hints,hlen⟩:=QJ hn hpre hwl;refine enter_call (codeAny_mono (call w s₀ s₁ mg mb fa o pm cd doc a vs ns G Y ho (fd_plain hd) hcd hmg hobj hints hlen hg) λ r s' hq=>?_);obtain ⟨rfl,h2,h3,h4⟩:=hq;exact ⟨.inl ⟨.bool true,.bool true,[],rfl,λ _=>rfl,.bool true,QN l _,λ _=>⟨List.Pairwise.nil,λ _ hm=>(nomatch hm)⟩⟩,h2,h3,h4⟩
section
variable{prog:Program}{w:World}{A:Around}{E:Value->Shared->Prop}{s:Shared}{K:Frag}
end
end Att
namespace L2
open PySem PySem.Spec PyProof.Rows
def BK:∀{vs:List Value} {ns:List Int},IntsAre vs ns->Vals (ns.map V.int) vs
 |_,_,.nil=> .nil
 |_,_,.cons n t h=> .cons ⟨t,rfl⟩ (BK h)
def afQ(H:Hp):Prop:=∀b,H b=none\/∃o xs,H b=some (.Bd o (.lst xs))
def VS{P:Program}{w:World}{K:W.Frag}{mg mb:Str->Option Value}{CX:YV}{k:Nat}{fa a:Addr}{fd:FuncData}{x:Str}{sp:Sp}{s₁:Shared}{vs:List Value}{ns:List Int} (KX:K.In s₁.heap) (hns:s₁.heap.Ns mainGlobals mg) (hb:s₁.heap.Ns builtinsNs mb) (hbb:∀x:Str,x≠"__name__"->mb x=bootBuiltins x) (hlim:s₁.heap.NoLimit) (hg:s₁.gens= #[]) (ha:s₁.heap.get? a=some {cls:= .type "list",data:= .seq vs.toArray}) (hi:IntsAre vs ns) (hl:ns.length<=sizeLine) (hr:dQ k callerA) (F:∀base:Heap,K.In base->base.Ns mainGlobals mg->ON P w K mg base CX k fa fd [x] sp) (hbind:∀(s:Shared) (u:Value),BindsTo s fd ⟨[u],[]⟩ [(x,u)]) (EM:∀H:Hp,afQ H->oA K H a (ns.map V.int)->sp [.ref a] H (λ v _=>v= .bl true) λ _ _ _=>False) (hCX:∀H e s',CX [] H s₁ (λ _ _ _=>False) e s'->False):
  codeAny (model P w) callerA (.call (.ref fa) ⟨[.ref a],[]⟩) (λ r s'=>r= .ok (.ret (.bool true))/\OldK s₁.heap s'.heap/\s'.os=s₁.os/\AllBare s'.gens) s₁:=by
 have rv:=BK hi;have al3:=hi.length
 -- from an abstract heap in which nothing but Ao script may be tracked
 have core:∀H:Hp,afQ H->oA K H a (ns.map V.int)->pW P w H s₁.heap->(∀b,H b≠none->b=a)->(H a≠none->K.lookup a=none)->codeAny (model P w) callerA (.call (.ref fa) ⟨[.ref a],[]⟩) (λ r s'=>r= .ok (.ret (.bool true))/\OldK s₁.heap s'.heap/\s'.os=s₁.os/\AllBare s'.gens) s₁:=by
  intro H hO hS hok hA hK;have Qi:∀{b:Addr} {o:Obj},s₁.heap.get? b=some o->H b=none->(D6 s₁.heap H).get? b=some o:=λ e n=>WC e n;have noA:∀{b:Addr} {o:Obj} {es:Array DictEntry} {ep:Nat},s₁.heap.get? b=some o->o.data= .dict es ep->H b=none:=λ{b o es ep} e d=>by
   cases q:H b with
   |none=>rfl
   |some u=>have e':b=a:=hA b (by rw[q];simp);subst e';rw[ha] at e;cases e;have d':Data.seq vs.toArray _=Data.dict es ep:=d;cases d'
  have nsK:∀{b:Addr} {m:Str->Option Value},s₁.heap.Ns b m->(D6 s₁.heap H).Ns b m:=λ{b m} ⟨o,es,ep,e,d,r⟩=>⟨o,es,ep,Qi e (noA e d),d,r⟩;have hKb:K.In (D6 s₁.heap H):=λ b o e=>Qi (KX b o e) (by
   cases q:H b with
   |none=>rfl
   |some u=>have e':b=a:=hA b (by rw[q];simp);subst e';rw[hK (by rw[q];simp)] at e;cases e)
  have hM:Mod K mg (D6 s₁.heap H):=⟨hKb,nsK hns,⟨mb,nsK hb,hbb⟩,let ⟨mc,h1,h2⟩:=hlim;⟨mc,nsK h1,h2⟩⟩;have e0:OO P w K mg (D6 s₁.heap H) callerA [] s₁ H:=⟨rfl,hM,λ b o e=>aaj e,Nat.le_of_eq (RT _ _),trivial,λ b hb=>absurd (show b∈([]:List Addr) from hb) (by simp),hok,.of_eq hg⟩;refine codeAny_mono ((F _ hKb (nsK hns)).run callerA [] s₁ H ⟨[.ref a],[]⟩ [.ref a] [.ref a] _ _ hr e0 (hbind s₁ (.ref a)) (.cons rfl .nil) (EM H hO hS)) λ r s' h=>?_;cases r with
  |error e=>exact (hCX H e s' h).elim
  |ok fl=>
   cases fl with
   |next=>exact False.elim h
   |brk=>exact False.elim h
   |cont=>exact False.elim h
   |ret u=>
    obtain ⟨v,H',os,bare,un,aml,r',q⟩:=h;have q':v= .bl true:=q;subst q';obtain rfl:u=Value.bool true:=r';refine ⟨rfl,OldK.of_keep λ b o e=>?_,os,bare⟩;cases q:H b with
    |none=>exact un.keep b o e q (by intro z;exact absurd (show b∈([]:List Addr) from z) (by simp)) (by simp)
    |some u=>
     rcases hO b with z|⟨ob,xs,z⟩
     ·rw[q] at z;cases z
     ·have z2:=un.rQ b ob _ z;obtain ⟨e1,_⟩:=hok b _ z;obtain ⟨e2,_⟩:=aml b _ z2;rw[e] at e1;cases e1;exact e2
 cases hk:K.lookup a with
 |some o=>
  -- Ao script is one of Ao aie own objects
  have e:=KX a o hk;rw[ha] at e;cases e;refine core (λ _=>none) (λ _=> .inl rfl) (.inr ⟨_,vs.toArray,_,hk,rfl,rfl,rfl,by rw[List.size_toArray,al3];exact hl,by simpa using rv⟩) (λ b u z=>by have z':(none:Option HO)=some u:=z;cases z') (λ b z=>absurd rfl z) λ z=>absurd rfl z
 |none=>
  refine core (λ b=>if b=a then some (.Bd {cls:= .type "list",data:= .seq vs.toArray} (.lst (ns.map V.int))) else none) (λ b=>?_) (.inl (.inr ⟨{cls:= .type "list",data:= .seq vs.toArray},if_pos rfl⟩)) (λ b u z=>?_) (λ b z=>?_) λ _=>hk
  ·by_cases hb:b=a
   ·exact .inr ⟨_,_,if_pos hb⟩
   ·exact .inl (if_neg hb)
  ·by_cases hb:b=a
   ·have z':=(if_pos hb).symm.trans z;cases z';subst hb;exact ⟨ha,by rw[List.length_map];exact hl,vs,_,rv,ha⟩
   ·have z':=(if_neg hb).symm.trans z;cases z'
  ·by_cases hb:b=a
   ·exact hb
   ·exact absurd (if_neg hb) z
def Zu{l:W.OpenLaw}{n k:Nat}{q:Program}{loose:List Str}{XP:(Str->Option Value)->Heap->Prop}{YP:World->Heap->Prop}{d:DefRec}{K:Params->W.Frag}{CX:World->YV}{sp:World->Sp}{x:Str} (hn:l.most=some n) (hn2:n<=sizeLine) (hdf:d.params.defaults=[]) (hr:dQ k callerA) (hY:∀(w:World) (h:Heap),YP w h->(K w.params).In h) (F:∀(w:World) (mg:Str->Option Value) (fa:Addr) (h:Heap),(K w.params).In h->h.Ns mainGlobals mg->mg d.name=some (.ref fa)->∃fd:FuncData,(∀(s:Shared) (u:Value),BindsTo s fd ⟨[u],[]⟩ [(x,u)])/\∀base:Heap,(K w.params).In base->base.Ns mainGlobals mg->ON l.prog w (K w.params) mg base (CX w) k fa fd [x] (sp w)) (EM:∀(w:World) (H:Hp) (a:Addr) (ns:List Int),ns.length<=n->afQ H->oA (K w.params) H a (ns.map V.int)->sp w [.ref a] H (λ v _=>v= .bl true) λ _ _ _=>False) (hCX:∀(w:World) (H:Hp) (s:Shared) (e:Value) (s':Shared),CX w [] H s (λ _ _ _=>False) e s'->False):
  W.WalkO q loose XP YP l.row.toRowW d [] (λ f vs=>PySem.call f vs):=by
 refine Att.HH hn hdf λ w s₀ s₁ mg mb fa o pm cd doc a vs ns G Y ho hd hcd hmg hobj hints hlen hg=>?_;have KX:=hY w _ Y;obtain ⟨fd,hb,hF⟩:=F w mg fa _ KX G.T.g hmg;exact VS KX G.T.g G.T.b G.T.builtins G.T.nolimit hg hobj hints (Nat.le_trans hlen hn2) hr hF hb (λ H hO hS=>EM w H a ns hlen hO hS) λ H e s'=>hCX w H s₁ e s'
def aJ(s:Stmt):Arguments:=match s with
 | .FunctionDef _ a _ _ _ _ _ _ _ _=>a
 |_=>{posonlyargs:=[],args:=[],vararg:=none,kwonlyargs:=[],kw_defaults:=[],kwarg:=none,defaults:=[]}
def aH(s:Stmt):List Stmt:=match s with
 | .FunctionDef _ _ b _ _ _ _ _ _ _=>b
 |_=>[]
def aA(s:Stmt):Scope:=match s with
 | .FunctionDef _ _ _ _ _ _ sc _ _ _=>sc
 |_=>{kind:= .function,names:=[],isGenerator:=false,isCoroutine:=false}
structure lT(K:W.Frag)(x qual:Str)(st:Stmt)(f:Addr)(fd:FuncData):Prop where
 ex:∃(oc:Value) (od:Option Addr) (kV doc pm:Value) (an:Option Addr) (cdv ct:Value) (osl:Array (Option Value)),
  fd=W.fnOf x qual (aJ st) (aH st) (aA st) .none kV doc pm an cdv ct/\K.lookup f=some ⟨oc,od,.func fd,osl⟩/\W.codeIn K cdv qual=true
 kp:W.keepIn K (.ref f)=true
section
variable{P:Program}{w:World}{K:W.Frag}{mg:Str->Option Value}{base:Heap}
def lT.binds{x qual:Str}{st:Stmt}{f:Addr}{fd:FuncData}{ps:List Str}(F:lT K x qual st f fd) (h:∀(kV doc pm:Value) (an:Option Addr) (cdv ct:Value) (us:List Value),us.length=ps.length->bindArgs (W.fnOf x qual (aJ st) (aH st) (aA st) .none kV doc pm an cdv ct) ⟨us,[]⟩=pure (ps.zip us)):Binds K fd ps []:=by obtain ⟨oc,od,kV,doc,pm,an,cdv,ct,osl,rfl,lk,hcd⟩:=F.ex;exact .all (h kV doc pm an cdv ct)
def bu{x qual:Str}{st:Stmt}{f:Addr}{oc:Value}{od an:Option Addr}{osl:Array (Option Value)}{kV doc pm cdv ct:Value}(l:K.lookup f=some ⟨oc,od,.func (W.fnOf x qual (aJ st) (aH st) (aA st) .none kV doc pm an cdv ct),osl⟩) (c:W.codeIn K cdv qual=true) (k:W.keepIn K (.ref f)=true):lT K x qual st f (W.fnOf x qual (aJ st) (aH st) (aA st) .none kV doc pm an cdv ct):=⟨⟨oc,od,kV,doc,pm,an,cdv,ct,osl,rfl,l,c⟩,k⟩
end
def qa{n:Nat}(h:n<=1000):n<sizeLine:=Nat.lt_of_le_of_lt h (by decide)
section
variable{X:Cx}
end
def Ka{A B:Prop}(h:B):if false=true then A else B:=by rw[if_neg Bool.false_ne_true];exact h
def J9{A B:Prop}(h:A):if true=true then A else B:=by rw[if_pos rfl];exact h
def au(H H':Hp):Prop:=∀b o,H b=some o->H' b=some o
def au.refl(H:Hp):au H H:=λ _ _ h=>h
def au.trans{H H1 H2:Hp}(a:au H H1)(b:au H1 H2):au H H2:=λ c o h=>b c o (a c o h)
def au.free{H H':Hp}(e:au H H'){l:Addr}(h:H' l=Option.none):H l=Option.none:=by
 cases q:H l with
 |none=>rfl
 |some o=>rw[e l o q] at h;cases h
section
variable{κ:Type} [DecidableEq κ]
end
end L2
end
section
namespace L4
open PySem
def xC(n:Nat)(i:Int):Option Nat:=if 0<=i then (if i<n then some i.toNat else none) else if -(n:Int)<=i then some (i+n).toNat else none
def Ah{α:Type}(xs:List α)(i:Int):Option α:=(xC xs.length i).bind λ j=>xs[j]?
def BV(n d:Nat):Option Int->Nat
 |none=>d
 |some v=>if v<0 then (v+(n:Int)).toNat else min v.toNat n
inductive Ks where
 |s (ks:List (Sum Int Str))|t (ks:List (List (Sum Int Str)))
def Ks.len:Ks->Nat
 | .s ks=>ks.length
 | .t ks=>ks.length
inductive D where
 |dY|bl (b:Bool)|int (i:Int)|str (x:Str)|tup (xs:List D)|lst (xs:List D)
 /-- a tuple CS is a constant of Ao module -/
 |gt (xs:List D)
 /-- an instance CS aeA changes any more;an exception -/
 |obj (c:String) (ns:List Str) (xs:List D)|exc (c:String)
 /-- a list CS aj1 za:for this expression (true),for this call (false) -/
 |bor (t:Bool) (xs:List D)
 /-- a dict CS aeA changes;a lent one -/
 |uh (ks:Ks) (xs:List D)|oq (t:Bool) (ks:Ks) (xs:List D)
 /-- a lent instance CS may change -/
 |vp (t:Bool) (c:String) (ns:List Str) (xs:List D)
inductive M where
 |d (x:D)|l (xs:List D)|n (ms:List M)|t (ms:List M)|k (ks:Ks) (xs:List D)
 /-- an instance CS may change -/
 |o (c:String) (ns:List Str) (xs:List D)
mutual
/-- lent for an expression -/
noncomputable def lend:M->D
 | .d x=>x
 | .l xs=> .bor true xs
 | .n ms=> .bor true (za ms)
 | .t ms=> .tup (za ms)
 | .k ks xs=> .oq true ks xs
 | .o c ns xs=> .vp true c ns xs
noncomputable def za:List M->List D
 |[]=>[]
 |m::ms=>lend m::za ms
end
mutual
/-- changed no more -/
noncomputable def R0:M->D
 | .d x=>x
 | .l xs=> .lst xs
 | .n ms=> .lst (Bc ms)
 | .t ms=> .tup (Bc ms)
 | .k ks xs=> .uh ks xs
 | .o _ _ _=> .dY
noncomputable def Bc:List M->List D
 |[]=>[]
 |m::ms=>R0 m::Bc ms
end
mutual
/-- no instance CS may change is in it -/
noncomputable def GX:M->Bool
 | .n ms=>Cp ms
 | .t ms=>Cp ms
 | .o _ _ _=>false
 |_=>true
noncomputable def Cp:List M->Bool
 |[]=>true
 |m::ms=>GX m&&Cp ms
end
mutual
/-- nothing lent for Ao expression alone is in it -/
noncomputable def nt:D->Bool
 | .tup xs=>kR xs
 | .gt xs=>kR xs
 | .lst xs=>kR xs
 | .obj _ _ xs=>kR xs
 | .uh _ xs=>kR xs
 | .bor t xs=>!t&&kR xs
 | .oq t _ xs=>!t&&kR xs
 | .vp t _ _ xs=>!t&&kR xs
 |_=>true
noncomputable def kR:List D->Bool
 |[]=>true
 |d::ds=>nt d&&kR ds
end
mutual
/-- nothing lent is in it -/
noncomputable def nb:D->Bool
 | .tup xs=>oj xs
 | .gt xs=>oj xs
 | .lst xs=>oj xs
 | .obj _ _ xs=>oj xs
 | .uh _ xs=>oj xs
 | .bor _ _=>false
 | .oq _ _ _=>false
 | .vp _ _ _ _=>false
 |_=>true
noncomputable def oj:List D->Bool
 |[]=>true
 |d::ds=>nb d&&oj ds
end
mutual
/-- lent on to a def CS is called -/
noncomputable def dn:D->D
 | .tup xs=> .tup (oH xs)
 | .gt xs=> .gt (oH xs)
 | .lst xs=> .lst (oH xs)
 | .obj c ns xs=> .obj c ns (oH xs)
 | .uh ks xs=> .uh ks (oH xs)
 | .bor _ xs=> .bor false (oH xs)
 | .oq _ ks xs=> .oq false ks (oH xs)
 | .vp _ c ns xs=> .vp false c ns (oH xs)
 |d=>d
noncomputable def oH:List D->List D
 |[]=>[]
 |d::ds=>dn d::oH ds
end
mutual
def JB:M->Bool
 | .d x=>nb x
 | .l xs=>oj xs
 | .n ms=>Vu ms
 | .t ms=>Vu ms
 | .k _ xs=>oj xs
 | .o _ _ xs=>oj xs
def Vu:List M->Bool
 |[]=>true
 |m::ms=>JB m&&Vu ms
end
mutual
def F8:M->Bool
 | .d x=>nt x
 | .l xs=>kR xs
 | .n ms=>Vo ms
 | .t ms=>Vo ms
 | .k _ xs=>kR xs
 | .o _ _ xs=>kR xs
def Vo:List M->Bool
 |[]=>true
 |m::ms=>F8 m&&Vo ms
end
inductive Res(α:Type) where
 |ok (a:α)|err (c:String)|bad
def Res.bnd{α β:Type}(r:Res α)(f:α->Res β):Res β:=match r with
 | .ok a=>f a
 | .err c=> .err c
 | .bad=> .bad
@[simp] theorem Res.lS{α β:Type}(a:α)(f:α->Res β):(Res.ok a).bnd f=f a:=(rfl)
@[simp] theorem Res.Qe{α β:Type}(c:String)(f:α->Res β):(Res.err c:Res α).bnd f= .err c:=(rfl)
@[simp] theorem Res.Qf{α β:Type}(f:α->Res β):(Res.bad:Res α).bnd f= .bad:=(rfl)
inductive Slot where
 |no|val (d:D)|own (m:M)|par (m:M)
noncomputable abbrev Sg:=List Slot
inductive Out where
 |nx (Γ:Sg)|bk (Γ:Sg)|ct (Γ:Sg)|rt (d:D)|O3 (m:M)|SQ (d:D) (Γ:Sg)|Av (m:M) (Γ:Sg)|err (c:String) (Γ:Sg)|bad
def ao(i:Nat):Sg->Res D:=λ Γ=>match Γ[i]? with
 |some (.val d)=> .ok d
 |_=> .bad
def bN(i:Nat):Sg->Res D:=λ Γ=>match Γ[i]? with
 |some (.val d)=> .ok d
 |some (.own m)=> .ok (lend m)
 |some (.par m)=> .ok (lend m)
 |_=> .bad
def dC(d:D):Sg->Res D:=λ _=> .ok d
def aO(r:D->D->Res D)(f g:Sg->Res D):Sg->Res D:=λ Γ=>(f Γ).bnd λ x=>(g Γ).bnd λ y=>r x y
noncomputable def tst:D->Res Bool
 | .bl b=> .ok b
 |_=> .bad
def dT(f:Sg->Res D):Sg->Res Bool:=λ Γ=>(f Γ).bnd tst
def Sv(f g:Sg->Res Bool):Sg->Res Bool:=λ Γ=>(f Γ).bnd λ c=>if c=true then g Γ else .ok false
def Y7(f g:Sg->Res Bool):Sg->Res Bool:=λ Γ=>(f Γ).bnd λ c=>if c=true then .ok true else g Γ
def qE(f:Sg->Res Bool):Sg->Res Bool:=λ Γ=>(f Γ).bnd λ c=> .ok (!c)
def Kz(f g:Sg->Res D):Sg->Res D:=λ Γ=>(f Γ).bnd λ x=>(tst x).bnd λ c=>if c=true then g Γ else .ok (.bl false)
def afr(f:Sg->Res D):Sg->Res D:=λ Γ=>(f Γ).bnd λ x=>(tst x).bnd λ c=> .ok (.bl (!c))
def aB:Sg->Res (List D):=λ _=> .ok []
def ai(f:Sg->Res D)(r:Sg->Res (List D)):Sg->Res (List D):=λ Γ=>(f Γ).bnd λ x=>(r Γ).bnd λ xs=> .ok (x::xs)
def fj(r:Sg->Res (List D)):Sg->Res D:=λ Γ=>(r Γ).bnd λ xs=>if xs.length<=1000 then .ok (.tup xs) else .bad
def pQ(r:Sg->Res (List D)):Sg->Res (List D):=λ Γ=>(r Γ).bnd λ xs=>if xs.length<=1000 then .ok xs else .bad
def sr(f:Sg->Res (List D)):Sg->Res D:=λ Γ=>(f Γ).bnd λ ds=> .ok (.lst ds)
def oE{α:Type}(r:Res α)(Γ:Sg)(k:α->Out):Out:=match r with
 | .ok d=>k d
 | .err c=> .err c Γ
 | .bad=> .bad
@[simp] theorem ah2{α:Type}(d:α)(Γ:Sg)(k:α->Out):oE (.ok d) Γ k=k d:=(rfl)
@[simp] theorem alP{α:Type}(c:String)(Γ:Sg)(k:α->Out):oE (.err c) Γ k= .err c Γ:=(rfl)
def dh:Sg->Out:=λ Γ=> .nx Γ
def aN(F G:Sg->Out):Sg->Out:=λ Γ=>match F Γ with
 | .nx Γ'=>G Γ'
 |o=>o
def BW(f:Sg->Res D):Sg->Out:=λ Γ=>oE (f Γ) Γ λ _=> .nx Γ
def gZ(f:Sg->Res D):Sg->Out:=λ Γ=>oE (f Γ) Γ λ d=> .rt d
def BU(f:Sg->Res D):Sg->Out:=λ Γ=>oE (f Γ) Γ λ d=>if nt d=true then .rt d else .bad
def vE(f:Sg->Res M):Sg->Out:=λ Γ=>oE (f Γ) Γ λ m=>if F8 m=true then .O3 m else .bad
def yo(i:Nat):Sg->Out:=λ Γ=>match Γ[i]? with
 |some (.own m)=> .O3 m
 |some (.val d)=> .rt d
 |_=> .bad
def uQ(p:Sg->Res Bool)(F G:Sg->Out):Sg->Out:=λ Γ=>oE (p Γ) Γ λ c=>if c=true then F Γ else G Γ
def gR(i:Nat)(f:Sg->Res D):Sg->Out:=λ Γ=>oE (f Γ) Γ λ d=> .nx (Γ.set i (.val d))
def Ut(i:Nat)(f:Sg->Res D):Sg->Out:=λ Γ=>oE (f Γ) Γ λ d=>if nt d=true then .nx (Γ.set i (.val d)) else .bad
def lz(i:Nat)(f:Sg->Res M):Sg->Out:=λ Γ=>oE (f Γ) Γ λ m=>if F8 m=true then .nx (Γ.set i (.own m)) else .bad
def mL(f:Sg->Res (List D)):Sg->Res M:=λ Γ=>(f Γ).bnd λ ds=> .ok (.l ds)
def mD(f:Sg->Res D):Sg->Res M:=λ Γ=>(f Γ).bnd λ d=> .ok (.d d)
def fzR(m:M):Res D:=if GX m=true then .ok (R0 m) else .bad
def rW(f:Sg->Res M):Sg->Res D:=λ Γ=>(f Γ).bnd fzR
abbrev Tg:=D->Sg->Option Sg
abbrev YQ:=List D->Sg->Option Sg
def aG(i:Nat):Tg:=λ d Γ=>some (Γ.set i (.val d))
def iB:YQ:=λ ds Γ=>match ds with
 |[]=>some Γ
 |_=>none
def aW(t:Tg)(u:YQ):YQ:=λ ds Γ=>match ds with
 |d::r=>(t d Γ).bind λ Γ'=>u r Γ'
 |[]=>none
def gU(n:Nat)(t:YQ):Tg:=λ d Γ=>match d with
 | .tup ds=>if ds.length=n then t ds Γ else none
 |_=>none
def ape(f:Sg->Res D)(t:Tg):Sg->Out:=λ Γ=>oE (f Γ) Γ λ d=>match t d Γ with
 |some Γ'=> .nx Γ'
 |none=> .bad
def BX(f:Sg->Res D)(t:Tg):Sg->Out:=λ Γ=>oE (f Γ) Γ λ d=>if nt d=true then (match t d Γ with
 |some Γ'=> .nx Γ'
 |none=> .bad) else .bad
def adV(i k:Nat)(r:Sg->Res (List D)):Sg->Out:=λ Γ=>oE (r Γ) Γ λ ds=>match ds with
 |[x,y]=> .nx ((Γ.set i (.val x)).set k (.val y))
 |_=> .bad
def fM(t:Tg)(B:Sg->Out):List D->Sg->Out
 |[],Γ=> .nx Γ
 |x::xs,Γ=>match t x Γ with
  |none=> .bad
  |some Γ1=>match B Γ1 with
   | .nx Γ'=>fM t B xs Γ'
   | .ct Γ'=>fM t B xs Γ'
   | .bk Γ'=> .nx Γ'
   |o=>o
def eG(p:Sg->Res Bool)(B:Sg->Out):Nat->Sg->Out
 |0,_=> .bad
 |n+1,Γ=>oE (p Γ) Γ λ c=>if c=true then (match B Γ with
   | .nx Γ'=>eG p B n Γ'
   | .ct Γ'=>eG p B n Γ'
   | .bk Γ'=> .nx Γ'
   |o=>o) else .nx Γ
def drop_one{α:Type}{xs:List α}{i:Nat}{d:α}(h:xs[i]? =some d):xs.drop i=d::xs.drop (i+1):=by obtain ⟨hi,e⟩:=List.getElem?_eq_some_iff.mp h;rw[List.drop_eq_getElem_cons hi,e]
def zy(lo:Int)(n:Nat):List D:=(List.range n).map λ(k:Nat)=>D.int (lo+k)
def RM{lo:Int}{n i:Nat}(h:i<n):(zy lo n)[i]? =some (.int (lo+i)):=by unfold zy;rw[List.getElem?_map,List.getElem?_range h];rfl
def Ck{lo:Int}{n:Nat}:(zy lo n).length=n:=by simp[zy]
def QL(ds:List D):Res (List D):=match ds with
 |[.int j]=>if -(2^62)<=j/\j<2^62 then .ok (zy 0 j.toNat) else .bad
 |_=> .bad
def ZL{ds:List D}{xs:List D}(h:QL ds= .ok xs):∃j,ds=[.int j]/\ -(2^62)<=j/\j<2^62/\xs=zy 0 j.toNat:=by
 unfold QL at h;split at h
 ·split at h
  ·rename_i j hj;cases h;exact ⟨j,rfl,hj.1,hj.2,rfl⟩
  ·cases h
 ·cases h
def ZM(ds:List D)(c:String):QL ds≠.err c:=by
 unfold QL;split
 ·split<;>exact λ z=>nomatch z
 ·exact λ z=>nomatch z
inductive cJ where
 |ok (d:D)|new (m:M)|QY (d:D) (os:List (Nat×M))|Gd (m:M) (os:List (Nat×M))|err (c:String)|bad
def b7:Nat->Sg->List (Nat×M)
 |_,[]=>[]
 |i,.par m::r=>(i,m)::b7 (i+1) r
 |i,_::r=>b7 (i+1) r
def mX:Out->cJ
 | .nx _=> .ok .dY
 | .rt d=> .ok d
 | .O3 m=> .new m
 | .SQ d Γ=> .QY d (b7 0 Γ)
 | .Av m Γ=> .Gd m (b7 0 Γ)
 | .err c _=> .err c
 |_=> .bad
def SA:Out->cJ
 | .nx Γ=> .QY .dY (b7 0 Γ)
 |o=>mX o
def wQ:cJ->Res D
 | .ok d=> .ok d
 | .new m=>fzR m
 | .err c=> .err c
 |_=> .bad
noncomputable def nu:cJ->Res M
 | .ok d=> .ok (.d d)
 | .new m=> .ok m
 | .err c=> .err c
 |_=> .bad
def ez(n:Nat)(F:List Slot->cJ)(fa:Sg->Res (List D)):Sg->Res D:=λ Γ=>(fa Γ).bnd λ ds=>if ds.length=n then wQ (F (ds.map Slot.val)) else .bad
def VF(n:Nat)(F:List Slot->cJ)(fa:Sg->Res (List D)):Sg->Res M:=λ Γ=>(fa Γ).bnd λ ds=>if ds.length=n then nu (F (ds.map Slot.val)) else .bad
def fT(n:Nat)(F:List Slot->cJ)(fa:Sg->Res (List D)):Sg->Res D:=λ Γ=>(fa Γ).bnd λ ds=>if ds.length=n/\kR ds=true then wQ (F (ds.map Slot.val)) else .bad
def pI(n:Nat)(F:List Slot->cJ)(fa:Sg->Res (List D)):Sg->Res M:=λ Γ=>(fa Γ).bnd λ ds=>if ds.length=n/\kR ds=true then nu (F (ds.map Slot.val)) else .bad
def Vv:cJ->cJ
 | .ok d=>if nb d=true then .ok d else .bad
 | .new m=>if JB m=true then .new m else .bad
 | .err c=> .err c
 |_=> .bad
def d7(n:Nat)(F:List Slot->cJ)(fa:Sg->Res (List D)):Sg->Res D:=λ Γ=>(fa Γ).bnd λ ds=>if ds.length=n then wQ (Vv (F ((oH ds).map Slot.val))) else .bad
def rJ(n:Nat)(F:List Slot->cJ)(fa:Sg->Res (List D)):Sg->Res M:=λ Γ=>(fa Γ).bnd λ ds=>if ds.length=n then nu (Vv (F ((oH ds).map Slot.val))) else .bad
def dg(N:List Str)(as:List Slot):Sg:=as++List.replicate (N.length- as.length) Slot.no
noncomputable def intD(C:Int->Int->Bool)(g:Int->Int->D):D->D->Res D
 | .int i,.int j=>if C i j=true then .ok (g i j) else .bad
 |_,_=> .bad
@[simp] theorem Wo(C:Int->Int->Bool)(g:Int->Int->D)(i j:Int):intD C g (.int i) (.int j)=if C i j=true then .ok (g i j) else .bad:=(rfl)
abbrev yes:Int->Int->Bool:=λ _ _=>true
def IK:D->D->Res D:=intD yes λ i j=> .int (i- j)
noncomputable def pD(i j:Int):Bool:=decide (Builtin.Int.intBits i<=64)||decide (Builtin.Int.intBits j<=64)||(decide (Builtin.Int.intBits i<=2^20)&&decide (Builtin.Int.intBits j<=2^20))
def qy:D->D->Res D:=intD pD λ i j=> .int (i*j)
def Cu(_ j:Int):Bool:=decide (j≠0)&&decide (j.natAbs.log2<9000)
def fZ:D->D->Res D:=intD Cu λ i j=> .int (i.fdiv j)
def iL:D->D->Res D:=intD (λ _ j=>decide (j≠0)) λ i j=> .int (i.fmod j)
noncomputable def O7(i j:Int):Bool:=decide (0<=j)&&decide (j<=1000000)&&decide (i.natAbs<2^64)
def UH:D->D->Res D:=intD O7 λ i j=> .int (i^j.toNat)
def ag7:D->D->Res D:=intD yes λ i j=> .int (Builtin.bitXor i j)
def ltI:D->D->Res D:=intD yes λ i j=> .bl (decide (i<j))
def leI:D->D->Res D:=intD yes λ i j=> .bl (decide (i<=j))
noncomputable def Q8:D->Res D
 | .int i=> .ok (.int (-i))
 |_=> .bad
def dUn(r:D->Res D)(f:Sg->Res D):Sg->Res D:=λ Γ=>(f Γ).bnd r
def xM(r:List D->Res D)(fa:Sg->Res (List D)):Sg->Res D:=λ Γ=>(fa Γ).bnd r
noncomputable def XN:List D->Res D
 |[.int i]=> .ok (.int (if i<0 then -i else i))
 |_=> .bad
noncomputable def kC:List D->Res D
 |[.lst ds]=> .ok (.int ds.length)
 |[.tup ds]=> .ok (.int ds.length)
 |[.gt ds]=> .ok (.int ds.length)
 |[.bor _ ds]=> .ok (.int ds.length)
 |[.str x]=>if x.length<=sizeLine then .ok (.int x.length) else .bad
 |_=> .bad
mutual
noncomputable def py:D->PyData
 | .dY=> .none
 | .bl b=> .bool b
 | .int i=> .int i
 | .str x=> .str x
 | .tup ds=> .tuple (Ag ds)
 | .gt ds=> .tuple (Ag ds)
 | .lst ds=> .list (Ag ds)
 | .bor _ ds=> .list (Ag ds)
 | .obj _ _ _=> .none
 | .exc _=> .none
 | .uh _ _=> .none
 | .oq _ _ _=> .none
 | .vp _ _ _ _=> .none
noncomputable def Ag:List D->List PyData
 |[]=>[]
 |d::ds=>py d::Ag ds
end
noncomputable def fW:Nat->D->Bool
 |_,.dY=>true
 |_,.bl _=>true
 |_,.int _=>true
 |_,.str x=>PyData.strOk x
 |n+1,.tup ds=>ds.all (fW n)
 |n+1,.gt ds=>ds.all (fW n)
 |n+1,.lst ds=>ds.all (fW n)
 |n+1,.bor _ ds=>ds.all (fW n)
 |_,_=>false
def W8(x y:D):Bool:=(py x).eqv (py y)
def zI(x y:D):Res D:=if fW 12 x=true/\fW 12 y=true then .ok (.bl (W8 x y)) else .bad
def xu(x y:D):Res D:=if fW 12 x=true/\fW 12 y=true then .ok (.bl (!W8 x y)) else .bad
def Qh(i j:Int):(i==j)=decide (i=j):=by
 by_cases h:i=j
 ·subst h;simp
 ·simp[h]
@[simp] theorem xK(i j:Int):zI (.int i) (.int j)= .ok (.bl (decide (i=j))):=by simp[zI,fW,W8,py,PyData.eqv,Qh]
@[simp] theorem akj(i j:Int):xu (.int i) (.int j)= .ok (.bl (!decide (i=j))):=by simp[xu,fW,W8,py,PyData.eqv,Qh]
def fQ:D->D->Res D
 | .lst ds,.int i=>match Ah ds i with
  |some d=> .ok d
  |none=> .bad
 | .bor _ ds,.int i=>match Ah ds i with
  |some d=> .ok d
  |none=> .bad
 | .tup ds,.int i=>match Ah ds i with
  |some d=> .ok d
  |none=> .bad
 | .gt ds,.int i=>match Ah ds i with
  |some d=> .ok d
  |none=> .bad
 | .str x,.int i=>if x.length<=sizeLine then (match Ah x.cps.toList i with
  |some c=> .ok (.str ⟨#[c]⟩)
  |none=> .bad) else .bad
 |_,_=> .bad
def oz:D->D->Res D
 | .int i,.int j=> .ok (.int (i+j))
 | .str x,.str y=>if x.length+y.length<=sizeLine then .ok (.str (x++y)) else .bad
 |_,_=> .bad
@[simp] theorem ai4(i j:Int):oz (.int i) (.int j)= .ok (.int (i+j)):=(rfl)
noncomputable def asL:D->Option (List D)
 | .lst xs=>some xs
 | .bor _ xs=>some xs
 |_=>none
@[simp] theorem akD(xs:List D):asL (.lst xs)=some xs:=(rfl)
def afy(x y:D):Res (List D):=match asL x,asL y with
 |some xs,some ys=>if xs.length+ys.length<=sizeLine then .ok (xs++ys) else .bad
 |_,_=> .bad
def lOp(r:D->D->Res (List D))(f g:Sg->Res D):Sg->Res (List D):=λ Γ=>(f Γ).bnd λ x=>(g Γ).bnd λ y=>r x y
def Ho{α:Type}(xs:List α)(lo hi:Option Int):List α:=(xs.drop (BV xs.length 0 lo)).take (BV xs.length xs.length hi- BV xs.length 0 lo)
def dP(f:Sg->Res D):Sg->Res (Option Int):=λ Γ=>(f Γ).bnd λ d=>match d with
 | .int i=> .ok (some i)
 |_=> .bad
def aeN(f:Sg->Res D)(l u:Sg->Res (Option Int)):Sg->Res (List D):=λ Γ=>(f Γ).bnd λ d=>(l Γ).bnd λ lo=>(u Γ).bnd λ hi=>match asL d with
 |some xs=> .ok (Ho xs lo hi)
 |none=> .bad
noncomputable def XG:M->List Nat->Option M
 |m,[]=>some m
 | .n ms,k::ks=>(ms[k]?).bind λ m=>XG m ks
 | .t ms,k::ks=>(ms[k]?).bind λ m=>XG m ks
 |_,_::_=>none
noncomputable def oh:M->List Nat->M->M
 |_,[],m'=>m'
 | .n ms,k::ks,m'=> .n (match ms[k]? with
  |some m=>ms.set k (oh m ks m')
  |none=>ms)
 | .t ms,k::ks,m'=> .t (match ms[k]? with
  |some m=>ms.set k (oh m ks m')
  |none=>ms)
 |m,_::_,_=>m
noncomputable def QI:Slot->Option M
 | .own m=>some m
 | .par m=>some m
 |_=>none
def kU(i:Nat):Sg->Res (List Nat):=λ Γ=>match (Γ[i]?).bind QI with
 |some _=> .ok []
 |none=> .bad
def Uw:Slot->M->Slot
 | .own _,m=> .own m
 | .par _,m=> .par m
 |s,_=>s
def yb(i:Nat)(ks:List Nat)(f:M->Option M)(Γ:Sg):Option Sg:=(Γ[i]?).bind λ s=>(QI s).bind λ m=>(XG m ks).bind λ m'=>(f m').map λ fP=>Γ.set i (Uw s (oh m ks fP))
def YZ:Option Sg->Out
 |some Γ=> .nx Γ
 |none=> .bad
def Sy(d:D):M->Option M
 | .l xs=>if xs.length<1000000/\nt d=true then some (.l (xs++[d])) else none
 | .n ms=>if ms.length<1000000/\nt d=true then some (.n (ms++[.d d])) else none
 |_=>none
noncomputable def afx:M->Option M
 | .l _=>some (.l [])
 | .n _=>some (.n [])
 |_=>none
def setM(z:Int)(d:D):M->Option M
 | .l xs=>if nt d=true then (xC xs.length z).map λ j=> .l (xs.set j d) else none
 | .n ms=>if nt d=true then (xC ms.length z).map λ j=> .n (ms.set j (.d d)) else none
 |_=>none
noncomputable def Wi:Option M->Bool
 |some (.l _)=>true
 |some (.n _)=>true
 |_=>false
def yN(i:Nat)(ks:List Nat)(Γ:Sg):Option M:=((Γ[i]?).bind QI).bind λ m=>XG m ks
def C8(i:Nat)(g:Sg->Res (List Nat))(f:Sg->Res D):Sg->Out:=λ Γ=>oE (g Γ) Γ λ ks=>if Wi (yN i ks Γ)=true then oE (f Γ) Γ λ d=>YZ (yb i ks (Sy d) Γ) else .bad
def uR(i:Nat)(g:Sg->Res (List Nat)):Sg->Out:=λ Γ=>oE (g Γ) Γ λ ks=>YZ (yb i ks afx Γ)
def ym(i:Nat)(g:Sg->Res (List Nat))(fk f:Sg->Res D):Sg->Out:=λ Γ=>oE (f Γ) Γ λ d=>oE (g Γ) Γ λ ks=>oE (fk Γ) Γ λ z=>match z with
 | .int z=>YZ (yb i ks (setM z d) Γ)
 |_=> .bad
def mE(fi:Sg->Res (List D))(t:Tg)(B:Sg->Out):Sg->Out:=λ Γ=>oE (fi Γ) Γ λ xs=>fM t B xs Γ
def pM(r:Sg->Res (List D)):Sg->Res (List D):=λ Γ=>(r Γ).bnd QL
def abE(tm:Bool):Slot->Slot
 | .val d=> .val d
 | .own m=>if tm=true then .val (lend m) else .no
 | .par m=>if tm=true then .val (lend m) else .no
 | .no=> .no
def v5(tm:Bool)(k:Nat)(caps:List Nat)(Γ:Sg):Sg:=List.replicate k .no++caps.map λ i=>abE tm ((Γ[i]?).getD .no)
def Qg{tm:Bool}{k:Nat}{caps:List Nat}{Γ:Sg}{i:Nat}{sl:Slot}(h:(v5 tm k caps Γ)[i]? =some sl):sl= .no\/∃c sc,caps[i- k]? =some c/\k<=i/\Γ[c]? =some sc/\sl=abE tm sc:=by
 unfold v5 at h;by_cases hi:i<k
 ·rw[List.getElem?_append_left (by simpa using hi),List.getElem?_replicate,if_pos hi] at h;cases h;exact .inl rfl
 ·rw[List.getElem?_append_right (by simpa using hi),List.length_replicate,List.getElem?_map] at h;cases q:caps[i- k]? with
  |none=>rw[q] at h;cases h
  |some c=>
   rw[q] at h;simp only[Option.map_some,Option.some.injEq] at h;subst h;cases q2:Γ[c]? with
   |none=>exact .inl rfl
   |some sl=>exact .inr ⟨c,sl,rfl,Nat.le_of_not_lt hi,q2,rfl⟩
def Y6(t:Tg)(p:Sg->Res Bool)(fe:Sg->Res D)(Γ0:Sg)(x:D):Res (Option D):=match t x Γ0 with
 |none=> .bad
 |some Γ1=>match p Γ1 with
  | .ok true=>(match fe Γ1 with
   | .ok d=> .ok (some d)
   |_=> .bad)
  | .ok false=> .ok none
  |_=> .bad
def uA(e:D->Res (Option D)):List D->Res (List D)
 |[]=> .ok []
 |x::xs=>(e x).bnd λ o=>(uA e xs).bnd λ r=> .ok (match o with
  |some d=>d::r
  |none=>r)
def iC(tm:Bool)(fi:Sg->Res (List D))(k:Nat)(caps:List Nat)(t:Tg)(p:Sg->Res Bool)(fe:Sg->Res D):Sg->Res (List D):=λ Γ=>(fi Γ).bnd λ xs=>if xs.length<1000000 then uA (Y6 t p fe (v5 tm k caps Γ)) xs else .bad
def Y5(t:Tg)(p:Sg->Res Bool)(fe:Sg->Res M)(Γ0:Sg)(x:D):Res (Option M):=match t x Γ0 with
 |none=> .bad
 |some Γ1=>match p Γ1 with
  | .ok true=>(match fe Γ1 with
   | .ok d=> .ok (some d)
   |_=> .bad)
  | .ok false=> .ok none
  |_=> .bad
def lI(e:D->Res (Option M)):List D->Res (List M)
 |[]=> .ok []
 |x::xs=>(e x).bnd λ o=>(lI e xs).bnd λ r=> .ok (match o with
  |some d=>d::r
  |none=>r)
def Pp(tm:Bool)(fi:Sg->Res (List D))(k:Nat)(caps:List Nat)(t:Tg)(p:Sg->Res Bool)(fe:Sg->Res M):Sg->Res (List M):=λ Γ=>(fi Γ).bnd λ xs=>if xs.length<1000000 then lI (Y5 t p fe (v5 tm k caps Γ)) xs else .bad
def mN(f:Sg->Res (List M)):Sg->Res M:=λ Γ=>(f Γ).bnd λ ms=> .ok (.n ms)
def afl{t:Tg}{p:Sg->Res Bool}{fe:Sg->Res M}{Γ0:Sg}{x:D}{c:String}:Y5 t p fe Γ0 x≠.err c:=by
 unfold Y5;split
 ·exact λ z=>nomatch z
 ·split
  ·split<;>exact λ z=>nomatch z
  ·exact λ z=>nomatch z
  ·exact λ z=>nomatch z
def Hv{e:D->Res (Option M)}(he:∀x c,e x≠.err c):∀xs c,lI e xs≠.err c
 |[],c=>λ z=>nomatch z
 |x::xs,c=>by
  simp only[lI];cases q:e x with
  |ok o=>
   cases q2:lI e xs with
   |ok r=>exact λ z=>nomatch z
   |err c'=>exact absurd q2 (Hv he xs c')
   |bad=>exact λ z=>nomatch z
  |err c'=>exact absurd q (he x c')
  |bad=>exact λ z=>nomatch z
def KQ{e:D->Res (Option M)}{x:D}{xs:List D}{r:List M}(h:lI e (x::xs)= .ok r):∃o r',e x= .ok o/\lI e xs= .ok r'/\r=(match o with|some d=>d::r'|none=>r'):=by
 simp only[lI] at h;cases q:e x with
 |ok o=>
  cases q2:lI e xs with
  |ok r'=>rw[q,q2] at h;cases h;exact ⟨o,r',rfl,rfl,rfl⟩
  |err c'=>rw[q,q2] at h;cases h
  |bad=>rw[q,q2] at h;cases h
 |err c'=>rw[q] at h;cases h
 |bad=>rw[q] at h;cases h
def abo{t:Tg}{p:Sg->Res Bool}{fe:Sg->Res D}{Γ0:Sg}{x:D}:Y5 t p (mD fe) Γ0 x=(Y6 t p fe Γ0 x).bnd λ o=> .ok (o.map M.d):=by
 unfold Y5 Y6 mD;cases t x Γ0 with
 |none=>rfl
 |some Γ1=>
  dsimp only;cases p Γ1 with
  |ok b=>
   cases b with
   |false=>rfl
   |true=>dsimp only;cases fe Γ1<;>rfl
  |err c=>rfl
  |bad=>rfl
def vU{t:Tg}{p:Sg->Res Bool}{fe:Sg->Res D}{Γ0:Sg}:∀(xs:List D),lI (Y5 t p (mD fe) Γ0) xs=(uA (Y6 t p fe Γ0) xs).bnd λ ds=> .ok (ds.map M.d)
 |[]=>rfl
 |x::xs=>by
  simp only[lI,uA,vU xs,abo];cases Y6 t p fe Γ0 x with
  |ok o=>
   simp only[Res.lS];cases uA (Y6 t p fe Γ0) xs with
   |ok r=>cases o<;>rfl
   |err c=>rfl
   |bad=>rfl
  |err c=>rfl
  |bad=>rfl
def uH:Sg->Res Bool:=λ _=> .ok true
def ah5(Γ:Sg):Prop:=∀(i:Nat) (m:M),Γ[i]?≠some (.own m)/\Γ[i]?≠some (.par m)
def oX(c:String)(fa:Sg->Res (List D)):Sg->Out:=λ Γ=>oE (fa Γ) Γ λ ds=>if ds.length<=1000 then .err c Γ else .bad
def tryD(hit:String->Option Bool)(F:Sg->Out)(G:String->Sg->Out):Sg->Out:=λ Γ=>match F Γ with
 | .err c Γ1=>(match hit c with
  |some true=>G c Γ1
  |_=> .bad)
 |o=>o
def aai(i:Nat):Out->Out
 | .nx Γ=> .nx (Γ.set i .no)
 | .bk Γ=> .bk (Γ.set i .no)
 | .ct Γ=> .ct (Γ.set i .no)
 | .err _ _=> .bad
 |o=>o
def qL(mt:List (String×List String))(T:String):String->Option Bool:=λ c=>(mt.lookup c).map (·.contains T)
def C7(i:Nat)(hit:String->Option Bool)(F G:Sg->Out):Sg->Out:=tryD hit F λ c Γ1=>aai i (G (Γ1.set i (.val (.exc c))))
def kinds(mt:List (String×List String)):D->Option (List String)
 | .dY=>some ["NoneType"]
 | .bl _=>some ["bool","int"]
 | .int _=>some ["int"]
 | .str _=>some ["str"]
 | .tup _=>some ["tuple"]
 | .gt _=>some ["tuple"]
 | .lst _=>some ["list"]
 | .bor _ _=>some ["list"]
 | .obj c _ _=>mt.lookup c
 | .exc c=>mt.lookup c
 | .uh _ _=>some ["dict"]
 | .oq _ _ _=>some ["dict"]
 | .vp _ _ _ _=>none
def vh(mt:List (String×List String))(cs:List String)(d:D):Res D:=match kinds mt d with
 |some ks=> .ok (.bl (cs.any λ c=>ks.contains c))
 |none=> .bad
def uv(mt:List (String×List String))(cs:List String)(f:Sg->Res D):Sg->Res D:=λ Γ=>(f Γ).bnd (vh mt cs)
def bools:List D->Option (List Bool)
 |[]=>some []
 | .bl b::r=>(bools r).map (b:: ·)
 |_::_=>none
def abK:List D->Res D
 |[x]=>match asL x with
  |some ds=>(match bools ds with
   |some bs=> .ok (.bl (bs.all id))
   |none=> .bad)
  |none=> .bad
 |_=> .bad
noncomputable def afe(f:Str):D->Res D
 | .obj _ ns xs=>match (ns.zip xs).lookup f with
  |some d=> .ok d
  |none=> .bad
 | .vp _ _ ns xs=>match (ns.zip xs).lookup f with
  |some d=> .ok d
  |none=> .bad
 |_=> .bad
def Xe(f:Str)(g:Sg->Res D):Sg->Res D:=λ Γ=>(g Γ).bnd (afe f)
noncomputable def qI(oG:List (String×(List Slot->cJ))):D->Option (List Slot->cJ)
 | .obj c _ _=>oG.lookup c
 |_=>none
def vJ(n:Nat)(oG:List (String×(List Slot->cJ)))(fo:Sg->Res D)(fa:Sg->Res (List D)):Sg->Res M:=λ Γ=>(fo Γ).bnd λ o=>match qI oG o with
 |some F=>(fa Γ).bnd λ ds=>if ds.length=n then nu (F ((o::ds).map Slot.val)) else .bad
 |none=> .bad
noncomputable def Gn(c:String)(ns:List Str):cJ->Res D
 | .QY .dY [(0,.o c' ns' xs)]=>if c'=c/\ns'=ns then .ok (.obj c ns xs) else .bad
 | .err x=> .err x
 |_=> .bad
def Hi(n:Nat)(c:String)(ns:List Str)(F:List Slot->cJ)(fa:Sg->Res (List D)):Sg->Res D:=λ Γ=>(fa Γ).bnd λ ds=>if ds.length=n then Gn c ns (F (.par (.o c [] [])::ds.map Slot.val)) else .bad
def UB(ft:List (String×List Str))(f:Str)(d:D):M->Option M
 | .o c ns xs=>(ft.lookup c).bind λ full=>if nt d=true/\ns.length<full.length/\ns.length<900/\f∉ns then some (.o c (ns++[f]) (xs++[d])) else none
 |_=>none
def Uu(i:Nat)(ft:List (String×List Str))(f:Str)(g:Sg->Res D):Sg->Out:=λ Γ=>oE (g Γ) Γ λ d=>oE (kU i Γ) Γ λ ks=>YZ (yb i ks (UB ft f d) Γ)
def O0(f:Sg->Res D):Sg->Out:=λ Γ=>oE (f Γ) Γ λ d=> .SQ d Γ
noncomputable def t7:D->Bool
 | .dY=>true
 | .bl _=>true
 | .int _=>true
 | .str _=>true
 |_=>false
noncomputable def eqF:D->D->Bool
 | .dY,.dY=>true
 | .bl a,.bl b=>a==b
 | .bl a,.int b=>(if a then 1 else 0)==b
 | .int a,.bl b=>a==(if b then 1 else 0)
 | .int a,.int b=>a==b
 | .str a,.str b=>a==b
 |_,_=>false
def inF(x:D)(xs:List D):Bool:=xs.any λ y=>eqF y x
noncomputable def C6:D->Option (List D)
 | .lst xs=>some xs
 | .bor _ xs=>some xs
 | .tup xs=>some xs
 | .gt xs=>some xs
 |_=>none
def rF(x y:D):Res D:=match C6 y with
 |some xs=>if t7 x=true/\xs.all t7=true then .ok (.bl (!inF x xs)) else .bad
 |none=> .bad
def Gy:List D->Res (List D)
 |[x]=>match C6 x with
  |some xs=> .ok xs
  |none=> .bad
 |_=> .bad
def Y3(r:List D->Res (List D))(fa:Sg->Res (List D)):Sg->Res (List D):=λ Γ=>(fa Γ).bnd r
def CO:List D->Res D
 |[x]=>match C6 x with
  |some xs=> .ok (match x with
   | .gt ys=> .gt ys
   |_=> .tup xs)
  |none=> .bad
 |_=> .bad
noncomputable def aaO:D->Option (Sum Int Str)
 | .int i=>some (.inl i)
 | .str x=>some (.inr x)
 |_=>none
def dcO:D->Option (List (Sum Int Str)×List D)
 | .uh (.s ks) xs=>some (ks,xs)
 | .oq _ (.s ks) xs=>some (ks,xs)
 |_=>none
noncomputable def amu(ks:List (Sum Int Str))(xs:List D)(k:Sum Int Str):Option D:=((ks.zip xs).find? λ kv=>decide (kv.1=k)).map (·.2)
def getD(o y:D):Res D:=match dcO o with
 |some (ks,xs)=>(match aaO y with
  |some k=>(match amu ks xs k with
   |some d=> .ok d
   |none=> .bad)
  |none=> .bad)
 |none=>fQ o y
def pR(r r':D->D->Res D)(f g h:Sg->Res D):Sg->Res D:=λ Γ=>(f Γ).bnd λ x=>(g Γ).bnd λ y=>(r x y).bnd λ z=>match z with
 | .bl true=>(h Γ).bnd λ w=>r' y w
 | .bl false=> .ok (.bl false)
 |_=> .bad
mutual
/-- no instance CS may change is in it -/
noncomputable def Y0:M->Bool
 | .n ms=>Q7 ms
 | .t ms=>Q7 ms
 | .o _ _ _=>false
 |_=>true
noncomputable def Q7:List M->Bool
 |[]=>true
 |m::ms=>Y0 m&&Q7 ms
end
def Te(i q:Nat)(s:Slot)(Γ:Sg):cJ->Res (D×Sg)
 | .QY d [(q',m')]=>if q'=q then .ok (d,Γ.set i (Uw s m')) else .bad
 |_=> .bad
def ES(n i q:Nat)(F:List Slot->cJ)(f:Sg->Res (List D)):Sg->Res (D×Sg):=λ Γ=>match Γ[i]? with
 |some s=>(match QI s with
  |some m=>(f Γ).bnd λ ds=>if ds.length=n/\q<n/\Y0 m=true then Te i q s Γ (F ((ds.map Slot.val).set q (.par m))) else .bad
  |none=> .bad)
 |none=> .bad
def OZ(k:Nat)(g:Sg->Res (D×Sg)):Sg->Out:=λ Γ=>oE (g Γ) Γ λ r=> .nx (r.2.set k (.val r.1))
noncomputable def isI:D->D->Res D
 |x,.dY=> .ok (.bl (match x with
  | .dY=>true
  |_=>false))
 |x,.bl b=> .ok (.bl (match x with
  | .bl c=>c==b
  |_=>false))
 |_,_=> .bad
def aam(o:Out)(G:Sg->Out):Out:=match o with
 | .nx Γ'=>G Γ'
 |o=>o
def aev(i:Nat)(h:String->Option Bool)(o:Out)(G:Sg->Out):Out:=match o with
 | .err c Γ1=>(match h c with
  |some true=>aai i (G (Γ1.set i (.val (.exc c))))
  |_=> .bad)
 |o=>o
def aew(r:Res Bool)(F G:Sg->Out)(Γ:Sg):Out:=oE r Γ λ c=>if c=true then F Γ else G Γ
def ZR(r:Res Bool)(q:Sg->Res Bool)(Γ:Sg):Res Bool:=r.bnd λ c=>if c=true then q Γ else .ok false
def rOr(r:Res Bool)(q:Sg->Res Bool)(Γ:Sg):Res Bool:=r.bnd λ c=>if c=true then .ok true else q Γ
def Zw(r:Res Bool)(q:Sg->Res D)(Γ:Sg):Res D:=r.bnd λ c=>if c=true then q Γ else .ok (.bl false)
section
variable(Γ:Sg)(f g:Sg->Res D)(p q:Sg->Res Bool)(F G:Sg->Out)(fa:Sg->Res (List D))
@[simp] theorem ahB:aN F G Γ=aam (F Γ) G:=(rfl)
@[simp] theorem ake:aam (.nx Γ) G=G Γ:=(rfl)
@[simp] theorem akd(d:D):aam (.rt d) G= .rt d:=(rfl)
@[simp] theorem ah0(c:String):aam (.err c Γ) G= .err c Γ:=(rfl)
@[simp] theorem agz:dh Γ= .nx Γ:=(rfl)
@[simp] theorem aj4:uQ p F G Γ=aew (p Γ) F G Γ:=(rfl)
@[simp] theorem akf:aew (.ok true) F G Γ=F Γ:=(rfl)
@[simp] theorem akg:aew (.ok false) F G Γ=G Γ:=(rfl)
@[simp] theorem aj8:ZR (.ok true) q Γ=q Γ:=(rfl)
@[simp] theorem aj9:ZR (.ok false) q Γ= .ok false:=(rfl)
@[simp] theorem alE:rOr (.ok true) q Γ= .ok true:=(rfl)
@[simp] theorem alF:rOr (.ok false) q Γ=q Γ:=(rfl)
@[simp] theorem ajV:Zw (.ok true) f Γ=f Γ:=(rfl)
@[simp] theorem ajW:Zw (.ok false) f Γ= .ok (.bl false):=(rfl)
@[simp] theorem ahC:gZ f Γ=oE (f Γ) Γ λ d=> .rt d:=(rfl)
@[simp] theorem agy(fm:Sg->Res M):vE fm Γ=oE (fm Γ) Γ λ m=>if F8 m=true then .O3 m else .bad:=(rfl)
@[simp] theorem agx:BU f Γ=oE (f Γ) Γ λ d=>if nt d=true then .rt d else .bad:=(rfl)
@[simp] theorem agB:BW f Γ=oE (f Γ) Γ λ _=> .nx Γ:=(rfl)
@[simp] theorem ahA(i:Nat):gR i f Γ=oE (f Γ) Γ λ d=> .nx (Γ.set i (.val d)):=(rfl)
@[simp] theorem agw(i:Nat)(fm:Sg->Res M):lz i fm Γ=oE (fm Γ) Γ λ m=>if F8 m=true then .nx (Γ.set i (.own m)) else .bad:=(rfl)
@[simp] theorem agv(i:Nat):Ut i f Γ=oE (f Γ) Γ λ d=>if nt d=true then .nx (Γ.set i (.val d)) else .bad:=(rfl)
@[simp] theorem al0:mL fa Γ=(fa Γ).bnd λ ds=> .ok (.l ds):=(rfl)
@[simp] theorem aiO(fm:Sg->Res M):rW fm Γ=(fm Γ).bnd fzR:=(rfl)
@[simp] theorem agX(i:Nat):bN i Γ=match Γ[i]? with
 |some (.val d)=> .ok d
 |some (.own m)=> .ok (lend m)
 |some (.par m)=> .ok (lend m)
 |_=> .bad:=(rfl)
@[simp] theorem ako(r:List D->Res (List D)):Y3 r fa Γ=(fa Γ).bnd r:=(rfl)
@[simp] theorem ahD(i k:Nat):adV i k fa Γ=oE (fa Γ) Γ λ ds=>match ds with
 |[x,y]=> .nx ((Γ.set i (.val x)).set k (.val y))
 |_=> .bad:=(rfl)
@[simp] theorem adU(c:String):oX c fa Γ=oE (fa Γ) Γ λ ds=>if ds.length<=1000 then .err c Γ else .bad:=(rfl)
@[simp] theorem adT(i:Nat)(h:String->Option Bool):C7 i h F G Γ=aev i h (F Γ) G:=(rfl)
def F7(i:Nat)(h:String->Option Bool)(c:String)(e:h c=some true):aev i h (.err c Γ) G=aai i (G (Γ.set i (.val (.exc c)))):=by simp only[aev,e]
@[simp] theorem akb(i:Nat):aai i (.nx Γ)= .nx (Γ.set i .no):=(rfl)
@[simp] theorem aiI(i:Nat):ao i Γ=match Γ[i]? with
 |some (.val d)=> .ok d
 |_=> .bad:=(rfl)
@[simp] theorem amO(d:D):dC d Γ= .ok d:=(rfl)
@[simp] theorem akv(r:D->D->Res D):aO r f g Γ=(f Γ).bnd λ x=>(g Γ).bnd λ y=>r x y:=(rfl)
@[simp] theorem amM:dT f Γ=(f Γ).bnd tst:=(rfl)
@[simp] theorem alj(b:Bool):tst (.bl b)= .ok b:=(rfl)
@[simp] theorem aiY:Sv p q Γ=ZR (p Γ) q Γ:=(rfl)
@[simp] theorem akB:Y7 p q Γ=rOr (p Γ) q Γ:=(rfl)
@[simp] theorem aiX:qE p Γ=(p Γ).bnd λ c=> .ok (!c):=(rfl)
@[simp] theorem aiR:Kz f g Γ=Zw ((f Γ).bnd tst) g Γ:=by cases h:f Γ<;>simp only[Kz,Zw,h,Res.lS,Res.Qe,Res.Qf]
@[simp] theorem aiK:afr f Γ=(f Γ).bnd λ x=>(tst x).bnd λ c=> .ok (.bl (!c)):=(rfl)
@[simp] theorem aiL:aB Γ= .ok []:=(rfl)
@[simp] theorem Sa:ai f fa Γ=(f Γ).bnd λ x=>(fa Γ).bnd λ xs=> .ok (x::xs):=(rfl)
@[simp] theorem aiJ:fj fa Γ=(fa Γ).bnd λ xs=>if xs.length<=1000 then .ok (.tup xs) else .bad:=(rfl)
@[simp] theorem aiM:pQ fa Γ=(fa Γ).bnd λ xs=>if xs.length<=1000 then .ok xs else .bad:=(rfl)
@[simp] theorem akw:sr fa Γ=(fa Γ).bnd λ ds=> .ok (.lst ds):=(rfl)
@[simp] theorem aku(r:D->Res D):dUn r f Γ=(f Γ).bnd r:=(rfl)
@[simp] theorem ah7(i:Int):Q8 (.int i)= .ok (.int (-i)):=(rfl)
@[simp] theorem akx(r:List D->Res D):xM r fa Γ=(fa Γ).bnd r:=(rfl)
@[simp] theorem agZ(n:Nat)(K:List Slot->cJ):ez n K fa Γ=(fa Γ).bnd λ ds=>if ds.length=n then wQ (K (ds.map Slot.val)) else .bad:=(rfl)
@[simp] theorem afs(n:Nat)(K:List Slot->cJ):fT n K fa Γ=(fa Γ).bnd λ ds=>if ds.length=n/\kR ds=true then wQ (K (ds.map Slot.val)) else .bad:=(rfl)
@[simp] theorem Ky(n:Nat)(K:List Slot->cJ):d7 n K fa Γ=(fa Γ).bnd λ ds=>if ds.length=n then wQ (Vv (K ((oH ds).map Slot.val))) else .bad:=(rfl)
@[simp] theorem aeH(n:Nat)(K:List Slot->cJ):pI n K fa Γ=(fa Γ).bnd λ ds=>if ds.length=n/\kR ds=true then nu (K (ds.map Slot.val)) else .bad:=(rfl)
@[simp] theorem aeG(n:Nat)(K:List Slot->cJ):rJ n K fa Γ=(fa Γ).bnd λ ds=>if ds.length=n then nu (Vv (K ((oH ds).map Slot.val))) else .bad:=(rfl)
@[simp] theorem aiN(mt:List (String×List String))(cs:List String):uv mt cs f Γ=(f Γ).bnd (vh mt cs):=(rfl)
@[simp] theorem amN:dP f Γ=(f Γ).bnd λ d=>match d with
 | .int i=> .ok (some i)
 |_=> .bad:=(rfl)
@[simp] theorem aiW:uH Γ= .ok true:=(rfl)
@[simp] theorem adG(i:Nat)(d:D):aG i d Γ=some (Γ.set i (.val d)):=(rfl)
@[simp] theorem ags:iB [] Γ=some Γ:=(rfl)
@[simp] theorem adH(t:Tg)(u:YQ)(d:D)(r:List D):aW t u (d::r) Γ=(t d Γ).bind λ Γ'=>u r Γ':=(rfl)
@[simp] theorem agr(n:Nat)(t:YQ)(ds:List D):gU n t (.tup ds) Γ=if ds.length=n then t ds Γ else none:=(rfl)
end
@[simp] theorem aky(d:D):wQ (.ok d)= .ok d:=(rfl)
@[simp] theorem aiP(m:M):wQ (.new m)=fzR m:=(rfl)
@[simp] theorem aiQ(c:String):wQ (.err c)= .err c:=(rfl)
@[simp] theorem akm(d:D):nu (.ok d)= .ok (.d d):=(rfl)
@[simp] theorem aij(m:M):nu (.new m)= .ok m:=(rfl)
@[simp] theorem aok(d:D):fzR (.d d)= .ok d:=(rfl)
@[simp] theorem anT(xs:List D):F8 (.l xs)=kR xs:=by simp[F8]
@[simp] theorem alS(i:Int):nt (.int i)=true:=by simp[nt]
@[simp] theorem anS(i:Bool):nt (.bl i)=true:=by simp[nt]
@[simp] theorem aex(xs:List D):nt (.tup xs)=kR xs:=by simp[nt]
@[simp] theorem alR(xs:List D):nt (.lst xs)=kR xs:=by simp[nt]
@[simp] theorem akh:kR []=true:=by simp[kR]
@[simp] theorem ah3(d:D)(ds:List D):kR (d::ds)=(nt d&&kR ds):=by simp[kR]
def qc{α:Type}(f:α->D)(h:∀x,nt (f x)=true):∀xs:List α,kR (xs.map f)=true
 |[]=>by simp
 |x::xs=>by simp[h x,qc f h xs]
@[simp] theorem akC(m:M):XG m []=some m:=by cases m<;>rfl
@[simp] theorem ahO(m m':M):oh m [] m'=m':=by cases m<;>rfl
@[simp] theorem aj2(m:M):QI (.own m)=some m:=(rfl)
@[simp] theorem aj7(m m':M):Uw (.own m) m'= .own m':=(rfl)
@[simp] theorem aj6(m m':M):Uw (.par m) m'= .par m':=(rfl)
@[simp] theorem ahZ(Γ:Sg):YZ (some Γ)= .nx Γ:=(rfl)
@[simp] theorem amV(Γ:Sg):mX (.nx Γ)= .ok .dY:=(rfl)
@[simp] theorem amU(d:D):mX (.rt d)= .ok d:=(rfl)
@[simp] theorem akE(m:M):mX (.O3 m)= .new m:=(rfl)
@[simp] theorem ai3(d:D)(Γ:Sg):SA (.SQ d Γ)= .QY d (b7 0 Γ):=(rfl)
@[simp] theorem akF(c:String)(Γ:Sg):mX (.err c Γ)= .err c:=(rfl)
@[simp] theorem ahv(i j:Int):IK (.int i) (.int j)= .ok (.int (i- j)):=(rfl)
@[simp] theorem akn(i j:Int):ltI (.int i) (.int j)= .ok (.bl (decide (i<j))):=(rfl)
def yQ(i j:Int)(h:pD i j=true):qy (.int i) (.int j)= .ok (.int (i*j)):=by simp[qy,h]
def vj(i j:Int)(h:Cu i j=true):fZ (.int i) (.int j)= .ok (.int (i.fdiv j)):=by simp[fZ,h]
def kr(i j:Int)(h:j≠0):iL (.int i) (.int j)= .ok (.int (i.fmod j)):=by simp[iL,h]
@[simp] theorem agK(mt:List (String×List String))(i:Int):kinds mt (.int i)=some ["int"]:=(rfl)
@[simp] theorem agJ(mt:List (String×List String))(i:List D):kinds mt (.tup i)=some ["tuple"]:=(rfl)
@[simp] theorem agL(mt:List (String×List String))(c:String):kinds mt (.exc c)=mt.lookup c:=(rfl)
def bits_le{i:Int}{n:Nat}(h:i.natAbs<2^n):Builtin.Int.intBits i<=n:=by
 unfold Builtin.Int.intBits;split
 ·exact Nat.zero_le _
 ·rename_i hz;have:i.natAbs≠0:=by simpa using hz
  exact Nat.succ_le_of_lt ((Nat.log2_lt this).mpr h)
def Gi{i j:Int}(h:j.natAbs<2^64):pD i j=true:=by simp[pD,bits_le h]
def JH{i j:Int}(h:i.natAbs<2^64):pD i j=true:=by simp[pD,bits_le h]
def JI{i j:Int}{a b:Nat}(hi:i.natAbs<2^a)(hj:j.natAbs<2^b)(ha:a<=2^20)(hb:b<=2^20):pD i j=true:=by have h1:=Nat.le_trans (bits_le hi) ha;have h2:=Nat.le_trans (bits_le hj) hb;simp only[pD,Bool.or_eq_true,Bool.and_eq_true,decide_eq_true_eq];exact .inr ⟨h1,h2⟩
def zL{i j:Int}(h0:j≠0)(h:j.natAbs<2^9000):Cu i j=true:=by
 have:j.natAbs≠0:=by simpa using h0
 simp only[Cu,Bool.and_eq_true,decide_eq_true_eq];exact ⟨h0,(Nat.log2_lt this).mpr h⟩
@[simp] theorem aif(i j:Int)(h:j≠0):iL (.int i) (.int j)= .ok (.int (i.fmod j)):=kr i j h
@[simp] theorem aid(i j:Int)(h:j.natAbs<18446744073709551616):qy (.int i) (.int j)= .ok (.int (i*j)):=yQ i j (Gi h)
@[simp] theorem agF(i j:Int)(h:i.natAbs<18446744073709551616):qy (.int i) (.int j)= .ok (.int (i*j)):=yQ i j (JH h)
@[simp] theorem agW(i j:Int)(h:j≠0)(h2:j.natAbs<18446744073709551616):fZ (.int i) (.int j)= .ok (.int (i.fdiv j)):=vj i j (zL h (Nat.lt_of_lt_of_le h2 (show 2^64<=2^9000 from Nat.pow_le_pow_right (by decide) (by decide))))
@[simp] theorem ahP(i j:Int)(h0:0<=j)(h1:j<=1000000)(h2:i.natAbs<18446744073709551616):UH (.int i) (.int j)= .ok (.int (i^j.toNat)):=by
 have:O7 i j=true:=by simp[O7,h0,h1];omega
 simp[UH,this]
section
variable(f:Sg->Res D)(r:Sg->Res (List D))(t:Tg)(B:Sg->Out)(Γ:Sg)(xs:List D)
end
@[simp] theorem aiA(t:Tg)(B:Sg->Out)(Γ:Sg):fM t B [] Γ= .nx Γ:=(rfl)
section
variable(Γ:Sg)(f g h:Sg->Res D)(fa:Sg->Res (List D))(t:Tg)(B:Sg->Out)
def ab7(r:Res (List D))(t:Tg)(B:Sg->Out)(Γ:Sg):Out:=oE r Γ λ xs=>fM t B xs Γ
@[simp] theorem agA:mE fa t B Γ=ab7 (fa Γ) t B Γ:=(rfl)
@[simp] theorem ah1(xs:List D):ab7 (.ok xs) t B Γ=fM t B xs Γ:=(rfl)
def yt(n:Nat)(oG:List (String×(List Slot->cJ)))(o:D)(r:Res (List D)):Res M:=match qI oG o with
 |some F=>r.bnd λ ds=>if ds.length=n then nu (F ((o::ds).map Slot.val)) else .bad
 |none=> .bad
@[simp] theorem agG(n:Nat)(oG:List (String×(List Slot->cJ))):vJ n oG f fa Γ=(f Γ).bnd λ o=>yt n oG o (fa Γ):=(rfl)
@[simp] theorem ab1(i:Nat)(p:Sg->Res (List Nat)):C8 i p f Γ=oE (p Γ) Γ λ ks=>if Wi (yN i ks Γ)=true then oE (f Γ) Γ λ d=>YZ (yb i ks (Sy d) Γ) else .bad:=(rfl)
@[simp] theorem agH(tm:Bool)(k:Nat)(caps:List Nat)(p:Sg->Res Bool):iC tm fa k caps t p f Γ=(fa Γ).bnd λ xs=>if xs.length<1000000 then uA (Y6 t p f (v5 tm k caps Γ)) xs else .bad:=(rfl)
end
@[simp] theorem agM(mt:List (String×List String))(b:Bool)(xs:List D):kinds mt (.bor b xs)=some ["list"]:=(rfl)
noncomputable def vQ(b:Int)(g:Nat):Int:=if b<0 then -(g:Int) else (g:Int)
def Eb(t b:Int):Int:=t.fdiv (vQ b (Int.gcd t b))
def EN(t b:Int):Int:=b.fdiv (vQ b (Int.gcd t b))
def aa9{t b:Int}(h:b≠0):0<Int.gcd t b:=Int.gcd_pos_of_ne_zero_right t h
def WV{t b:Int}(h:b≠0):vQ b (Int.gcd t b)≠0:=by have:=aa9 (t:=t) h;unfold vQ;split<;>omega
def Ec(t b:Int):vQ b (Int.gcd t b)∣t:=by
 unfold vQ;split
 ·exact Int.neg_dvd.mpr (Int.gcd_dvd_left _ _)
 ·exact Int.gcd_dvd_left _ _
def Be(t b:Int):vQ b (Int.gcd t b)∣b:=by
 unfold vQ;split
 ·exact Int.neg_dvd.mpr (Int.gcd_dvd_right _ _)
 ·exact Int.gcd_dvd_right _ _
def nX{a d:Int}(h:d∣a):a.fdiv d*d=a:=by rw[Int.fdiv_eq_ediv_of_dvd h];exact Int.ediv_mul_cancel h
def Ea(t b:Int):Eb t b*vQ b (Int.gcd t b)=t:=nX (Ec t b)
def abi(t b:Int):EN t b*vQ b (Int.gcd t b)=b:=nX (Be t b)
def R1{t b:Int}{n:Nat}(h:b≠0)(hb:b.natAbs<2^n):(vQ b (Int.gcd t b)).natAbs<2^n:=by
 have e:(vQ b (Int.gcd t b)).natAbs=Int.gcd t b:=by unfold vQ;split<;>simp
 rw[e];exact Nat.lt_of_le_of_lt (Nat.le_of_dvd (by omega) (Int.natAbs_dvd_natAbs.mpr (Int.gcd_dvd_right t b))) hb
def afb{t b:Int}(h:b≠0):(EN t b).natAbs<=b.natAbs:=by have:EN t b∣b:=⟨vQ b (Int.gcd t b),(abi t b).symm⟩;exact Nat.le_of_dvd (by omega) (Int.natAbs_dvd_natAbs.mpr this)
def afa{t b:Int}(h:b≠0):(Eb t b).natAbs<=t.natAbs:=by
 by_cases ht:t=0
 ·have:=Ea t b;rw[ht] at this ⊢;rcases Int.mul_eq_zero.mp this with z|z
  ·rw[z];simp
  ·exact absurd z (by have:=WV (t:=0) h;exact this)
 ·have:Eb t b∣t:=⟨vQ b (Int.gcd t b),(Ea t b).symm⟩;exact Nat.le_of_dvd (by omega) (Int.natAbs_dvd_natAbs.mpr this)
def alH{n:Nat}(h:n<2^64):n<2^9000:=Nat.lt_of_lt_of_le h (Nat.pow_le_pow_right (by decide) (by decide))
def GU(l s:Nat)(h:s≠0):Nat.gcd l s=Nat.gcd s (l%s):=by rw[Nat.gcd_comm l s,Nat.gcd_rec,Nat.gcd_comm]
def GZ(l s:Nat):Int.fmod (l:Int) (s:Int)=((l%s:Nat):Int):=by rw[Int.fmod_eq_emod_of_nonneg _ (by omega)];rfl
end L4
end
section
namespace L4
open PySem PySem.Spec PyProof.Rows L2
abbrev St:=L2.St
structure Cb where
 exc:String->Option Addr
 cls:String->Option (Addr×List Str)
 /-- all classes of instances -/
 ins:String->Option Addr
structure Cf where
 cb:Cb
 L:Hp
 io:Addr->Prop
 args:List V
structure Ct where
 f:Cf
 B:Hp
 tm:Bool
def Cf.z(c:Cf):Ct:=⟨c,λ _=>none,false⟩
def Cf.at'(c:Cf)(H:Hp):Ct:=⟨c,H,true⟩
noncomputable def mU(a C:Addr):Heap->Prop:=λ h=>∃o,h.get? a=some o/\o.cls= .ref C
def FzL(K:W.Frag)(H:Hp)(a:Addr)(vs:List V):Prop:=(∃o,H a=some (.Bd o (.lst vs)))\/∃(o:Obj) (its:Array Value) (n:Nat),K.lookup a=some o/\o.cls= .type "list"/\o.dict=none/\o.data= .seq its n/\its.size<=sizeLine/\Vals vs its.toList
def FzL.sq{K:W.Frag}{H:Hp}{a:Addr}{vs:List V}(h:FzL K H a vs):oA K H a vs:=by
 rcases h with ⟨o,h⟩|h
 ·exact .inl (.inr ⟨o,h⟩)
 ·exact .inr h
def Ct.lo(ct:Ct)(t:Bool):Hp:=if t=true then ct.B else ct.f.L
def SqK(K:W.Frag)(a:Addr)(xs:List V):Prop:=∃(o:Obj) (its:Array Value) (n:Nat),K.lookup a=some o/\o.cls= .type "tuple"/\o.data= .seq its n/\its.size<=sizeLine/\Vals xs its.toList
def SqK.sq{K:W.Frag}{H:Hp}{a:Addr}{xs:List V}(h:SqK K a xs):vB K H a xs:= .inr h
def lZ{K:W.Frag}{H:Hp}{a:Addr}{xs:List V}(h:H a=some (.tup xs)):vB K H a xs:= .inl (.inl h)
def Ks.ho:Ks->List V->HO
 | .s ks,vs=> .dK (ks.zip vs)
 | .t ks,vs=> .dT (ks.zip vs)
mutual
def Tl(K:W.Frag)(ct:Ct)(H:Hp):D->V->Prop
 | .dY,v=>v= .dY
 | .bl b,v=>v= .bl b
 | .int i,v=>v= .int i
 | .str x,v=>v= .str x
 | .tup ds,v=>∃a vs,v= .ref a/\H a=some (.tup vs)/\aE K ct H ds vs
 | .gt ds,v=>∃a vs,v= .ref a/\SqK K a vs/\aE K ct H ds vs
 | .lst ds,v=>∃a vs,v= .ref a/\FzL K H a vs/\aE K ct H ds vs
 | .obj c ns ds,v=>∃a C dx vs,v= .ref a/\ct.f.cb.cls c=some (C,ns)/\H a=some (.ins C dx (ns.zip vs))/\ns.length=vs.length/\aE K ct H ds vs
 | .exc c,v=>∃a C,v= .ref a/\ct.f.cb.exc c=some C/\H a=some (.ext (mU a C))
 | .bor t ds,v=>∃a vs,v= .ref a/\ct.lo t a=some (.lst vs)/\aE K ct H ds vs
 | .uh ks ds,v=>∃a vs,v= .ref a/\(∃o,H a=some (.Bd o (ks.ho vs)))/\ks.len=vs.length/\aE K ct H ds vs
 | .oq t ks ds,v=>∃a vs,v= .ref a/\ct.lo t a=some (ks.ho vs)/\ks.len=vs.length/\aE K ct H ds vs
 | .vp t c ns ds,v=>∃a C dx vs,v= .ref a/\ct.f.cb.ins c=some C/\ct.lo t a=some (.ins C dx (ns.zip vs))/\ns.length=vs.length/\aE K ct H ds vs
def aE(K:W.Frag)(ct:Ct)(H:Hp):List D->List V->Prop
 |[],vs=>vs=[]
 |d::ds,vs=>∃v r,vs=v::r/\Tl K ct H d v/\aE K ct H ds r
end
def SH(cb:Cb):HO->Prop
 | .tup _=>True
 | .Bd _ _=>True
 | .ins C _ fs=>∃c ns,cb.cls c=some (C,ns)/\fs.map (·.1)=ns
 | .ext _=>True
 |_=>False
def aP(cb:Cb)(H H':Hp):Prop:=∀b o,H b=some o->SH cb o->H' b=some o
def au.keep{cb:Cb}{H H':Hp}(e:au H H'):aP cb H H':=λ b o h _=>e b o h
def aP.refl{cb:Cb}(H:Hp):aP cb H H:=λ _ _ h _=>h
def aP.trans{cb:Cb}{H H1 H2:Hp}(a:aP cb H H1)(b:aP cb H1 H2):aP cb H H2:=λ c o h s=>b c o (a c o h s) s
def aP.lst{cb:Cb}{H:Hp}{a:Addr}{vs:List V}{o:HO}(h:H a=some (.lst vs)):aP cb H (upd H a o):=λ b u hb st=>by
 have:b≠a:=by rintro rfl;rw[h] at hb;cases hb;exact st
 rw[aC this];exact hb
def aP.dT{cb:Cb}{H:Hp}{a:Addr}{kvs:List (List Key×V)}{o:HO}(h:H a=some (.dT kvs)):aP cb H (upd H a o):=λ b u hb st=>by
 have:b≠a:=by rintro rfl;rw[h] at hb;cases hb;exact st
 rw[aC this];exact hb
def Ks.F9{cb:Cb}{ks:Ks}{vs:List V}:¬SH cb (ks.ho vs):=by cases ks<;>exact λ q=>q
def aP.sqT{cb:Cb}{K:W.Frag}{H H':Hp}{a:Addr}{xs:List V}(e:aP cb H H')(h:vB K H a xs):vB K H' a xs:=by
 rcases h with (h|⟨o,h⟩)|h
 ·exact .inl (.inl (e _ _ h trivial))
 ·exact .inl (.inr ⟨o,e _ _ h trivial⟩)
 ·exact .inr h
def aP.fzL{cb:Cb}{K:W.Frag}{H H':Hp}{a:Addr}{xs:List V}(e:aP cb H H')(h:FzL K H a xs):FzL K H' a xs:=by
 rcases h with ⟨o,h⟩|h
 ·exact .inl ⟨o,e _ _ h trivial⟩
 ·exact .inr h
def oJ{α β:Type}:∀{ns:List α} {vs:List β},ns.length=vs.length->(ns.zip vs).map (·.1)=ns
 |[],_,_=>by simp
 |n::ns,[],h=>by simp at h
 |n::ns,v::vs,h=>by simp only[List.zip_cons_cons,List.map_cons,List.cons.injEq,true_and];exact oJ (by simpa using h)
mutual
def Tl.keep{K:W.Frag}{ct:Ct}{H H':Hp}(e:aP ct.f.cb H H'):∀{d:D} {v:V},Tl K ct H d v->Tl K ct H' d v
 | .dY,_,h=>by simpa[Tl] using h
 | .bl b,_,h=>by simpa[Tl] using h
 | .int i,_,h=>by simpa[Tl] using h
 | .str x,_,h=>by simpa[Tl] using h
 | .tup ds,v,h=>by simp only[Tl] at h ⊢;obtain ⟨a,vs,h1,h2,h3⟩:=h;exact ⟨a,vs,h1,e _ _ h2 trivial,aE.keep e h3⟩
 | .gt ds,v,h=>by simp only[Tl] at h ⊢;obtain ⟨a,vs,h1,h2,h3⟩:=h;exact ⟨a,vs,h1,h2,aE.keep e h3⟩
 | .lst ds,v,h=>by simp only[Tl] at h ⊢;obtain ⟨a,vs,h1,h2,h3⟩:=h;exact ⟨a,vs,h1,e.fzL h2,aE.keep e h3⟩
 | .obj c ns ds,v,h=>by simp only[Tl] at h ⊢;obtain ⟨a,C,dx,vs,h1,h2,h3,h4,h5⟩:=h;exact ⟨a,C,dx,vs,h1,h2,e _ _ h3 ⟨c,ns,h2,oJ h4⟩,h4,aE.keep e h5⟩
 | .exc c,v,h=>by simp only[Tl] at h ⊢;obtain ⟨a,C,h1,h2,h3⟩:=h;exact ⟨a,C,h1,h2,e _ _ h3 trivial⟩
 | .bor t ds,v,h=>by simp only[Tl] at h ⊢;obtain ⟨a,vs,h1,h2,h3⟩:=h;exact ⟨a,vs,h1,h2,aE.keep e h3⟩
 | .uh ks ds,v,h=>by simp only[Tl] at h ⊢;obtain ⟨a,vs,h1,⟨o,h2⟩,h3,h4⟩:=h;exact ⟨a,vs,h1,⟨o,e _ _ h2 trivial⟩,h3,aE.keep e h4⟩
 | .oq t ks ds,v,h=>by simp only[Tl] at h ⊢;obtain ⟨a,vs,h1,h2,h3,h4⟩:=h;exact ⟨a,vs,h1,h2,h3,aE.keep e h4⟩
 | .vp t c ns ds,v,h=>by simp only[Tl] at h ⊢;obtain ⟨a,C,dx,vs,h1,h2,h3,h4,h5⟩:=h;exact ⟨a,C,dx,vs,h1,h2,h3,h4,aE.keep e h5⟩
def aE.keep{K:W.Frag}{ct:Ct}{H H':Hp}(e:aP ct.f.cb H H'):∀{ds:List D} {vs:List V},aE K ct H ds vs->aE K ct H' ds vs
 |[],_,h=>by simpa[aE] using h
 |d::ds,_,h=>by simp only[aE] at h ⊢;obtain ⟨v,r,h1,h2,h3⟩:=h;exact ⟨v,r,h1,Tl.keep e h2,aE.keep e h3⟩
end
structure YR(ct fN:Ct)(p:Bool->Bool)(g:Bool->Bool):Prop where
 cb:fN.f.cb=ct.f.cb
 at':∀t a o,p t=true->ct.lo t a=some o->fN.lo (g t) a=some o
mutual
noncomputable def Aw(g:Bool->Bool):D->D
 | .tup xs=> .tup (qp g xs)
 | .gt xs=> .gt (qp g xs)
 | .lst xs=> .lst (qp g xs)
 | .obj c ns xs=> .obj c ns (qp g xs)
 | .uh ks xs=> .uh ks (qp g xs)
 | .bor t xs=> .bor (g t) (qp g xs)
 | .oq t ks xs=> .oq (g t) ks (qp g xs)
 | .vp t c ns xs=> .vp (g t) c ns (qp g xs)
 | .dY=> .dY
 | .bl b=> .bl b
 | .int i=> .int i
 | .str x=> .str x
 | .exc c=> .exc c
noncomputable def qp(g:Bool->Bool):List D->List D
 |[]=>[]
 |d::ds=>Aw g d::qp g ds
end
mutual
noncomputable def B0(p:Bool->Bool):D->Bool
 | .tup xs=>pB p xs
 | .gt xs=>pB p xs
 | .lst xs=>pB p xs
 | .obj _ _ xs=>pB p xs
 | .uh _ xs=>pB p xs
 | .bor t xs=>p t&&pB p xs
 | .oq t _ xs=>p t&&pB p xs
 | .vp t _ _ xs=>p t&&pB p xs
 |_=>true
noncomputable def pB(p:Bool->Bool):List D->Bool
 |[]=>true
 |d::ds=>B0 p d&&pB p ds
end
mutual
def Tl.re{K:W.Frag}{ct fN:Ct}{H:Hp}{p g:Bool->Bool}(r:YR ct fN p g):∀{d:D} {v:V},B0 p d=true->Tl K ct H d v->Tl K fN H (Aw g d) v
 | .dY,_,_,h=>by simpa[Tl,Aw] using h
 | .bl b,_,_,h=>by simpa[Tl,Aw] using h
 | .int i,_,_,h=>by simpa[Tl,Aw] using h
 | .str x,_,_,h=>by simpa[Tl,Aw] using h
 | .exc c,v,_,h=>by simp only[Tl,Aw] at h ⊢;rw[r.cb];exact h
 | .tup ds,v,q,h=>by simp only[Tl,Aw,B0] at h q ⊢;obtain ⟨a,vs,h1,h2,h3⟩:=h;exact ⟨a,vs,h1,h2,aE.re r q h3⟩
 | .gt ds,v,q,h=>by simp only[Tl,Aw,B0] at h q ⊢;obtain ⟨a,vs,h1,h2,h3⟩:=h;exact ⟨a,vs,h1,h2,aE.re r q h3⟩
 | .lst ds,v,q,h=>by simp only[Tl,Aw,B0] at h q ⊢;obtain ⟨a,vs,h1,h2,h3⟩:=h;exact ⟨a,vs,h1,h2,aE.re r q h3⟩
 | .obj c ns ds,v,q,h=>by simp only[Tl,Aw,B0] at h q ⊢;obtain ⟨a,C,dx,vs,h1,h2,h3,h4,h5⟩:=h;exact ⟨a,C,dx,vs,h1,by rw[r.cb];exact h2,h3,h4,aE.re r q h5⟩
 | .bor t ds,v,q,h=>by simp only[Tl,Aw,B0,Bool.and_eq_true] at h q ⊢;obtain ⟨a,vs,h1,h2,h3⟩:=h;exact ⟨a,vs,h1,r.at' t a _ q.1 h2,aE.re r q.2 h3⟩
 | .uh ks ds,v,q,h=>by simp only[Tl,Aw,B0] at h q ⊢;obtain ⟨a,vs,h1,h2,h3,h4⟩:=h;exact ⟨a,vs,h1,h2,h3,aE.re r q h4⟩
 | .oq t ks ds,v,q,h=>by simp only[Tl,Aw,B0,Bool.and_eq_true] at h q ⊢;obtain ⟨a,vs,h1,h2,h3,h4⟩:=h;exact ⟨a,vs,h1,r.at' t a _ q.1 h2,h3,aE.re r q.2 h4⟩
 | .vp t c ns ds,v,q,h=>by simp only[Tl,Aw,B0,Bool.and_eq_true] at h q ⊢;obtain ⟨a,C,dx,vs,h1,h2,h3,h4,h5⟩:=h;exact ⟨a,C,dx,vs,h1,by rw[r.cb];exact h2,r.at' t a _ q.1 h3,h4,aE.re r q.2 h5⟩
def aE.re{K:W.Frag}{ct fN:Ct}{H:Hp}{p g:Bool->Bool}(r:YR ct fN p g):∀{ds:List D} {vs:List V},pB p ds=true->aE K ct H ds vs->aE K fN H (qp g ds) vs
 |[],_,_,h=>by simpa[aE,qp] using h
 |d::ds,_,q,h=>by simp only[aE,qp,pB,Bool.and_eq_true] at h q ⊢;obtain ⟨v,w,h1,h2,h3⟩:=h;exact ⟨v,w,h1,Tl.re r q.1 h2,aE.re r q.2 h3⟩
end
mutual
def yr:∀(d:D),Aw id d=d
 | .dY| .bl _| .int _| .str _| .exc _=>by simp[Aw]
 | .tup ds| .gt ds| .lst ds| .obj _ _ ds| .uh _ ds| .bor _ ds| .oq _ _ ds| .vp _ _ _ ds=>by simp[Aw,qb ds]
def qb:∀(ds:List D),qp id ds=ds
 |[]=>rfl
 |d::ds=>by simp[qp,yr d,qb ds]
end
mutual
def adX:∀(d:D),Aw (λ _=>false) d=dn d
 | .dY| .bl _| .int _| .str _| .exc _=>by simp[Aw,dn]
 | .tup ds| .gt ds| .lst ds| .obj _ _ ds| .uh _ ds| .bor _ ds| .oq _ _ ds| .vp _ _ _ ds=>by simp[Aw,dn,Dc ds]
def Dc:∀(ds:List D),qp (λ _=>false) ds=oH ds
 |[]=>rfl
 |d::ds=>by simp[qp,oH,adX d,Dc ds]
end
mutual
def Dt:∀(d:D),B0 (λ _=>true) d=true
 | .dY| .bl _| .int _| .str _| .exc _=>by simp[B0]
 | .tup ds| .gt ds| .lst ds| .obj _ _ ds| .uh _ ds| .bor _ ds| .oq _ _ ds| .vp _ _ _ ds=>by simp[B0,pA ds]
def pA:∀(ds:List D),pB (λ _=>true) ds=true
 |[]=>rfl
 |d::ds=>by simp[pB,Dt d,pA ds]
end
mutual
def Vc:∀(d:D),B0 (λ t=>!t) d=nt d
 | .dY| .bl _| .int _| .str _| .exc _=>by simp[B0,nt]
 | .tup ds| .gt ds| .lst ds| .obj _ _ ds| .uh _ ds| .bor _ ds| .oq _ _ ds| .vp _ _ _ ds=>by simp[B0,nt,Dr ds]
def Dr:∀(ds:List D),pB (λ t=>!t) ds=kR ds
 |[]=>rfl
 |d::ds=>by simp[pB,kR,Vc d,Dr ds]
end
mutual
def Vd:∀(d:D),B0 (λ _=>false) d=nb d
 | .dY| .bl _| .int _| .str _| .exc _=>by simp[B0,nb]
 | .tup ds| .gt ds| .lst ds| .obj _ _ ds| .uh _ ds=>by simp[B0,nb,Ds ds]
 | .bor _ ds| .oq _ _ ds| .vp _ _ _ ds=>by simp[B0,nb]
def Ds:∀(ds:List D),pB (λ _=>false) ds=oj ds
 |[]=>rfl
 |d::ds=>by simp[pB,oj,Vd d,Ds ds]
end
def Tl.lift{K:W.Frag}{c:Cf}{B H:Hp}{d:D}{v:V}(h:Tl K c.z H d v):Tl K (c.at' B) H d v:=by
 have:=Tl.re (ct:=c.z) (fN:=c.at' B) (p:=λ _=>true) (g:=id) ⟨rfl,λ t a o _ q=>by cases t with
  |true=>exact absurd q (by simp[Ct.lo,Cf.z])
  |false=>exact q⟩ (Dt d) h
 rwa [yr] at this
def Tl.down{K:W.Frag}{c:Cf}{B H:Hp}{tm:Bool}{d:D}{v:V}(h:Tl K ⟨c,B,tm⟩ H d v)(n:nt d=true):Tl K c.z H d v:=by
 have:=Tl.re (ct:=⟨c,B,tm⟩) (fN:=c.z) (p:=λ t=>!t) (g:=id) ⟨rfl,λ t a o p q=>by cases t with
  |true=>cases p
  |false=>exact q⟩ (by rw[Vc];exact n) h
 rwa [yr] at this
def Tl.bare{K:W.Frag}{ct fN:Ct}{H:Hp}{d:D}{v:V}(e:fN.f.cb=ct.f.cb)(h:Tl K ct H d v)(n:nb d=true):Tl K fN H d v:=by have:=Tl.re (ct:=ct) (fN:=fN) (p:=λ _=>false) (g:=id) ⟨e,λ t a o p q=>nomatch p⟩ (by rw[Vd];exact n) h;rwa [yr] at this
def aE.bare{K:W.Frag}{ct fN:Ct}{H:Hp}{d:List D}{v:List V}(e:fN.f.cb=ct.f.cb)(h:aE K ct H d v)(n:oj d=true):aE K fN H d v:=by have:=aE.re (ct:=ct) (fN:=fN) (p:=λ _=>false) (g:=id) ⟨e,λ t a o p q=>nomatch p⟩ (by rw[Ds];exact n) h;rwa [qb] at this
def aE.lift{K:W.Frag}{c:Cf}{B H:Hp}{d:List D}{v:List V}(h:aE K c.z H d v):aE K (c.at' B) H d v:=by
 have:=aE.re (ct:=c.z) (fN:=c.at' B) (p:=λ _=>true) (g:=id) ⟨rfl,λ t a o _ q=>by cases t with
  |true=>exact absurd q (by simp[Ct.lo,Cf.z])
  |false=>exact q⟩ (pA d) h
 rwa [qb] at this
def aE.down{K:W.Frag}{c:Cf}{B H:Hp}{tm:Bool}{d:List D}{v:List V}(h:aE K ⟨c,B,tm⟩ H d v)(n:kR d=true):aE K c.z H d v:=by
 have:=aE.re (ct:=⟨c,B,tm⟩) (fN:=c.z) (p:=λ t=>!t) (g:=id) ⟨rfl,λ t a o p q=>by cases t with
  |true=>cases p
  |false=>exact q⟩ (by rw[Dr];exact n) h
 rwa [qb] at this
def aE.lent{K:W.Frag}{ct:Ct}{c':Cf}{H:Hp}{d:List D}{v:List V}(e:c'.cb=ct.f.cb)(eL:c'.L=H)(l:au ct.f.L H)(b:au ct.B H)(h:aE K ct H d v):aE K c'.z H (oH d) v:=by
 have:=aE.re (ct:=ct) (fN:=c'.z) (p:=λ _=>true) (g:=λ _=>false) ⟨e,λ t a o _ q=>by
  show c'.L a=some o;rw[eL];cases t with
  |true=>exact b a o q
  |false=>exact l a o q⟩ (pA d) h
 rwa [Dc] at this
def aE.length{K:W.Frag}{ct:Ct}{H:Hp}:∀{ds:List D} {vs:List V},aE K ct H ds vs->ds.length=vs.length
 |[],_,h=>by simp only[aE] at h;rw[h];rfl
 |d::ds,_,h=>by simp only[aE] at h;obtain ⟨v,r,rfl,_,h⟩:=h;simp[aE.length h]
def aE.get{K:W.Frag}{ct:Ct}{H:Hp}:∀{ds:List D} {vs:List V} {i:Nat} {d:D},aE K ct H ds vs->ds[i]? =some d->∃v,vs[i]? =some v/\Tl K ct H d v
 |[],_,_,_,_,e=>by simp at e
 |d::ds,_,i,d',h,e=>by
  simp only[aE] at h;obtain ⟨v,r,rfl,h1,h2⟩:=h;cases i with
  |zero=>simp at e;subst e;exact ⟨v,rfl,h1⟩
  |succ i=>exact aE.get (i:=i) h2 (by simpa using e)
def aE.get'{K:W.Frag}{ct:Ct}{H:Hp}:∀{ds:List D} {vs:List V} {i:Nat} {v:V},aE K ct H ds vs->vs[i]? =some v->∃d,ds[i]? =some d/\Tl K ct H d v
 |[],_,_,_,h,e=>by simp only[aE] at h;subst h;simp at e
 |d::ds,_,i,v',h,e=>by
  simp only[aE] at h;obtain ⟨v,r,rfl,h1,h2⟩:=h;cases i with
  |zero=>simp at e;subst e;exact ⟨d,rfl,h1⟩
  |succ i=>exact aE.get' (i:=i) h2 (by simpa using e)
def aE.nil{K:W.Frag}{ct:Ct}{H:Hp}:aE K ct H [] []:=by simp[aE]
def aE.cons{K:W.Frag}{ct:Ct}{H:Hp}{d:D}{v:V}{ds:List D}{vs:List V}(h:Tl K ct H d v)(t:aE K ct H ds vs):aE K ct H (d::ds) (v::vs):=by simp only[aE];exact ⟨v,vs,rfl,h,t⟩
def aE.append{K:W.Frag}{ct:Ct}{H:Hp}:∀{ds es:List D} {vs us:List V},aE K ct H ds vs->aE K ct H es us->aE K ct H (ds++es) (vs++us)
 |[],_,_,_,h,t=>by simp only[aE] at h;subst h;simpa using t
 |d::ds,_,_,_,h,t=>by simp only[aE] at h;obtain ⟨v,r,rfl,h1,h2⟩:=h;exact aE.cons h1 (aE.append h2 t)
def aE.take{K:W.Frag}{ct:Ct}{H:Hp}:∀{ds:List D} {vs:List V} (n:Nat),aE K ct H ds vs->aE K ct H (ds.take n) (vs.take n)
 |[],_,n,h=>by simp only[aE] at h;subst h;simp[aE]
 |d::ds,_,0,_=>by simp[aE]
 |d::ds,_,n+1,h=>by simp only[aE] at h;obtain ⟨v,r,rfl,h1,h2⟩:=h;exact aE.cons h1 (aE.take n h2)
def aE.drop{K:W.Frag}{ct:Ct}{H:Hp}:∀{ds:List D} {vs:List V} (n:Nat),aE K ct H ds vs->aE K ct H (ds.drop n) (vs.drop n)
 |[],_,n,h=>by simp only[aE] at h;subst h;simp[aE]
 |d::ds,_,0,h=>h
 |d::ds,_,n+1,h=>by simp only[aE] at h;obtain ⟨v,r,rfl,h1,h2⟩:=h;exact aE.drop n h2
def aE.set{K:W.Frag}{ct:Ct}{H:Hp}{d:D}{v:V}(q:Tl K ct H d v):∀{ds:List D} {vs:List V} (n:Nat),aE K ct H ds vs->aE K ct H (ds.set n d) (vs.set n v)
 |[],_,n,h=>by simp only[aE] at h;subst h;simp[aE]
 |_::ds,_,0,h=>by simp only[aE] at h;obtain ⟨w,r,rfl,_,h2⟩:=h;exact aE.cons q h2
 |_::ds,_,n+1,h=>by simp only[aE] at h;obtain ⟨w,r,rfl,h1,h2⟩:=h;exact aE.cons h1 (aE.set q n h2)
abbrev Fp:=Addr->Prop
mutual
def Ow(K:W.Frag)(ct:Ct)(H:Hp):M->V->Fp->Prop
 | .d x,v,_=>Tl K ct H x v
 | .l xs,v,S=>∃a vs,v= .ref a/\S a/\H a=some (.lst vs)/\aE K ct H xs vs
 | .n ms,v,S=>∃a vs,v= .ref a/\S a/\H a=some (.lst vs)/\cG K ct H ms vs λ b=>S b/\b≠a
 | .t ms,v,S=>∃a vs,v= .ref a/\H a=some (.tup vs)/\cG K ct H ms vs S
 | .k ks xs,v,S=>∃a vs,v= .ref a/\S a/\H a=some (ks.ho vs)/\ks.len=vs.length/\aE K ct H xs vs
 | .o c ns xs,v,S=>∃a C dx vs,v= .ref a/\S a/\ct.f.cb.ins c=some C/\H a=some (.ins C dx (ns.zip vs))/\ns.length=vs.length/\aE K ct H xs vs
def cG(K:W.Frag)(ct:Ct)(H:Hp):List M->List V->Fp->Prop
 |[],vs,_=>vs=[]
 |m::ms,vs,S=>∃v r S1 S2,vs=v::r/\(∀b,S1 b->S b)/\(∀b,S2 b->S b)/\(∀b,S1 b->¬S2 b)/\Ow K ct H m v S1/\cG K ct H ms r S2
end
section
variable{K:W.Frag}{ct fN:Ct}{H H':Hp}
mutual
/-- a anw place -/
def Ow.wide:∀{m:M} {v:V} {S T:Fp},(∀b,S b->T b)->Ow K ct H m v S->Ow K ct H m v T
 | .d x,v,S,T,_,h=>by simpa[Ow] using h
 | .l xs,v,S,T,k,h=>by simp only[Ow] at h ⊢;obtain ⟨a,vs,h1,h2,h3⟩:=h;exact ⟨a,vs,h1,k _ h2,h3⟩
 | .n ms,v,S,T,k,h=>by simp only[Ow] at h ⊢;obtain ⟨a,vs,h1,h2,h3,h4⟩:=h;exact ⟨a,vs,h1,k _ h2,h3,cG.wide (λ b z=>⟨k b z.1,z.2⟩) h4⟩
 | .t ms,v,S,T,k,h=>by simp only[Ow] at h ⊢;obtain ⟨a,vs,h1,h2,h3⟩:=h;exact ⟨a,vs,h1,h2,cG.wide k h3⟩
 | .k ks xs,v,S,T,k,h=>by simp only[Ow] at h ⊢;obtain ⟨a,vs,h1,h2,h3⟩:=h;exact ⟨a,vs,h1,k _ h2,h3⟩
 | .o c ns xs,v,S,T,k,h=>by simp only[Ow] at h ⊢;obtain ⟨a,C,dx,vs,h1,h2,h3⟩:=h;exact ⟨a,C,dx,vs,h1,k _ h2,h3⟩
def cG.wide:∀{ms:List M} {vs:List V} {S T:Fp},(∀b,S b->T b)->cG K ct H ms vs S->cG K ct H ms vs T
 |[],vs,S,T,_,h=>by simpa[cG] using h
 |m::ms,vs,S,T,k,h=>by simp only[cG] at h ⊢;obtain ⟨v,r,S1,S2,h1,h2,h3,h4,h5,h6⟩:=h;exact ⟨v,r,S1,S2,h1,λ b z=>k b (h2 b z),λ b z=>k b (h3 b z),h4,h5,h6⟩
end
mutual
/-- its places are untouched,Ao data are kept -/
def Ow.frame(e:aP ct.f.cb H H'):∀{m:M} {v:V} {S:Fp},(∀b o,S b->H b=some o->H' b=some o)->Ow K ct H m v S->Ow K ct H' m v S
 | .d x,v,S,_,h=>by simp only[Ow] at h ⊢;exact h.keep e
 | .l xs,v,S,k,h=>by simp only[Ow] at h ⊢;obtain ⟨a,vs,h1,h2,h3,h4⟩:=h;exact ⟨a,vs,h1,h2,k _ _ h2 h3,h4.keep e⟩
 | .n ms,v,S,k,h=>by simp only[Ow] at h ⊢;obtain ⟨a,vs,h1,h2,h3,h4⟩:=h;exact ⟨a,vs,h1,h2,k _ _ h2 h3,cG.frame e (λ b o z=>k b o z.1) h4⟩
 | .t ms,v,S,k,h=>by simp only[Ow] at h ⊢;obtain ⟨a,vs,h1,h2,h3⟩:=h;exact ⟨a,vs,h1,e _ _ h2 trivial,cG.frame e k h3⟩
 | .k ks xs,v,S,k,h=>by simp only[Ow] at h ⊢;obtain ⟨a,vs,h1,h2,h3,h4,h5⟩:=h;exact ⟨a,vs,h1,h2,k _ _ h2 h3,h4,h5.keep e⟩
 | .o c ns xs,v,S,k,h=>by simp only[Ow] at h ⊢;obtain ⟨a,C,dx,vs,h1,h2,h3,h4,h5,h6⟩:=h;exact ⟨a,C,dx,vs,h1,h2,h3,k _ _ h2 h4,h5,h6.keep e⟩
def cG.frame(e:aP ct.f.cb H H'):∀{ms:List M} {vs:List V} {S:Fp},(∀b o,S b->H b=some o->H' b=some o)->cG K ct H ms vs S->cG K ct H' ms vs S
 |[],vs,S,_,h=>by simpa[cG] using h
 |m::ms,vs,S,k,h=>by simp only[cG] at h ⊢;obtain ⟨v,r,S1,S2,h1,h2,h3,h4,h5,h6⟩:=h;exact ⟨v,r,S1,S2,h1,h2,h3,h4,Ow.frame e (λ b o z=>k b o (h2 b z)) h5,cG.frame e (λ b o z=>k b o (h3 b z)) h6⟩
end
mutual
/-- lent for an expression -/
def Ow.lend:∀{m:M} {v:V} {S:Fp},(∀b,S b->ct.B b=H b)->Ow K ct H m v S->Tl K ct H (lend m) v
 | .d x,v,S,_,h=>by simpa only[Ow,L4.lend] using h
 | .l xs,v,S,k,h=>by simp only[Ow,L4.lend,Tl] at h ⊢;obtain ⟨a,vs,h1,h2,h3,h4⟩:=h;exact ⟨a,vs,h1,(k a h2).trans h3,h4⟩
 | .n ms,v,S,k,h=>by simp only[Ow,L4.lend,Tl] at h ⊢;obtain ⟨a,vs,h1,h2,h3,h4⟩:=h;exact ⟨a,vs,h1,(k a h2).trans h3,cG.lend (λ b z=>k b z.1) h4⟩
 | .t ms,v,S,k,h=>by simp only[Ow,L4.lend,Tl] at h ⊢;obtain ⟨a,vs,h1,h2,h3⟩:=h;exact ⟨a,vs,h1,h2,cG.lend k h3⟩
 | .k ks xs,v,S,k,h=>by simp only[Ow,L4.lend,Tl] at h ⊢;obtain ⟨a,vs,h1,h2,h3,h4,h5⟩:=h;exact ⟨a,vs,h1,(k a h2).trans h3,h4,h5⟩
 | .o c ns xs,v,S,k,h=>by simp only[Ow,L4.lend,Tl] at h ⊢;obtain ⟨a,C,dx,vs,h1,h2,h3,h4,h5,h6⟩:=h;exact ⟨a,C,dx,vs,h1,h3,(k a h2).trans h4,h5,h6⟩
def cG.lend:∀{ms:List M} {vs:List V} {S:Fp},(∀b,S b->ct.B b=H b)->cG K ct H ms vs S->aE K ct H (za ms) vs
 |[],vs,S,_,h=>by simpa[cG,L4.za,aE] using h
 |m::ms,vs,S,k,h=>by simp only[cG,L4.za,aE] at h ⊢;obtain ⟨v,r,S1,S2,h1,h2,h3,h4,h5,h6⟩:=h;exact ⟨v,r,h1,Ow.lend (λ b z=>k b (h2 b z)) h5,cG.lend (λ b z=>k b (h3 b z)) h6⟩
end
mutual
/-- Ao data in it told otherwise -/
def Ow.map{p:D->Bool}(ec:fN.f.cb=ct.f.cb)(g:∀d v,p d=true->Tl K ct H d v->Tl K fN H d v){q:List D->Bool}(gs:∀d v,q d=true->aE K ct H d v->aE K fN H d v){pm:M->Bool}{O8:List M->Bool} (e1:∀x,pm (.d x)=true->p x=true) (e2:∀x,pm (.l x)=true->q x=true) (e3:∀x,pm (.n x)=true->O8 x=true) (e4:∀x,pm (.t x)=true->O8 x=true) (e5:∀k x,pm (.k k x)=true->q x=true) (e7:∀c k x,pm (.o c k x)=true->q x=true) (e6:∀m ms,O8 (m::ms)=true->pm m=true/\O8 ms=true):∀{m:M} {v:V} {S:Fp},pm m=true->Ow K ct H m v S->Ow K fN H m v S
 | .d x,v,S,z,h=>by simp only[Ow] at h ⊢;exact g _ _ (e1 _ z) h
 | .l xs,v,S,z,h=>by simp only[Ow] at h ⊢;obtain ⟨a,vs,h1,h2,h3,h4⟩:=h;exact ⟨a,vs,h1,h2,h3,gs _ _ (e2 _ z) h4⟩
 | .n ms,v,S,z,h=>by simp only[Ow] at h ⊢;obtain ⟨a,vs,h1,h2,h3,h4⟩:=h;exact ⟨a,vs,h1,h2,h3,cG.map ec g gs e1 e2 e3 e4 e5 e7 e6 (e3 _ z) h4⟩
 | .t ms,v,S,z,h=>by simp only[Ow] at h ⊢;obtain ⟨a,vs,h1,h2,h3⟩:=h;exact ⟨a,vs,h1,h2,cG.map ec g gs e1 e2 e3 e4 e5 e7 e6 (e4 _ z) h3⟩
 | .k ks xs,v,S,z,h=>by simp only[Ow] at h ⊢;obtain ⟨a,vs,h1,h2,h3,h4,h5⟩:=h;exact ⟨a,vs,h1,h2,h3,h4,gs _ _ (e5 _ _ z) h5⟩
 | .o c ns xs,v,S,z,h=>by simp only[Ow] at h ⊢;obtain ⟨a,C,dx,vs,h1,h2,h3,h4,h5,h6⟩:=h;exact ⟨a,C,dx,vs,h1,h2,by rw[ec];exact h3,h4,h5,gs _ _ (e7 _ _ _ z) h6⟩
def cG.map{p:D->Bool}(ec:fN.f.cb=ct.f.cb)(g:∀d v,p d=true->Tl K ct H d v->Tl K fN H d v){q:List D->Bool}(gs:∀d v,q d=true->aE K ct H d v->aE K fN H d v){pm:M->Bool}{O8:List M->Bool} (e1:∀x,pm (.d x)=true->p x=true) (e2:∀x,pm (.l x)=true->q x=true) (e3:∀x,pm (.n x)=true->O8 x=true) (e4:∀x,pm (.t x)=true->O8 x=true) (e5:∀k x,pm (.k k x)=true->q x=true) (e7:∀c k x,pm (.o c k x)=true->q x=true) (e6:∀m ms,O8 (m::ms)=true->pm m=true/\O8 ms=true):∀{ms:List M} {vs:List V} {S:Fp},O8 ms=true->cG K ct H ms vs S->cG K fN H ms vs S
 |[],vs,S,_,h=>by simpa[cG] using h
 |m::ms,vs,S,z,h=>by simp only[cG] at h ⊢;obtain ⟨v,r,S1,S2,h1,h2,h3,h4,h5,h6⟩:=h;exact ⟨v,r,S1,S2,h1,h2,h3,h4,Ow.map ec g gs e1 e2 e3 e4 e5 e7 e6 (e6 _ _ z).1 h5,cG.map ec g gs e1 e2 e3 e4 e5 e7 e6 (e6 _ _ z).2 h6⟩
end
end
section
variable{K:W.Frag}{c:Cf}{B H:Hp}{m:M}{v:V}{S:Fp}
def Ow.lift(h:Ow K c.z H m v S):Ow K (c.at' B) H m v S:=Ow.map (ct:=c.z) (fN:=c.at' B) (p:=λ _=>true) rfl (λ _ _ _=>Tl.lift) (q:=λ _=>true) (λ _ _ _=>aE.lift) (pm:=λ _=>true) (O8:=λ _=>true) (λ _ _=>rfl) (λ _ _=>rfl) (λ _ _=>rfl) (λ _ _=>rfl) (λ _ _ _=>rfl) (λ _ _ _ _=>rfl) (λ _ _ _=>⟨rfl,rfl⟩) rfl h
def Ow.down{tm:Bool}(h:Ow K ⟨c,B,tm⟩ H m v S)(n:F8 m=true):Ow K c.z H m v S:=Ow.map (ct:=⟨c,B,tm⟩) (fN:=c.z) (p:=nt) rfl (λ _ _ n h=>h.down n) (q:=kR) (λ _ _ n h=>h.down n) (pm:=F8) (O8:=Vo) (λ _ z=>by simpa[F8] using z) (λ _ z=>by simpa[F8] using z) (λ _ z=>by simpa[F8] using z) (λ _ z=>by simpa[F8] using z) (λ _ _ z=>by simpa[F8] using z) (λ _ _ _ z=>by simpa[F8] using z)
  (λ _ _ z=>by simpa[Vo] using z) n h
def Ow.bare{ct fN:Ct}(e:fN.f.cb=ct.f.cb)(h:Ow K ct H m v S)(n:JB m=true):Ow K fN H m v S:=Ow.map (p:=nb) e (λ _ _ n h=>h.bare e n) (q:=oj) (λ _ _ n h=>h.bare e n) (pm:=JB) (O8:=Vu) (λ _ z=>by simpa[JB] using z) (λ _ z=>by simpa[JB] using z) (λ _ z=>by simpa[JB] using z) (λ _ z=>by simpa[JB] using z) (λ _ _ z=>by simpa[JB] using z) (λ _ _ _ z=>by simpa[JB] using z)
  (λ _ _ z=>by simpa[Vu] using z) n h
end
structure SI(ct:Ct)(H₀ H:Hp)(S:Fp):Prop where
 new:∀b,S b->H₀ b=none\/ct.f.io b
 here:∀b,S b->H b≠none
 DF:∀b,S b->ct.f.L b=none
 lent:∀b,S b->ct.tm=true->ct.B b=H b
def kP(K:W.Frag)(ct:Ct)(H₀ H:Hp)(i:Nat)(S:Fp):Slot->Option V->Prop
 | .no,_=>∀b,¬S b
 | .val d,ov=>(∃v,ov=some v/\Tl K ct H d v)/\∀b,¬S b
 | .own m,ov=>∃v,ov=some v/\Ow K ct H m v S/\SI ct H₀ H S/\∀b,S b->H₀ b=none
 | .par m,ov=>∃v,ov=some v/\Ow K ct H m v S/\SI ct H₀ H S/\ct.f.args[i]? =some v
structure J(K:W.Frag)(ct:Ct)(H₀:Hp)(Γ:Sg)(σ:St)(H:Hp):Prop where
 same:∀b o,H₀ b=some o->¬ct.f.io b->H b=some o
 free:∀b,H b=none->H₀ b=none
 lL:au ct.f.L H
 lB:au ct.B H
 len:Γ.length=σ.length
 sl:∃S:Nat->Fp,(∀i sl ov,Γ[i]? =some sl->σ[i]? =some ov->kP K ct H₀ H i (S i) sl ov)/\(∀i j b,i≠j->S i b->¬S j b)/\∀i b,S i b->H b≠none
section
variable{K:W.Frag}{ct:Ct}{H₀ H H':Hp}{Γ:Sg}{σ:St}{i:Nat}{S:Fp}{sl:Slot}{ov:Option V}
def SI.same(h:SI ct H₀ H S)(e:au H H'):SI ct H₀ H' S:=⟨h.new,λ b z q=>h.here b z (by
  cases w:H b with
  |none=>rfl
  |some o=>rw[e b o w] at q;cases q),h.DF,λ b z t=>by
 rw[h.lent b z t];cases w:H b with
 |none=>exact absurd w (h.here b z)
 |some o=>exact (e b o w).symm⟩
def kP.same(h:kP K ct H₀ H i S sl ov)(e:au H H'):kP K ct H₀ H' i S sl ov:=by
 cases sl with
 |no=>exact h
 |val d=>obtain ⟨⟨v,h1,h2⟩,h3⟩:=h;exact ⟨⟨v,h1,h2.keep (au.keep e)⟩,h3⟩
 |own m=>obtain ⟨v,h1,h2,h3,h4⟩:=h;exact ⟨v,h1,h2.frame (au.keep e) (λ b o _ q=>e b o q),h3.same e,h4⟩
 |par m=>obtain ⟨v,h1,h2,h3,h4⟩:=h;exact ⟨v,h1,h2.frame (au.keep e) (λ b o _ q=>e b o q),h3.same e,h4⟩
def J.mono(j:J K ct H₀ Γ σ H)(e:au H H'):J K ct H₀ Γ σ H':=by obtain ⟨S,h1,h2,h3⟩:=j.sl;exact ⟨λ b o q n=>e b o (j.same b o q n),λ b q=>j.free b (e.free q),j.lL.trans e,j.lB.trans e,j.len,S,λ i sl ov g1 g2=>(h1 i sl ov g1 g2).same e,h2,λ i b w q=>h3 i b w (e.free q)⟩
def J.get(j:J K ct H₀ Γ σ H)(h:Γ[i]? =some sl):∃ov S,σ[i]? =some ov/\kP K ct H₀ H i S sl ov:=by
 have hi:i<σ.length:=by rw[<-j.len];exact (List.getElem?_eq_some_iff.mp h).1
 obtain ⟨S,h1,h2⟩:=j.sl;exact ⟨σ[i],S i,List.getElem?_eq_getElem hi,h1 i sl _ h (List.getElem?_eq_getElem hi)⟩
def J.val{d:D}(j:J K ct H₀ Γ σ H)(h:Γ[i]? =some (.val d)):∃v,σ[i]? =some (some v)/\Tl K ct H d v:=by obtain ⟨ov,S,h1,⟨v,h2,h3⟩,_⟩:=j.get h;exact ⟨v,by rw[h1,h2],h3⟩
def J.own{m:M}(j:J K ct H₀ Γ σ H)(h:Γ[i]? =some (.own m)):∃v S,σ[i]? =some (some v)/\Ow K ct H m v S/\SI ct H₀ H S/\∀b,S b->H₀ b=none:=by obtain ⟨ov,S,h1,v,h2,h3⟩:=j.get h;exact ⟨v,S,by rw[h1,h2],h3⟩
def J.par{m:M}(j:J K ct H₀ Γ σ H)(h:Γ[i]? =some (.par m)):∃v S,σ[i]? =some (some v)/\Ow K ct H m v S/\SI ct H₀ H S/\ct.f.args[i]? =some v:=by obtain ⟨ov,S,h1,v,h2,h3⟩:=j.get h;exact ⟨v,S,by rw[h1,h2],h3⟩
def J.lift{c:Cf}(j:J K c.z H₀ Γ σ H):J K (c.at' H) H₀ Γ σ H:=by
 obtain ⟨S,h1,h2⟩:=j.sl;refine ⟨j.same,j.free,j.lL,au.refl H,j.len,S,λ i sl ov g1 g2=>?_,h2⟩;have h:=h1 i sl ov g1 g2;cases sl with
 |no=>exact h
 |val d=>obtain ⟨⟨v,h1,h2⟩,h3⟩:=h;exact ⟨⟨v,h1,h2.lift⟩,h3⟩
 |own m=>obtain ⟨v,h1,h2,h3,h4⟩:=h;exact ⟨v,h1,h2.lift,⟨h3.new,h3.here,h3.DF,λ _ _ _=>rfl⟩,h4⟩
 |par m=>obtain ⟨v,h1,h2,h3,h4⟩:=h;exact ⟨v,h1,h2.lift,⟨h3.new,h3.here,h3.DF,λ _ _ _=>rfl⟩,h4⟩
def J.chg(j:J K ct H₀ Γ σ H)(i:Nat):∃S:Fp,(∀sl ov,Γ[i]? =some sl->σ[i]? =some ov->kP K ct H₀ H i S sl ov)/\∀(H':Hp) (sl:Slot) (ov:Option V) (S':Fp),aP ct.f.cb H H'->(∀b o,H b=some o->¬S b->H' b=some o)->(∀b,H' b=none->H b=none)->au ct.B H'->kP K ct H₀ H' i S' sl ov->(∀b,S' b->S b\/H b=none)->J K ct H₀ (Γ.set i sl) (σ.set i ov) H':=by
 obtain ⟨S,h1,h2,h3⟩:=j.sl;by_cases hi:i<Γ.length
 ·refine ⟨S i,λ sl ov g1 g2=>h1 i sl ov g1 g2,λ H' sl ov S' kp hs hf hB new hS'=>?_⟩;have hiσ:i<σ.length:=by rw[<-j.len];exact hi
  -- Ao places of i,if it has some
  have q:=h1 i Γ[i] σ[i] (List.getElem?_eq_getElem hi) (List.getElem?_eq_getElem hiσ);have so:(∀b,S i b->H₀ b=none\/ct.f.io b)/\∀b,S i b->ct.f.L b=none:=by
   generalize Γ[i]=sl0 at q;cases sl0 with
   |no=>exact ⟨λ b z=>absurd z (q b),λ b z=>absurd z (q b)⟩
   |val d=>exact ⟨λ b z=>absurd z (q.2 b),λ b z=>absurd z (q.2 b)⟩
   |own m=>obtain ⟨v,_,_,h3,_⟩:=q;exact ⟨h3.new,h3.DF⟩
   |par m=>obtain ⟨v,_,_,h3,_⟩:=q;exact ⟨h3.new,h3.DF⟩
  refine ⟨λ b o e n=>?_,λ b e=>j.free b (hf b e),λ b o e=>?_,λ b o e=>?_,by simp[j.len],λ k=>if k=i then S' else S k,λ k HW ov' g1 g2=>?_,λ k l b hkl=>?_,λ k b w=>?_⟩
  ·have:=j.same b o e n;refine hs b o this λ z=>?_;rcases so.1 b z with w|w
   ·rw[w] at e;cases e
   ·exact n w
  ·exact hs b o (j.lL b o e) λ z=>by rw[so.2 b z] at e;cases e
  ·exact hB b o e
  ·by_cases e:i=k
   ·subst e;rw[List.getElem?_set_self hi] at g1;rw[List.getElem?_set_self hiσ] at g2;cases g1;cases g2;simpa using new
   ·rw[List.getElem?_set_ne e] at g1 g2;have ek:¬k=i:=λ z=>e z.symm;simp only[ek,if_false];have z:=h1 k HW ov' g1 g2;have un:∀b o,S k b->H b=some o->H' b=some o:=λ b o w q=>hs b o q λ w'=>h2 k i b ek w w';have sok:SI ct H₀ H (S k)->SI ct H₀ H' (S k):=λ s=>⟨s.new,λ b w q=>s.here b w (hf b q),s.DF,λ b w t=>by
     rw[s.lent b w t];cases x:H b with
     |none=>exact absurd x (s.here b w)
     |some o=>exact (un b o w x).symm⟩
    cases HW with
    |no=>exact z
    |val d=>obtain ⟨⟨v,z1,z2⟩,z3⟩:=z;exact ⟨⟨v,z1,z2.keep kp⟩,z3⟩
    |own m=>obtain ⟨v,z1,z2,z3,z4⟩:=z;exact ⟨v,z1,z2.frame kp un,sok z3,z4⟩
    |par m=>obtain ⟨v,z1,z2,z3,z4⟩:=z;exact ⟨v,z1,z2.frame kp un,sok z3,z4⟩
  ·-- apart
   have far:∀l b,¬l=i->S' b->¬S l b:=λ l b hl w w'=>by
    rcases hS' b w with u|u
    ·exact h2 l i b hl w' u
    ·exact h3 l b w' u
   by_cases e1:k=i
   ·subst e1;have e2:¬l=k:=λ z=>hkl z.symm;simp only[if_true,e2,if_false];exact far l b e2
   ·by_cases e2:l=i
    ·subst e2;simp only[e1,if_false,if_true];exact λ w w'=>far k b e1 w' w
    ·simp only[e1,e2,if_false];exact h2 k l b hkl
  ·by_cases e:k=i
   ·subst e;simp only[if_true] at w;cases sl with
    |no=>exact absurd w (new b)
    |val d=>exact absurd w (new.2 b)
    |own m=>obtain ⟨v,_,_,z,_⟩:=new;exact z.here b w
    |par m=>obtain ⟨v,_,_,z,_⟩:=new;exact z.here b w
   ·simp only[e,if_false] at w;exact λ q=>h3 k b w (hf b q)
 ·refine ⟨λ _=>False,λ sl ov g1 g2=>?_,λ H' sl ov S' kp hs hf hB new hS'=>?_⟩
  ·rw[List.getElem?_eq_none (Nat.le_of_not_lt hi)] at g1;cases g1
  ·rw[List.set_eq_of_length_le (Nat.le_of_not_lt hi),List.set_eq_of_length_le (by rw[<-j.len];exact Nat.le_of_not_lt hi)];exact j.mono λ b o q=>hs b o q λ z=>z
def J.set{d:D}{v:V}(j:J K ct H₀ Γ σ H)(h:Tl K ct H d v):J K ct H₀ (Γ.set i (.val d)) (σ.set i (some v)) H:=by obtain ⟨S,_,h2⟩:=j.chg i;exact h2 H _ _ (λ _=>False) (aP.refl H) (λ _ _ q _=>q) (λ _ q=>q) j.lB ⟨⟨v,rfl,h⟩,λ _ z=>z⟩ λ _ z=>z.elim
def J.unset(j:J K ct H₀ Γ σ H):J K ct H₀ (Γ.set i .no) (σ.set i ov) H:=by obtain ⟨S,_,h2⟩:=j.chg i;exact h2 H _ _ (λ _=>False) (aP.refl H) (λ _ _ q _=>q) (λ _ q=>q) j.lB (λ _ z=>z) λ _ z=>z.elim
def J.setM{m:M}{v:V}{S':Fp}(j:J K ct H₀ Γ σ H)(e:au H H')(tm:ct.tm=false)(h:Ow K ct H' m v S')(new:∀b,S' b->H b=none)(here:∀b,S' b->H' b≠none):J K ct H₀ (Γ.set i (.own m)) (σ.set i (some v)) H':=by
 obtain ⟨S,_,h2⟩:=j.chg i;refine h2 H' _ _ S' (au.keep e) (λ b o q _=>e b o q) (λ b q=>e.free q) (j.lB.trans e) ⟨v,rfl,h,⟨λ b z=> .inl (j.free b (new b z)),here,λ b z=>?_,λ b z t=>by rw[tm] at t;cases t⟩,λ b z=>j.free b (new b z)⟩ λ b z=> .inr (new b z);cases w:ct.f.L b with
 |none=>rfl
 |some o=>have:=j.lL b o w;rw[new b z] at this;cases this
def J.weak{Γ1:Sg}(j:J K ct H₀ Γ1 σ H)(hl:Γ1.length=Γ.length)(h:∀i:Nat,Γ[i]? =some .no\/Γ[i]? =Γ1[i]?):J K ct H₀ Γ σ H:=by
 obtain ⟨S,h1,h2,h3⟩:=j.sl;refine ⟨j.same,j.free,j.lL,j.lB,by rw[<-hl];exact j.len,λ i b=>S i b/\Γ[i]? =Γ1[i]?/\Γ[i]?≠some .no,λ i sl ov g1 g2=>?_,λ i k b e w w'=>h2 i k b e w.1 w'.1,λ i b w=>h3 i b w.1⟩;by_cases e:sl= .no
 ·subst e;exact λ b w=>w.2.2 g1
 ·have e1:Γ[i]? =Γ1[i]? :=by
   rcases h i with z|z
   ·rw[z] at g1;cases g1;exact absurd rfl e
   ·exact z
  have q:=h1 i sl ov (e1▸g1) g2;have eS:(λ b=>S i b/\Γ[i]? =Γ1[i]?/\Γ[i]?≠some .no)=S i:=funext λ b=>propext ⟨λ w=>w.1,λ w=>⟨w,e1,by rw[g1];exact λ z=>e (Option.some.inj z)⟩⟩;show kP K ct H₀ H i (λ b=>S i b/\Γ[i]? =Γ1[i]?/\Γ[i]?≠some .no) sl ov;rw[eS];exact q
def J.ahk(j:J K ct H₀ Γ σ H)(n:ah5 Γ)(k:aP ct.f.cb H H')(s:∀b o,H₀ b=some o->¬ct.f.io b->H' b=some o)(f:∀b,H' b=none->H₀ b=none)(l:au ct.f.L H')(b:au ct.B H'):J K ct H₀ Γ σ H':=by
 obtain ⟨S,h1,h2,h3⟩:=j.sl;refine ⟨s,f,l,b,j.len,λ _ _=>False,λ i sl ov g1 g2=>?_,λ _ _ _ _ z=>z.elim,λ _ _ z=>z.elim⟩;have q:=h1 i sl ov g1 g2;cases sl with
 |no=>exact λ _ z=>z
 |val d=>obtain ⟨⟨v,q1,q2⟩,_⟩:=q;exact ⟨⟨v,q1,q2.keep k⟩,λ _ z=>z⟩
 |own m=>exact absurd g1 (n i m).1
 |par m=>exact absurd g1 (n i m).2
def Tl.jK{d:D}{v:V}{ds:List D}(l:au ct.f.L H)(b:au ct.B H)(h:Tl K ct H d v)(e:asL d=some ds):∃a vs,v= .ref a/\oA K H a vs/\aE K ct H ds vs:=by
 cases d with
 |lst xs=>cases e;simp only[Tl] at h;obtain ⟨a,vs,h1,h2,h3⟩:=h;exact ⟨a,vs,h1,h2.sq,h3⟩
 |bor t xs=>
  cases e;simp only[Tl] at h;obtain ⟨a,vs,h1,h2,h3⟩:=h;refine ⟨a,vs,h1,.inl (.inl ?_),h3⟩;cases t with
  |true=>exact b a _ h2
  |false=>exact l a _ h2
 |_=>cases e
end
def EO(P:Program)(w:World):YV:=λ outer H s E e s'=>∃(a C:Addr) (H':Hp) (B:Heap) (a0:Value),e= .ref a/\E (.ref C) none H'/\s'.os=s.os/\AllBare s'.gens/\Heap.FlyingW B outer a (.ref C) a0 s'.heap/\H' a=none/\s.heap.get? a=none/\∀h':Heap,B.StaysIn h'->s'.heap.UpToSlots h'->Un (frs outer) [] H H' s.heap h'/\pW P w H' h'
def gc(X:Cx)(cb:Cb)(σ:St)(H:Hp)(c:String)(e:Value)(s':Shared):Prop:=∃(pins:List (Addr×Obj)) (H1:Hp) (s1:Shared) (C:Addr),Inv X pins σ H1 s1/\au H H1/\cb.exc c=some C/\((∃(a:Addr) (args:List Value) (h':Heap),e= .ref a/\s'={s1 with heap:=h'}/\Heap.MadeExcOf s1.heap h' a (.ref C) args)\/EO X.prog X.w X.stack H1 s1 (λ cls od H'=>cls= .ref C/\od=none/\au H1 H') e s')
def gc.mono{X:Cx}{cb:Cb}{σ:St}{H H2:Hp}{c:String}{e:Value}{s':Shared}(s:au H H2)(h:gc X cb σ H2 c e s'):gc X cb σ H c e s':=by obtain ⟨pins,H1,s1,C,h1,h2,h3⟩:=h;exact ⟨pins,H1,s1,C,h1,s.trans h2,h3⟩
def Ok{α:Type}(X:Cx)(ct:Ct)(σ:St)(H:Hp)(r:Res α)(W:α->Prop):Prop:=match r with
 | .ok d=>W d
 | .err c=>∀e s',gc X ct.f.cb σ H c e s'->X.xe e s'
 | .bad=>False
def Ok.mono{α:Type}{X:Cx}{ct:Ct}{σ:St}{H H2:Hp}{r:Res α}{W W':α->Prop}(s:au H H2)(h:Ok X ct σ H r W)(k:∀d,W d->W' d):Ok X ct σ H2 r W':=by
 cases r with
 |ok d=>exact k d h
 |err c=>exact λ e s' q=>h e s' (q.mono s)
 |bad=>exact h
def Ok.bnd{α β:Type}{X:Cx}{ct:Ct}{σ:St}{H:Hp}{r:Res α}{f:α->Res β}{W:β->Prop}{W':α->Prop}(h:Ok X ct σ H (r.bnd f) W)(k:∀d,r= .ok d->Ok X ct σ H (f d) W->W' d):Ok X ct σ H r W':=by
 cases r with
 |ok d=>exact k d rfl h
 |err c=>exact h
 |bad=>exact h
def Wd(X:Cx)(ct:Ct)(H:Hp)(Q:VK)(d:D):Prop:=∀v H',au H H'->Tl X.K ct H' d v->Q v H'
def Wl(X:Cx)(ct:Ct)(H:Hp)(Q:VK)(ds:List D):Prop:=∀a vs H',au H H'->H a=none->H' a=some (.lst vs)->aE X.K ct H' ds vs->Q (.ref a) H'
def Wm(X:Cx)(ct:Ct)(H:Hp)(Q:VK)(m:M):Prop:=∀v H' S,au H H'->Ow X.K ct H' m v S->(∀b,S b->H b=none)->(∀b,S b->H' b≠none)->Q v H'
def Wt(H:Hp)(Q:Bool->Hp->Prop)(b:Bool):Prop:=∀H',au H H'->Q b H'
def Wa(X:Cx)(ct:Ct)(H:Hp)(Q:List V->Hp->Prop)(ds:List D):Prop:=∀vs H',au H H'->aE X.K ct H' ds vs->Q vs H'
abbrev Jx(X:Cx)(ct:Ct)(Γ:Sg)(σ:St)(H:Hp):Prop:=J X.K ct X.H₀ Γ σ H
def nY(X:Cx)(ct:Ct)(f:Sg->Res D):TE:=λ σ H Q=>∃Γ,Jx X ct Γ σ H/\Ok X ct σ H (f Γ) (Wd X ct H Q)
def lOf(X:Cx)(ct:Ct)(f:Sg->Res (List D)):TE:=λ σ H Q=>∃Γ,Jx X ct Γ σ H/\Ok X ct σ H (f Γ) (Wl X ct H Q)
def mOf(X:Cx)(ct:Ct)(f:Sg->Res M):TE:=λ σ H Q=>∃Γ,Jx X ct Γ σ H/\Ok X ct σ H (f Γ) (Wm X ct H Q)
def XD(X:Cx)(ct:Ct)(f:Sg->Res Bool):TT:=λ σ H Q=>∃Γ,Jx X ct Γ σ H/\Ok X ct σ H (f Γ) (Wt H Q)
def HY(X:Cx)(ct:Ct)(f:Sg->Res (List D)):TA:=λ σ H Q=>∃Γ,Jx X ct Γ σ H/\Ok X ct σ H (f Γ) (Wa X ct H Q)
abbrev PD(X:Cx)(ct:Ct)(e:Expr)(f:Sg->Res D):Prop:=PE X e (nY X ct f)
abbrev PL(X:Cx)(ct:Ct)(e:Expr)(f:Sg->Res (List D)):Prop:=PE X e (lOf X ct f)
abbrev PM(X:Cx)(ct:Ct)(e:Expr)(f:Sg->Res M):Prop:=PE X e (mOf X ct f)
abbrev PDT(X:Cx)(ct:Ct)(e:Expr)(f:Sg->Res Bool):Prop:=PT X e (XD X ct f)
abbrev PDW(X:Cx)(ct:Ct)(e:Expr)(f:Sg->Res Bool):Prop:=PW X e (XD X ct f)
abbrev PDA(X:Cx)(ct:Ct)(es:List Expr)(f:Sg->Res (List D)):Prop:=PA X es (HY X ct f)
structure Bk(X:Cx)(c:Cf)(H':Hp):Prop where
 same:∀b o,X.H₀ b=some o->¬c.io b->H' b=some o
 free:∀b,H' b=none->X.H₀ b=none
def J.bk{X:Cx}{ct:Ct}{Γ:Sg}{σ:St}{H:Hp}(j:Jx X ct Γ σ H):Bk X ct.f H:=⟨j.same,j.free⟩
def Fn(X:Cx)(c:Cf)(H:Hp)(o:Out)(E:Ends):Prop:=match o with
 | .nx Γ=>∀σ' H',aP c.cb H H'->Jx X c.z Γ σ' H'->E.nx σ' H'
 | .bk Γ=>∀σ' H',aP c.cb H H'->Jx X c.z Γ σ' H'->E.bk σ' H'
 | .ct Γ=>∀σ' H',aP c.cb H H'->Jx X c.z Γ σ' H'->E.ct σ' H'
 | .rt d=>∀v H',Bk X c H'->Tl X.K c.z H' d v->E.rt v H'
 | .O3 m=>∀v H' S,Bk X c H'->Ow X.K c.z H' m v S->(∀b,S b->X.H₀ b=none)->(∀b,S b->H' b≠none)->E.rt v H'
 | .SQ d Γ=>∀v σ' H',Jx X c.z Γ σ' H'->Tl X.K c.z H' d v->E.rt v H'
 | .Av _ _=>False
 | .err x Γ=>∀σ' H' e s',aP c.cb H H'->Jx X c.z Γ σ' H'->gc X c.cb σ' H' x e s'->X.xe e s'
 | .bad=>False
def Fn.mono{X:Cx}{c:Cf}{H H2:Hp}{o:Out}{E:Ends}(k:aP c.cb H H2)(h:Fn X c H o E):Fn X c H2 o E:=by
 cases o with
 |nx Γ=>exact λ σ' H' e=>h σ' H' (k.trans e)
 |bk Γ=>exact λ σ' H' e=>h σ' H' (k.trans e)
 |ct Γ=>exact λ σ' H' e=>h σ' H' (k.trans e)
 |rt d=>exact h
 |O3 m=>exact h
 |SQ d Γ=>exact h
 |Av m Γ=>exact h
 |err x Γ=>exact λ σ' H' e s' q=>h σ' H' e s' (k.trans q)
 |bad=>exact h
def sOf(X:Cx)(c:Cf)(F:Sg->Out):TS:=λ E σ H=>∃Γ,Jx X c.z Γ σ H/\Fn X c H (F Γ) E
abbrev PDS(X:Cx)(c:Cf)(st:Stmt)(F:Sg->Out):Prop:=PS X st (sOf X c F)
abbrev ajC(X:Cx)(c:Cf)(sts:List Stmt)(F:Sg->Out):Prop:=HZ X sts (sOf X c F)
structure WE(X:Cx)(e:Expr)(t:TE):Prop where
 out:PE X e t
structure WT(X:Cx)(e:Expr)(t:TT):Prop where
 out:PT X e t
structure WW(X:Cx)(e:Expr)(t:TT):Prop where
 out:PW X e t
structure WA(X:Cx)(es:List Expr)(t:TA):Prop where
 out:PA X es t
structure WS(X:Cx)(st:Stmt)(t:TS):Prop where
 out:PS X st t
structure WSs(X:Cx)(st:List Stmt)(t:TS):Prop where
 out:HZ X st t
abbrev WD(X:Cx)(ct:Ct)(e:Expr)(f:Sg->Res D):Prop:=WE X e (nY X ct f)
abbrev WL(X:Cx)(ct:Ct)(e:Expr)(f:Sg->Res (List D)):Prop:=WE X e (lOf X ct f)
abbrev WM(X:Cx)(ct:Ct)(e:Expr)(f:Sg->Res M):Prop:=WE X e (mOf X ct f)
abbrev HP(X:Cx)(ct:Ct)(e:Expr)(f:Sg->Res Bool):Prop:=WT X e (XD X ct f)
abbrev WDW(X:Cx)(ct:Ct)(e:Expr)(f:Sg->Res Bool):Prop:=WW X e (XD X ct f)
abbrev xO(X:Cx)(ct:Ct)(es:List Expr)(f:Sg->Res (List D)):Prop:=WA X es (HY X ct f)
abbrev uK(X:Cx)(c:Cf)(st:Stmt)(F:Sg->Out):Prop:=WS X st (sOf X c F)
abbrev qH(X:Cx)(c:Cf)(sts:List Stmt)(F:Sg->Out):Prop:=WSs X sts (sOf X c F)
def TJ{X:Cx}:WA X [] ahp:=⟨qY⟩
def wY{X:Cx}{e:Expr}{es:List Expr}{te:TE}{t:TA}(ha:WE X e te)(hr:WA X es t)(hs:starEach (e::es) X.env=(false,eval e X.env)::starEach es X.env:=by rfl):WA X (e::es) (abV te t):=⟨ja ha.out hr.out hs⟩
section
variable{X:Cx}{ct:Ct}{a b e:Expr}{f g:Sg->Res D}{H:Hp}{Γ:Sg}{σ:St}{pos:Pos}
def PE.imp{t u:TE}(h:PE X e t)(k:∀σ H Q,u σ H Q->t σ H Q):PE X e u:=λ pins s σ H Q I q=>h pins s σ H Q I (k σ H Q q)
def PT.imp{t u:TT}(h:PT X e t)(k:∀σ H Q,u σ H Q->t σ H Q):PT X e u:=λ pins s σ H Q I q=>h pins s σ H Q I (k σ H Q q)
def PW.imp{t u:TT}(h:PW X e t)(k:∀σ H Q,u σ H Q->t σ H Q):PW X e u:=λ wh pins s σ H Q I q=>h wh pins s σ H Q I (k σ H Q q)
def PA.imp{es:List Expr}{t u:TA}(h:PA X es t)(k:∀σ H Q,u σ H Q->t σ H Q):PA X es u:=λ pos pins s σ H Q I q=>h pos pins s σ H Q I (k σ H Q q)
def PS.imp{st:Stmt}{t u:TS}(h:PS X st t)(k:∀E σ H,u E σ H->t E σ H):PS X st u:=λ pins s σ H E I q=>h pins s σ H E I (k E σ H q)
def HZ.imp{st:List Stmt}{t u:TS}(h:HZ X st t)(k:∀E σ H,u E σ H->t E σ H):HZ X st u:=λ pins s σ H E I q=>h pins s σ H E I (k E σ H q)
def nY.bnd{β:Type}{r:D->Res β}{W:β->Prop}{Q:VK}(j:Jx X ct Γ σ H)(h:Ok X ct σ H ((f Γ).bnd r) W) (k:∀d v H',au H H'->Tl X.K ct H' d v->Jx X ct Γ σ H'->Ok X ct σ H (r d) W->Q v H'):nY X ct f σ H Q:=⟨Γ,j,h.bnd λ d _ q v H' s t=>k d v H' s t (j.mono s) q⟩
def HY.bnd{fa:Sg->Res (List D)}{β:Type}{r:List D->Res β}{W:β->Prop}{Q:List V->Hp->Prop}(j:Jx X ct Γ σ H)(h:Ok X ct σ H ((fa Γ).bnd r) W) (k:∀d v H',au H H'->aE X.K ct H' d v->Jx X ct Γ σ H'->Ok X ct σ H (r d) W->Q v H'):HY X ct fa σ H Q:=⟨Γ,j,h.bnd λ d _ q v H' s t=>k d v H' s t (j.mono s) q⟩
def XD.bnd{fa:Sg->Res Bool}{β:Type}{r:Bool->Res β}{W:β->Prop}{Q:Bool->Hp->Prop}(j:Jx X ct Γ σ H)(h:Ok X ct σ H ((fa Γ).bnd r) W) (k:∀d H',au H H'->Jx X ct Γ σ H'->Ok X ct σ H (r d) W->Q d H'):XD X ct fa σ H Q:=⟨Γ,j,h.bnd λ d _ q H' s=>k d H' s (j.mono s) q⟩
def Wd.mono{H2:Hp}{Q:VK}{d:D}(s:au H H2)(h:Wd X ct H Q d):Wd X ct H2 Q d:=λ v H' e t=>h v H' (s.trans e) t
def Wt.mono{H2:Hp}{Q:Bool->Hp->Prop}{d:Bool}(s:au H H2)(h:Wt H Q d):Wt H2 Q d:=λ H' e=>h H' (s.trans e)
def ah(i:Nat){x:Str}{pos:Pos}(hN:X.N[i]? =some x:=by rfl)(hv:SG X.env.scope x:=by first|exact Or.inl rfl|exact Or.inr (Or.inl rfl)|exact Or.inr (Or.inr rfl))(hd:(x==("__debug__":Str))=false:=by decide)(hcd:(x==("__classdict__":Str))=false:=by decide):WD X ct (.Name x pos) (ao i):=by
 refine ⟨?_⟩;refine PE.imp (yz hN hv hd hcd) λ σ H Q ⟨Γ,j,h⟩=>?_;unfold ao at h;split at h
 ·rename_i d hd';obtain ⟨v,h1,h2⟩:=j.val hd';exact ⟨v,h1,h v H (au.refl H) h2⟩
 ·exact h.elim
def bZ(i:Nat){x:Str}{pos:Pos}(tm:ct.tm=true:=by rfl)(hN:X.N[i]? =some x:=by rfl)(hv:SG X.env.scope x:=by first|exact Or.inl rfl|exact Or.inr (Or.inl rfl)|exact Or.inr (Or.inr rfl))(hd:(x==("__debug__":Str))=false:=by decide)(hcd:(x==("__classdict__":Str))=false:=by decide):WD X ct (.Name x pos) (bN i):=by
 refine ⟨?_⟩;refine PE.imp (yz hN hv hd hcd) λ σ H Q ⟨Γ,j,h⟩=>?_;unfold bN at h;split at h
 ·rename_i d hd';obtain ⟨v,h1,h2⟩:=j.val hd';exact ⟨v,h1,h v H (au.refl H) h2⟩
 ·rename_i m hm;obtain ⟨v,S,h1,h2,h3,_⟩:=j.own hm;exact ⟨v,h1,h v H (au.refl H) (h2.lend λ b z=>h3.lent b z tm)⟩
 ·rename_i m hm;obtain ⟨v,S,h1,h2,h3,_⟩:=j.par hm;exact ⟨v,h1,h v H (au.refl H) (h2.lend λ b z=>h3.lent b z tm)⟩
 ·exact h.elim
def az{i k pos}:WD X ct (.Constant (.int i) k pos) (dC (.int i)):=by exact ⟨PE.imp aeg λ σ H Q ⟨Γ,j,h⟩=>h _ H (au.refl H) (by simp[Tl])⟩
def BI{b k pos}:WD X ct (.Constant (.bool b) k pos) (dC (.bl b)):=by exact ⟨PE.imp ahS λ σ H Q ⟨Γ,j,h⟩=>h _ H (au.refl H) (by simp[Tl])⟩
def CJ{k pos}:WD X ct (.Constant .none k pos) (dC .dY):=by exact ⟨PE.imp aee λ σ H Q ⟨Γ,j,h⟩=>h _ H (au.refl H) (by simp[Tl])⟩
def iE{x k pos}:WD X ct (.Constant (.str x) k pos) (dC (.str x)):=by exact ⟨PE.imp aeb λ σ H Q ⟨Γ,j,h⟩=>h _ H (au.refl H) (by simp[Tl])⟩
def Z9{x:Str}{d:D}{v:V}{u:Value}{pos:Pos}(hg:Gl X x)(hm:X.mg x=some u)(r:RelV v u)(t:∀H,Tl X.K ct H d v)(hd:(x==("__debug__":Str))=false:=by decide):PD X ct (.Name x pos) (dC d):=PE.imp (Pb hg hm r hd) λ σ H Q ⟨Γ,j,h⟩=>h _ H (au.refl H) (t H)
def HR(X:Cx)(ct:Ct)(r2:R2)(r:D->D->Res D):Prop:=∀(σ:St) (H:Hp) (x y:V) (d1 d2:D) (Q:VK),au ct.f.L H->au ct.B H->Tl X.K ct H d1 x->Tl X.K ct H d2 y->Ok X ct σ H (r d1 d2) (Wd X ct H Q)->r2 x y H Q
def Dn{r2:R2}{r:D->D->Res D}(ho:HR X ct r2 r):∀σ H Q,nY X ct (aO r f g) σ H Q->tOp r2 (nY X ct f) (nY X ct g) σ H Q:=by
 rintro σ H Q ⟨Γ,j,h⟩
 refine nY.bnd j h λ d1 v H1 s1 t1 j1 h1=>?_;refine nY.bnd (W:=Wd X ct H Q) j1 (Ok.mono s1 h1 λ _ z=>z) λ d2 u H2 s2 t2 j2 h2=>?_;exact ho σ H2 v u d1 d2 Q j2.lL j2.lB (t1.keep (au.keep s2)) t2 (Ok.mono s2 h2 λ d q=>q.mono (s1.trans s2))
def vG{op:Operator}{r2:R2}{r:D->D->Res D}(hr:nU X (binaryOp op) r2)(ho:HR X ct r2 r)(ha:PD X ct a f)(hb:PD X ct b g):PD X ct (.BinOp a op b pos) (aO r f g):=PE.imp (ab5 hr ha hb) (Dn ho)
def U0{op:CmpOp}{r2:R2}{r:D->D->Res D}(hr:nU X (compareOp op) r2)(ho:HR X ct r2 r)(ha:PD X ct a f)(hb:PD X ct b g)(hm:behindInMarks op b=false):PD X ct (.Compare a [op] [b] pos) (aO r f g):=PE.imp (Z6 hr ha hb hm) (Dn ho)
def IF{t:TE}(k:∀σ H Q,nY X ct f σ H Q->t σ H Q):∀σ H Q,XD X ct (dT f) σ H Q->Ub t σ H Q:=by
 rintro σ H Q ⟨Γ,j,h⟩
 refine k σ H _ (nY.bnd j h λ d v H' s t j' h'=>?_);cases d with
 |bl b=>simp only[Tl] at t;exact ⟨b,t,h' H' s⟩
 |_=>exact h'.elim
def xm{op:CmpOp}{r2:R2}{r:D->D->Res D}(hr:nU X (compareOp op) r2)(ho:HR X ct r2 r)(ha:PD X ct a f)(hb:PD X ct b g)(hm:behindInMarks op b=false):PDT X ct (.Compare a [op] [b] pos) (dT (aO r f g)):=PT.imp (ZT hr ha hb hm) (IF (Dn ho))
def dm(ha:WD X ct e f)(he:∀whole,isTrue e X.env whole=(do let v <-whole;standAt e.pos;holding [v] (truthy v)):=by intro _;rfl):HP X ct e (dT f):=by
 have ha:=ha.out
 exact ⟨PT.imp (ad1 ha he) (IF λ _ _ _ z=>z)⟩
variable{p q:Sg->Res Bool}{rest:List Expr}
def xT(ha:HP X ct a p):WDW X ct (.BoolOp .And [a] pos) p:=by have ha:=ha.out;exact ⟨ZS ha⟩
def sA(ha:HP X ct a p):WDW X ct (.BoolOp .Or [a] pos) p:=by have ha:=ha.out;exact ⟨adZ ha⟩
def CI(ha:HP X ct a p)(hb:WDW X ct (.BoolOp .And (b::rest) pos) q):WDW X ct (.BoolOp .And (a::b::rest) pos) (Sv p q):=by
 have ha:=ha.out;have hb:=hb.out;refine ⟨?_⟩;refine PW.imp (ad0 ha hb) λ σ H Q ⟨Γ,j,h⟩=>?_;refine XD.bnd j h λ c H' s j' h'=>?_;cases c with
 |true=>exact J9 ⟨Γ,j',Ok.mono s h' λ d z=>z.mono s⟩
 |false=>exact Ka (h' H' s)
def uO(ha:HP X ct a p)(hb:WDW X ct (.BoolOp .Or (b::rest) pos) q):WDW X ct (.BoolOp .Or (a::b::rest) pos) (Y7 p q):=by
 have ha:=ha.out;have hb:=hb.out;refine ⟨?_⟩;refine PW.imp (ahM ha hb) λ σ H Q ⟨Γ,j,h⟩=>?_;refine XD.bnd j h λ c H' s j' h'=>?_;cases c with
 |true=>exact J9 (h' H' s)
 |false=>exact Ka ⟨Γ,j',Ok.mono s h' λ d z=>z.mono s⟩
def vD{e:Expr}(h:WDW X ct e p):HP X ct e p:=by have h:=h.out;exact ⟨h.pt⟩
def fJ(ha:HP X ct a p):HP X ct (.UnaryOp .Not a pos) (qE p):=by have ha:=ha.out;refine ⟨?_⟩;refine PT.imp (ad2 ha) λ σ H Q ⟨Γ,j,h⟩=>?_;exact XD.bnd j h λ c H' s j' h'=>h' H' s
def Im{op}(h:WD X ct a f):WD X ct (.BoolOp op [a] pos) f:=by have h:=h.out;exact ⟨aec h⟩
def Io(ha:WD X ct a f)(hb:WD X ct (.BoolOp .And (b::rest) pos) g):WD X ct (.BoolOp .And (a::b::rest) pos) (Kz f g):=by
 have ha:=ha.out;have hb:=hb.out;refine ⟨?_⟩;refine PE.imp (aej ha hb) λ σ H Q ⟨Γ,j,h⟩=>?_;refine nY.bnd j h λ d v H' s t j' h'=>?_;cases d with
 |bl c=>
  simp only[Tl] at t;refine ⟨c,t,?_⟩;cases c with
  |true=>exact J9 ⟨Γ,j',Ok.mono s h' λ d z=>z.mono s⟩
  |false=>exact Ka (h' _ H' s (by simp[Tl]))
 |_=>exact h'.elim
def adA(ha:WD X ct a f):WD X ct (.UnaryOp .Not a pos) (afr f):=by
 have ha:=ha.out;refine ⟨?_⟩;refine PE.imp (aed ha) λ σ H Q ⟨Γ,j,h⟩=>?_;refine nY.bnd j h λ d v H' s t j' h'=>?_;cases d with
 |bl c=>simp only[Tl] at t;exact ⟨c,t,h' _ H' s (by simp[Tl])⟩
 |_=>exact h'.elim
def aj:xO X ct [] aB:=by exact ⟨PA.imp qY λ σ H Q ⟨Γ,j,h⟩=>h [] H (au.refl H) aE.nil⟩
def aa{es:List Expr}{r:Sg->Res (List D)}(ha:WD X ct e f)(hr:xO X ct es r)(hs:starEach (e::es) X.env=(false,eval e X.env)::starEach es X.env:=by rfl):xO X ct (e::es) (ai f r):=by have ha:=ha.out;have hr:=hr.out;refine ⟨?_⟩;refine PA.imp (ja ha hr hs) λ σ H Q ⟨Γ,j,h⟩=>?_;refine nY.bnd j h λ d v H1 s1 t1 j1 h1=>?_;refine HY.bnd (W:=Wa X ct H Q) j1 (Ok.mono s1 h1 λ _ z=>z) λ ds vs H2 s2 t2 j2 h2=>?_;exact h2 _ H2 (s1.trans s2) (aE.cons (t1.keep (au.keep s2)) t2)
def aT{H:Hp}{p:Addr}(h:H p=none)(o:HO):au H (upd H p o):=λ b u q=>by rw[aC (eT q h)];exact q
def bH{es:List Expr}{r:Sg->Res (List D)}{x1}(h:xO X ct es r):WD X ct (.Tuple es x1 pos) (fj r):=by
 have h:=h.out;refine ⟨?_⟩;refine PE.imp (UT h) λ σ H Q ⟨Γ,j,h⟩=>?_;refine HY.bnd j h λ ds vs H1 s1 t1 j1 h1=>?_;split at h1
 ·rename_i hl;refine ⟨Nat.le_of_lt (qa (by rw[<-t1.length];exact hl)),λ p hp=>?_⟩;have s2:=aT hp (.tup vs);refine h1 _ _ (s1.trans s2) ?_;simp only[Tl];exact ⟨p,vs,rfl,aD,t1.keep (au.keep s2)⟩
 ·exact h1.elim
def jZ{es:List Expr}{r:Sg->Res (List D)}(h:xO X ct es r):WL X ct (.List es pos) (pQ r):=by
 have h:=h.out;refine ⟨?_⟩;refine PE.imp (aef h) λ σ H Q ⟨Γ,j,h⟩=>?_;refine HY.bnd j h λ ds vs H1 s1 t1 j1 h1=>?_;split at h1
 ·rename_i hl;refine ⟨Nat.le_of_lt (qa (by rw[<-t1.length];exact hl)),λ p hp=>?_⟩;have s2:=aT hp (.lst vs);exact h1 p vs _ (s1.trans s2) (s1.free hp) aD (t1.keep (au.keep s2))
 ·exact h1.elim
end
section
variable{P:Program}{w:World}
def pC{H:Hp}{h:Heap}{a:Addr}{o:HO}(x:b9 P w H h a o):∃ob,h.get? a=some ob:=by
 cases o with
 |lst xs=>obtain ⟨_,_,_,_,e⟩:=x;exact ⟨_,e⟩
 |tup xs=>obtain ⟨_,_,_,ob,e,_⟩:=x;exact ⟨_,e⟩
 |dK kvs=>obtain ⟨_,_,_,_,o,_,_,e,_⟩:=x;exact ⟨_,e⟩
 |dT kvs=>obtain ⟨_,_,_,_,o,_,_,e,_⟩:=x;exact ⟨_,e⟩
 |set S n=>obtain ⟨o,_,_,_,e,_⟩:=x;exact ⟨_,e⟩
 |ins C dx fs=>obtain ⟨_,_,_,e,_⟩:=x;exact ⟨_,e⟩
 |own y=>obtain ⟨_,e⟩:=x;exact ⟨_,e⟩
 |xd fs=>obtain ⟨_,⟨_,_,_,e,_⟩,_⟩:=x;exact ⟨_,e⟩
 |rng lo hi=>obtain ⟨_,_,_,e⟩:=x;exact ⟨_,e⟩
 |Bd ob u=>obtain ⟨e,_⟩:=x;exact ⟨_,e⟩
 |oG ps=>exact ⟨_,(show h.get? a=some _ from x)⟩
 |met f y=>exact ⟨_,(show h.get? a=some _ from x)⟩
 |ext φ=>obtain ⟨_,⟨_,e⟩,_⟩:=x;exact ⟨_,e⟩
end
section
variable{X:Cx}{ct:Ct}{pins:List (Addr×Obj)}{σ:St}{H:Hp}{s:Shared}{a:Addr}{o o':HO}{vs:List V}
def Inv.Uv(I:Inv X pins σ H s)(ha:H a=some o)(h0:X.H₀ a=none)(nt:∀xs,o≠.tup xs)(no:∀y,o≠.own y)(new:b9 X.prog X.w (upd H a o') s.heap a o'):Inv X pins σ (upd H a o') s:=by
 have ne:∀b,H b=none->b≠a:=λ b hb z=>by subst z;rw[ha] at hb;cases hb
 have ne0:∀b u,X.H₀ b=some u->b≠a:=λ b u hb z=>by subst z;rw[h0] at hb;cases hb
 refine ⟨I.ok,I.os,I.bare,⟨I.base.keep,I.base.slot,λ b u q n hx=>?_,I.base.there,λ b xs q=>?_,λ b u v q=>?_,λ b ps q=>?_⟩,I.loc,I.cell,?_,λ x c h=>?_,λ p hp=>?_,λ b u e=>?_,I.len⟩
 ·have:=I.base.free b u q n hx;rw[aC (ne b this)];exact this
 ·rw[aC (ne0 b _ q)];exact I.base.tups b xs q
 ·rw[aC (ne0 b _ q)];exact I.base.rQ b u v q
 ·rw[aC (ne0 b _ q)];exact I.base.sH b ps q
 ·rw[aC (ne _ I.free)];exact I.free
 ·rw[aC (ne _ (I.jD x c h))];exact I.jD x c h
 ·obtain ⟨h1,h2,h3,h4,h5⟩:=I.pin p hp;exact ⟨h1,by rw[aC (ne _ h2)];exact h2,h3,h4,h5⟩
 ·by_cases hb:b=a
  ·subst hb;rw[aD] at e;cases e;exact new
  ·rw[aC hb] at e;refine (I.hok b u e).stay (λ c v _ q=>q) (λ c q=>?_) (λ c xs q=>?_)
   ·have:c≠a:=by rintro rfl;rw[ha] at q;exact no _ (Option.some.inj q)
    rw[aC this];exact q
   ·have:c≠a:=by rintro rfl;rw[ha] at q;exact nt _ (Option.some.inj q)
    rw[aC this];exact q
def Inv.freeze(I:Inv X pins σ H s)(ha:H a=some (.lst vs))(h0:X.H₀ a=none):∃ob,Inv X pins σ (upd H a (.Bd ob (.lst vs))) s:=by obtain ⟨z,its,n,r,e⟩:=I.hok a _ ha;refine ⟨_,Inv.Uv I ha h0 (λ _ q=>nomatch q) (λ _ q=>nomatch q) ⟨e,z,its,n,r,e⟩⟩
def Inv.abg{ks:Ks}{us:List V}(I:Inv X pins σ H s)(ha:H a=some (ks.ho us))(h0:X.H₀ a=none):∃ob,Inv X pins σ (upd H a (.Bd ob (ks.ho us))) s:=by
 have q:=I.hok a _ ha;obtain ⟨ob,e⟩:=pC q;refine ⟨ob,Inv.Uv I ha h0 (λ _ q=>by cases ks<;>cases q) (λ _ q=>by cases ks<;>cases q) ⟨e,?_⟩⟩;refine q.stay (λ c v _ z=>z) (λ c z=>?_) (λ c xs z=>?_)
 ·have:c≠a:=λ y=>by subst y;rw[ha] at z;cases ks<;>cases z
  rw[aC this];exact z
 ·have:c≠a:=λ y=>by subst y;rw[ha] at z;cases ks<;>cases z
  rw[aC this];exact z
structure Fz(X:Cx)(ct:Ct)(pins:List (Addr×Obj))(σ:St)(s:Shared)(S:Fp)(H H':Hp):Prop where
 inv:Inv X pins σ H' s
 un:∀b o,H b=some o->¬S b->H' b=some o
 keep:aP ct.f.cb H H'
 free:∀b,H' b=none->H b=none
def Fz.step{S:Fp}{H1:Hp}(z:Fz X ct pins σ s S H H1)(ha:H1 a=some o)(hs:S a)(no:¬SH ct.f.cb o)(I:Inv X pins σ (upd H1 a o') s):Fz X ct pins σ s S H (upd H1 a o'):=by
 refine ⟨I,λ b u q n=>?_,z.keep.trans λ b u hb st=>?_,λ b q=>?_⟩
 ·have:b≠a:=by rintro rfl;exact n hs
  rw[aC this];exact z.un b u q n
 ·have:b≠a:=by rintro rfl;rw[ha] at hb;cases hb;exact no st
  rw[aC this];exact hb
 ·by_cases e:b=a
  ·subst e;rw[aD] at q;cases q
  ·rw[aC e] at q;exact z.free b q
mutual
def Inv.R0:∀{m:M} {v:V} {S:Fp} {H:Hp},GX m=true->Inv X pins σ H s->Ow X.K ct H m v S->(∀b,S b->X.H₀ b=none)->∃H',Fz X ct pins σ s S H H'/\Tl X.K ct H' (L4.R0 m) v
 | .d x,v,S,H,fo,I,h,_=>by simp only[Ow] at h;exact ⟨H,⟨I,λ _ _ q _=>q,aP.refl H,λ _ q=>q⟩,by simpa only[L4.R0] using h⟩
 | .l xs,v,S,H,fo,I,h,n=>by simp only[Ow] at h;obtain ⟨a,vs,rfl,h2,h3,h4⟩:=h;obtain ⟨ob,I2⟩:=Inv.freeze I h3 (n a h2);have z:Fz X ct pins σ s S H H:=⟨I,λ _ _ q _=>q,aP.refl H,λ _ q=>q⟩;have z2:=z.step h3 h2 (λ q=>q) I2;refine ⟨_,z2,?_⟩;simp only[L4.R0,Tl];exact ⟨a,vs,rfl,.inl ⟨ob,aD⟩,h4.keep z2.keep⟩
 | .n ms,v,S,H,fo,I,h,n=>by simp only[Ow] at h;obtain ⟨a,vs,rfl,h2,h3,h4⟩:=h;obtain ⟨H1,z1,t1⟩:=Inv.Bc (by simpa[GX] using fo) I h4 λ b w=>n b w.1;have h3':=z1.un a _ h3 λ w=>w.2 rfl;obtain ⟨ob,I2⟩:=Inv.freeze z1.inv h3' (n a h2);have z2:Fz X ct pins σ s S H H1:=⟨z1.inv,λ b o q w=>z1.un b o q λ u=>w u.1,z1.keep,z1.free⟩;have z3:=z2.step h3' h2 (λ q=>q) I2;refine ⟨_,z3,?_⟩;simp only[L4.R0,Tl];exact ⟨a,vs,rfl,.inl ⟨ob,aD⟩,t1.keep (aP.lst h3')⟩
 | .t ms,v,S,H,fo,I,h,n=>by simp only[Ow] at h;obtain ⟨a,vs,rfl,h2,h3⟩:=h;obtain ⟨H1,z1,t1⟩:=Inv.Bc (by simpa[GX] using fo) I h3 n;refine ⟨H1,z1,?_⟩;simp only[L4.R0,Tl];exact ⟨a,vs,rfl,z1.keep _ _ h2 trivial,t1⟩
 | .k ks xs,v,S,H,fo,I,h,n=>by simp only[Ow] at h;obtain ⟨a,vs,rfl,h2,h3,h4,h5⟩:=h;obtain ⟨ob,I2⟩:=Inv.abg I h3 (n a h2);have z:Fz X ct pins σ s S H H:=⟨I,λ _ _ q _=>q,aP.refl H,λ _ q=>q⟩;have z2:=z.step h3 h2 Ks.F9 I2;refine ⟨_,z2,?_⟩;simp only[L4.R0,Tl];exact ⟨a,vs,rfl,⟨ob,aD⟩,h4,h5.keep z2.keep⟩
 | .o c ns xs,v,S,H,fo,I,h,n=>by simp[GX] at fo
def Inv.Bc:∀{ms:List M} {vs:List V} {S:Fp} {H:Hp},Cp ms=true->Inv X pins σ H s->cG X.K ct H ms vs S->(∀b,S b->X.H₀ b=none)->∃H',Fz X ct pins σ s S H H'/\aE X.K ct H' (L4.Bc ms) vs
 |[],vs,S,H,fo,I,h,_=>by simp only[cG] at h;exact ⟨H,⟨I,λ _ _ q _=>q,aP.refl H,λ _ q=>q⟩,by simpa only[L4.Bc,aE] using h⟩
 |m::ms,vs,S,H,fo,I,h,n=>by simp only[cG] at h;obtain ⟨v,r,S1,S2,rfl,h2,h3,h4,h5,h6⟩:=h;obtain ⟨H1,z1,t1⟩:=Inv.R0 (Bool.and_eq_true_iff.mp (by simpa[Cp] using fo)).1 I h5 λ b w=>n b (h2 b w);have h6':=h6.frame z1.keep λ b o w q=>z1.un b o q λ u=>h4 b u w;obtain ⟨H2,z2,t2⟩:=Inv.Bc (Bool.and_eq_true_iff.mp (by simpa[Cp] using fo)).2 z1.inv h6' λ b w=>n b (h3 b w);refine ⟨H2,⟨z2.inv,λ b o q w=>z2.un b o (z1.un b o q λ u=>w (h2 b u)) λ u=>w (h3 b u),z1.keep.trans z2.keep,λ b q=>z1.free b (z2.free b q)⟩,?_⟩;simp only[L4.Bc,aE];exact ⟨v,r,rfl,t1.keep z2.keep,t2⟩
end
def Fv{e:Expr}{f:Sg->Res (List D)}(h:PL X ct e f):PM X ct e (mL f):=by
 refine PE.imp h λ σ H Q ⟨Γ,j,q⟩=>⟨Γ,j,q.bnd λ ds _ w a vs H' s n k t=>?_⟩;refine w (.ref a) H' (λ b=>b=a) s ?_ (λ b z=>z▸n) λ b z q=>by subst z;rw[k] at q;cases q
 simp only[Ow];exact ⟨a,vs,rfl,rfl,k,t⟩
def jk{e:Expr}{f:Sg->Res (List D)}(h:WL X ct e f):WM X ct e (mL f):=⟨Fv (h:=h.out)⟩
def UL{e:Expr}{f:Sg->Res D}(h:PD X ct e f):PM X ct e (mD f):=by refine PE.imp h λ σ H Q ⟨Γ,j,q⟩=>⟨Γ,j,q.bnd λ d _ w v H' s t=>?_⟩;exact w v H' (λ _=>False) s (by simpa only[Ow] using t) (λ _ z=>z.elim) λ _ z=>z.elim
def oZ{e:Expr}{f:Sg->Res M}(h:PM X ct e f):PD X ct e (rW f):=by
 intro pins s σ H Q I ⟨Γ,j,q⟩;have t:mOf X ct f σ H (λ v H'=>∃m S,au H H'/\Ow X.K ct H' m v S/\(∀b,S b->H b=none)/\GX m=true/\Wd X ct H Q (R0 m)):=
  ⟨Γ,j,q.bnd λ m _ w v H' S s o n k=>by
   unfold fzR at w;split at w
   ·rename_i fo;exact ⟨m,S,s,o,n,fo,w⟩
   ·exact w.elim⟩
 refine dc (h pins s σ H _ I t) λ v s1 ⟨x,H1,I1,r1,m,S,e1,o,n,fo,w⟩=>?_;obtain ⟨H2,z,t2⟩:=Inv.R0 fo I1 o λ b u=>j.free b (n b u);exact ⟨x,H2,z.inv,r1,w x H2 (λ b u q=>z.un b u (e1 b u q) λ y=>by rw[n b y] at q;cases q) t2⟩
def oN{e:Expr}{f:Sg->Res M}(h:WM X ct e f):WD X ct e (rW f):=⟨oZ (h:=h.out)⟩
def bQ{e:Expr}{f:Sg->Res (List D)}(h:WL X ct e f):WD X ct e (sr f):=by
 have h:=h.out;refine ⟨?_⟩;have e':sr f=rW (mL f):=funext λ Γ=>by simp only[sr,rW,mL];cases f Γ<;>rfl
 rw[e'];exact oZ (Fv h)
end
section
variable{X:Cx}{c:Cf}{st:Stmt}{rest:List Stmt}{F G:Sg->Out}{e:Expr}{f:Sg->Res D}{fl:Sg->Res M}{p:Sg->Res Bool}{pos:Pos}{H:Hp}{Γ:Sg}{σ:St}
def Fn.ok{α:Type}{B:Hp}{tm:Bool}{r:Res α}{k:α->Out}{E:Ends}{W:α->Prop}(j:Jx X c.z Γ σ H)(h:Fn X c H (oE r Γ k) E)(w:∀d,r= .ok d->Fn X c H (k d) E->W d):Ok X ⟨c,B,tm⟩ σ H r W:=by
 cases r with
 |ok d=>exact w d rfl h
 |err x=>exact λ e s' q=>h σ H e s' (aP.refl H) j q
 |bad=>exact h.elim
def bg:qH X c [] dh:=by exact ⟨HZ.imp ZV λ E σ H ⟨Γ,j,h⟩=>h σ H (aP.refl H) j⟩
def ak(h1:uK X c st F)(h2:qH X c rest G):qH X c (st::rest) (aN F G):=by
 have h1:=h1.out;have h2:=h2.out;refine ⟨?_⟩;refine HZ.imp (UD h1 h2) λ E σ H ⟨Γ,j,h⟩=>⟨Γ,j,?_⟩;unfold aN at h;cases q:F Γ with
 |nx Γ'=>rw[q] at h;exact λ σ' H' k j'=>⟨Γ',j',h.mono k⟩
 |bk Γ'=>rw[q] at h;exact h
 |ct Γ'=>rw[q] at h;exact h
 |rt d=>rw[q] at h;exact h
 |O3 ds=>rw[q] at h;exact h
 |SQ d Γ'=>rw[q] at h;exact h
 |Av d Γ'=>rw[q] at h;exact h
 |err x Γ'=>rw[q] at h;exact h
 |bad=>rw[q] at h;exact h
def ay(h1:uK X c st F):qH X c [st] F:=by have h1:=h1.out;exact ⟨ZU h1⟩
def Tu(he:∀B,WD X (c.at' B) e f)(hs:swapsWith e none pos.line X.env=pure false:=by rfl):uK X c (.Expr e pos) (BW f):=by have he:=λ B=>(he B).out;refine ⟨?_⟩;intro pins s σ H E I ⟨Γ,j,h⟩;exact sS (he H) hs pins s σ H E I ⟨Γ,j.lift,Fn.ok j h λ d _ q v H' s t=>q σ H' (au.keep s) (j.mono s)⟩
def bx(he:WD X c.z e f):uK X c (.Return (some e) pos) (gZ f):=by have he:=he.out;exact ⟨PS.imp (yu he) λ E σ H ⟨Γ,j,h⟩=>⟨Γ,j,Fn.ok j h λ d _ q v H' s t=>q v H' (j.mono s).bk t⟩⟩
def EX(he:∀B,WD X (c.at' B) e f):uK X c (.Return (some e) pos) (BU f):=by
 have he:=λ B=>(he B).out;refine ⟨?_⟩;intro pins s σ H E I ⟨Γ,j,h⟩;refine yu (he H) pins s σ H E I ⟨Γ,j.lift,Fn.ok j h λ d _ q v H' s t=>?_⟩;split at q
 ·rename_i n;exact q v H' (j.mono s).bk (t.down n)
 ·exact q.elim
def lV(he:∀B,WM X (c.at' B) e fl):uK X c (.Return (some e) pos) (vE fl):=by
 have he:=λ B=>(he B).out;refine ⟨?_⟩;intro pins s σ H E I ⟨Γ,j,h⟩;refine yu (he H) pins s σ H E I ⟨Γ,j.lift,Fn.ok j h λ m _ q v H' S s o n k=>?_⟩;split at q
 ·rename_i nn;exact q v H' S (j.mono s).bk (o.down nn) (λ b z=>j.free b (n b z)) k
 ·exact q.elim
def sC(i:Nat){x:Str}{pos':Pos}(hN:X.N[i]? =some x:=by rfl)(hv:SG X.env.scope x:=by first|exact Or.inl rfl|exact Or.inr (Or.inl rfl)|exact Or.inr (Or.inr rfl))(hd:(x==("__debug__":Str))=false:=by decide)(hcd:(x==("__classdict__":Str))=false:=by decide):uK X c (.Return (some (.Name x pos')) pos) (yo i):=by
 refine ⟨?_⟩;refine PS.imp (yu (yz hN hv hd hcd)) λ E σ H ⟨Γ,j,h⟩=>?_;unfold yo at h;split at h
 ·rename_i m hi;obtain ⟨v,S,h1,h2,h3,h4⟩:=j.own hi;exact ⟨_,h1,h v H S j.bk h2 h4 h3.here⟩
 ·rename_i d hi;obtain ⟨v,h1,h2⟩:=j.val hi;exact ⟨_,h1,h v H j.bk h2⟩
 ·exact h.elim
def Ii{ce:Expr}{a b:List Stmt}(hc:∀B,HP X (c.at' B) ce p)(ha:qH X c a F)(hb:qH X c b G):uK X c (.If ce a b pos) (uQ p F G):=by
 have hc:=λ B=>(hc B).out;have ha:=ha.out;have hb:=hb.out;refine ⟨?_⟩;intro pins s σ H E I ⟨Γ,j,h⟩;refine ab4 (hc H) ha hb pins s σ H E I ⟨Γ,j.lift,Fn.ok j h λ x _ q H' s=>?_⟩;cases x with
 |true=>exact J9 ⟨Γ,j.mono s,Fn.mono (au.keep s) q⟩
 |false=>exact Ka ⟨Γ,j.mono s,Fn.mono (au.keep s) q⟩
def bF(i:Nat){x:Str}{pos':Pos}(hN:X.N.Nodup)(he:WD X c.z e f)(hi:X.N[i]? =some x:=by rfl)(hx:Loc X.env.scope x:=by first|exact Or.inl rfl|exact Or.inr rfl)(hs:swapsWith e (some (.Name x pos')) pos.line X.env=pure false:=by rfl)(hf:X.fn x=true\/X.env.scope.names.lookup x=some .local:=by first|exact .inl rfl|exact .inr rfl):uK X c (.Assign [.Name x pos'] e pos) (gR i f):=by have he:=he.out;exact ⟨PS.imp (Dd hN hi hx he hs hf) λ E σ H ⟨Γ,j,h⟩=>⟨Γ,j,Fn.ok j h λ d _ q v H' s t=>q _ H' (au.keep s) ((j.mono s).set t)⟩⟩
def Tr(i:Nat){x:Str}{pos':Pos}(hN:X.N.Nodup)(he:∀B,WD X (c.at' B) e f)(hi:X.N[i]? =some x:=by rfl)(hx:Loc X.env.scope x:=by first|exact Or.inl rfl|exact Or.inr rfl)(hs:swapsWith e (some (.Name x pos')) pos.line X.env=pure false:=by rfl)(hf:X.fn x=true\/X.env.scope.names.lookup x=some .local:=by first|exact .inl rfl|exact .inr rfl):uK X c (.Assign [.Name x pos'] e pos) (Ut i f):=by
 have he:=λ B=>(he B).out;refine ⟨?_⟩;intro pins s σ H E I ⟨Γ,j,h⟩;refine Dd hN hi hx (he H) hs hf pins s σ H E I ⟨Γ,j.lift,Fn.ok j h λ d _ q v H' s t=>?_⟩;split at q
 ·rename_i n;exact q _ H' (au.keep s) ((j.mono s).set (t.down n))
 ·exact q.elim
def gS(i:Nat){x:Str}{pos':Pos}(hN:X.N.Nodup)(he:∀B,WM X (c.at' B) e fl)(hi:X.N[i]? =some x:=by rfl)(hx:Loc X.env.scope x:=by first|exact Or.inl rfl|exact Or.inr rfl)(hs:swapsWith e (some (.Name x pos')) pos.line X.env=pure false:=by rfl)(hf:X.fn x=true\/X.env.scope.names.lookup x=some .local:=by first|exact .inl rfl|exact .inr rfl):uK X c (.Assign [.Name x pos'] e pos) (lz i fl):=by
 have he:=λ B=>(he B).out;refine ⟨?_⟩;intro pins s σ H E I ⟨Γ,j,h⟩;refine Dd hN hi hx (he H) hs hf pins s σ H E I ⟨Γ,j.lift,Fn.ok j h λ m _ q v H' S s o n k=>?_⟩;split at q
 ·rename_i nn;exact q _ H' (au.keep s) (j.setM s rfl (o.down nn) n k)
 ·exact q.elim
end
section
variable{X:Cx}{ct:Ct}{tg:Expr}{H:Hp}{Γ:Sg}{σ:St}{pos:Pos}
def gOf(X:Cx)(ct:Ct)(t:Tg):TG:=λ v σ H Q=>∃Γ d Γ',Jx X ct Γ σ H/\Tl X.K ct H d v/\t d Γ=some Γ'/\∀σ',Jx X ct Γ' σ' H->Q σ' H
def aiw(X:Cx)(ct:Ct)(t:YQ):Y8:=λ vs σ H Q=>∃Γ ds Γ',Jx X ct Γ σ H/\aE X.K ct H ds vs/\t ds Γ=some Γ'/\∀σ',Jx X ct Γ' σ' H->Q σ' H
def PG.imp{t u:TG}(h:PG X tg t)(k:∀v σ H Q,u v σ H Q->t v σ H Q):PG X tg u:=λ pins s σ H v w Q I r q=>h pins s σ H v w Q I r (k v σ H Q q)
def YS.imp{es:List Expr}{t u:Y8}(h:YS X es t)(k:∀v σ H Q,u v σ H Q->t v σ H Q):YS X es u:=λ pins s σ H v w Q I r q=>h pins s σ H v w Q I r (k v σ H Q q)
abbrev PGD(X:Cx)(ct:Ct)(tg:Expr)(t:Tg):Prop:=PG X tg (gOf X ct t)
abbrev aqp(X:Cx)(ct:Ct)(tg:List Expr)(t:YQ):Prop:=YS X tg (aiw X ct t)
structure WG(X:Cx)(tg:Expr)(t:TG):Prop where
 out:PG X tg t
structure WGs(X:Cx)(tg:List Expr)(t:Y8):Prop where
 out:YS X tg t
abbrev WGD(X:Cx)(ct:Ct)(tg:Expr)(t:Tg):Prop:=WG X tg (gOf X ct t)
abbrev abL(X:Cx)(ct:Ct)(tg:List Expr)(t:YQ):Prop:=WGs X tg (aiw X ct t)
def aL(i:Nat){x:Str}(hN:X.N.Nodup)(hi:X.N[i]? =some x:=by rfl)(hx:Loc X.env.scope x:=by first|exact Or.inl rfl|exact Or.inr rfl)(hf:X.fn x=true\/X.env.scope.names.lookup x=some .local:=by first|exact .inl rfl|exact .inr rfl):WGD X ct (.Name x pos) (aG i):=by
 refine ⟨?_⟩;refine PG.imp (Z4 hN hi hx hf) ?_
 rintro v σ H Q ⟨Γ,d,Γ',j,t,e,q⟩
 cases e;exact q _ (j.set t)
def jm:abL X ct [] iB:=by
 refine ⟨?_⟩;refine YS.imp Z3 ?_
 rintro vs σ H Q ⟨Γ,ds,Γ',j,t,e,q⟩
 cases ds with
 |nil=>simp only[aE] at t;cases e;exact ⟨t,q _ j⟩
 |cons d r=>cases e
def bM{e:Expr}{es:List Expr}{t:Tg}{u:YQ}(h1:WGD X ct e t)(h2:abL X ct es u)(hs:(assignEach (e::es) X.env).map (·.2)=assign e X.env::(assignEach es X.env).map (·.2):=by rfl):abL X ct (e::es) (aW t u):=by
 have h1:=h1.out;have h2:=h2.out;refine ⟨?_⟩;refine YS.imp (UQ h1 h2 hs) ?_
 rintro vs σ H Q ⟨Γ,ds,Γ',j,tl,e,q⟩
 cases ds with
 |nil=>cases e
 |cons d r=>simp only[aE] at tl;obtain ⟨v,vr,rfl,t1,t2⟩:=tl;simp only[aW,Option.bind_eq_some_iff] at e;obtain ⟨Γ1,e1,e2⟩:=e;exact ⟨v,vr,rfl,Γ,d,Γ1,j,t1,e1,λ σ' j'=>⟨Γ1,r,Γ',j',t2,e2,q⟩⟩
def kZ{es:List Expr}{k:Nat}{t:YQ}{n:Nat}(hc:X.calm=true)(h:abL X ct es t)(hn:(assignEach es X.env).length=n:=by rfl)(hst:(assignEach es X.env).findIdx? (·.1)=none:=by rfl):WGD X ct (.Tuple es k pos) (gU n t):=by
 have h:=h.out;refine ⟨?_⟩;refine PG.imp (ad9 hc h hn hst) ?_
 rintro v σ H Q ⟨Γ,d,Γ',j,tl,e,q⟩
 cases d with
 |tup ds=>
  simp only[Tl] at tl;obtain ⟨a,vs,rfl,h1,h2⟩:=tl;simp only[gU] at e;split at e
  ·rename_i hl;exact ⟨a,vs,rfl,lZ h1,by rw[<-h2.length];exact hl,Γ,ds,Γ',j,h2,e,q⟩
  ·cases e
 |_=>cases e
def EY{c:Cf}{e:Expr}{f:Sg->Res D}{t:Tg}(he:∀B,WD X (c.at' B) e f)(hg:WGD X c.z tg t)(hs:swapsWithSole [tg] e pos.line X.env=pure false:=by rfl)(hw:swappedStores [tg] e X.env=pure none:=by rfl)(h1:(assignEach [tg] X.env).map (·.2)=[assign tg X.env]:=by rfl):uK X c (.Assign [tg] e pos) (BX f t):=by
 have he:=λ B=>(he B).out;have hg:=hg.out;refine ⟨?_⟩;intro pins s σ H E I ⟨Γ,j,h⟩;refine UG (he H) hg hs hw h1 pins s σ H E I ⟨Γ,j.lift,Fn.ok j h λ d _ q v H' s tl=>?_⟩;split at q
 ·rename_i n;cases e:t d Γ with
  |some Γ'=>rw[e] at q;exact ⟨Γ,d,Γ',j.mono s,tl.down n,e,λ σ' j'=>q σ' H' (au.keep s) j'⟩
  |none=>rw[e] at q;exact q.elim
 ·exact q.elim
def Zr{c:Cf}(i j:Nat){x y:Str}{a b:Expr}{r:Sg->Res (List D)}{px py pt:Pos}{kt k2 pt2}(hc:X.calm=true)(hN:X.N.Nodup)(ha:xO X c.z [a,b] r)(hi:X.N[i]? =some x:=by rfl)(hj:X.N[j]? =some y:=by rfl)(hij:i≠j:=by decide)(hx:X.env.scope.names.lookup x=some .local:=by rfl)(hy:X.env.scope.names.lookup y=some .local:=by rfl)(hw:swappedStores [.Tuple [.Name x px,.Name y py] kt pt] (.Tuple [a,b] k2 pt2) X.env=pure (some [x,y]):=by rfl)(hs:swapsWithSole [.Tuple [.Name x px,.Name y py] kt pt] (.Tuple [a,b] k2 pt2) pos.line X.env=pure false:=by rfl):uK X c (.Assign [.Tuple [.Name x px,.Name y py] kt pt] (.Tuple [a,b] k2 pt2) pos) (adV i j r):=by
 have ha:=ha.out;refine ⟨?_⟩;refine PS.imp (ad4 hc hN hi hj hij hx hy ha hw hs) λ E σ H ⟨Γ,j,h⟩=>⟨Γ,j,Fn.ok j h λ ds _ q vs H' s tl=>?_⟩;match ds,q,tl with
 |[d1,d2],q,tl=>simp only[aE] at tl;obtain ⟨v1,r1,rfl,t1,v2,r2,rfl,t2,rfl⟩:=tl;exact ⟨v1,v2,rfl,q _ H' (au.keep s) (((j.mono s).set t1).set t2)⟩
 |[],q,_=>exact q.elim
 |[_],q,_=>exact q.elim
 |_::_::_::_,q,_=>exact q.elim
end
structure Good(X:Cx):Prop where
 po:PassesOwn (model X.prog X.w) X.A X.env X.xe
 calm:X.calm=true
 nd:X.N.Nodup
 own:X.stack=X.env::X.outer/\X.env.frame=some X.env.locals
section
variable{X:Cx}{c:Cf}{tg iter:Expr}{f:Sg->Res D}{t:Tg}{B:Sg->Out}{body:List Stmt}{pos:Pos}
def Zz{H' H1:Hp}{Γ1 Γ2:Sg}{xs:List D}{d:D}{E:Ends}{o:Out}{Pn:St->Hp->Prop}(k1:aP c.cb H' H1)(e1:t d Γ1=some Γ2)(hx:fM t B (d::xs) Γ1=o)(h:Fn X c H' o E) (hn:∀Γ3 σ3 H3,aP c.cb H' H3->Jx X c.z Γ3 σ3 H3->fM t B xs Γ3=o->Pn σ3 H3):Fn X c H1 (B Γ2) {E with nx:=Pn,ct:=Pn,bk:=E.nx}:=by
 simp only[fM,e1] at hx;cases q:B Γ2 with
 |nx Γ3=>rw[q] at hx;exact λ σ3 H3 k3 j3=>hn Γ3 σ3 H3 (k1.trans k3) j3 hx
 |ct Γ3=>rw[q] at hx;exact λ σ3 H3 k3 j3=>hn Γ3 σ3 H3 (k1.trans k3) j3 hx
 |bk Γ3=>rw[q] at hx;subst hx;exact λ σ3 H3 k3 j3=>h σ3 H3 (k1.trans k3) j3
 |rt d=>rw[q] at hx;subst hx;exact h
 |O3 d=>rw[q] at hx;subst hx;exact h
 |SQ d Γ3=>rw[q] at hx;subst hx;exact h
 |Av d Γ3=>rw[q] at hx;subst hx;exact h
 |err x Γ3=>rw[q] at hx;subst hx;exact λ σ3 H3 e s' k3 j3 r=>h σ3 H3 e s' (k1.trans k3) j3 r
 |bad=>rw[q] at hx;subst hx;exact h
def aas{Γ1:Sg}{xs:List D}{d:D}{H':Hp}{E:Ends}{o:Out}(e:t d Γ1=none)(hx:fM t B (d::xs) Γ1=o)(h:Fn X c H' o E):False:=by simp only[fM,e] at hx;subst hx;exact h
end
section
variable{X:Cx}{c:Cf}{e:Expr}{f:Sg->Res D}{fm:Sg->Res M}{p:Sg->Res Bool}
end
def spD(K:W.Frag)(cb:Cb)(n:Nat)(F:List Slot->cJ):Sp:=λ vs H Q E=>vs.length=n/\∃(c:Cf) (as:List Slot),c.cb=cb/\c.args=vs/\J K c.z H as (vs.map some) H/\match F as with
 | .ok d=>∀v H',(∀b o,H b=some o->¬c.io b->H' b=some o)->(∀b,H' b=none->H b=none)->Tl K c.z H' d v->Q v H'
 | .new m=>∀v H' S,(∀b o,H b=some o->¬c.io b->H' b=some o)->(∀b,H' b=none->H b=none)->Ow K c.z H' m v S->(∀b,S b->H b=none)->(∀b,S b->H' b≠none)->Q v H'
 | .QY d os=>∀v Γ' σ' H',J K c.z H Γ' σ' H'->b7 0 Γ'=os->Tl K c.z H' d v->Q v H'
 | .Gd _ _=>False
 | .err x=>∀C H',cb.exc x=some C->(∀b o,H b=some o->¬c.io b->H' b=some o)->E (.ref C) none H'
 | .bad=>False
abbrev i6(P:Program)(w:World)(K:W.Frag)(mg:Str->Option Value)(base:Heap)(cb:Cb)(k:Nat)(f:Addr)(fd:FuncData)(ps:List Str)(F:List Slot->cJ):Prop:=ON P w K mg base (EO P w) k f fd ps (spD K cb ps.length F)
abbrev iy(cb:Cb)(L:Hp)(vs:List V):Cf:=⟨cb,L,λ _=>False,vs⟩
def V9{K:W.Frag}{cb:Cb}{L H:Hp}{ds:List D}{vs:List V}(l:au L H)(t:aE K (iy cb L vs).z H ds vs):J K (iy cb L vs).z H (ds.map Slot.val) (vs.map some) H:=by
 refine ⟨λ _ _ q _=>q,λ _ q=>q,l,λ _ _ q=>(nomatch q),by simp[t.length],λ _ _=>False,λ i sl ov h1 h2=>?_,λ _ _ _ _ z=>z.elim,λ _ _ z=>z.elim⟩;rw[List.getElem?_map] at h1 h2;cases q:ds[i]? with
 |none=>rw[q] at h1;cases h1
 |some d=>obtain ⟨v,e1,e2⟩:=t.get q;rw[q] at h1;rw[e1] at h2;cases h1;cases h2;exact ⟨⟨v,rfl,e2⟩,λ _ z=>z⟩
section
variable{X:Cx}{cb:Cb}{k:Nat}{f C:Addr}{fd:FuncData}{ps:List Str}{F:List Slot->cJ}{x:Str}{p pos apos:Pos}{e o:Expr}{es:List Expr}{fa:Sg->Res (List D)}
def ade(X:Cx)(c:Cf)(σ:St)(H:Hp)(a:cJ)(Q:VK):Prop:=match a with
 | .ok d=>∀v H',au H H'->Tl X.K c.z H' d v->Q v H'
 | .new m=>∀v H' S,au H H'->Ow X.K c.z H' m v S->(∀b,S b->H b=none)->(∀b,S b->H' b≠none)->Q v H'
 | .err x=>∀e s',gc X c.cb σ H x e s'->X.xe e s'
 |_=>False
def C9{pins:List (Addr×Obj)}{σ:St}{H L:Hp}{s:Shared}{Q:VK}{us:List Value}{vs:List V}{ds:List D}(G:i6 X.prog X.w X.K X.mg X.base cb k f fd ps F)(hr:dQ k X.A)(hb:Binds X.K fd ps []) (I:Inv X pins σ H s) (r:Vals vs us) (l:au L H) (t:aE X.K (iy cb L vs).z H ds vs) (hn:vs.length=ps.length) (h:ade X (iy cb L vs) σ H (F (ds.map .val)) Q):wpAny (model X.prog X.w) X.A (call (.ref f) us) (EP X pins σ Q) X.xe s:=by
 have hl:us.length=ps.length:=by rw[<-r.length];exact hn
 have hb':=hb s us I.xB (by rw[List.append_nil];exact hl);rw[List.append_nil] at hb';let E:XK:=λ cls od H'=>∃x C,F (ds.map .val)= .err x/\cb.exc x=some C/\cls= .ref C/\od=none/\au H H'
 have EM:spD X.K cb ps.length F vs H Q E:=by
  refine ⟨hn,iy cb L vs,ds.map .val,rfl,rfl,V9 l t,?_⟩;cases q:F (ds.map .val) with
  |ok d=>rw[q] at h;exact λ v H' s _ t=>h v H' (λ b o z=>s b o z λ w=>w) t
  |new m=>rw[q] at h;exact λ v H' S s _ o n k=>h v H' S (λ b o z=>s b o z λ w=>w) o n k
  |QY d os=>rw[q] at h;exact h.elim
  |Gd d os=>rw[q] at h;exact h.elim
  |err x=>exact λ C H' e s=>⟨x,C,q,e,rfl,rfl,λ b o z=>s b o z λ w=>w⟩
  |bad=>rw[q] at h;exact h
 refine wpAny_call (codeAny_mono (G.run X.A X.stack s H ⟨us,[]⟩ us vs Q E hr I.afk hb' r EM) λ r s' hq=>?_);cases r with
 |error e=>obtain ⟨a,C,H',B,a0,h1,⟨x,C',q1,q2,q3,q4,q5⟩,h3,h4,h5,h6,h6',h7⟩:=hq;rw[q1] at h;cases q3;exact h e s' ⟨pins,H,s,C,I,au.refl H,q2,.inr ⟨a,C,H',B,a0,h1,⟨rfl,rfl,q5⟩,h3,h4,h5,h6,h6',h7⟩⟩
 |ok fl=>
  cases fl with
  |ret u=>exact I.after hq
  |next=>exact False.elim hq
  |brk=>exact False.elim hq
  |cont=>exact False.elim hq
structure Ac(ct:Ct)(md:List D->Option (List D))(bk:D->Bool)(vq:M->Bool):Prop where
 go:∀K H ds vs ds',au ct.f.L H->au ct.B H->aE K ct H ds vs->md ds=some ds'->∃L,au L H/\aE K (iy ct.f.cb L vs).z H ds' vs/\
  (∀H' d v,bk d=true->Tl K (iy ct.f.cb L vs).z H' d v->Tl K ct H' d v)/\∀H' m v S,vq m=true->Ow K (iy ct.f.cb L vs).z H' m v S->Ow K ct H' m v S
def p8{K:W.Frag}{ct fN:Ct}{H:Hp}(e:fN.f.cb=ct.f.cb)(l:∀t a o,ct.lo t a=some o->fN.lo t a=some o){d:D}{v:V}(h:Tl K ct H d v):Tl K fN H d v:=by have:=Tl.re (ct:=ct) (fN:=fN) (p:=λ _=>true) (g:=id) ⟨e,λ t a o _ q=>l t a o q⟩ (Dt d) h;rwa [yr] at this
def sG{K:W.Frag}{ct fN:Ct}{H:Hp}(e:fN.f.cb=ct.f.cb)(l:∀t a o,ct.lo t a=some o->fN.lo t a=some o){d:List D}{v:List V}(h:aE K ct H d v):aE K fN H d v:=by have:=aE.re (ct:=ct) (fN:=fN) (p:=λ _=>true) (g:=id) ⟨e,λ t a o _ q=>l t a o q⟩ (pA d) h;rwa [qb] at this
def xq{K:W.Frag}{ct fN:Ct}{H:Hp}(e:fN.f.cb=ct.f.cb)(l:∀t a o,ct.lo t a=some o->fN.lo t a=some o){m:M}{v:V}{S:Fp}(h:Ow K ct H m v S):Ow K fN H m v S:=Ow.map (p:=λ _=>true) e (λ _ _ _=>p8 e l) (q:=λ _=>true) (λ _ _ _=>sG e l) (pm:=λ _=>true) (O8:=λ _=>true) (λ _ _=>rfl) (λ _ _=>rfl) (λ _ _=>rfl) (λ _ _=>rfl) (λ _ _ _=>rfl) (λ _ _ _ _=>rfl) (λ _ _ _=>⟨rfl,rfl⟩) rfl h
def eU(c:Cf):Ac c.z some (λ _=>true) (λ _=>true):=⟨λ K H ds vs ds' l b t e=>by
 cases e;have q:∀t a o,c.z.lo t a=some o->(iy c.cb c.L vs).z.lo t a=some o:=λ t a o z=>by cases t<;>exact z
 have q':∀t a o,(iy c.cb c.L vs).z.lo t a=some o->c.z.lo t a=some o:=λ t a o z=>by cases t<;>exact z
 exact ⟨c.L,l,sG (ct:=c.z) (fN:=(iy c.cb c.L vs).z) rfl q t,λ H' d v _ t=>p8 (ct:=(iy c.cb c.L vs).z) (fN:=c.z) rfl q' t,λ H' m v S _ t=>xq (ct:=(iy c.cb c.L vs).z) (fN:=c.z) rfl q' t⟩⟩
def Pu(ct:Ct):Ac ct (λ ds=>if kR ds=true then some ds else none) (λ _=>true) (λ _=>true):=⟨λ K H ds vs ds' l b t e=>by
 split at e
 ·rename_i n;cases e;have q:∀t a o,ct.f.z.lo t a=some o->(iy ct.f.cb ct.f.L vs).z.lo t a=some o:=λ t a o z=>by cases t<;>exact z
  have q':∀t a o,(iy ct.f.cb ct.f.L vs).z.lo t a=some o->ct.lo t a=some o:=λ t a o z=>by
   cases t with
   |true=>cases z
   |false=>exact z
  obtain ⟨cf,B,tm⟩:=ct;exact ⟨cf.L,l,sG (ct:=cf.z) (fN:=(iy cf.cb cf.L vs).z) rfl q (aE.down t n),λ H' d v _ t=>p8 (ct:=(iy cf.cb cf.L vs).z) (fN:=⟨cf,B,tm⟩) rfl q' t,λ H' m v S _ t=>xq (ct:=(iy cf.cb cf.L vs).z) (fN:=⟨cf,B,tm⟩) rfl q' t⟩
 ·cases e⟩
def Pr(ct:Ct):Ac ct (λ ds=>some (oH ds)) nb JB:=⟨λ K H ds vs ds' l b t e=>by cases e;exact ⟨H,au.refl H,t.lent rfl rfl l b,λ H' d v n t=>Tl.bare (ct:=(iy ct.f.cb H vs).z) (fN:=ct) rfl t n,λ H' m v S n t=>Ow.bare (ct:=(iy ct.f.cb H vs).z) (fN:=ct) rfl t n⟩⟩
def OP(X:Cx)(ct:Ct)(bk:D->Bool)(vq:M->Bool)(σ:St)(H:Hp)(a:cJ)(Q:VK):Prop:=match a with
 | .ok d=>bk d=true/\Wd X ct H Q d
 | .new m=>vq m=true/\Wm X ct H Q m
 | .err x=>∀e s',gc X ct.f.cb σ H x e s'->X.xe e s'
 |_=>False
def kOf(X:Cx)(ct:Ct)(md:List D->Option (List D))(bk:D->Bool)(vq:M->Bool)(n:Nat)(F:List Slot->cJ)(fa:Sg->Res (List D)):TE:=λ σ H Q=>∃Γ,Jx X ct Γ σ H/\Ok X ct σ H (fa Γ) λ ds=>ds.length=n/\∃ds',md ds=some ds'/\∀H',au H H'->OP X ct bk vq σ H' (F (ds'.map .val)) Q
variable{ct:Ct}{md:List D->Option (List D)}{bk:D->Bool}{vq:M->Bool}
def ED{σ:St}{H L:Hp}{a:cJ}{Q:VK}{vs:List V}(h:OP X ct bk vq σ H a Q)(q1:∀H' d v,bk d=true->Tl X.K (iy ct.f.cb L vs).z H' d v->Tl X.K ct H' d v)(q2:∀H' m v S,vq m=true->Ow X.K (iy ct.f.cb L vs).z H' m v S->Ow X.K ct H' m v S):
  ade X (iy ct.f.cb L vs) σ H a Q:=by
 cases a with
 |ok d=>exact λ v H' s t=>h.2 v H' s (q1 H' d v h.1 t)
 |new m=>exact λ v H' S s o n k=>h.2 v H' S s (q2 H' m v S h.1 o) n k
 |err x=>exact h
 |QY d os=>exact h
 |Gd d os=>exact h
 |bad=>exact h
def oY(Z:Ac ct md bk vq)(G:i6 X.prog X.w X.K X.mg X.base ct.f.cb k f fd ps F)(hr:dQ k X.A)(hm:X.mg x=some (.ref f))(hk:W.keepIn X.K (.ref f)=true)(hb:Binds X.K fd ps [])(ha:PDA X ct (e::es) fa)(hg:Gl X x:=by rfl) (hdb:(x==("__debug__":Str))=false:=by decide) (he:starEach (e::es) X.env=(false,eval e X.env)::starEach es X.env:=by rfl) (hpl:(backTo pos (starEach es X.env)).any (·.1)=false:=by rfl):
  PE X (.Call (.Name x p) (e::es) [] pos) (kOf X ct md bk vq ps.length F fa):=by
 intro pins s σ H Q I ⟨Γ,j,h⟩;refine wpAny_Call_Name_kw (qe I hg hm ?_ hdb);have h':HY X ct fa σ H (λ vs H1=>∃ds ds',au H H1/\aE X.K ct H1 ds vs/\ds.length=ps.length/\md ds=some ds'/\OP X ct bk vq σ H1 (F (ds'.map .val)) Q):=
  ⟨Γ,j,Ok.mono (au.refl H) h λ ds ⟨q1,ds',q2,q3⟩ vs H1 s1 t1=>⟨ds,ds',s1,t1,q1,q2,q3 H1 s1⟩⟩
 refine W.callWith_K (h₀:=X.base) I.ok.mod.kin hk (dc (ha pos pins s σ H _ I h') λ us s1 ⟨vs,H1,I1,r,ds,ds',sm,t1,hl,hd,q⟩=>⟨I1.xB,?_⟩) he hpl;have j1:=j.mono sm;obtain ⟨L,l,t2,q1,q2⟩:=Z.go X.K H1 ds vs ds' j1.lL j1.lB t1 hd;exact C9 G hr hb I1 r l t2 (by rw[<-t1.length];exact hl) (ED q q1 q2)
def Wm.mono{H H2:Hp}{Q:VK}{m:M}(s:au H H2)(h:Wm X ct H Q m):Wm X ct H2 Q m:=λ v H' S e o n k=>h v H' S (s.trans e) o (λ b z=>s.free (n b z)) k
def Wm.data{H:Hp}{Q:VK}{d:D}(h:Wm X ct H Q (.d d)):Wd X ct H Q d:=λ v H' e t=>h v H' (λ _=>False) e (by simpa only[Ow] using t) (λ _ z=>z.elim) λ _ z=>z.elim
def Di{n:Nat}{g:Sg->Res M}(h:PE X e (kOf X ct md bk vq n F fa))(hg:∀Γ,g Γ=(fa Γ).bnd λ ds=>if ds.length=n then (match md ds with
   |some ds'=>(match F (ds'.map .val) with
    | .ok d=>if bk d=true then .ok (.d d) else .bad
    | .new m=>if vq m=true then .ok m else .bad
    | .err x=> .err x
    |_=> .bad)
   |none=> .bad) else .bad):PM X ct e g:=by
 refine PE.imp h λ σ H Q ⟨Γ,j,q⟩=>⟨Γ,j,?_⟩;rw[hg] at q;refine q.bnd λ ds _ q=>?_;split at q
 ·rename_i hl;split at q
  ·rename_i ds' hd;refine ⟨hl,ds',hd,λ H' s=>?_⟩;cases z:F (ds'.map .val) with
   |ok d=>
    rw[z] at q;dsimp only at q;split at q
    ·rename_i hb;exact ⟨hb,(Wm.data q).mono s⟩
    ·exact q.elim
   |new m=>
    rw[z] at q;dsimp only at q;split at q
    ·rename_i hb;exact ⟨hb,Wm.mono s q⟩
    ·exact q.elim
   |err x=>rw[z] at q;exact λ e s' r=>q e s' (r.mono s)
   |QY d os=>rw[z] at q;exact q.elim
   |Gd d os=>rw[z] at q;exact q.elim
   |bad=>rw[z] at q;exact q.elim
  ·exact q.elim
 ·exact q.elim
section
variable{n:Nat}
def UO{c:Cf}(h:PE X e (kOf X c.z some (λ _=>true) (λ _=>true) n F fa)):PM X c.z e (VF n F fa):=Di h λ Γ=>by
 unfold VF;cases fa Γ with
 |ok ds=>
  simp only[Res.lS];by_cases hl:ds.length=n
  ·simp only[hl,if_true];cases F (ds.map .val)<;>simp[nu]
  ·simp[hl]
 |err x=>rfl
 |bad=>rfl
def FF(h:PE X e (kOf X ct (λ ds=>if kR ds=true then some ds else none) (λ _=>true) (λ _=>true) n F fa)):PM X ct e (pI n F fa):=Di h λ Γ=>by
 unfold pI;congr 1;funext ds;by_cases hl:ds.length=n
 ·by_cases hn:kR ds=true
  ·simp only[hl,hn,and_self,if_true];cases F (ds.map .val)<;>simp[nu]
  ·simp[hl,hn]
 ·simp[hl]
def FE(h:PE X e (kOf X ct (λ ds=>some (oH ds)) nb JB n F fa)):PM X ct e (rJ n F fa):=Di h λ Γ=>by
 unfold rJ;congr 1;funext ds;split
 ·dsimp only;cases F ((oH ds).map .val) with
  |ok d=>by_cases h:nb d=true<;>simp[Vv,nu,h]
  |new m=>by_cases h:JB m=true<;>simp[Vv,nu,h]
  |_=>simp[Vv,nu]
 ·rfl
def ae7(a:cJ):wQ a=(nu a).bnd fzR:=by cases a<;>simp[wQ,nu,fzR,GX,R0]
def zO(f:Sg->Res (List D))(g:List D->cJ)(P:List D->Prop) [DecidablePred P]:(λ Γ=>(f Γ).bnd λ ds=>if P ds then wQ (g ds) else .bad)=rW (λ Γ=>(f Γ).bnd λ ds=>if P ds then nu (g ds) else .bad):=by
 funext Γ;unfold rW;dsimp only;cases f Γ with
 |ok ds=>
  simp only[Res.lS];by_cases h:P ds
  ·simp only[h,if_true];exact ae7 _
  ·simp[h]
 |err x=>rfl
 |bad=>rfl
def U1{c:Cf}(h:PE X e (kOf X c.z some (λ _=>true) (λ _=>true) n F fa)):PD X c.z e (ez n F fa):=by have:=oZ (UO h);rwa [show rW (VF n F fa)=ez n F fa from (zO fa (λ ds=>F (ds.map .val)) λ ds=>ds.length=n).symm] at this
def U4(h:PE X e (kOf X ct (λ ds=>if kR ds=true then some ds else none) (λ _=>true) (λ _=>true) n F fa)):PD X ct e (fT n F fa):=by have:=oZ (FF h);rwa [show rW (pI n F fa)=fT n F fa from (zO fa (λ ds=>F (ds.map .val)) λ ds=>ds.length=n/\kR ds=true).symm] at this
def U3(h:PE X e (kOf X ct (λ ds=>some (oH ds)) nb JB n F fa)):PD X ct e (d7 n F fa):=by have:=oZ (FE h);rwa [show rW (rJ n F fa)=d7 n F fa from (zO fa (λ ds=>Vv (F ((oH ds).map .val))) λ ds=>ds.length=n).symm] at this
end
end
section
variable{P:Program}{w:World}{K:W.Frag}{mg:Str->Option Value}{base:Heap}{cb:Cb}
def GB{N:List Str}{qual:Str}{scope:Scope}{f:Addr}{cd:Value}{A:Around}{outer:List Env}{s:Shared}{H:Hp}{E:XK}{σ':St}{H':Hp}{c:String}{e:Value}{s':Shared} (r:gc (lR (EO P w) P w K mg base N qual scope f cd A outer s H E) cb σ' H' c e s') (he:∀C H2,cb.exc c=some C->au H' H2->E (.ref C) none H2):
  (lR (EO P w) P w K mg base N qual scope f cd A outer s H E).xe e s':=by
 obtain ⟨pins,H1,s1,C,I1,sm,hc,r⟩:=r;have hfr:=I1.ok.frames;have back:∀a,s1.heap.get? a=none->s.heap.get? a=none:=λ a q=>by
  cases z:s.heap.get? a with
  |none=>rfl
  |some o=>obtain ⟨o',w'⟩:=I1.base.there a o z (by simp[lR]);rw[q] at w';cases w'
 rcases r with ⟨a,args,h',rfl,rfl,hx⟩|⟨a,C',H2,B,a0,rfl,⟨q1,q2,q3⟩,q4,q5,fl,na,nw,cl⟩
 ·-- made here
  let X:=lR (EO P w) P w K mg base N qual scope f cd A outer s H E
  have hst:s1.heap.FunFrames X.base X.stack:=I1.stack;have hin:∀env∈X.stack,∀b,env.frame=some b->b∈frs X.stack:=λ env he b hb=>List.mem_filterMap.mpr ⟨env,he,hb⟩;have hkb:(W.hideAll s1.heap (frs X.stack)).StaysIn s1.heap:=λ b o q=>W.of_hideAll _ q;refine wpAny_leaves_madeW (s:={s1 with heap:=h'}) (L:=s.heap.objs.size) hfr rfl hkb (W.funFrames_hide hst hin) hx λ h2 t fl tu tn up=>?_;have na:H1 a=none:=by
   cases z:H1 a with
   |none=>rfl
   |some o=>obtain ⟨ob,hb⟩:=pC (I1.hok a o z);rw[hx.new] at hb;cases hb
  refine ⟨a,C,H1,W.hideAll s1.heap (frs X.stack),.ref t,rfl,he C H1 hc sm,I1.os,I1.bare,fl,na,back a hx.new,λ h3 st3 up3=>?_⟩;have keep:∀b o,s1.heap.get? b=some o->b∉frs X.stack->h3.get? b=some o:=λ b o q nb=>st3 b o (W.hideAll_get _ q nb);have slot:∀b o,s1.heap.get? b=some o->b∈frs X.stack->∃sl,h3.get? b=some {o with slots:=sl}:=λ b o q hb=>by obtain ⟨_,o',ho',hd⟩:=hst.mem hb;rw[q] at ho';cases ho';exact (up.trans up3) b o (hx.keeps b o q) hd
  have un:Un (frs X.stack) [] H1 H1 s1.heap h3:=⟨λ b o q n nb _=>keep b o q nb,λ b o q n hb _=>slot b o q hb,λ b o q n _=>n,λ b o q _=>by
   by_cases hb:b∈frs X.stack
   ·obtain ⟨sl,z⟩:=slot b o q hb;exact ⟨_,z⟩
   ·exact ⟨o,keep b o q hb⟩,λ b xs q=>q,λ b o u q=>q,λ b ps q=>⟨#[],by rw[q];simp⟩⟩
  have hok:pW P w H1 h3:=λ b o q=>(I1.hok b o q).stay (λ b' u hb' e'=>by
   have tr:H1 b'≠none:=by
    rcases hb' with rfl|hb'
    ·rw[q];exact λ z=>nomatch z
    ·rw[hb'];exact λ z=>nomatch z
   exact keep b' u e' λ z=>tr (I1.xj b' z)) (λ _ q=>q) λ _ _ q=>q
  have I3:=I1.Qd (s':={s1 with heap:=h3}) (ch:=[]) rfl un hok I1.bare (λ b z=>absurd z (by simp));exact ⟨I3.base,hok⟩
 ·-- out of a call
  cases q1;refine wpAny_leaves_onW (L:=s.heap.objs.size) hfr rfl fl λ h2 fl2 up=>?_;refine ⟨a,C,H2,B,a0,rfl,he C H2 hc (sm.trans q3),q4.trans I1.os,q5,fl2,na,back a nw,λ h3 st3 up3=>?_⟩;obtain ⟨un,hok⟩:=cl h3 st3 (up.trans up3);have I3:=I1.Qd (s':={s' with heap:=h3}) (ch:=[]) q4 un hok q5 (λ b z=>absurd z (by simp));exact ⟨I3.base,hok⟩
def PB{N:List Str}{as:List Slot}{vs:List V}{H:Hp}{c:Cf}(j:J K c.z H as (vs.map some) H):J K c.z H (dg N as) (L2.start N vs) H:=by
 have hl:as.length=vs.length:=by have:=j.len;simpa using this
 obtain ⟨S,h1,h2,h3⟩:=j.sl;refine ⟨j.same,j.free,j.lL,j.lB,by simp[dg,L2.start,hl],λ i b=>S i b/\i<as.length,λ i sl ov g1 g2=>?_,λ i k b e z z'=>h2 i k b e z.1 z'.1,λ i b z=>h3 i b z.1⟩;by_cases hi:i<as.length
 ·rw[dg,List.getElem?_append_left hi] at g1;rw[L2.start,List.getElem?_append_left (by simpa[<-hl] using hi)] at g2;have eS:(λ b=>S i b/\i<as.length)=S i:=funext λ b=>propext ⟨λ z=>z.1,λ z=>⟨z,hi⟩⟩;show kP K c.z H H i (λ b=>S i b/\i<as.length) sl ov;rw[eS];exact h1 i sl ov g1 g2
 ·rw[dg,List.getElem?_append_right (Nat.le_of_not_lt hi),List.getElem?_replicate] at g1;split at g1
  ·cases g1;exact λ b z=>hi z.2
  ·cases g1
def afd{x qual:Str}{st:Stmt}{f:Addr}{fd:FuncData}{N ps:List Str}{k:Nat}{F:List Slot->cJ}{B:Nat->Sg->Out}(SN:lT K x qual st f fd)(S:lM N ps (aA st)) (hbody:∀(c:Cf) (cdv:Value) (A:Around) (outer:List Env) (s:Shared) (H:Hp) (E:XK),c.cb=cb->dQ k (A.deeper (envOfC qual (aA st) s.heap.objs.size f cdv))->Good (lR (EO P w) P w K mg base N qual (aA st) f cdv A outer s H E)->∀n,ajC (lR (EO P w) P w K mg base N qual (aA st) f cdv A outer s H E) c (aH st) (B n)) (hF:∀as,as.length=ps.length->F as≠.bad->∃n,mX (B n (dg N as))=F as):i6 P w K mg base cb (k+1) f fd ps F:=by
 obtain ⟨oc,od,kV,doc,pm,an,cdv,fN,osl,rfl,lk,hcd⟩:=SN.ex;refine acm lk hcd S (λ vs H Q E h=>h.1) λ A outer s H vs Q E hr EM=>?_;obtain ⟨hn,c,as,ecb,aiE,j,h⟩:=EM;have hl:as.length=vs.length:=by have:=j.len;simpa using this
 have hb:F as≠.bad:=λ z=>by rw[z] at h;exact h
 obtain ⟨n,hF⟩:=hF as (by rw[hl];exact hn) hb;refine ⟨_,hbody c cdv A outer s H E ecb hr ⟨PassesOwn.leaving,rfl,S.nd,rfl,rfl⟩ n,dg N as,PB j,?_⟩;rw[<-hF] at h;cases q:B n (dg N as) with
 |nx Γ=>rw[q] at h;exact λ σ' H' _ j=>h .dY H' j.same j.free (by simp[Tl])
 |bk Γ=>rw[q] at h;exact h.elim
 |ct Γ=>rw[q] at h;exact h.elim
 |rt d=>rw[q] at h;exact λ v H' b t=>h v H' b.same b.free t
 |O3 m=>rw[q] at h;exact λ v H' S b o n k=>h v H' S b.same b.free o n k
 |SQ d Γ=>rw[q] at h;exact λ v σ' H' j t=>h v Γ σ' H' j rfl t
 |Av d Γ=>rw[q] at h;exact h.elim
 |err x Γ=>rw[q] at h;exact λ σ' H' e s' _ j r=>GB (ecb▸r) λ C H2 hc s=>h C H2 hc λ b o z n=>s b o (j.same b o z n)
 |bad=>rw[q] at h;exact h.elim
def Zq{x qual:Str}{st:Stmt}{f:Addr}{fd:FuncData}{N ps:List Str}{k:Nat}{F:List Slot->cJ}{B:Nat->Sg->Out}(SN:lT K x qual st f fd)(S:lM N ps (aA st))(hbody:∀(c:Cf) (cdv:Value) (A:Around) (outer:List Env) (s:Shared) (H:Hp) (E:XK),c.cb=cb->dQ k (A.deeper (envOfC qual (aA st) s.heap.objs.size f cdv))->Good (lR (EO P w) P w K mg base N qual (aA st) f cdv A outer s H E)->∀n,qH (lR (EO P w) P w K mg base N qual (aA st) f cdv A outer s H E) c (aH st) (B n)) (hF:∀as,as.length=ps.length->F as≠.bad->∃n,mX (B n (dg N as))=F as):i6 P w K mg base cb (k+1) f fd ps F:=afd (SN:=SN) (S:=S) (hbody:=(λ c cdv A outer s H E h_1 h_2 h_3 n=>(hbody c cdv A outer s H E h_1 h_2 h_3 n).out)) (hF:=hF)
end
section
variable{X:Cx}{ct:Ct}{a b e:Expr}{f g:Sg->Res D}{pos:Pos}
def jd{C':Int->Int->Prop}{C:Int->Int->Bool}{gv:Int->Int->V}{gd:Int->Int->D}(hc:∀i j,C i j=true->C' i j)(ht:∀i j K ct H,Tl K ct H (gd i j) (gv i j)):HR X ct (rI C' gv) (intD C gd):=by
 intro σ H x y d1 d2 Q lL lB t1 t2 h;cases d1 with
 |int i=>
  cases d2 with
  |int j=>
   simp only[Tl] at t1 t2;subst t1 t2;rw[Wo] at h;split at h
   ·rename_i hij;exact ⟨i,j,rfl,rfl,hc i j hij,h _ H (au.refl H) (ht i j _ _ _)⟩
   ·exact h.elim
  |_=>exact h.elim
 |_=>cases d2<;>exact h.elim
def nW{F:Value->Value->Sem Value}{gv:Int->Int->V}(h:nU X F (rI0 gv)):nU X F (rI (λ _ _=>True) gv):=λ pins s σ H x y v u Q I rx ry ⟨i,j,h1,h2,_,q⟩=>h pins s σ H x y v u Q I rx ry ⟨i,j,h1,h2,q⟩
def Vy{i j:Int}(h:pD i j=true):IntMulOk i j:=by
 simp only[pD,Bool.or_eq_true,Bool.and_eq_true,decide_eq_true_eq] at h;rcases h with (h|h)|h
 ·exact .of_left h
 ·exact .of_right h
 ·exact .of_bits h.1 h.2
def aac:nU X (binaryOp .Mult) (rI (λ i j=>pD i j=true) λ i j=> .int (i*j)):=opI λ _ _ _ _ _ _ _ hc q=>mul_int q (Vy hc)
def U8:nU X (binaryOp .FloorDiv) (rI (λ i j=>Cu i j=true) λ i j=> .int (i.fdiv j)):=opI λ _ _ _ _ _ _ _ hc q=>by simp only[Cu,Bool.and_eq_true,decide_eq_true_eq] at hc;exact floordiv_int hc.1 q (.inl (PyProof.noPylong_of_log2 hc.2))
def xW(ha:WD X ct a f)(hb:WD X ct b g):WD X ct (.BinOp a .Sub b pos) (aO IK f g):=by have ha:=ha.out;have hb:=hb.out;exact ⟨vG (nW ael) (jd (λ _ _ _=>trivial) λ _ _ _ _ _=>by simp[Tl]) ha hb⟩
def m5(ha:WD X ct a f)(hb:WD X ct b g):WD X ct (.BinOp a .Mult b pos) (aO qy f g):=by have ha:=ha.out;have hb:=hb.out;exact ⟨vG aac (jd (λ _ _ h=>h) λ _ _ _ _ _=>by simp[Tl]) ha hb⟩
def fK(ha:WD X ct a f)(hb:WD X ct b g):WD X ct (.BinOp a .FloorDiv b pos) (aO fZ f g):=by have ha:=ha.out;have hb:=hb.out;exact ⟨vG U8 (jd (λ _ _ h=>h) λ _ _ _ _ _=>by simp[Tl]) ha hb⟩
def fS(ha:WD X ct a f)(hb:WD X ct b g):WD X ct (.BinOp a .Mod b pos) (aO iL f g):=by have ha:=ha.out;have hb:=hb.out;exact ⟨vG aad (jd (λ _ _ h=>of_decide_eq_true h) λ _ _ _ _ _=>by simp[Tl]) ha hb⟩
def Tv(ha:WD X ct a f)(hb:WD X ct b g):WD X ct (.BinOp a .Pow b pos) (aO UH f g):=by
 have ha:=ha.out;have hb:=hb.out;exact ⟨vG aem (jd (λ _ _ h=>by
 simp only[O7,Bool.and_eq_true,decide_eq_true_eq] at h;exact ⟨h.1.1,h.1.2,h.2⟩) λ _ _ _ _ _=>by simp[Tl]) ha hb⟩
def adz(ha:WD X ct a f)(hb:WD X ct b g):WD X ct (.BinOp a .BitXor b pos) (aO ag7 f g):=by have ha:=ha.out;have hb:=hb.out;exact ⟨vG (nW aek) (jd (λ _ _ _=>trivial) λ _ _ _ _ _=>by simp[Tl]) ha hb⟩
def ahf(ha:WD X ct a f)(hb:WD X ct b g):WD X ct (.Compare a [.Lt] [b] pos) (aO ltI f g):=by have ha:=ha.out;have hb:=hb.out;exact ⟨U0 (nW Pe) (jd (λ _ _ _=>trivial) λ _ _ _ _ _=>by simp[Tl]) ha hb (yL _)⟩
def Ih(ha:WD X ct a f)(hb:WD X ct b g):HP X ct (.Compare a [.Lt] [b] pos) (dT (aO ltI f g)):=by have ha:=ha.out;have hb:=hb.out;exact ⟨xm (nW Pe) (jd (λ _ _ _=>trivial) λ _ _ _ _ _=>by simp[Tl]) ha hb (yL _)⟩
def CK(ha:WD X ct a f):WD X ct (.UnaryOp .USub a pos) (dUn Q8 f):=by
 have ha:=ha.out;refine ⟨?_⟩;refine PE.imp (ahQ adD ha) λ σ H Q ⟨Γ,j,h⟩=>?_;refine nY.bnd j h λ d v H' s t j' h'=>?_;cases d with
 |int i=>simp only[Tl] at t;exact ⟨i,t,h' _ H' s (by simp[Tl])⟩
 |_=>exact h'.elim
def Qc{r2:List V->Hp->VK->Prop}{r:List D->Res D}{fa:Sg->Res (List D)}(k:∀(σ:St) (H:Hp) (vs:List V) (ds:List D) (Q:VK),au ct.f.L H->au ct.B H->aE X.K ct H ds vs->Ok X ct σ H (r ds) (Wd X ct H Q)->r2 vs H Q):
  ∀σ H Q,nY X ct (xM r fa) σ H Q->tCB r2 (HY X ct fa) σ H Q:=by
 rintro σ H Q ⟨Γ,j,h⟩
 exact HY.bnd j h λ ds vs H' s t j' h'=>k σ H' vs ds Q j'.lL j'.lB t (Ok.mono s h' λ d q=>q.mono s)
def wc{K:W.Frag}{H:Hp}{d:D}{vs:List V}(h:aE K ct H [d] vs):∃v,vs=[v]/\Tl K ct H d v:=by simp only[aE] at h;obtain ⟨v,r,rfl,t,rfl⟩:=h;exact ⟨v,rfl,t⟩
def TH{p:Pos}{fa:Sg->Res (List D)}{es:List Expr}(hm:X.mg "abs"=none)(ha:xO X ct (e::es) fa)(hg:Gl X "abs":=by rfl)(he:starEach (e::es) X.env=(false,eval e X.env)::starEach es X.env:=by rfl)(hpl:(backTo pos (starEach es X.env)).any (·.1)=false:=by rfl):WD X ct (.Call (.Name "abs" p) (e::es) [] pos) (xM XN fa):=by
 have ha:=ha.out;refine ⟨?_⟩;refine PE.imp (jw Xy hg hm PyProof.Rows.boot_abs ha (by decide) (by decide) he hpl) (Qc λ σ H vs ds Q lL lB t h=>?_);unfold XN at h;split at h
 ·rename_i i;obtain ⟨v,rfl,tv⟩:=wc t;simp only[Tl] at tv;subst tv;exact ⟨i,rfl,h _ H (au.refl H) (by simp[Tl])⟩
 ·exact h.elim
def iF{p:Pos}{fa:Sg->Res (List D)}{es:List Expr}(hm:X.mg "len"=none)(ha:xO X ct (e::es) fa)(hg:Gl X "len":=by rfl)(he:starEach (e::es) X.env=(false,eval e X.env)::starEach es X.env:=by rfl)(hpl:(backTo pos (starEach es X.env)).any (·.1)=false:=by rfl):WD X ct (.Call (.Name "len" p) (e::es) [] pos) (xM kC fa):=by
 have ha:=ha.out;refine ⟨?_⟩;refine PE.imp (jw Xv hg hm PySem.boot_len ha (by decide) (by decide) he hpl) (Qc λ σ H vs ds Q lL lB t h=>?_);unfold kC at h;split at h
 ·rename_i es;obtain ⟨v,rfl,tv⟩:=wc t;simp only[Tl] at tv;obtain ⟨a,us,rfl,h1,h2⟩:=tv;refine ⟨_,us.length,rfl,?_,h _ H (au.refl H) (by rw[h2.length];simp[Tl])⟩;exact .inl ⟨us,h1.sq,rfl⟩
 ·rename_i es;obtain ⟨v,rfl,tv⟩:=wc t;simp only[Tl] at tv;obtain ⟨a,us,rfl,h1,h2⟩:=tv;refine ⟨_,us.length,rfl,?_,h _ H (au.refl H) (by rw[h2.length];simp[Tl])⟩;exact .inr ⟨us,lZ h1,rfl⟩
 ·rename_i es;obtain ⟨v,rfl,tv⟩:=wc t;simp only[Tl] at tv;obtain ⟨a,us,rfl,h1,h2⟩:=tv;refine ⟨_,us.length,rfl,?_,h _ H (au.refl H) (by rw[h2.length];simp[Tl])⟩;exact .inr ⟨us,h1.sq,rfl⟩
 ·rename_i tm es;obtain ⟨v,rfl,tv⟩:=wc t;obtain ⟨a,us,rfl,h1,h2⟩:=tv.jK lL lB rfl;refine ⟨_,us.length,rfl,?_,h _ H (au.refl H) (by rw[h2.length];simp[Tl])⟩;exact .inl ⟨us,h1,rfl⟩
 ·rename_i x;split at h
  ·rename_i hx;obtain ⟨v,rfl,tv⟩:=wc t;simp only[Tl] at tv;subst tv;exact ⟨_,x.length,rfl,⟨hx,rfl⟩,h _ H (au.refl H) (by simp[Tl])⟩
  ·exact h.elim
 ·exact h.elim
end
def f9:∀(ds:List D),(∀d∈ds,(py d).canLay0=true)->PyData.canLayAll0 (Ag ds)=true
 |[],_=>by simp[Ag,PyData.canLayAll0]
 |d::ds,h=>by simp only[Ag,PyData.canLayAll0,Bool.and_eq_true];exact ⟨h d (.head _),f9 ds λ x hx=>h x (.tail _ hx)⟩
def ir{n:Nat}:∀(ds:List D),(∀d∈ds,(py d).depth<=n)->PyData.depthAll (Ag ds)<=n
 |[],_=>by simp[Ag,PyData.depthAll]
 |d::ds,h=>by simp only[Ag,PyData.depthAll];exact Nat.max_le.mpr ⟨h d (.head _),ir ds λ x hx=>h x (.tail _ hx)⟩
def jL:∀(n:Nat) (d:D),fW n d=true->(py d).canLay0=true/\(py d).depth<=n
 |n,.dY,_=>by simp[py,PyData.canLay0,PyData.depth]
 |n,.bl b,_=>by simp[py,PyData.canLay0,PyData.depth]
 |n,.int b,_=>by simp[py,PyData.canLay0,PyData.depth]
 |n,.str b,h=>by cases n<;>simp_all[py,PyData.canLay0,PyData.depth,fW]
 |0,.tup ds,h=>by simp[fW] at h
 |0,.gt ds,h=>by simp[fW] at h
 |0,.lst ds,h=>by simp[fW] at h
 |0,.bor _ ds,h=>by simp[fW] at h
 |n+1,.bor _ ds,h=>by simp only[fW,List.all_eq_true] at h;simp only[py,PyData.canLay0,PyData.depth];exact ⟨f9 ds λ d hd=>(jL n d (h d hd)).1,Nat.succ_le_succ (ir ds λ d hd=>(jL n d (h d hd)).2)⟩
 |n+1,.tup ds,h=>by simp only[fW,List.all_eq_true] at h;simp only[py,PyData.canLay0,PyData.depth];exact ⟨f9 ds λ d hd=>(jL n d (h d hd)).1,Nat.succ_le_succ (ir ds λ d hd=>(jL n d (h d hd)).2)⟩
 |n+1,.gt ds,h=>by simp only[fW,List.all_eq_true] at h;simp only[py,PyData.canLay0,PyData.depth];exact ⟨f9 ds λ d hd=>(jL n d (h d hd)).1,Nat.succ_le_succ (ir ds λ d hd=>(jL n d (h d hd)).2)⟩
 |n+1,.lst ds,h=>by simp only[fW,List.all_eq_true] at h;simp only[py,PyData.canLay0,PyData.depth];exact ⟨f9 ds λ d hd=>(jL n d (h d hd)).1,Nat.succ_le_succ (ir ds λ d hd=>(jL n d (h d hd)).2)⟩
 |0,.obj _ _ _,h=>by simp[fW] at h
 |0,.exc _,h=>by simp[fW] at h
 |n+1,.obj _ _ _,h=>by simp[fW] at h
 |n+1,.exc _,h=>by simp[fW] at h
 |0,.uh _ _,h=>by simp[fW] at h
 |0,.oq _ _ _,h=>by simp[fW] at h
 |n+1,.uh _ _,h=>by simp[fW] at h
 |n+1,.oq _ _ _,h=>by simp[fW] at h
 |0,.vp _ _ _ _,h=>by simp[fW] at h
 |n+1,.vp _ _ _ _,h=>by simp[fW] at h
def nh{d:D}(h:fW 12 d=true):SeqAt.shaped (py d)=true:=by obtain ⟨h1,h2⟩:=jL 12 d h;unfold SeqAt.shaped;rw[h1,Bool.true_and];exact decide_eq_true (Nat.le_trans h2 (by decide))
section
variable{X:Cx}{ct:Ct}{pins:List (Addr×Obj)}{σ:St}{H:Hp}{s:Shared}
def jv{f:D->Prop}(hf:∀d v u,f d->Tl X.K ct H d v->RelV v u->∃as,Reads s.heap u (py d) as):∀(ds:List D) (vs:List V) (us:List Value),(∀d∈ds,f d)->aE X.K ct H ds vs->Vals vs us->∃as,ReadsAll s.heap us (Ag ds) as
 |[],vs,us,_,h,r=>by simp only[aE] at h;subst h;cases r;exact ⟨[],.nil⟩
 |d::ds,vs,us,hd,h,r=>by
  simp only[aE] at h;obtain ⟨v,w,rfl,t1,t2⟩:=h;cases r with
  |cons r1 r2=>obtain ⟨as,h1⟩:=hf d v _ (hd d (.head _)) t1 r1;obtain ⟨bs,h2⟩:=jv hf ds w _ (λ x hx=>hd x (.tail _ hx)) t2 r2;exact ⟨as++bs,.cons h1 h2⟩
def ju(I:Inv X pins σ H s)(lL:au ct.f.L H)(lB:au ct.B H):∀(n:Nat) (d:D) (v:V) (u:Value),fW n d=true->Tl X.K ct H d v->RelV v u->∃as,Reads s.heap u (py d) as
 |n,.dY,v,u,_,t,r=>by simp only[Tl] at t;subst t;cases r;exact ⟨[],.none⟩
 |n,.bl b,v,u,_,t,r=>by simp only[Tl] at t;subst t;cases r;exact ⟨[],.bool b⟩
 |n,.int i,v,u,_,t,r=>by simp only[Tl] at t;subst t;obtain ⟨k,rfl⟩:=r;exact ⟨[],.int i k⟩
 |n,.str x,v,u,_,t,r=>by simp only[Tl] at t;subst t;obtain ⟨k,rfl⟩:=r;exact ⟨[],.str x k⟩
 |0,.tup ds,v,u,h,_,_=>by simp[fW] at h
 |0,.gt ds,v,u,h,_,_=>by simp[fW] at h
 |0,.lst ds,v,u,h,_,_=>by simp[fW] at h
 |0,.bor _ ds,v,u,h,_,_=>by simp[fW] at h
 |n+1,.bor tm ds,v,u,h,t,r=>by obtain ⟨a,vs,rfl,t1,t2⟩:=t.jK lL lB rfl;cases r;simp only[fW,List.all_eq_true] at h;obtain ⟨its,rv,⟨o,m,h1,h2,_,h3⟩,_⟩:=I.list t1;obtain ⟨as,q⟩:=jv (f:=λ d=>fW n d=true) (λ d v u h t r=>ju I lL lB n d v u h t r) ds vs its h t2 rv;exact ⟨a::as,reads_list_at h1 h2 h3 (by simpa using q)⟩
 |n+1,.tup ds,v,u,h,t,r=>by simp only[Tl] at t;obtain ⟨a,vs,rfl,t1,t2⟩:=t;cases r;simp only[fW,List.all_eq_true] at h;obtain ⟨its,rv,⟨o,h1,h2,m,h3⟩,_⟩:=I.tuple (lZ t1);obtain ⟨as,q⟩:=jv (f:=λ d=>fW n d=true) (λ d v u h t r=>ju I lL lB n d v u h t r) ds vs its h t2 rv;exact ⟨as,reads_tuple_at h1 h2 h3 (by simpa using q)⟩
 |n+1,.gt ds,v,u,h,t,r=>by simp only[Tl] at t;obtain ⟨a,vs,rfl,t1,t2⟩:=t;cases r;simp only[fW,List.all_eq_true] at h;obtain ⟨its,rv,⟨o,h1,h2,m,h3⟩,_⟩:=I.tuple t1.sq;obtain ⟨as,q⟩:=jv (f:=λ d=>fW n d=true) (λ d v u h t r=>ju I lL lB n d v u h t r) ds vs its h t2 rv;exact ⟨as,reads_tuple_at h1 h2 h3 (by simpa using q)⟩
 |n+1,.lst ds,v,u,h,t,r=>by simp only[Tl] at t;obtain ⟨a,vs,rfl,t1,t2⟩:=t;cases r;simp only[fW,List.all_eq_true] at h;obtain ⟨its,rv,⟨o,m,h1,h2,_,h3⟩,_⟩:=I.list t1.sq;obtain ⟨as,q⟩:=jv (f:=λ d=>fW n d=true) (λ d v u h t r=>ju I lL lB n d v u h t r) ds vs its h t2 rv;exact ⟨a::as,reads_list_at h1 h2 h3 (by simpa using q)⟩
 |0,.obj _ _ _,v,u,h,_,_=>by simp[fW] at h
 |0,.exc _,v,u,h,_,_=>by simp[fW] at h
 |n+1,.obj _ _ _,v,u,h,_,_=>by simp[fW] at h
 |n+1,.exc _,v,u,h,_,_=>by simp[fW] at h
 |0,.uh _ _,v,u,h,_,_=>by simp[fW] at h
 |0,.oq _ _ _,v,u,h,_,_=>by simp[fW] at h
 |n+1,.uh _ _,v,u,h,_,_=>by simp[fW] at h
 |n+1,.oq _ _ _,v,u,h,_,_=>by simp[fW] at h
 |0,.vp _ _ _ _,v,u,h,_,_=>by simp[fW] at h
 |n+1,.vp _ _ _ _,v,u,h,_,_=>by simp[fW] at h
end
section
variable{X:Cx}{ct:Ct}{a b e:Expr}{f g:Sg->Res D}{pos:Pos}
def ZP(K:W.Frag)(ct:Ct)(neg:Bool):R2:=λ x y H Q=>au ct.f.L H/\au ct.B H/\∃d1 d2,Tl K ct H d1 x/\Tl K ct H d2 y/\fW 12 d1=true/\fW 12 d2=true/\Q (.bl (if neg then !W8 d1 d2 else W8 d1 d2)) H
def U9(hu:X.A.units+64<cLine):nU X (compareOp .Eq) (ZP X.K ct false):=by intro pins s σ H x y v u Q I rx ry ⟨lL,lB,d1,d2,t1,t2,o1,o2,q⟩;obtain ⟨as,r1⟩:=ju I lL lB 12 d1 x v o1 t1 rx;obtain ⟨bs,r2⟩:=ju I lL lB 12 d2 y u o2 t2 ry;exact eq_dataH r1 r2 (nh o1) (nh o2) hu ⟨.bl _,H,I,rfl,q⟩
def aen(hu:X.A.units+64<cLine):nU X (compareOp .NotEq) (ZP X.K ct true):=by intro pins s σ H x y v u Q I rx ry ⟨lL,lB,d1,d2,t1,t2,o1,o2,q⟩;obtain ⟨as,r1⟩:=ju I lL lB 12 d1 x v o1 t1 rx;obtain ⟨bs,r2⟩:=ju I lL lB 12 d2 y u o2 t2 ry;exact ne_dataH r1 r2 (nh o1) (nh o2) hu ⟨.bl _,H,I,rfl,q⟩
def Va:HR X ct (ZP X.K ct false) zI:=by
 intro σ H x y d1 d2 Q lL lB t1 t2 h;unfold zI at h;split at h
 ·rename_i ho;exact ⟨lL,lB,d1,d2,t1,t2,ho.1,ho.2,h _ H (au.refl H) (by simp[Tl])⟩
 ·exact h.elim
def aeq:HR X ct (ZP X.K ct true) xu:=by
 intro σ H x y d1 d2 Q lL lB t1 t2 h;unfold xu at h;split at h
 ·rename_i ho;exact ⟨lL,lB,d1,d2,t1,t2,ho.1,ho.2,h _ H (au.refl H) (by simp[Tl])⟩
 ·exact h.elim
def TF(hu:X.A.units+64<cLine)(ha:WD X ct a f)(hb:WD X ct b g):WD X ct (.Compare a [.Eq] [b] pos) (aO zI f g):=by have ha:=ha.out;have hb:=hb.out;exact ⟨U0 (U9 hu) Va ha hb (yL _)⟩
def xU(hu:X.A.units+64<cLine)(ha:WD X ct a f)(hb:WD X ct b g):HP X ct (.Compare a [.Eq] [b] pos) (dT (aO zI f g)):=by have ha:=ha.out;have hb:=hb.out;exact ⟨xm (U9 hu) Va ha hb (yL _)⟩
def oM(hu:X.A.units+64<cLine)(ha:WD X ct a f)(hb:WD X ct b g):HP X ct (.Compare a [.NotEq] [b] pos) (dT (aO xu f g)):=by have ha:=ha.out;have hb:=hb.out;exact ⟨xm (aen hu) aeq ha hb (yL _)⟩
def xN{K:W.Frag}{H:Hp}{ds:List D}{vs:List V}{i:Int}{d:D}(t:aE K ct H ds vs)(h:Ah ds i=some d):∃v,Ah vs i=some v/\Tl K ct H d v:=by
 unfold Ah at h ⊢;rw[<-t.length];cases q:xC ds.length i with
 |none=>rw[q] at h;cases h
 |some k=>rw[q] at h;exact t.get h
def aer:HR X ct (rIx X.K) fQ:=by
 intro σ H x y d1 d2 Q lL lB t1 t2 h;unfold fQ at h;split at h
 ·rename_i ds i;split at h
  ·rename_i d hd;simp only[Tl] at t1 t2;obtain ⟨a,vs,rfl,h1,h2⟩:=t1;subst t2;obtain ⟨v,hv,tv⟩:=xN h2 hd;exact .inl ⟨a,vs,i,v,rfl,rfl,h1.sq,hv,h v H (au.refl H) tv⟩
  ·exact h.elim
 ·rename_i tm ds i;split at h
  ·rename_i d hd;obtain ⟨a,vs,rfl,h1,h2⟩:=t1.jK lL lB rfl;simp only[Tl] at t2;subst t2;obtain ⟨v,hv,tv⟩:=xN h2 hd;exact .inl ⟨a,vs,i,v,rfl,rfl,h1,hv,h v H (au.refl H) tv⟩
  ·exact h.elim
 ·rename_i ds i;split at h
  ·rename_i d hd;simp only[Tl] at t1 t2;obtain ⟨a,vs,rfl,h1,h2⟩:=t1;subst t2;obtain ⟨v,hv,tv⟩:=xN h2 hd;exact .inr (.inl ⟨a,vs,i,v,rfl,rfl,lZ h1,hv,h v H (au.refl H) tv⟩)
  ·exact h.elim
 ·rename_i ds i;split at h
  ·rename_i d hd;simp only[Tl] at t1 t2;obtain ⟨a,vs,rfl,h1,h2⟩:=t1;subst t2;obtain ⟨v,hv,tv⟩:=xN h2 hd;exact .inr (.inl ⟨a,vs,i,v,rfl,rfl,h1.sq,hv,h v H (au.refl H) tv⟩)
  ·exact h.elim
 ·rename_i z i;split at h
  ·rename_i hz;split at h
   ·rename_i c hc;simp only[Tl] at t1 t2;subst t1 t2;exact .inr (.inr ⟨z,i,c,rfl,rfl,hz,hc,h _ H (au.refl H) (by simp[Tl])⟩)
   ·exact h.elim
  ·exact h.elim
 ·exact h.elim
def bI(ha:WD X ct a f)(hb:WD X ct b g)(hs:Qk b:=by exact λ _ _=>rfl):WD X ct (.Subscript a b pos) (aO fQ f g):=by have ha:=ha.out;have hb:=hb.out;exact ⟨PE.imp (ahR aeX ha hb hs) (Dn aer)⟩
def iG(ha:WD X ct a f)(hb:WD X ct b g):WD X ct (.BinOp a .Add b pos) (aO oz f g):=by
 have ha:=ha.out;have hb:=hb.out;refine ⟨?_⟩;refine vG (nU.or aeo Jg) (λ σ H x y d1 d2 Q lL lB t1 t2 h=>?_) ha hb;unfold oz at h;split at h
 ·simp only[Tl] at t1 t2;subst t1 t2;exact .inl ⟨_,_,rfl,rfl,h _ H (au.refl H) (by simp[Tl])⟩
 ·split at h
  ·rename_i hl;simp only[Tl] at t1 t2;subst t1 t2;exact .inr ⟨_,_,rfl,rfl,hl,h _ H (au.refl H) (by simp[Tl])⟩
  ·exact h.elim
 ·exact h.elim
def ahL(K:W.Frag):R2:=λ x y H Q=>∃l b xs zs,x= .ref l/\y= .ref b/\oA K H l xs/\oA K H b zs/\xs.length+zs.length<=sizeLine/\∀p,H p=none->Q (.ref p) (upd H p (.lst (xs++zs)))
def aaf:nU X (binaryOp .Add) (ahL X.K):=by
 intro pins s σ H x y v u Q I rx ry h;obtain ⟨l,b,xs,zs,rfl,rfl,hH,hB,hz,q⟩:=h;cases rx;cases ry;obtain ⟨its,r,⟨⟨oc,od,odt,osl⟩,n,e,hc,_,hd⟩,_⟩:=I.list hH;obtain ⟨its2,r2,⟨⟨oc2,od2,apn,alL⟩,n2,e2,hc2,_,hd2⟩,_⟩:=I.list hB;simp only at hc hd hc2 hd2;subst hc hd hc2 hd2;have hl:=r.length;have hl2:=r2.length;have ea:its.toArray++its2.toArray=(its++its2).toArray:=by simp
 refine concat_meets ⟨_,e,rfl⟩ ⟨_,e2,rfl⟩ noFill_list_add seq_list_add PySem.F.slot_list_add PySem.F.entry_list_add
  (PySem.F.args_list_add_2 _ _) (list_addW l b its.toArray its2.toArray n n2 od od2 osl alL (by simp only[List.size_toArray];omega)) ⟨e,e2,?_⟩
 rw[ea];exact ⟨.ref _,_,I.al2 (t':=s.toks) (r.append r2) (by rw[List.length_append];omega),rfl,q _ I.fresh⟩
def ady(ha:WD X ct a f)(hb:WD X ct b g):WL X ct (.BinOp a .Add b pos) (lOp afy f g):=by
 have ha:=ha.out;have hb:=hb.out;refine ⟨?_⟩;refine PE.imp (ab5 aaf ha hb) ?_
 rintro σ H Q ⟨Γ,j,h⟩
 refine nY.bnd j h λ d1 v H1 s1 t1 j1 h1=>?_;refine nY.bnd (W:=Wl X ct H Q) j1 (Ok.mono s1 h1 λ _ z=>z) λ d2 u H2 s2 t2 j2 h2=>?_;have t1:=t1.keep (au.keep s2);unfold afy at h2;split at h2
 ·rename_i e1 e2;split at h2
  ·rename_i hl;obtain ⟨a,vs,rfl,q1,q2⟩:=t1.jK j2.lL j2.lB e1;obtain ⟨b,us,rfl,q3,q4⟩:=t2.jK j2.lL j2.lB e2;refine ⟨a,b,vs,us,rfl,rfl,q1,q3,by rw[<-q2.length, <-q4.length];exact hl,λ p hp=>?_⟩;have s3:=aT hp (.lst (vs++us));exact h2 p _ _ ((s1.trans s2).trans s3) ((s1.trans s2).free hp) aD ((q2.append q4).keep (au.keep s3))
  ·exact h2.elim
 ·exact h2.elim
def oOf(X:Cx)(ct:Ct)(f:Sg->Res (Option Int)):TO:=λ σ H Q=>∃Γ,Jx X ct Γ σ H/\Ok X ct σ H (f Γ) λ i=>∀H',au H H'->Q i H'
abbrev PDO(X:Cx)(ct:Ct)(e:Option Expr)(f:Sg->Res (Option Int)):Prop:=PO X e (oOf X ct f)
structure WO(X:Cx)(e:Option Expr)(t:TO):Prop where
 out:PO X e t
abbrev WDO(X:Cx)(ct:Ct)(e:Option Expr)(f:Sg->Res (Option Int)):Prop:=WO X e (oOf X ct f)
def PO.imp{e:Option Expr}{t u:TO}(h:PO X e t)(k:∀σ H Q,u σ H Q->t σ H Q):PO X e u:=λ pins s σ H Q I q=>h pins s σ H Q I (k σ H Q q)
def EZ(he:WD X ct e f):WDO X ct (some e) (dP f):=by
 have he:=he.out;refine ⟨?_⟩;refine PO.imp (ZX he) λ σ H Q ⟨Γ,j,h⟩=>?_;refine nY.bnd j h λ d v H' s t j' h'=>?_;cases d with
 |int i=>simp only[Tl] at t;exact ⟨i,t,h' H' s⟩
 |_=>exact h'.elim
def Xi{K:W.Frag}{H:Hp}{ds:List D}{vs:List V}(t:aE K ct H ds vs)(lo hi:Option Int):aE K ct H (Ho ds lo hi) (KA vs lo hi):=by unfold Ho KA;rw[t.length];exact (t.drop _).take _
def adx{lo hi:Option Expr}{l u:Sg->Res (Option Int)}{p2:Pos}(he:WD X ct e f)(hl:WDO X ct lo l)(hu:WDO X ct hi u):WL X ct (.Subscript e (.Slice lo hi none p2) pos) (aeN f l u):=by
 have he:=he.out;have hl:=hl.out;have hu:=hu.out;refine ⟨?_⟩;refine PE.imp (UU ZG he hl hu) λ σ H Q ⟨Γ,j,h⟩=>?_;refine nY.bnd j h λ d v H1 s1 t1 j1 h1=>?_;refine ⟨Γ,j1,(Ok.mono s1 h1 λ _ z=>z).bnd (W:=Wl X ct H Q) λ lo _ h2 H2 s2=>?_⟩;refine ⟨Γ,j1.mono s2,(Ok.mono s2 h2 λ _ z=>z).bnd (W:=Wl X ct H Q) λ hi _ h3 H3 s3=>?_⟩;have t3:=t1.keep (au.keep (s2.trans s3));cases q:asL d with
 |some xs=>rw[q] at h3;have j3:=j1.mono (s2.trans s3);obtain ⟨a,vs,rfl,fz,tl⟩:=t3.jK j3.lL j3.lB q;refine ⟨a,vs,rfl,fz,λ p hp=>?_⟩;have s4:=aT hp (.lst (KA vs lo hi));exact h3 p _ _ (((s1.trans s2).trans s3).trans s4) (((s1.trans s2).trans s3).free hp) aD ((Xi tl lo hi).keep (au.keep s4))
 |none=>rw[q] at h3;exact h3.elim
end
section
variable{K:W.Frag}{ct:Ct}{H H':Hp}
def Walk(H:Hp):M->V->List Nat->V->Prop
 |_,v,[],v'=>v'=v
 | .n ms,v,k::ks,v'=>∃a vs v1 m1,v= .ref a/\H a=some (.lst vs)/\vs[k]? =some v1/\ms[k]? =some m1/\Walk H m1 v1 ks v'
 | .t ms,v,k::ks,v'=>∃a vs v1 m1,v= .ref a/\H a=some (.tup vs)/\vs[k]? =some v1/\ms[k]? =some m1/\Walk H m1 v1 ks v'
 |_,_,_::_,_=>False
def Walk.same(e:au H H'):∀{ks:List Nat} {m:M} {v v':V},Walk H m v ks v'->Walk H' m v ks v'
 |[],m,v,v',h=>by cases m<;>simpa only[Walk] using h
 |k::ks,.n ms,v,v',h=>by simp only[Walk] at h ⊢;obtain ⟨a,vs,v1,m1,h1,h2,h3,h4,h5⟩:=h;exact ⟨a,vs,v1,m1,h1,e _ _ h2,h3,h4,Walk.same e h5⟩
 |k::ks,.t ms,v,v',h=>by simp only[Walk] at h ⊢;obtain ⟨a,vs,v1,m1,h1,h2,h3,h4,h5⟩:=h;exact ⟨a,vs,v1,m1,h1,e _ _ h2,h3,h4,Walk.same e h5⟩
 |k::ks,.d x,v,v',h=>by simp only[Walk] at h
 |k::ks,.l x,v,v',h=>by simp only[Walk] at h
 |k::ks,.k x y,v,v',h=>by simp only[Walk] at h
 |k::ks,.o x y z,v,v',h=>by simp only[Walk] at h
def cG.length:∀{ms:List M} {vs:List V} {S:Fp},cG K ct H ms vs S->ms.length=vs.length
 |[],vs,S,h=>by simp only[cG] at h;subst h;rfl
 |m::ms,vs,S,h=>by simp only[cG] at h;obtain ⟨v,r,S1,S2,rfl,_,_,_,_,h6⟩:=h;simp[cG.length h6]
def cG.WX:∀{ms:List M} {vs:List V} {S:Fp} {k:Nat} {m1:M},cG K ct H ms vs S->ms[k]? =some m1->∃v1 S1,vs[k]? =some v1/\Ow K ct H m1 v1 S1/\(∀b,S1 b->S b)/\∀H' fP HQ,aP ct.f.cb H H'->(∀b o,S b->¬S1 b->H b=some o->H' b=some o)->Ow K ct H' fP v1 HQ->(∀b,HQ b->S b->S1 b)->cG K ct H' (ms.set k fP) vs (λ b=>(S b/\¬S1 b)\/HQ b)
 |[],vs,S,k,m1,h,e=>by simp at e
 |m::ms,vs,S,0,m1,h,e=>by simp only[cG] at h;obtain ⟨v,r,S1,S2,rfl,h2,h3,h4,h5,h6⟩:=h;simp only[List.getElem?_cons_zero,Option.some.injEq] at e;subst e;refine ⟨v,S1,rfl,h5,h2,λ H' fP HQ kp un o fr=>?_⟩;simp only[List.set_cons_zero,cG];refine ⟨v,r,HQ,S2,rfl,λ b z=> .inr z,λ b z=> .inl ⟨h3 b z,λ w=>h4 b w z⟩,λ b z w=>h4 b (fr b z (h3 b w)) w,o,h6.frame kp λ b o z=>un b o (h3 b z) λ w=>h4 b w z⟩
 |m::ms,vs,S,k+1,m1,h,e=>by
  simp only[cG] at h;obtain ⟨v,r,S1,S2,rfl,h2,h3,h4,h5,h6⟩:=h;simp only[List.getElem?_cons_succ] at e;obtain ⟨v1,T1,g1,g2,g3,g4⟩:=cG.WX h6 e;refine ⟨v1,T1,by simpa using g1,g2,λ b z=>h3 b (g3 b z),λ H' fP HQ kp un o fr=>?_⟩;have q:=g4 H' fP HQ kp (λ b o z w=>un b o (h3 b z) w) o λ b z w=>fr b z (h3 b w);simp only[List.set_cons_succ,cG];refine ⟨v,r,S1,λ b=>(S2 b/\¬T1 b)\/HQ b,rfl,λ b z=> .inl ⟨h2 b z,λ w=>h4 b z (g3 b w)⟩,λ b z=>?_,λ b z w=>?_,h5.frame kp λ b o z=>un b o (h2 b z) λ w=>h4 b z (g3 b w),q⟩
  ·rcases z with z|z
   ·exact .inl ⟨h3 b z.1,z.2⟩
   ·exact .inr z
  ·rcases w with w|w
   ·exact h4 b z w.1
   ·exact h4 b z (g3 b (fr b w (h2 b z)))
def Ow.WX:∀{ks:List Nat} {m m':M} {v v':V} {S:Fp},Ow K ct H m v S->Walk H m v ks v'->XG m ks=some m'->∃S',Ow K ct H m' v' S'/\(∀b,S' b->S b)/\∀H' fP HQ,aP ct.f.cb H H'->(∀b o,S b->¬S' b->H b=some o->H' b=some o)->Ow K ct H' fP v' HQ->(∀b,HQ b->S b->S' b)->Ow K ct H' (oh m ks fP) v (λ b=>(S b/\¬S' b)\/HQ b)
 |[],m,m',v,v',S,o,w,e=>by
  simp only[Walk] at w;simp only[XG,Option.some.injEq] at e;subst w e;refine ⟨S,o,λ _ z=>z,λ H' fP HQ kp un o' fr=>?_⟩;have:oh m [] fP=fP:=by cases m<;>rfl
  rw[this];exact o'.wide λ b z=> .inr z
 |k::ks,.n ms,m',v,v',S,o,w,e=>by
  simp only[Walk] at w;obtain ⟨a,vs,v1,m1,rfl,w2,w3,w4,w5⟩:=w;simp only[XG,w4,Option.bind_some] at e;simp only[Ow] at o;obtain ⟨a',us,e1,o2,o3,o4⟩:=o;cases e1;rw[w2] at o3;cases o3;obtain ⟨u1,T1,g1,g2,g3,g4⟩:=cG.WX o4 w4;rw[w3] at g1;cases g1;obtain ⟨S',q1,q2,q3⟩:=Ow.WX g2 w5 e;refine ⟨S',q1,λ b z=>(g3 b (q2 b z)).1,λ H' fP HQ kp un o' fr=>?_⟩;have na:¬S' a:=λ z=>(g3 a (q2 a z)).2 rfl;have r1:=q3 H' fP HQ kp (λ b o z=>un b o (g3 b z).1) o' λ b z z'=>fr b z (g3 b z').1;have r2:=g4 H' (oh m1 ks fP) _ kp (λ b o z z'=>un b o z.1 λ y=>z' (q2 b y)) r1 λ b z z'=>by
   rcases z with z|z
   ·exact z.1
   ·exact q2 b (fr b z z'.1)
  simp only[oh,w4,Ow];refine ⟨a,vs,rfl,.inl ⟨o2,na⟩,un a _ o2 na w2,r2.wide λ b z=>?_⟩;rcases z with z|z|z
  ·exact ⟨.inl ⟨z.1.1,λ y=>z.2 (q2 b y)⟩,z.1.2⟩
  ·exact ⟨.inl ⟨(g3 b z.1).1,z.2⟩,(g3 b z.1).2⟩
  ·refine ⟨.inr z,?_⟩
   rintro rfl
   exact na (fr b z o2)
 |k::ks,.t ms,m',v,v',S,o,w,e=>by
  simp only[Walk] at w;obtain ⟨a,vs,v1,m1,rfl,w2,w3,w4,w5⟩:=w;simp only[XG,w4,Option.bind_some] at e;simp only[Ow] at o;obtain ⟨a',us,e1,o3,o4⟩:=o;cases e1;rw[w2] at o3;cases o3;obtain ⟨u1,T1,g1,g2,g3,g4⟩:=cG.WX o4 w4;rw[w3] at g1;cases g1;obtain ⟨S',q1,q2,q3⟩:=Ow.WX g2 w5 e;refine ⟨S',q1,λ b z=>g3 b (q2 b z),λ H' fP HQ kp un o' fr=>?_⟩;have r1:=q3 H' fP HQ kp (λ b o z=>un b o (g3 b z)) o' λ b z z'=>fr b z (g3 b z');have r2:=g4 H' (oh m1 ks fP) _ kp (λ b o z z'=>un b o z λ y=>z' (q2 b y)) r1 λ b z z'=>by
   rcases z with z|z
   ·exact z.1
   ·exact q2 b (fr b z z')
  simp only[oh,w4,Ow];refine ⟨a,vs,rfl,kp _ _ w2 trivial,r2.wide λ b z=>?_⟩;rcases z with z|z|z
  ·exact .inl ⟨z.1,λ y=>z.2 (q2 b y)⟩
  ·exact .inl ⟨g3 b z.1,z.2⟩
  ·exact .inr z
 |k::ks,.d x,m',v,v',S,o,w,e=>by simp only[Walk] at w
 |k::ks,.l x,m',v,v',S,o,w,e=>by simp only[Walk] at w
 |k::ks,.k x y,m',v,v',S,o,w,e=>by simp only[Walk] at w
 |k::ks,.o x y z,m',v,v',S,o,w,e=>by simp only[Walk] at w
def J.up{c:Cf}{H₀:Hp}{Γ:Sg}{σ:St}{i:Nat}{s:Slot}{m m' fP:M}{v0:V}{a:Addr}{ks:List Nat}{o':HO}(j:J K c.z H₀ Γ σ H)(hi:Γ[i]? =some s)(hm:QI s=some m)(hσ:σ[i]? =some (some v0))(w:Walk H m v0 ks (.ref a))(e:XG m ks=some m') (kp:aP c.cb H (upd H a o')) (new:∀S',Ow K c.z H m' (.ref a) S'->S' a/\Ow K c.z (upd H a o') fP (.ref a) S'):J K c.z H₀ (Γ.set i (Uw s (oh m ks fP))) σ (upd H a o'):=by
 obtain ⟨S,h1,h2⟩:=j.chg i;have sl:=h1 s _ hi hσ;have key:∀(v:V) (o:Ow K c.z H m v S) (hv:v=v0),∃S2:Fp,Ow K c.z (upd H a o') (oh m ks fP) v0 S2/\(∀b,S2 b->S b)/\S a:=λ v o hv=>by
  subst hv;obtain ⟨S',q1,q2,q3⟩:=o.WX w e;obtain ⟨n1,n2⟩:=new S' q1;refine ⟨_,q3 _ fP S' kp (λ b u z z' q=>by rw[aC (by rintro rfl;exact z' n1)];exact q) n2 λ b z _=>z,λ b z=>?_,q2 a n1⟩;rcases z with z|z
  ·exact z.1
  ·exact q2 b z
 have fin:∀(HW:Slot) (S2:Fp),S a->(∀b,S2 b->S b)->kP K c.z H₀ (upd H a o') i S2 HW (some v0)->J K c.z H₀ (Γ.set i HW) σ (upd H a o'):=λ HW S2 sa sub ok=>by
  have q:=h2 (upd H a o') HW (some v0) S2 kp (λ b u z z'=>by rw[aC (by rintro rfl;exact z' sa)];exact z) (λ b z=>by
   by_cases eb:b=a
   ·subst eb;rw[aD] at z;cases z
   ·rwa [aC eb] at z) (λ b u z=>nomatch z) ok λ b z=> .inl (sub b z)
  have hil:i<σ.length:=(List.getElem?_eq_some_iff.mp hσ).1;have:σ.set i (some v0)=σ:=by have e2:=(List.getElem?_eq_some_iff.mp hσ).2;rw[<-e2,List.set_getElem_self]
  rwa [this] at q
 have sok:∀S2:Fp,(∀b,S2 b->S b)->SI c.z H₀ H S->SI c.z H₀ (upd H a o') S2:=λ S2 sub so=>⟨λ b z=>so.new b (sub b z),λ b z q=>so.here b (sub b z) (by
   by_cases eb:b=a
   ·subst eb;rw[aD] at q;cases q
   ·rwa [aC eb] at q),λ b z=>so.DF b (sub b z),λ b z t=>nomatch t⟩
 cases s with
 |no=>cases hm
 |val d=>cases hm
 |own m0=>cases hm;obtain ⟨v,e1,o,so,n⟩:=sl;obtain ⟨S2,o2,sub,sa⟩:=key v o (by cases e1;rfl);exact fin (.own (oh m ks fP)) S2 sa sub ⟨v0,rfl,o2,sok S2 sub so,λ b z=>n b (sub b z)⟩
 |par m0=>cases hm;obtain ⟨v,e1,o,so,n⟩:=sl;obtain ⟨S2,o2,sub,sa⟩:=key v o (by cases e1;rfl);exact fin (.par (oh m ks fP)) S2 sa sub ⟨v0,rfl,o2,sok S2 sub so,by cases e1;exact n⟩
end
section
variable{X:Cx}{ct:Ct}{c:Cf}{r ix e:Expr}{i:Nat}{g:Sg->Res (List Nat)}{f fk:Sg->Res D}{pos:Pos}{Γ:Sg}{σ:St}{H:Hp}
def sd(Γ:Sg)(σ:St)(H:Hp)(i:Nat)(ks:List Nat)(v:V):Prop:=∃s m v0 m',Γ[i]? =some s/\QI s=some m/\σ[i]? =some (some v0)/\Walk H m v0 ks v/\XG m ks=some m'
def sd.same{H':Hp}{ks:List Nat}{v:V}(e:au H H')(h:sd Γ σ H i ks v):sd Γ σ H' i ks v:=by obtain ⟨s,m,v0,m',h1,h2,h3,h4,h5⟩:=h;exact ⟨s,m,v0,m',h1,h2,h3,h4.same e,h5⟩
def pOf(X:Cx)(ct:Ct)(i:Nat)(g:Sg->Res (List Nat)):TE:=λ σ H Q=>∃Γ,Jx X ct Γ σ H/\Ok X ct σ H (g Γ) λ ks=>∀v H',au H H'->sd Γ σ H' i ks v->Q v H'
abbrev PP(X:Cx)(ct:Ct)(e:Expr)(i:Nat)(g:Sg->Res (List Nat)):Prop:=PE X e (pOf X ct i g)
abbrev WP(X:Cx)(ct:Ct)(e:Expr)(i:Nat)(g:Sg->Res (List Nat)):Prop:=WE X e (pOf X ct i g)
def J.ofM{K:W.Frag}{H₀:Hp}{s:Slot}{m:M}(j:J K ct H₀ Γ σ H)(h:Γ[i]? =some s)(hm:QI s=some m):∃v S,σ[i]? =some (some v)/\Ow K ct H m v S:=by
 cases s with
 |no=>cases hm
 |val d=>cases hm
 |own m'=>cases hm;obtain ⟨v,S,h1,h2,_⟩:=j.own h;exact ⟨v,S,h1,h2⟩
 |par m'=>cases hm;obtain ⟨v,S,h1,h2,_⟩:=j.par h;exact ⟨v,S,h1,h2⟩
def O6(i:Nat){x:Str}{pos:Pos}(hN:X.N[i]? =some x:=by rfl)(hv:SG X.env.scope x:=by first|exact Or.inl rfl|exact Or.inr (Or.inl rfl)|exact Or.inr (Or.inr rfl))(hd:(x==("__debug__":Str))=false:=by decide) (hcd:(x==("__classdict__":Str))=false:=by decide):PP X ct (.Name x pos) i (kU i):=by
 refine PE.imp (yz hN hv hd hcd) λ σ H Q ⟨Γ,j,h⟩=>?_;unfold kU at h;split at h
 ·rename_i m hm;obtain ⟨s,h1,h2⟩:=Option.bind_eq_some_iff.mp hm;obtain ⟨v,S,h3,h4⟩:=j.ofM h1 h2;refine ⟨v,h3,h v H (au.refl H) ⟨s,m,v,m,h1,h2,h3,?_,?_⟩⟩
  ·cases m<;>rfl
  ·cases m<;>rfl
 ·exact h.elim
def i9(i:Nat){x:Str}{pos:Pos}(hN:X.N[i]? =some x:=by rfl)(hv:SG X.env.scope x:=by first|exact Or.inl rfl|exact Or.inr (Or.inl rfl)|exact Or.inr (Or.inr rfl))(hd:(x==("__debug__":Str))=false:=by decide)(hcd:(x==("__classdict__":Str))=false:=by decide):WP X ct (.Name x pos) i (kU i):=⟨O6 (i:=i) (hN:=hN) (hv:=hv) (hd:=hd) (hcd:=hcd)⟩
end
section
variable{X:Cx}{c:Cf}{r ix e:Expr}{i:Nat}{g:Sg->Res (List Nat)}{f fk:Sg->Res D}{pos:Pos}{Γ:Sg}{σ:St}{H:Hp}
def jJ:1000000<sizeLine:=by rw[sizeLine_eq];decide
def cG.snoc{K:W.Frag}{ct:Ct}{d:D}{y:V}:∀{ms:List M} {vs:List V} {S:Fp},cG K ct H ms vs S->Tl K ct H d y->cG K ct H (ms++[.d d]) (vs++[y]) S
 |[],vs,S,h,t=>by simp only[cG] at h;subst h;simp only[List.nil_append,cG,Ow];exact ⟨y,[],λ _=>False,λ _=>False,rfl,λ _ z=>z.elim,λ _ z=>z.elim,λ _ z=>z.elim,t,rfl⟩
 |m::ms,vs,S,h,t=>by simp only[cG] at h;obtain ⟨v,r,S1,S2,rfl,h2,h3,h4,h5,h6⟩:=h;simp only[List.cons_append,cG];exact ⟨v,r++[y],S1,S2,rfl,h2,h3,h4,h5,cG.snoc h6 t⟩
def cG.ahy{K:W.Frag}{ct:Ct}{d:D}{y:V}:∀{ms:List M} {vs:List V} {S:Fp} (k:Nat),cG K ct H ms vs S->Tl K ct H d y->cG K ct H (ms.set k (.d d)) (vs.set k y) S
 |[],vs,S,k,h,t=>by simp only[cG] at h;subst h;simp[cG]
 |m::ms,vs,S,0,h,t=>by simp only[cG] at h;obtain ⟨v,r,S1,S2,rfl,h2,h3,h4,h5,h6⟩:=h;simp only[List.set_cons_zero,cG,Ow];exact ⟨y,r,λ _=>False,S2,rfl,λ _ z=>z.elim,h3,λ _ z=>z.elim,t,h6⟩
 |m::ms,vs,S,k+1,h,t=>by simp only[cG] at h;obtain ⟨v,r,S1,S2,rfl,h2,h3,h4,h5,h6⟩:=h;simp only[List.set_cons_succ,cG];exact ⟨v,r.set k y,S1,S2,rfl,h2,h3,h4,h5,cG.ahy k h6 t⟩
def B4{ks:List Nat}{v:V}(j:Jx X c.z Γ σ H)(pa:sd Γ σ H i ks v)(hl:Wi (yN i ks Γ)=true):∃a vs,v= .ref a/\H a=some (.lst vs):=by
 obtain ⟨s,m,v0,m',p1,p2,p3,p4,p5⟩:=pa;have e1:yN i ks Γ=some m':=by unfold yN;rw[p1,Option.bind_some,p2,Option.bind_some,p5]
 rw[e1] at hl;obtain ⟨vv,S,g1,o⟩:=j.ofM p1 p2;rw[p3] at g1;cases g1;obtain ⟨S',o',_⟩:=o.WX p4 p5;cases m' with
 |l xs=>simp only[Ow] at o';obtain ⟨a,vs,h1,_,h2,_⟩:=o';exact ⟨a,vs,h1,h2⟩
 |n xs=>simp only[Ow] at o';obtain ⟨a,vs,h1,_,h2,_⟩:=o';exact ⟨a,vs,h1,h2⟩
 |_=>cases hl
def xg{ks:List Nat}{a:Addr}{vs vs':List V}{F:M->Option M}{E:Ends}{H0:Hp}(j:Jx X c.z Γ σ H)(k0:aP c.cb H0 H)(pa:sd Γ σ H i ks (.ref a))(ha:H a=some (.lst vs))(q:Fn X c H0 (YZ (yb i ks F Γ)) E) (hF:∀m' fP S',F m'=some fP->Ow X.K c.z H m' (.ref a) S'->S' a/\Ow X.K c.z (upd H a (.lst vs')) fP (.ref a) S'):E.nx σ (upd H a (.lst vs')):=by
 obtain ⟨s,m,v0,m',p1,p2,p3,p4,p5⟩:=pa;have e1:yb i ks F Γ=(F m').map λ fP=>Γ.set i (Uw s (oh m ks fP)):=by unfold yb;rw[p1,Option.bind_some,p2,Option.bind_some,p5,Option.bind_some]
 rw[e1] at q;cases z:F m' with
 |none=>rw[z] at q;exact q.elim
 |some fP=>rw[z] at q;have kp:aP c.cb H (upd H a (.lst vs')):=aP.lst ha;exact q σ _ (k0.trans kp) (j.up p1 p2 p3 p4 p5 kp λ S' o=>hF m' fP S' z o)
def w9{ks:List Nat}{v:V}{F:M->Option M}{E:Ends}{H0:Hp}(j:Jx X c.z Γ σ H)(pa:sd Γ σ H i ks v)(q:Fn X c H0 (YZ (yb i ks F Γ)) E):∃m' fP S',F m'=some fP/\Ow X.K c.z H m' v S':=by
 obtain ⟨s,m,v0,m',p1,p2,p3,p4,p5⟩:=pa;have e1:yb i ks F Γ=(F m').map λ fP=>Γ.set i (Uw s (oh m ks fP)):=by unfold yb;rw[p1,Option.bind_some,p2,Option.bind_some,p5,Option.bind_some]
 rw[e1] at q;obtain ⟨vv,S,g1,o⟩:=j.ofM p1 p2;rw[p3] at g1;cases g1;obtain ⟨S',o',_⟩:=o.WX p4 p5;cases z:F m' with
 |none=>rw[z] at q;exact q.elim
 |some fP=>exact ⟨m',fP,S',z,o'⟩
def XH{K:W.Frag}{d:D}{y:V}{a:Addr}{vs:List V}{B:Hp}{m' fP:M}{S':Fp}(t:Tl K (c.at' B) H d y)(ha:H a=some (.lst vs))(e:Sy d m'=some fP)(o:Ow K c.z H m' (.ref a) S'):
  vs.length<1000000/\S' a/\Ow K c.z (upd H a (.lst (vs++[y]))) fP (.ref a) S':=by
 have kp:aP c.cb H (upd H a (.lst (vs++[y]))):=aP.lst ha;cases m' with
 |l xs=>
  simp only[Sy] at e;split at e
  ·rename_i hc;cases e;simp only[Ow] at o ⊢;obtain ⟨a',us,e1,o2,o3,o4⟩:=o;cases e1;rw[ha] at o3;cases o3;exact ⟨by rw[<-o4.length];exact hc.1,o2,a,_,rfl,o2,aD,(o4.append (aE.cons (Tl.down (B:=B) (tm:=true) t hc.2) aE.nil)).keep kp⟩
  ·cases e
 |n ms=>
  simp only[Sy] at e;split at e
  ·rename_i hc;cases e;simp only[Ow] at o ⊢;obtain ⟨a',us,e1,o2,o3,o4⟩:=o;cases e1;rw[ha] at o3;cases o3;refine ⟨by rw[<-o4.length];exact hc.1,o2,a,_,rfl,o2,aD,(o4.snoc (Tl.down (B:=B) (tm:=true) t hc.2)).frame kp λ b o z q=>?_⟩;rw[aC z.2];exact q
  ·cases e
 |_=>cases e
def Ik{ap cp:Pos}(hr:∀B,WP X (c.at' B) r i g)(he:∀B,WD X (c.at' B) e f)(hbase:attributeBase r "append" X.env (eval r X.env)=eval r X.env:=by rfl)(hfew:((backTo cp (starEach [e] X.env)).all (λ x=>!x.1)&&(backToKw cp (keywordEach [] X.env)).all (λ x=>x.1.isSome)
   &&decide ([e].length+([]:List Keyword).length+(if ([]:List Keyword).isEmpty then 0 else 1)<30))=true:=by rfl) (hline:(ap.endLine==cp.line)=true:=by rfl) (hs:starEach [e] X.env=(false,eval e X.env)::starEach [] X.env:=by rfl) (hplain:(backTo cp (starEach [] X.env)).any (·.1)=false:=by rfl) (hw:swapsWith (.Call (.Attribute r "append" ap) [e] [] cp) none pos.line X.env=pure false:=by rfl):uK X c (.Expr (.Call (.Attribute r "append" ap) [e] [] cp) pos) (C8 i g f):=by
 have hr:=λ B=>(hr B).out;have he:=λ B=>(he B).out;refine ⟨?_⟩;intro pins s σ H E I ⟨Γ,j,h⟩;refine sS (ab6 PySem.F.plainAttrs_list PySem.F.slot_list_append PySem.F.type_list_append B6 (hr H) (ja (he H) qY hs) hbase hfew hline hs hplain) hw pins s σ H E I ?_;refine ⟨Γ,j.lift,Fn.ok j h λ ks _ q v H1 s1 pa=>?_⟩;split at q
 ·rename_i hl;have j1:=j.mono s1;obtain ⟨a,vs,rfl,ha⟩:=B4 j1 pa hl;refine ⟨.inl ⟨rfl,vs,oA.of ha⟩,Γ,j.lift.mono s1,Ok.mono (H:=H) s1 (Fn.ok (tm:=true) (B:=H) j q λ d _ q y H2 s2 t=>?_) λ _ z=>z⟩;have j2:=j1.mono s2;have pa2:=pa.same s2;have ha2:=s2 _ _ ha;obtain ⟨m',fP,S',e1,o1⟩:=w9 j2 pa2 q;refine ⟨a,vs,y,rfl,rfl,ha2,Nat.lt_trans (XH t ha2 e1 o1).1 jJ,?_⟩;exact xg j2 (au.keep (s1.trans s2)) pa2 ha2 q λ m' fP S' e o=>(XH t ha2 e o).2
 ·exact q.elim
def afw{K:W.Frag}{a:Addr}{vs:List V}{m' fP:M}{S':Fp}(ha:H a=some (.lst vs))(e:afx m'=some fP)(o:Ow K c.z H m' (.ref a) S'):S' a/\Ow K c.z (upd H a (.lst [])) fP (.ref a) S':=by
 cases m' with
 |l xs=>cases e;simp only[Ow] at o ⊢;obtain ⟨a',us,e1,o2,o3,o4⟩:=o;cases e1;exact ⟨o2,a,_,rfl,o2,aD,aE.nil⟩
 |n ms=>cases e;simp only[Ow] at o ⊢;obtain ⟨a',us,e1,o2,o3,o4⟩:=o;cases e1;exact ⟨o2,a,_,rfl,o2,aD,by simp only[cG]⟩
 |_=>cases e
def BH{ap cp:Pos}(hr:∀B,WP X (c.at' B) r i g)(hbase:attributeBase r "clear" X.env (eval r X.env)=eval r X.env:=by rfl)(hline:(ap.endLine==cp.line)=true:=by rfl)(hw:swapsWith (.Call (.Attribute r "clear" ap) [] [] cp) none pos.line X.env=pure false:=by rfl):uK X c (.Expr (.Call (.Attribute r "clear" ap) [] [] cp) pos) (uR i g):=by
 have hr:=λ B=>(hr B).out;refine ⟨?_⟩;intro pins s σ H E I ⟨Γ,j,h⟩;refine sS (aei PySem.F.plainAttrs_list PySem.F.slot_list_clear PySem.F.type_list_clear Vz (hr H) hbase hline) hw pins s σ H E I ?_;refine ⟨Γ,j.lift,Fn.ok j h λ ks _ q v H1 s1 pa=>?_⟩;have j1:=j.mono s1;obtain ⟨m',fP,S',e1,o1⟩:=w9 j1 pa q;have hv:∃a vs,v= .ref a/\H1 a=some (.lst vs):=by
  cases m' with
  |l xs=>simp only[Ow] at o1;obtain ⟨a,vs,h1,_,h2,_⟩:=o1;exact ⟨a,vs,h1,h2⟩
  |n xs=>simp only[Ow] at o1;obtain ⟨a,vs,h1,_,h2,_⟩:=o1;exact ⟨a,vs,h1,h2⟩
  |_=>cases e1
 obtain ⟨a,vs,rfl,ha⟩:=hv;exact ⟨.inl ⟨rfl,vs,oA.of ha⟩,a,vs,rfl,rfl,ha,xg j1 (au.keep s1) pa ha q λ m' fP S' e o=>afw ha e o⟩
def ama(n:Nat)(z:Int):L4.xC n z=L2.xC n z:=rfl
def Up{K:W.Frag}{d:D}{y:V}{z:Int}{a:Addr}{vs:List V}{B:Hp}{m' fP:M}{S':Fp}(t:Tl K (c.at' B) H d y)(ha:H a=some (.lst vs))(e:setM z d m'=some fP)(o:Ow K c.z H m' (.ref a) S'):
  ∃k,L2.xC vs.length z=some k/\S' a/\Ow K c.z (upd H a (.lst (vs.set k y))) fP (.ref a) S':=by
 cases m' with
 |l xs=>
  simp only[setM] at e;split at e
  ·rename_i hc;simp only[Option.map_eq_some_iff] at e;obtain ⟨k,hk,rfl⟩:=e;simp only[Ow] at o ⊢;obtain ⟨a',us,e1,o2,o3,o4⟩:=o;cases e1;rw[ha] at o3;cases o3;refine ⟨k,by rw[<-o4.length];exact hk,o2,a,_,rfl,o2,aD,(aE.set (Tl.down (B:=B) (tm:=true) t hc) k o4).keep (aP.lst ha)⟩
  ·cases e
 |n ms=>
  simp only[setM] at e;split at e
  ·rename_i hc;simp only[Option.map_eq_some_iff] at e;obtain ⟨k,hk,rfl⟩:=e;simp only[Ow] at o ⊢;obtain ⟨a',us,e1,o2,o3,o4⟩:=o;cases e1;rw[ha] at o3;cases o3;refine ⟨k,by rw[<-o4.length];exact hk,o2,a,_,rfl,o2,aD,(cG.ahy k o4 (Tl.down (B:=B) (tm:=true) t hc)).frame (aP.lst ha) λ b o z q=>?_⟩;rw[aC z.2];exact q
  ·cases e
 |_=>cases e
def BF{pt:Pos}(hr:∀B,WP X (c.at' B) r i g)(hk:∀B,WD X (c.at' B) ix fk)(he:∀B,WD X (c.at' B) e f)(hs:swapsWithSole [.Subscript r ix pt] e pos.line X.env=pure false:=by rfl)(hw:swappedStores [.Subscript r ix pt] e X.env=pure none:=by rfl)(h1:(assignEach [.Subscript r ix pt] X.env).map (·.2)=[assign (.Subscript r ix pt) X.env]:=by rfl)(ha:∀v,assign (.Subscript r ix pt) X.env v=(do
   let ov <-holding [v] (eval r X.env)
   let iv <-holding [v,ov] (eval ix X.env)
   standAt pt
   holding [v,ov,iv] (setItem ov iv v)
   release [v,ov,iv] []):=by intro _;rfl):uK X c (.Assign [.Subscript r ix pt] e pos) (ym i g fk f):=by
 have hr:=λ B=>(hr B).out
 have hk:=λ B=>(hk B).out
 have he:=λ B=>(he B).out
 refine ⟨?_⟩
 intro pins s σ H E I ⟨Γ,j,h⟩
 refine UG (he H) (aea (hr H) (hk H) set_list ha) hs hw h1 pins s σ H E I ?_
 refine ⟨Γ,j.lift,Fn.ok j h λ d _ q y H1 s1 t=>?_⟩
 refine ⟨Γ,j.lift.mono s1,Ok.mono (H:=H) s1 (Fn.ok (tm:=true) (B:=H) j q λ ks _ q v H2 s2 pa=>?_) λ _ z=>z⟩
 refine ⟨Γ,(j.lift.mono s1).mono s2,Ok.mono (H:=H) (s1.trans s2) (Fn.ok (tm:=true) (B:=H) j q λ z _ q u H3 s3 t3=>?_) λ _ z=>z⟩
 cases z with
 |int z=>
  simp only[Tl] at t3
  subst t3
  have sm:=(s1.trans s2).trans s3
  have j3:=j.mono sm
  have pa3:=pa.same s3
  have ty:=t.keep (au.keep (s2.trans s3))
  obtain ⟨m',fP,S',e1,o1⟩:=w9 j3 pa3 q
  have hv:∃a vs,v= .ref a/\H3 a=some (.lst vs):=by
   cases m' with
   |l xs=>simp only[Ow] at o1;obtain ⟨a,vs,h1,_,h2,_⟩:=o1;exact ⟨a,vs,h1,h2⟩
   |n xs=>simp only[Ow] at o1;obtain ⟨a,vs,h1,_,h2,_⟩:=o1;exact ⟨a,vs,h1,h2⟩
   |_=>cases e1
  obtain ⟨a,vs,rfl,ha⟩:=hv
  obtain ⟨k,hk,_⟩:=Up ty ha e1 o1
  refine ⟨a,vs,z,k,rfl,rfl,ha,hk,?_⟩
  exact xg j3 (au.keep sm) pa3 ha q λ m' fP S' e o=>by
   obtain ⟨k',hk',q'⟩:=Up ty ha e o
   rw[hk] at hk';cases hk'
   exact q'
 |_=>exact q.elim
end
def SM(K:W.Frag)(ct:Ct)(J:It)(xs:List D)(H:Hp):Prop:=∃P:Hp->Prop,P H/\(∀H1 H2,P H1->aP ct.f.cb H1 H2->au ct.f.L H2->au ct.B H2->P H2)/\(∀i d H1,P H1->xs[i]? =some d->J.go i H1/\∀x H2,J.yld i H1 x H2->au H1 H2/\Tl K ct H2 d x)/\∀i H1,P H1->xs.length<=i->J.stop i H1
section
variable{X:Cx}{ct:Ct}{tg iter e:Expr}{f:Sg->Res D}{pos:Pos}
def We{K:W.Frag}{H:Hp}{a:Addr}{vs:List V}{xs:List D}(fz:FzL K H a vs)(t:aE K ct H xs vs):SM K ct (Itl K a) xs H:=by refine ⟨λ H1=>aP ct.f.cb H H1,aP.refl H,λ H1 H2 k1 k2 _ _=>k1.trans k2,λ i d H1 k1 hd=>?_,λ i H1 k1 hi=>⟨vs,(k1.fzL fz).sq,by rw[<-t.length];exact hi⟩⟩;obtain ⟨v,hv,tv⟩:=t.get hd;refine ⟨⟨vs,v,(k1.fzL fz).sq,hv⟩,λ x H2 ⟨e,y⟩=>⟨by rw[e];exact au.refl _,?_⟩⟩;subst e;have:=y vs (k1.fzL fz).sq;rw[hv] at this;cases this;exact tv.keep k1
def aaV{K:W.Frag}{H:Hp}{tm:Bool}{v:V}{xs:List D}(l:au ct.f.L H)(b:au ct.B H)(t:Tl K ct H (.bor tm xs) v):∃a,v= .ref a/\(∃vs,oA K H a vs)/\SM K ct (Itl K a) xs H:=by
 simp only[Tl] at t;obtain ⟨a,vs,rfl,h2,t⟩:=t;have sq:∀H1,au ct.f.L H1->au ct.B H1->oA K H1 a vs:=λ H1 l b=>by
  cases tm with
  |true=>exact .inl (.inl (b a _ h2))
  |false=>exact .inl (.inl (l a _ h2))
 refine ⟨a,rfl,⟨vs,sq H l b⟩,λ H1=>aP ct.f.cb H H1/\au ct.f.L H1/\au ct.B H1,⟨aP.refl H,l,b⟩,λ H1 H2 k1 k2 l2 b2=>⟨k1.1.trans k2,l2,b2⟩,λ i d H1 k1 hd=>?_,λ i H1 k1 hi=>⟨vs,sq H1 k1.2.1 k1.2.2,by rw[<-t.length];exact hi⟩⟩;obtain ⟨v,hv,tv⟩:=t.get hd;refine ⟨⟨vs,v,sq H1 k1.2.1 k1.2.2,hv⟩,λ x H2 ⟨e,y⟩=>⟨by rw[e];exact au.refl _,?_⟩⟩;subst e;have:=y vs (sq _ k1.2.1 k1.2.2);rw[hv] at this;cases this;exact tv.keep k1.1
def PJ{K:W.Frag}{H:Hp}{a:Addr}{vs:List V}{xs:List D}(fz:vB K H a vs)(t:aE K ct H xs vs):SM K ct (Itt K a) xs H:=by refine ⟨λ H1=>aP ct.f.cb H H1,aP.refl H,λ H1 H2 k1 k2 _ _=>k1.trans k2,λ i d H1 k1 hd=>?_,λ i H1 k1 hi=>⟨vs,k1.sqT fz,by rw[<-t.length];exact hi⟩⟩;obtain ⟨v,hv,tv⟩:=t.get hd;refine ⟨⟨vs,v,k1.sqT fz,hv⟩,λ x H2 ⟨e,y⟩=>⟨by rw[e];exact au.refl _,?_⟩⟩;subst e;have:=y vs (k1.sqT fz);rw[hv] at this;cases this;exact tv.keep k1
def aaU{K:W.Frag}{H:Hp}{lo:Int}{n:Nat}:SM K ct (Itr lo n) (zy lo n) H:=by
 refine ⟨λ _=>True,trivial,λ _ _ _ _ _ _=>trivial,λ i d H1 _ hd=>?_,λ i H1 _ hi=>by rw[Ck] at hi;exact hi⟩;have hi:i<n:=by have:=(List.getElem?_eq_some_iff.mp hd).1;rwa [Ck] at this
 rw[RM hi] at hd;cases hd;exact ⟨hi,λ x H2 ⟨e,y⟩=>⟨by rw[e];exact au.refl _,by simp[Tl,y]⟩⟩
def iOf(X:Cx)(ct:Ct)(f:Sg->Res (List D)):TI:=λ σ H R=>∃Γ,Jx X ct Γ σ H/\Ok X ct σ H (f Γ) λ xs=>∀J H',au H H'->SM X.K ct J xs H'->R J H'
abbrev PID(X:Cx)(ct:Ct)(tg iter:Expr)(f:Sg->Res (List D)):Prop:=PI X tg iter (iOf X ct f)
structure WI(X:Cx)(tg iter:Expr)(wi:TI):Prop where
 out:PI X tg iter wi
abbrev WID(X:Cx)(ct:Ct)(tg iter:Expr)(f:Sg->Res (List D)):Prop:=WI X tg iter (iOf X ct f)
def sy{a:Expr}{r:Sg->Res (List D)}{p pos':Pos}(hm:X.mg "range"=none)(ha:xO X ct [a] r)(hgl:Gl X "range":=by rfl)(hs:starEach [a] X.env=[(false,eval a X.env)]:=by rfl):WID X ct tg (.Call (.Name "range" p) [a] [] pos') (pM r):=by
 have ha:=ha.out;refine ⟨?_⟩;intro pins s σ H R I ⟨Γ,j,h⟩;refine QT hgl hm ha hs pins s σ H R I ⟨Γ,j,h.bnd λ ds _ q vs H' s tl=>?_⟩;cases ex:QL ds with
 |bad=>rw[ex] at q;exact q.elim
 |err c=>exact (ZM ds c ex).elim
 |ok xs=>rw[ex] at q;obtain ⟨i,rfl,h1,h2,rfl⟩:=ZL ex;simp only[aE,Tl] at tl;obtain ⟨v,r,rfl,rfl,rfl⟩:=tl;exact ⟨i,rfl,h1,h2,q _ H' s aaU⟩
end
def zS(cells:List (Str×Addr)):List (Str×NameKind)->List (Str×Addr)->Option (List (Str×Addr))
 |[],acc=>some acc
 |(n,k)::r,acc=>if k== .free then (match cells.lookup n with
   |some c=>zS cells r ((n,c)::acc)
   |none=>none) else zS cells r acc
def zR{cells:List (Str×Addr)}:∀{names:List (Str×NameKind)} {acc cl:List (Str×Addr)},zS cells names acc=some cl->(∀y c,acc.lookup y=some c->cells.lookup y=some c)->∀y c,cl.lookup y=some c->cells.lookup y=some c
 |[],acc,cl,h,ha=>by cases h;exact ha
 |(n,k)::r,acc,cl,h,ha=>by
  unfold zS at h;split at h
  ·split at h
   ·rename_i c hc;refine zR h λ y c' hy=>?_;rw[List.lookup_cons] at hy;split at hy
    ·rename_i e;cases hy;rw[eq_of_beq e];exact hc
    ·exact ha y c' hy
   ·cases h
  ·exact zR h ha
def KR{env:Env}{scope:Scope}{cl:List (Str×Addr)}(h:zS env.cells scope.names []=some cl):closureFor scope env=pure cl:=by
 unfold closureFor;generalize scope.names=names at h ⊢;generalize ([]:List (Str×Addr))=acc at h ⊢;dsimp only;induction names generalizing acc with
 |nil=>cases h;rfl
 |cons p r ih=>
  obtain ⟨n,k⟩:=p;unfold zS at h;rw[List.forIn_cons];by_cases hk:(k==NameKind.free)=true
  ·rw[if_pos hk] at h;split at h
   ·rename_i c hc;have e:cellOf env n=pure c:=by unfold cellOf;rw[hc]
    simp only[hk,if_true,e,pure_bind];exact ih _ h
   ·cases h
  ·rw[if_neg hk] at h;simp only[hk,Bool.false_eq_true,if_false,pure_bind];exact ih _ h
def SV(X:Cx)(scope:Scope)(cl:List (Str×Addr))(C:Addr)(s₀:Shared)(H₀:Hp)(ex:List Addr)(N':List Str):Cx where
 prog:=X.prog
 w:=X.w
 K:=X.K
 mg:=X.mg
 base:=X.base
 A:=X.A
 N:=N'
 s₀:=s₀
 H₀:=H₀
 env:=compEnvC scope cl C X.env
 outer:=X.stack
 stack:=X.stack
 ex:=ex
 fn:=λ _=>false
 calm:=X.calm
 pn:=[]
 xe:=λ _ _=>False
def K4(k:Nat)(caps:List Nat)(σ:St):St:=List.replicate k none++caps.map λ i=>(σ[i]?).join
def aim{X:Cx}{ct:Ct}{tm:Bool}{k:Nat}{caps:List Nat}{Γ:Sg}{σ:St}{H:Hp}(j:Jx X ct Γ σ H)(ht:tm=true->ct.tm=true):J X.K ct H (v5 tm k caps Γ) (K4 k caps σ) H:=by
 refine ⟨λ _ _ q _=>q,λ _ q=>q,j.lL,j.lB,by simp[v5,K4],λ _ _=>False,λ i sl ov h1 h2=>?_,λ _ _ _ _ z=>z.elim,λ _ _ z=>z.elim⟩;rcases Qg h1 with rfl|⟨c,sc,hc,hk,hd,rfl⟩
 ·exact λ _ z=>z
 ·have at2:∀v,σ[c]? =some (some v)->ov=some v:=λ v g1=>by unfold K4 at h2;rw[List.getElem?_append_right (by simpa using hk),List.length_replicate,List.getElem?_map,hc] at h2;simp only[Option.map_some,Option.some.injEq] at h2;rw[g1] at h2;exact h2.symm
  cases sc with
  |no=>exact λ _ z=>z
  |val d=>obtain ⟨v,g1,g2⟩:=j.val hd;exact ⟨⟨v,at2 v g1,g2⟩,λ _ z=>z⟩
  |own m=>
   cases tm with
   |false=>exact λ _ z=>z
   |true=>obtain ⟨v,S,g1,g2,g3,_⟩:=j.own hd;exact ⟨⟨v,at2 v g1,g2.lend λ b z=>g3.lent b z (ht rfl)⟩,λ _ z=>z⟩
  |par m=>
   cases tm with
   |false=>exact λ _ z=>z
   |true=>obtain ⟨v,S,g1,g2,g3,_⟩:=j.par hd;exact ⟨⟨v,at2 v g1,g2.lend λ b z=>g3.lent b z (ht rfl)⟩,λ _ z=>z⟩
def vm{cells:List (Str×Addr)}:∀{names:List (Str×NameKind)} {acc cl:List (Str×Addr)},zS cells names acc=some cl->∀y,(acc.lookup y).isSome=true->(cl.lookup y).isSome=true
 |[],acc,cl,h=>by cases h;exact λ _ z=>z
 |(n,k)::r,acc,cl,h=>by
  unfold zS at h;split at h
  ·split at h
   ·rename_i c hc;intro y hy;refine vm h y ?_;rw[List.lookup_cons];split
    ·rfl
    ·exact hy
   ·cases h
  ·exact vm h
def uB{cells:List (Str×Addr)}:∀{names:List (Str×NameKind)} {acc cl:List (Str×Addr)},zS cells names acc=some cl->∀y,(y,NameKind.free)∈names->(cl.lookup y).isSome=true
 |[],acc,cl,h=>λ y hy=>by cases hy
 |(n,k)::r,acc,cl,h=>by
  unfold zS at h;intro y hy;split at h
  ·split at h
   ·rename_i c hc;rcases List.mem_cons.mp hy with e|hy
    ·cases e;exact vm h _ (by simp[List.lookup_cons])
    ·exact uB h y hy
   ·cases h
  ·rename_i hk;rcases List.mem_cons.mp hy with e|hy
   ·cases e;exact absurd rfl hk
   ·exact uB h y hy
def sP{env:Env}:∀{names:List (Str×NameKind)} {y:Str},(∀z∈names,z.2≠.cell)->((names.map λ(n,k)=>if (k==NameKind.free&&env.scope.kind== .function&&env.kindOf n==some .cell) then (n,NameKind.cell) else (n,k)).lookup y=some .cell\/(names.map λ(n,k)=>if (k==NameKind.free&&env.scope.kind== .function&&env.kindOf n==some .cell) then (n,NameKind.cell) else (n,k)).lookup y=some .free)->(y,NameKind.free)∈names
 |[],y,_,h=>by simp at h
 |(n,k)::r,y,hc,h=>by
  have ih:= @sP env r y λ z hz=>hc z (.tail _ hz);have hk:k≠.cell:=hc (n,k) (.head _);have e1:(((n,k)::r).map λ(n,k)=>if (k==NameKind.free&&env.scope.kind== .function&&env.kindOf n==some .cell) then (n,NameKind.cell) else (n,k))=
   (if (k==NameKind.free&&env.scope.kind== .function&&env.kindOf n==some .cell)=true then (n,NameKind.cell) else (n,k))::(r.map λ(n,k)=>if (k==NameKind.free&&env.scope.kind== .function&&env.kindOf n==some .cell) then (n,NameKind.cell) else (n,k)):=rfl
  rw[e1] at h;by_cases D7:(k==NameKind.free&&env.scope.kind== .function&&env.kindOf n==some .cell)=true
  ·rw[if_pos D7] at h;have hkf:k= .free:=by have:=(Bool.and_eq_true_iff.mp (Bool.and_eq_true_iff.mp D7).1).1;exact eq_of_beq this
   simp only[List.lookup_cons] at h;split at h
   ·rename_i e;rw[eq_of_beq e,hkf];exact .head _
   ·exact .tail _ (ih h)
  ·rw[if_neg D7] at h;simp only[List.lookup_cons] at h;split at h
   ·rename_i e;rcases h with h|h
    ·exact absurd (Option.some.inj h) hk
    ·rw[eq_of_beq e,Option.some.inj h];exact .head _
   ·exact .tail _ (ih h)
def Eo{prog:Program}{w:World}{A:Around}{R:Result->Shared->Prop}{s:Shared}{elt target iter:Expr}{ifs:List Expr}{scope:Scope}{pos:Pos}{it acc:Value}{env:Env}(I:Nat->Shared->Prop)
  (turn:∀n s,I n s->wpAny (model prog w) A (pyNext it) (λ r s₁=>match r with
   |none=>R (.ok .next) s₁
   |some v=>wpAny (model prog w) A (letOwnedTupleGo target it v) (λ _ s₁'=>wpAny (model prog w) A (assign target env v) (λ _ s₂=>
     wpAny (model prog w) A (forIn ifs true λ c r=>if r=true then do let ok <-isTrue c env (eval c env);pure (ForInStep.yield ok) else pure (ForInStep.yield r)) (λ ok s₃=>
      if ok=true then wpAny (model prog w) A (eval elt env) (λ x s₄=>
       wpAny (model prog w) A (call (.builtin "list.append") [acc,x]) (λ _ s₅=>∃m,m<n/\I m s₅) (λ _ _=>False) s₄) (λ _ _=>False) s₃
      else ∃m,m<n/\I m s₃) (λ _ _=>False) s₂) (λ _ _=>False) s₁') (λ _ _=>False) s₁) (λ _ _=>False) s)
  (n:Nat) (h:I n s):
  codeAny (model prog w) A (.compLoop (.ListComp elt [⟨target,iter,ifs,0⟩] scope pos) 0 it acc env) R s:=by
 refine codeAny_loop rfl I (λ n s hI=>?_) n h
 show wpAny _ A ((compTurn (.ListComp elt [⟨target,iter,ifs,0⟩] scope pos) 0 it acc env).onRaise (λ x=>do noteFrame x env;theTreesLotGoes x)) _ _ s
 refine wpAny_noted ?_
 rw[compTurn_list]
 refine wpAny_bind (wpAny_standAt (wpAny_bind (wpAny_mono (turn n s hI) (λ r s₁ h₁=>?_) λ _ _ h'=>h'.elim)))
 cases r with
 |none=>exact wpAny_pure h₁
 |some v=>
  refine wpAny_bind (wpAny_mono h₁ (λ _ s₁' h₁'=>?_) λ _ _ h'=>h'.elim)
  refine wpAny_bind (wpAny_mono h₁' (λ _ s₂ h₂=>wpAny_bind (wpAny_mono h₂ (λ ok s₃ h₃=>?_) λ _ _ h'=>h'.elim)) λ _ _ h'=>h'.elim)
  cases ok with
  |false=>exact wpAny_pure ⟨rfl,h₃⟩
  |true=>
   exact wpAny_bind (wpAny_bind (wpAny_mono h₃ (λ x s₄ h₄=>wpAny_bind (wpAny_mono h₄ (λ _ s₅ h₅=>wpAny_pure (wpAny_pure ⟨rfl,h₅⟩)) λ _ _ h'=>h'.elim)) λ _ _ h'=>h'.elim))
def PTs(X:Cx)(ct:Ct)(ifs:List Expr)(p:Sg->Res Bool):Prop:=
 ∀(pins:List (Addr×Obj)) (s:Shared) (σ:St) (H:Hp) (Q:Bool->Hp->Prop),Inv X pins σ H s->XD X ct p σ H Q->
  wpAny (model X.prog X.w) X.A (forIn ifs true λ c r=>if r=true then do let ok <-isTrue c X.env (eval c X.env);pure (ForInStep.yield ok) else pure (ForInStep.yield r)) (TP X pins σ Q) X.xe s
structure WTs(X:Cx)(ct:Ct)(ifs:List Expr)(p:Sg->Res Bool):Prop where
 out:PTs X ct ifs p
def mZ{X:Cx}{ct:Ct}:WTs X ct [] uH:=by exact ⟨λ pins s σ H Q I ⟨Γ,j,h⟩=>wpAny_tests_nil ⟨H,I,h H (au.refl H)⟩⟩
def Zl{X:Cx}{ct:Ct}{c:Expr}{p:Sg->Res Bool}(h:HP X ct c p):WTs X ct [c] p:=by have h:=h.out;exact ⟨λ pins s σ H Q I q=>wpAny_tests_one (h pins s σ H Q I q)⟩
def XE{tm:Bool}{k:Nat}{caps:List Nat}{Γ:Sg}:ah5 (v5 tm k caps Γ):=λ i m=>by
 refine ⟨λ h=>?_,λ h=>?_⟩<;>
 ·rcases Qg h with e|⟨c,sc,_,_,_,e⟩
  ·cases e
  ·cases sc<;>cases tm<;>cases e
def cG.abZ{K:W.Frag}{ct:Ct}{H:Hp}{m:M}{y:V}{T:Fp}:∀{ms:List M} {vs:List V} {S:Fp},cG K ct H ms vs S->Ow K ct H m y T->(∀b,S b->¬T b)->cG K ct H (ms++[m]) (vs++[y]) (λ b=>S b\/T b)
 |[],vs,S,h,t,_=>by simp only[cG] at h;subst h;simp only[List.nil_append,cG];exact ⟨y,[],T,λ _=>False,rfl,λ _ z=> .inr z,λ _ z=>z.elim,λ _ _ z=>z,t,rfl⟩
 |m'::ms,vs,S,h,t,n=>by
  simp only[cG] at h;obtain ⟨v,r,S1,S2,rfl,h2,h3,h4,h5,h6⟩:=h;simp only[List.cons_append,cG];refine ⟨v,r++[y],S1,λ b=>S2 b\/T b,rfl,λ b z=> .inl (h2 b z),λ b z=>z.elim (λ z=> .inl (h3 b z)) .inr,λ b z w=>?_,h5,cG.abZ h6 t λ b z=>n b (h3 b z)⟩;rcases w with w|w
  ·exact h4 b z w
  ·exact n b (h2 b z) w
def cG.acv{K:W.Frag}{ct:Ct}{H:Hp}:∀{ds:List D} {vs:List V} {S:Fp},cG K ct H (ds.map M.d) vs S->aE K ct H ds vs
 |[],vs,S,h=>by simpa[cG,aE] using h
 |d::ds,vs,S,h=>by simp only[List.map_cons,cG,Ow] at h;obtain ⟨v,r,S1,S2,rfl,_,_,_,h5,h6⟩:=h;exact aE.cons h5 (cG.acv h6)
structure EK(X:Cx)(scope:Scope)(cl:List (Str×Addr))(k:Nat)(caps:List Nat)(N':List Str):Prop where
 clos:zS X.env.cells scope.names []=some cl
 cell:∀y∈scope.names,y.2≠.cell
 kind:scope.kind= .function
 names:∀y∈scope.names,y.2= .local->scope.names.lookup y.1=some .local
 len:N'.length=k+caps.length
 cap:∀(i c:Nat) (y:Str),caps[i]? =some c->N'[k+i]? =some y->X.N[c]? =some y/\SG X.env.scope y/\X.env.kindOf y≠some .local/\(y,NameKind.free)∈scope.names
def sQ{env:Env}:∀{names:List (Str×NameKind)} {y:Str},(∀z∈names,z.1=y->z.2= .free)->(y,NameKind.free)∈names->((names.map λ(n,k)=>if (k==NameKind.free&&env.scope.kind== .function&&env.kindOf n==some .cell) then (n,NameKind.cell) else (n,k)).lookup y=some .cell\/(names.map λ(n,k)=>if (k==NameKind.free&&env.scope.kind== .function&&env.kindOf n==some .cell) then (n,NameKind.cell) else (n,k)).lookup y=some .free)
 |[],y,_,h=>by cases h
 |(n,k)::r,y,hu,h=>by
  have e1:(((n,k)::r).map λ(n,k)=>if (k==NameKind.free&&env.scope.kind== .function&&env.kindOf n==some .cell) then (n,NameKind.cell) else (n,k))=(if (k==NameKind.free&&env.scope.kind== .function&&env.kindOf n==some .cell)=true then (n,NameKind.cell) else (n,k))::(r.map λ(n,k)=>if (k==NameKind.free&&env.scope.kind== .function&&env.kindOf n==some .cell) then (n,NameKind.cell) else (n,k)):=rfl;rw[e1];by_cases hy:y=n
  ·subst hy;have hk:k= .free:=hu (y,k) (.head _) rfl;subst hk;by_cases D7:(NameKind.free==NameKind.free&&env.scope.kind== .function&&env.kindOf y==some .cell)=true
   ·rw[if_pos D7];left;simp[List.lookup_cons]
   ·rw[if_neg D7];right;simp[List.lookup_cons]
  ·have hb:(y==n)=false:=by simpa using hy
   have hm:(y,NameKind.free)∈r:=by
    rcases List.mem_cons.mp h with e|h
    ·cases e;exact absurd rfl hy
    ·exact h
   have ih:= @sQ env r y (λ z hz=>hu z (.tail _ hz)) hm;by_cases D7:(k==NameKind.free&&env.scope.kind== .function&&env.kindOf n==some .cell)=true
   ·rw[if_pos D7];simp only[List.lookup_cons,hb];exact ih
   ·rw[if_neg D7];simp only[List.lookup_cons,hb];exact ih
section
variable{X:Cx}{ct:Ct}{elt iter tg:Expr}{ifs:List Expr}{scope:Scope}{cl:List (Str×Addr)}{pos:Pos}{k:Nat}{caps:List Nat}{N':List Str}{fi:Sg->Res (List D)}{t:Tg}{p:Sg->Res Bool}{fe:Sg->Res M}{tm:Bool}
def aaX{pins:List (Addr×Obj)}{σ:St}{H:Hp}{s:Shared}{fp:List Addr}{h₁:Heap}{tk:Nat}(I:Inv X pins σ H s)(co:EK X scope cl k caps N')(hfr:∀z∈scope.names,∀y,(y,NameKind.free)∈scope.names->z.1=y->z.2= .free) (hfp:∀b∈fp,BC X pins H b) (hfo:∀b∈fp,∃o,s.heap.get? b=some o) (hns:h₁.Ns (s.heap.objs.size+1) (λ x=>(([]:List (Str×Value)).reverse).lookup x)) (hk:∀b o,s.heap.get? b=some o->h₁.get? b=some o) (hD:h₁.get? s.heap.objs.size=some {cls:= .type "list",data:= .seq #[]}):
  Inv (SV X scope cl (s.heap.objs.size+1) s H fp N') [] (K4 k caps σ) (upd H s.heap.objs.size (.lst [])) {s with heap:=h₁,toks:=tk}:=by
 have hsub:=zR co.clos (by simp);have hfree:H s.heap.objs.size=none:=I.hok.fresh (Nat.le_refl _);have aiT:∀x c,cl.lookup x=some c->c<s.heap.objs.size:=λ x c e=>by obtain ⟨v,o,ho,_⟩:=I.cell x c (hsub x c e);exact Heap.lt_size ho
 refine ⟨⟨I.ok.mod,co.kind,I.ok.glob,I.ok.blt,Nat.le_succ _,λ x y c e1 e2=>I.ok.inj x y c (hsub x c e1) (hsub y c e2),λ x hx=>?_,λ x c hf=>absurd hf (by exact Bool.false_ne_true),I.ok.hd,I.ok.frames,.inl rfl,λ b hb=>?_,I.bs,Nat.le_trans I.ok.bsz I.sz,λ b o e hb=>?_,λ b hb hs=>?_,I.stack,I.xj⟩,rfl,I.bare,Un.laid hk (Nat.le_refl _) hfree,⟨_,hns,λ i y v h1 h2 h3=>?_⟩,λ x c e=>?_,?_,λ x c e=>?_,λ p hp=>absurd (show p∈([]:List (Addr×Obj))++[] from hp) (by simp),I.hok.laid hk (Nat.le_refl _) ⟨Nat.zero_le _,[],0,.nil,hD⟩,?_⟩
 ·exact Option.isSome_iff_exists.mp (uB co.clos x (sP co.cell hx))
 ·obtain ⟨o,ho⟩:=hfo b hb;refine ⟨Nat.ne_of_lt (Nat.lt_succ_of_lt (Heap.lt_size ho)),λ x c e=>(hfp b hb).2.2.2.2.1 x c (hsub x c e)⟩
 ·rcases (hfp b hb).2.2.2.1 with z|z
  ·exact I.ok.Vs b o e z
  ·exact absurd (Heap.lt_size (I.ok.bs b o e).1) (Nat.not_lt.mpr z)
 ·rcases List.mem_cons.mp (I.IM b hs) with z|z
  ·exact (hfp b hb).2.1 z
  ·exact (hfp b hb).2.2.1 z
 ·-- what it sees
  by_cases hi:i<k
  ·unfold K4 at h2;rw[List.getElem?_append_left (by simpa using hi),List.getElem?_replicate,if_pos hi] at h2;cases h2
  ·unfold K4 at h2;rw[List.getElem?_append_right (by simpa using hi),List.length_replicate,List.getElem?_map] at h2;cases q:caps[i- k]? with
   |none=>rw[q] at h2;cases h2
   |some c=>
    rw[q] at h2;simp only[Option.map_some,Option.some.injEq] at h2;obtain ⟨g1,g2,g3,g4⟩:=co.cap (i- k) c y q (by rw[Nat.add_sub_cancel' (Nat.le_of_not_lt hi)];exact h1);obtain ⟨m,hn,hl⟩:=I.loc;have hσ:σ[c]? =some (some v):=by
     cases z:σ[c]? with
     |none=>rw[z] at h2;cases h2
     |some w=>rw[z] at h2;simp only[Option.join_some] at h2;rw[h2]
    obtain ⟨u,r,lk⟩:=hl c y v g1 hσ g2;refine ⟨u,r,.inr ⟨sQ (λ z hz e=>hfr z hz y g4 e) g4,?_⟩⟩;rcases lk with ⟨z,_⟩|⟨_,c',e,hc⟩
    ·exact absurd z g3
    ·obtain ⟨c2,e2⟩:=Option.isSome_iff_exists.mp (uB co.clos y g4);have:c2=c':=by have:=hsub y c2 e2;rw[e] at this;exact (Option.some.inj this).symm
     subst this;obtain ⟨o,ho,hd⟩:=hc;exact ⟨c2,e2,o,hk _ _ ho,hd⟩
 ·obtain ⟨v,o,ho,hd⟩:=I.cell x c (hsub x c e);exact ⟨v,o,hk _ _ ho,hd⟩
 ·show upd H s.heap.objs.size (.lst []) (s.heap.objs.size+1)=none;rw[aC (Nat.succ_ne_self _)];exact I.hok.fresh (Nat.le_succ _)
 ·rw[aC (Nat.ne_of_lt (aiT x c e))];exact I.jD x c (hsub x c e)
 ·simp[K4,SV,co.len]
def Se{pins:List (Addr×Obj)}{σ:St}{H:Hp}{s:Shared}{Γ:Sg}{cp:Pos}{use:Option (Value->Sem Unit)}{Q':Value->Shared->Prop}{Wk:List M->Prop}(ht:tm=true->ct.tm=true)(hc:X.calm=true)(hi:PID X ct tg iter fi)(co:EK X scope cl k caps N')(hfr:∀z∈scope.names,∀y,(y,NameKind.free)∈scope.names->z.1=y->z.2= .free) (hg:∀C s₀ H₀ ex,PGD (SV X scope cl C s₀ H₀ ex N') ct tg t) (hp:∀C s₀ H₀ ex,PTs (SV X scope cl C s₀ H₀ ex N') ct ifs p) (he:∀C s₀ H₀ ex,PM (SV X scope cl C s₀ H₀ ex N') ct elt fe) (hf:∀Γ x Γ1 σ H H₀,t x (v5 tm k caps Γ)=some Γ1->J X.K ct H₀ Γ1 σ H->J X.K ct H₀ (v5 tm k caps Γ) σ H) (hs:∀x,foldedSetIterable iter X.env x=pure x) (I:Inv X pins σ H s) (j:Jx X ct Γ σ H) (h:Ok X ct σ H (Pp tm fi k caps t p fe Γ) Wk) (fin:∀(acc C:Addr) (av:List V) (ys:List M) (T:Fp) (H1:Hp) (s4:Shared) (m:Str->Option Value),Inv X pins σ H1 s4->au H H1->H acc=none->H1 acc=some (.lst av)->cG X.K ct H1 ys av T->(∀b,T b->H b=none/\b≠acc/\H1 b≠none)->Wk ys->s4.heap.Ns C m->H1 C=none->C≠X.env.locals->X.s₀.heap.objs.size<=C->(∀x c,X.env.cells.lookup x=some c->c≠C)->(∀p∈X.pn++pins,p.1≠C)->compPost (model X.prog X.w) X.A X.xe use Q' (.ref acc) C (.ok .next) s4):
  wpAny (model X.prog X.w) X.A (comprehension (.ListComp elt [⟨tg,iter,ifs,0⟩] scope pos) scope X.env cp (newList []) false (eval iter X.env) use) Q' X.xe s:=by
 refine wpAny_comprehension_free (use:=use) rfl hs (KR co.clos) co.kind co.names ?_;have hw:iOf X ct fi σ H (λ J H2=>∃xs ys,au H H2/\SM X.K ct J xs H2/\xs.length<1000000/\lI (Y5 t p fe (v5 tm k caps Γ)) xs= .ok ys/\Wk ys):=by
  refine ⟨Γ,j,h.bnd λ xs _ q J H2 s2 it=>?_⟩;split at q
  ·rename_i hl;cases z:lI (Y5 t p fe (v5 tm k caps Γ)) xs with
   |ok ys=>rw[z] at q;exact ⟨xs,ys,s2,it,hl,z,q⟩
   |err c=>exact (Hv (λ _ _=>afl) xs c z).elim
   |bad=>rw[z] at q;exact q.elim
  ·exact q.elim
 refine wpAny_mono (hi pins s σ H _ I hw) (λ v s1 h1=>wpAny_mono h1 (λ itv s2 h2=>?_) λ _ _ e=>e) λ _ _ e=>e;obtain ⟨it,fp,tn,J,H2,rfl,I2,T,st,fok,xs,ys,sm,⟨Pd,pd0,pdk,alK,alJ⟩,hlx,hys,W⟩:=h2;refine wpAny_newObj_type (wpAny_newFunctionEnv co.cell (by intro y hy;simp at hy) (λ h₁ ae4 aa1=>?_) co.kind);dsimp only at ae4 aa1 ⊢;have hC:(s2.heap.push {cls:= .type "list",dict:=none,data:= .seq ([]:List Value).toArray}).objs.size=s2.heap.objs.size+1:=Heap.size_push ..;rw[hC] at ae4 aa1 ⊢;have hk:∀b o,s2.heap.get? b=some o->h₁.get? b=some o:=λ b o e=>aa1.extBut b o (Nat.ne_of_lt (Nat.lt_succ_of_lt (Heap.lt_size e))) (Heap.get?_push_of_some _ (Heap.get?_push_of_some _ e));have hD:h₁.get? s2.heap.objs.size=some {cls:= .type "list",data:= .seq #[]}:=aa1.extBut _ _ (Nat.ne_of_lt (Nat.lt_succ_self _)) (Heap.get?_push_of_some _ (Heap.get?_push_size _ rfl));have hfo:∀b∈fp,∃o,s2.heap.get? b=some o:=λ b hb=>let ⟨o,ho,_⟩:=T.obj 0 _ st b hb;⟨o,ho⟩
 have I4:=aaX (tk:=s2.toks+([]:List (Str×Value)).length) I2 co hfr fok hfo ae4 hk hD;have j2:=j.mono sm;let Xb:=SV X scope cl (s2.heap.objs.size+1) s2 H2 fp N'
 have Kn:H2 s2.heap.objs.size=none:=I2.hok.fresh (Nat.le_refl _);have V4:au H2 (upd H2 s2.heap.objs.size (.lst [])):=aT Kn _;have tch:∀{σ1:St} {Ha Hb:Hp},L4.J X.K ct H2 (v5 tm k caps Γ) σ1 Ha->aP ct.f.cb Ha Hb->au H2 Hb->L4.J X.K ct H2 (v5 tm k caps Γ) σ1 Hb:=λ j kp sm=>j.ahk XE kp (λ b o q _=>sm b o q) (λ b q=>sm.free q) (j2.lL.trans sm) (j2.lB.trans sm);have st4:tn 0 h₁:=T.keep 0 _ _ st λ b hb o e=>hk b o e;have amE:∀b∈fp,b≠s2.heap.objs.size:=λ b hb=>let ⟨o,ho⟩:=hfo b hb;Nat.ne_of_lt (Heap.lt_size ho)
 have fpb:∀{H':Hp},(∀b∈fp,H' b=none)->∀b∈fp,BC Xb [] H' b:=λ hn b hb=>by obtain ⟨o,ho⟩:=hfo b hb;refine ⟨hn b hb,Nat.ne_of_lt (Nat.lt_succ_of_lt (Heap.lt_size ho)),I4.ok.W0 b hb,.inl hb,λ x c e=>(I4.ok.exf b hb).2 x c e,λ p hp=>absurd (show p∈([]:List (Addr×Obj))++[] from hp) (by simp)⟩
 have loop:codeAny (model X.prog X.w) X.A (.compLoop (.ListComp elt [⟨tg,iter,ifs,0⟩] scope pos) 0 (.ref it) (.ref s2.heap.objs.size) (compEnvC scope cl (s2.heap.objs.size+1) X.env))
   (compPost (model X.prog X.w) X.A X.xe use Q' (.ref s2.heap.objs.size) (s2.heap.objs.size+1)) {s2 with heap:=h₁,toks:=s2.toks+([]:List (Str×Value)).length}:=by
  refine Eo (λ n s'=>∃(i:Nat) (σ1:St) (H1:Hp) (av:List V) (ad rest:List M) (T:Fp),n=xs.length- i/\i<=xs.length/\Inv Xb [] σ1 H1 s'/\L4.J X.K ct H2 (v5 tm k caps Γ) σ1 H1/\tn i s'.heap/\(∀b∈fp,H1 b=none)/\au H2 H1/\H1 s2.heap.objs.size=some (.lst av)/\cG X.K ct H1 ad av T/\(∀b,T b->H2 b=none/\b≠s2.heap.objs.size/\H1 b≠none)/\av.length<=i/\lI (Y5 t p fe (v5 tm k caps Γ)) (xs.drop i)= .ok rest/\ad++rest=ys) ?_ xs.length ⟨0,_,_,[],[],ys,λ _=>False,rfl,Nat.zero_le _,I4,tch (aim j2 ht) (au.keep V4) V4,st4,λ b hb=>by rw[aC (amE b hb)];exact (fok b hb).1,V4,aD,by simp only[cG],λ _ z=>z.elim,Nat.le_refl _,hys,rfl⟩
  rintro n s3 ⟨i,σ1,H1,av,ad,rest,Tf,hn,hil,I3,j3,st3,fr3,k3,hacc,TV,hT,hal,hrest,hall⟩
  have pd1:=pdk _ _ pd0 (au.keep k3) j3.lL j3.lB;by_cases hlt:i<xs.length
  ·-- one more item
   have hd:xs[i]? =some xs[i]:=List.getElem?_eq_getElem hlt;obtain ⟨go,yld⟩:=alK i _ H1 pd1 hd;rw[drop_one hd] at hrest;obtain ⟨o,rest',ho,hr',hro⟩:=KQ hrest;refine wpAny_mono (T.item Xb rfl rfl rfl hc i [] s3 σ1 H1 (λ _ _=>False) I3 (fpb fr3) st3 go) (λ r s4 ⟨u,hr,h4⟩=>?_) λ _ _ e=>e;subst hr;refine wpAny_mono h4 (λ _ s5 ⟨x,H5,I5,r5,y5,st5,fr5⟩=>?_) λ _ _ e=>e;obtain ⟨sm5,tx⟩:=yld x H5 y5;replace j3:=j3.mono sm5;replace hacc:=sm5 _ _ hacc;replace TV:=TV.frame (au.keep sm5) (λ b o _ q=>sm5 b o q);replace hT:∀b,Tf b->H2 b=none/\b≠s2.heap.objs.size/\H5 b≠none:=λ b z=>⟨(hT b z).1,(hT b z).2.1,λ q=>(hT b z).2.2 (sm5.free q)⟩;replace k3:=k3.trans sm5;have I5':=I5.pinned (fpb fr5) (T.obj _ _ st5);unfold Y5 at ho;cases e1:t xs[i] (v5 tm k caps Γ) with
   |none=>rw[e1] at ho;cases ho
   |some Γ1=>
    rw[e1] at ho;dsimp only at ho;refine wpAny_mono (hg _ s2 H2 fp _ s5 σ1 H5 x u (λ σ2 H'=>H'=H5/\L4.J X.K ct H2 Γ1 σ2 H5) I5' r5 ⟨_,_,Γ1,j3,tx,e1,λ σ2 j6=>⟨rfl,j6⟩⟩) (λ _ s6 ⟨σ2,H6,I6,e6,j6⟩=>?_) λ _ _ e=>e;subst e6;have tnk:∀{σ7:St} {H7:Hp} {s7:Shared},Inv Xb ([]++yy fp s5.heap) σ7 H7 s7->tn (i+1) s7.heap/\∀b∈fp,H7 b=none:=λ{σ7 H7 s7} I7=>by refine ⟨T.keep _ _ _ st5 λ b hb o e=>(I7.pin (b,o) (List.mem_append_right _ (List.mem_append_right _ (nk hb e)))).1,λ b hb=>?_⟩;obtain ⟨o,e,d⟩:=T.obj _ _ st5 b hb;exact (I7.pin (b,o) (List.mem_append_right _ (List.mem_append_right _ (nk hb e)))).2.1
    cases ep:p Γ1 with
    |bad=>rw[ep] at ho;cases ho
    |err c=>rw[ep] at ho;cases ho
    |ok c=>
     refine wpAny_mono (hp _ s2 H2 fp _ s6 σ2 H6 (λ b H'=>b=c/\au H6 H') I6 ⟨Γ1,j6,by rw[ep];exact λ H' s=>⟨rfl,s⟩⟩) (λ b s7 ⟨H7,I7,eb,O2⟩=>?_) λ _ _ e=>e;subst eb;have j7:=j6.mono O2;cases b with
     |false=>rw[ep] at ho;dsimp only at ho;cases ho;have amj:rest=rest':=hro;rw[amj] at hall;obtain ⟨tn7,fr7⟩:=tnk I7;rw[if_neg Bool.false_ne_true];exact ⟨xs.length-(i+1),by omega,i+1,σ2,H7,av,ad,rest',Tf,rfl,hlt,I7.oR,hf Γ _ Γ1 σ2 H7 H2 e1 j7,tn7,fr7,k3.trans O2,O2 _ _ hacc,TV.frame (au.keep O2) (λ b o _ q=>O2 b o q),λ b z=>⟨(hT b z).1,(hT b z).2.1,λ q=>(hT b z).2.2 (O2.free q)⟩,Nat.le_succ_of_le hal,hr',hall⟩
     |true=>
      rw[ep] at ho;dsimp only at ho;rw[if_pos rfl];cases ee:fe Γ1 with
      |bad=>rw[ee] at ho;cases ho
      |err c=>rw[ee] at ho;cases ho
      |ok d=>
       rw[ee] at ho;dsimp only at ho;cases ho;subst hro;refine wpAny_mono (he _ s2 H2 fp _ s7 σ2 H7 (λ v H'=>∃S,au H7 H'/\Ow X.K ct H' d v S/\(∀b,S b->H7 b=none)/\∀b,S b->H' b≠none) I7 ⟨Γ1,j7,by rw[ee];exact λ v H' S s t n k=>⟨S,s,t,n,k⟩⟩) (λ yv s8 ⟨y,H8,I8,r8,S8,s8',t8,n8,h8⟩=>?_) λ _ _ e=>e;have acj:H8 s2.heap.objs.size=some (.lst av):=s8' _ _ (O2 _ _ hacc);refine wpAny_mono (B6 (X:=Xb) _ s8 σ2 H8 (.ref s2.heap.objs.size) [y] (.ref s2.heap.objs.size) [yv] (λ _ H'=>H'=upd H8 s2.heap.objs.size (.lst (av++[y]))) I8 rfl (.cons r8 .nil) ⟨_,av,y,rfl,rfl,acj,Nat.lt_trans (by omega) jJ,rfl⟩) (λ _ s9 ⟨_,H9,I9,_,e9⟩=>?_) λ _ _ e=>e;subst e9;obtain ⟨tn9,fr9⟩:=tnk I9;have kp:aP ct.f.cb H8 (upd H8 s2.heap.objs.size (.lst (av++[y]))):=aP.lst acj;have k8:au H2 H8:=(k3.trans O2).trans s8';have j8:=hf Γ _ Γ1 σ2 H8 H2 e1 (j7.mono s8');have sm9:au H2 (upd H8 s2.heap.objs.size (.lst (av++[y]))):=λ b o hb=>by have:b≠s2.heap.objs.size:=eT hb Kn;rw[aC this];exact k8 b o hb
       have sne:∀b,S8 b->b≠s2.heap.objs.size:=λ b z=>by
        rintro rfl
        have:=n8 _ z;rw[O2 _ _ hacc] at this;cases this
       have T8:∀b,Tf b->H8 b≠none:=λ b z q=>(hT b z).2.2 (O2.free (s8'.free q));have dis:∀b,Tf b->¬S8 b:=λ b z w=>(hT b z).2.2 (O2.free (n8 b w));have up8:∀b,b≠s2.heap.objs.size->upd H8 s2.heap.objs.size (.lst (av++[y])) b=H8 b:=λ b z=>aC z;refine ⟨xs.length-(i+1),by omega,i+1,σ2,_,av++[y],ad++[d],rest',λ b=>Tf b\/S8 b,rfl,hlt,I9.oR,tch j8 kp sm9,tn9,fr9,sm9,aD,?_,λ b z=>?_,?_,hr',?_⟩
       ·have o1:=TV.frame (au.keep (O2.trans s8')) (λ b o _ q=>(O2.trans s8') b o q);exact (o1.abZ t8 dis).frame kp λ b o z q=>by rw[up8 b (z.elim (λ z=>(hT b z).2.1) (sne b))];exact q
       ·rcases z with z|z
        ·exact ⟨(hT b z).1,(hT b z).2.1,by rw[up8 b (hT b z).2.1];exact T8 b z⟩
        ·exact ⟨k3.free (O2.free (n8 b z)),sne b z,by rw[up8 b (sne b z)];exact h8 b z⟩
       ·rw[List.length_append,List.length_singleton];omega
       ·rw[<-hall];simp
  ·-- through
   have hie:xs.length<=i:=Nat.le_of_not_lt hlt;refine wpAny_mono (T.done Xb rfl rfl rfl hc i [] s3 σ1 H1 (λ _ _=>False) I3 (fpb fr3) st3 (alJ i H1 pd1 hie)) (λ r s4 ⟨hr,I4'⟩=>?_) λ _ _ e=>e;subst hr;rw[List.drop_eq_nil_of_le hie] at hrest;cases hrest;rw[List.append_nil] at hall;subst hall;obtain ⟨m,hm,_⟩:=I4'.loc;have nC:H1 (s2.heap.objs.size+1)=none:=I4'.free;have un:Un (frs X.stack) fp H2 H1 s2.heap s4.heap:=by have u:=I4'.base;exact ⟨u.keep,u.slot,u.free,u.there,u.tups,u.rQ,u.sH⟩
   have IE:Inv X pins σ H1 s4:=I2.Qd (s':=s4) (ch:=fp) I4'.os un I4'.hok I4'.bare λ b hb=>⟨(fok b hb).2.2.2.1,(fok b hb).2.1,(fok b hb).2.2.2.2.1,(fok b hb).2.2.2.2.2⟩;have old:∀{b:Addr} {o:Obj},s2.heap.get? b=some o->b≠s2.heap.objs.size+1:=λ e=>Nat.ne_of_lt (Nat.lt_succ_of_lt (Heap.lt_size e));refine fin _ _ av _ Tf H1 s4 m IE (sm.trans k3) (sm.free Kn) hacc TV (λ b z=>⟨sm.free (hT b z).1,(hT b z).2.1,(hT b z).2.2⟩) W hm nC (Ne.symm (Nat.ne_of_lt (Nat.lt_succ_of_lt I2.lt))) (Nat.le_succ_of_le I2.sz) (λ x c e=>?_) λ p hp=>old (I2.pin p hp).1;obtain ⟨v,o,ho,_⟩:=I2.cell x c e;exact old ho
 exact codeAny_compStart_list loop (T.self _ 0 _ _ _ st4 loop)
variable{fd:Sg->Res D}
def aaL(Γ:Sg):Pp tm fi k caps t p (mD fd) Γ=(iC tm fi k caps t p fd Γ).bnd λ ds=> .ok (ds.map M.d):=by
 unfold Pp iC;cases fi Γ with
 |ok xs=>
  simp only[Res.lS];split
  ·exact vU xs
  ·rfl
 |err x=>rfl
 |bad=>rfl
def Z1(ht:tm=true->ct.tm=true)(hc:X.calm=true)(hi:PID X ct tg iter fi)(co:EK X scope cl k caps N')(hfr:∀z∈scope.names,∀y,(y,NameKind.free)∈scope.names->z.1=y->z.2= .free) (hg:∀C s₀ H₀ ex,PGD (SV X scope cl C s₀ H₀ ex N') ct tg t) (hp:∀C s₀ H₀ ex,PTs (SV X scope cl C s₀ H₀ ex N') ct ifs p) (he:∀C s₀ H₀ ex,PD (SV X scope cl C s₀ H₀ ex N') ct elt fd) (hf:∀Γ x Γ1 σ H H₀,t x (v5 tm k caps Γ)=some Γ1->J X.K ct H₀ Γ1 σ H->J X.K ct H₀ (v5 tm k caps Γ) σ H) (hs:∀x,foldedSetIterable iter X.env x=pure x:=by intro _;rfl):PL X ct (.ListComp elt [⟨tg,iter,ifs,0⟩] scope pos) (iC tm fi k caps t p fd):=by
 intro pins s σ H Q I ⟨Γ,j,h⟩;rw[eval_ListComp];have h':Ok X ct σ H (Pp tm fi k caps t p (mD fd) Γ) λ ms=>∃ds:List D,ms=ds.map M.d/\Wl X ct H Q ds:=by
  rw[aaL];cases z:iC tm fi k caps t p fd Γ with
  |ok ms=>rw[z] at h;exact ⟨ms,rfl,h⟩
  |err x=>rw[z] at h;exact h
  |bad=>rw[z] at h;exact h
 refine Se ht hc hi co hfr hg hp (λ C s₀ H₀ ex=>UL (he C s₀ H₀ ex)) hf hs I j h' λ acc C av ys T H1 s4 m IE sm na ha ta hT W hm nC nl hz ncl npn=>?_;obtain ⟨ds,rfl,W⟩:=W;refine ⟨m,hm,λ h' hsb=>?_⟩;have I5:Inv X pins σ H1 {s4 with heap:=h',toks:=s4.toks}:=IE.turned (h':=h') (t':=s4.toks) (it:=C) (λ b o hb e=>(hsb.2 b hb).trans e) nC nl (.inr hz) ncl npn;exact ⟨.ref acc,H1,I5,rfl,W acc av H1 sm na ha ta.acv⟩
end
section
variable{X:Cx}{ct:Ct}{c:Cf}{elt iter tg:Expr}{ifs:List Expr}{scope:Scope}{cl:List (Str×Addr)}{pos:Pos}{k:Nat}{caps:List Nat}{N':List Str}{fi:Sg->Res (List D)}{t:Tg}{p:Sg->Res Bool}{fe:Sg->Res M}{fd:Sg->Res D}{tm:Bool}
def TgK(k:Nat)(t:Tg):Prop:=∀x Γ Γ1,t x Γ=some Γ1->Γ1.length=Γ.length/\∀i,k<=i->Γ1[i]? =Γ[i]?
def k6{k i:Nat}(h:i<k):TgK k (aG i):=λ x Γ Γ1 e=>by cases e;exact ⟨by simp,λ j hj=>by rw[List.getElem?_set_ne (by omega)]⟩
def QB{K:W.Frag}(hk:TgK k t):∀Γ x Γ1 σ H H₀,t x (v5 tm k caps Γ)=some Γ1->J K ct H₀ Γ1 σ H->J K ct H₀ (v5 tm k caps Γ) σ H:=λ Γ x Γ1 σ H H₀ e j=>by
 obtain ⟨h1,h2⟩:=hk _ _ _ e;refine j.weak h1 λ i=>?_;by_cases hik:i<k
 ·left;unfold v5;rw[List.getElem?_append_left (by simpa using hik),List.getElem?_replicate,if_pos hik]
 ·exact .inr (h2 i (Nat.le_of_not_lt hik)).symm
def abh(hfb:(scope.names.all λ z=>scope.names.all λ y=>!(y.2== .free&&z.1==y.1)||z.2== .free)=true):∀z∈scope.names,∀y,(y,NameKind.free)∈scope.names->z.1=y->z.2= .free:=λ z hz y hy e=>by have q:=List.all_eq_true.mp (List.all_eq_true.mp hfb z hz) _ hy;simp only[e,BEq.rfl,Bool.and_self,Bool.not_true,Bool.false_or] at q;exact eq_of_beq q
def jl(ht:tm=true->ct.tm=true)(hc:X.calm=true)(hi:WID X ct tg iter fi)(co:EK X scope cl k caps N')(hfb:(scope.names.all λ z=>scope.names.all λ y=>!(y.2== .free&&z.1==y.1)||z.2== .free)=true)(hg:∀C s₀ H₀ ex,WGD (SV X scope cl C s₀ H₀ ex N') ct tg t)(hp:∀C s₀ H₀ ex,WTs (SV X scope cl C s₀ H₀ ex N') ct ifs p)(he:∀C s₀ H₀ ex,WD (SV X scope cl C s₀ H₀ ex N') ct elt fd)(hk:TgK k t)(hs:∀x,foldedSetIterable iter X.env x=pure x:=by intro _;rfl):WL X ct (.ListComp elt [⟨tg,iter,ifs,0⟩] scope pos) (iC tm fi k caps t p fd):=by have hi:=hi.out;have hg:=λ C s₀ H₀ ex=>(hg C s₀ H₀ ex).out;have hp:=λ C s₀ H₀ ex=>(hp C s₀ H₀ ex).out;have he:=λ C s₀ H₀ ex=>(he C s₀ H₀ ex).out;exact ⟨Z1 ht hc hi co (abh hfb) hg hp he (QB hk) hs⟩
end
abbrev HG:List Value:=[.type "ValueError",.type "Exception",.type "BaseException",.type "object"]
structure XC(K:W.Frag)(mg:Str->Option Value)(cb:Cb)(x:Str)(n:String)(C:Addr):Prop where
 bnd:mg x=some (.ref C)
 exc:W.excIn K C HG "ValueError.__new__"=true
 at':cb.exc n=some C
def afh{K:W.Frag}{h:Heap}{C:Addr}{newId:String}(X:K.In h)(q:W.excIn K C HG newId=true):
  ∃bm N nm qn bs hdct sn sub ab col dd k0 k1 k2 k3 k5 mN,h.get? C=some (excClassObj nm qn C N bs bm hdct sn sub ab col dd k0 k1 k2 k3 k5 newId)/\h.Ns N mN/\mN "__init__"=none/\OwnTail h HG bm:=by
 unfold W.excIn at q;split at q;case h_2=>cases q
 case h_1 dd cd sl lk=>
  split at q;case h_2=>cases q
  case h_1 C' bm k0 k1 k2 k3 n k5 em es=>simp only[Bool.and_eq_true,beq_iff_eq,Bool.not_eq_true'] at q;obtain ⟨⟨⟨⟨⟨e1,e2⟩,e3⟩,e4⟩,e5⟩,e6⟩:=q;subst e1 e2;obtain ⟨nm,bs,mr,ns,qn,hd,sn,sub,ab,col,dl⟩:=cd;simp only at em e3 e5 e6;subst em e3;obtain ⟨sl⟩:=sl;simp only at es;subst es;exact ⟨bm,ns,nm,qn,bs,hd,sn,sub,ab,col,dd,k0,k1,k2,k3,k5,_,X _ _ lk,.of_isNs (W.isNs_of_in X e5),W.nsMap_none_of_in X e5 e6,W.tail_of_in X e4⟩
section
variable{X:Cx}{cf:Cf}{e₀:Expr}{rest:List Expr}{fa:Sg->Res (List D)}{x:Str}{c:String}{C:Addr}{np cpos pos:Pos}
def jW(g:Good X)(M:XC X.K X.mg cf.cb x c C)(ha:xO X cf.z (e₀::rest) fa)(hg:Gl X x:=by rfl)(hd:(x==("__debug__":Str))=false:=by decide)(he:starEach (e₀::rest) X.env=(false,eval e₀ X.env)::starEach rest X.env:=by rfl)(hpl:(backTo cpos (starEach rest X.env)).any (·.1)=false:=by rfl):uK X cf (.Raise (some (.Call (.Name x np) (e₀::rest) [] cpos)) none pos) (oX c fa):=by
 have ha:=ha.out;refine ⟨?_⟩;intro pins s σ H E I ⟨Γ,j,h⟩;obtain ⟨tl,N,nm,q,bs,hdct,sn,sub,ab,col,dd,k0,k1,k2,k3,k5,mN,hC,hN,hni,T⟩:=afh I.ok.mod.kin M.exc;refine wpAny_Raise_call_subT (C:=C) (nm:=nm) (q:=q) (N:=N) (bs:=bs) (bm:=tl) (hdct:=hdct) (sn:=sn) (sub:=sub) (ab:=ab) (col:=col) (dd:=dd) (k0:=k0) (k1:=k1) (k2:=k2) (k3:=k3) (k5:=k5)
  PySem.F.excBase_ValueError (mN:=mN) (T.hasType PySem.F.excBase_ValueError.hasBase) (I.ok.hd g.calm) (by rw[he];show (false||(backTo cpos (starEach rest X.env)).any (·.1))=false;rw[hpl];rfl) hni (qe I hg M.bnd ⟨rfl,?_⟩ hd)
 have h':HY X cf.z fa σ H (λ vs H1=>au H H1/\vs.length<=1000/\Fn X cf H (.err c Γ) E):=⟨Γ,j,Fn.ok j h λ ds _ q vs H1 s1 t1=>by
   split at q
   ·rename_i hl;exact ⟨s1,by rw[<-t1.length];exact hl,q⟩
   ·exact q.elim⟩
 have hp:=ha cpos pins s σ H _ I h';rw[he] at hp ⊢;refine Calls.evalArgs_plain (wpAny_mono hp (λ us s1 ⟨vs,H1,I1,r,sm,hl,q⟩=>⟨rfl,?_,I1.bk _ _ hC,hN.keeps I1.bk,T.keeps I1.bk,λ h2 e hm=>?_⟩) λ _ _ y=>y)
 ·show us.length<=sizeLine;rw[<-r.length];exact Nat.le_of_lt (qa hl)
 ·exact q σ H1 _ _ (au.keep sm) (j.mono sm) ⟨pins,H1,s1,C,I1,au.refl H1,M.at',.inl ⟨e,us,h2,rfl,rfl,hm⟩⟩
end
section
variable{X:Cx}{ct:Ct}{pins:List (Addr×Obj)}{σ:St}{H:Hp}{s:Shared}
def xG{M:Model}{A:Around}{E:Value->Shared->Prop}{i:Nat}{n:Str}{pos:Pos}{Q:Unit->Shared->Prop}(I:Inv X pins σ H s)(hN:X.N.Nodup)(hi:X.N[i]? =some n)(hl:X.env.kindOf n=some .local)
  (h:∀s',Inv X pins (σ.set i none) H s'->Q () s'):wpAny M A (do bindName X.env n .none;unbindBehindTheSuite X.env n pos) Q E s:=by
 obtain ⟨m,hn,hlk⟩:=id I.loc
 have hcls:(X.env.scope.kind== .class||(X.env.scope.kind== .module&&X.env.locals !=X.env.globals))=false:=by rw[I.ok.kind];rfl
 refine wpAny_nameGoes_keeps hl hn hcls λ h' v hn' hs=>h _ ?_
 obtain ⟨oL,_,_,hoL,_⟩:=id hn
 have old:∀{b:Addr} {o:Obj},X.s₀.heap.get? b=some o->b≠X.env.locals:=λ e=>Nat.ne_of_lt (Nat.lt_of_lt_of_le (Heap.lt_size e) I.ok.above)
 have Xo:=I.Xo
 refine ⟨I.ok,I.os,I.bare,⟨λ b o e n hb hx=>(hs.2 b (old e)).trans (I.base.keep b o e n hb hx),λ b o e n hb hx=>?_,I.base.free,λ b o e hx=>?_,I.base.tups,I.base.rQ,I.base.sH⟩,
  ⟨_,hn',λ k y v' e1 e2 e3=>?_⟩,λ y c e=>?_,I.free,I.jD,λ p hp=>?_,λ b ob e=>?_,by simpa using I.len⟩
 ·obtain ⟨sl,e1⟩:=I.base.slot b o e n hb hx
  exact ⟨sl,(hs.2 b (old e)).trans e1⟩
 ·obtain ⟨o',e1⟩:=I.base.there b o e hx
  exact ⟨o',(hs.2 b (old e)).trans e1⟩
 ·by_cases hk:k=i
  ·subst hk
   by_cases hlen:k<σ.length
   ·rw[List.getElem?_set_self hlen] at e2;cases e2
   ·rw[List.getElem?_eq_none (by rw[List.length_set];omega)] at e2;cases e2
  ·rw[List.getElem?_set_ne (Ne.symm hk)] at e2
   obtain ⟨u',r',q⟩:=hlk k y v' e1 e2 e3
   refine ⟨u',r',?_⟩
   rcases q with ⟨kk,e⟩|⟨kk,c,e,z⟩
   ·have:y≠n:=λ e=>hk (yM hN e1 (e▸hi))
    exact .inl ⟨kk,by simp[this,e]⟩
   ·exact .inr ⟨kk,c,e,z.sameBut hs (Xo y c e)⟩
 ·obtain ⟨w',z⟩:=I.cell y c e
  exact ⟨w',z.sameBut hs (Xo y c e)⟩
 ·obtain ⟨e,n,ne,nf,d⟩:=I.pin p hp
  exact ⟨(hs.2 p.1 ne).trans e,n,ne,nf,d⟩
 ·refine (I.hok b ob e).stay (λ c w' hc q=>(hs.2 c ?_).trans q) (λ _ q=>q) λ _ _ q=>q
  rintro rfl
  rcases hc with rfl|hc
  ·rw[I.free] at e;cases e
  ·rw[I.free] at hc;cases hc
def Inv.ahi{a:Addr}{φ:Heap->Prop}{s1:Shared}(I:Inv X pins σ H s)(ha:H a=none)(old:Inv X pins σ H1 s1)(nw:s1.heap.get? a=none)(new:b9 X.prog X.w (upd H a (.ext φ)) s.heap a (.ext φ)):
  Inv X pins σ (upd H a (.ext φ)) s:=by
 have there:∀b o,X.s₀.heap.get? b=some o->b∉X.ex->b≠a:=λ b o e hx z=>by subst z;obtain ⟨o',q⟩:=old.base.there b o e hx;rw[nw] at q;cases q
 have nl:X.env.locals≠a:=λ z=>by obtain ⟨m,⟨o,_,_,ho,_⟩,_⟩:=old.loc;rw[z,nw] at ho;cases ho
 have nc:∀x c,X.env.cells.lookup x=some c->c≠a:=λ x c e z=>by obtain ⟨v,o,ho,_⟩:=old.cell x c e;rw[z,nw] at ho;cases ho
 have np:∀p∈X.pn++pins,p.1≠a:=λ p hp z=>by have:=(old.pin p hp).1;rw[z,nw] at this;cases this
 have ne:∀b u,H b=some u->b≠a:=λ b u e=>eT e ha;refine ⟨I.ok,I.os,I.bare,⟨I.base.keep,I.base.slot,λ b o e n hx=>?_,I.base.there,λ b xs e=>?_,λ b o u e=>?_,λ b ps e=>?_⟩,I.loc,I.cell,?_,λ x c e=>?_,λ p hp=>?_,λ b u e=>?_,I.len⟩
 ·rw[aC (there b o e hx)];exact I.base.free b o e n hx
 ·have q:=I.base.tups b xs e;rw[aC (ne _ _ q)];exact q
 ·have q:=I.base.rQ b o u e;rw[aC (ne _ _ q)];exact q
 ·obtain ⟨more,q⟩:=I.base.sH b ps e;exact ⟨more,by rw[aC (ne _ _ q)];exact q⟩
 ·rw[aC nl];exact I.free
 ·rw[aC (nc x c e)];exact I.jD x c e
 ·obtain ⟨h1,h2,h3⟩:=I.pin p hp;exact ⟨h1,by rw[aC (np p hp)];exact h2,h3⟩
 ·by_cases hb:b=a
  ·subst hb;rw[aD] at e;cases e;exact new
  ·rw[aC hb] at e;exact (I.hok b u e).stay (λ _ _ _ q=>q) (λ c q=>by rw[aC (ne _ _ q)];exact q) λ c xs q=>by rw[aC (ne _ _ q)];exact q
end
section
variable{X:Cx}{cf:Cf}
noncomputable abbrev cxT(X:Cx)(pn:List (Addr×Obj))(xe:Value->Shared->Prop):Cx:={X with pn:=pn,xe:=xe}
abbrev cxE(X:Cx)(ev:Value)(pn:List (Addr×Obj)):Cx:={X with A:=X.A.mark (some ev),calm:=false,pn:=pn,xe:=λ _ _=>False}
def alM(ok:X.Ok)(pn:List (Addr×Obj))(xe:Value->Shared->Prop):(cxT X pn xe).Ok:=⟨ok.mod,ok.kind,ok.glob,ok.blt,ok.above,ok.inj,ok.has,ok.cab,ok.hd,ok.frames,ok.stk,ok.exf,ok.bs,ok.bsz,ok.Vs,ok.W0,ok.wK,ok.frf⟩
def alN(ok:X.Ok)(ev:Value)(pn:List (Addr×Obj)):(cxE X ev pn).Ok:=⟨ok.mod,ok.kind,ok.glob,ok.blt,ok.above,ok.inj,ok.has,ok.cab,λ z=>absurd z (by exact Bool.false_ne_true),ok.frames,ok.stk,ok.exf,ok.bs,ok.bsz,ok.Vs,ok.W0,ok.wK,ok.frf⟩
variable{pins:List (Addr×Obj)}{σ:St}{H:Hp}{s:Shared}
def Inv.toT(I:Inv X pins σ H s)(xe:Value->Shared->Prop):Inv (cxT X (X.pn++pins) xe) [] σ H s:=⟨alM I.ok _ _,I.os,I.bare,I.base,I.loc,I.cell,I.free,I.jD,λ p hp=>I.pin p (by simpa using hp),I.hok,I.len⟩
def Inv.ofT{Pa:List (Addr×Obj)}{xe:Value->Shared->Prop}(ok:X.Ok)(I:Inv (cxT X (X.pn++pins) xe) Pa σ H s):Inv X pins σ H s:=⟨ok,I.os,I.bare,I.base,I.loc,I.cell,I.free,I.jD,λ p hp=>I.pin p (List.mem_append_left _ hp),I.hok,I.len⟩
def Inv.toE(I:Inv X pins σ H s)(ev:Value):Inv (cxE X ev (X.pn++pins)) [] σ H s:=⟨alN I.ok _ _,I.os,I.bare,I.base,I.loc,I.cell,I.free,I.jD,λ p hp=>I.pin p (by simpa using hp),I.hok,I.len⟩
def Inv.ofE{ev:Value}(ok:X.Ok)(I:Inv (cxE X ev (X.pn++pins)) [] σ H s):Inv X pins σ H s:=⟨ok,I.os,I.bare,I.base,I.loc,I.cell,I.free,I.jD,λ p hp=>I.pin p (by simpa using hp),I.hok,I.len⟩
def VO{A:Around}{E:Value->Shared->Prop}{x:Str}{u:Value}{pos:Pos}{Q:Value->Shared->Prop}(I:Inv X pins σ H s)(hg:Gl X x)(hm:X.mg x=some u)(h:Q u s) (hd:(x==("__debug__":Str))=false:=by decide):wpAny (model X.prog X.w) A (eval (.Name x pos) X.env) Q E s:=Calls.Name_function_global I.ok.kind hg (Calls.loadGlobal_global (by rw[I.ok.glob];exact I.mod.glob.keeps I.bk) hm h) hd
def JT{M:Model}{A:Around}{E:Value->Shared->Prop}{base h:Heap}{env:Env}{outer:List Env}{L e:Addr}{cls:Value}{args:List Value}{s:Shared}{Q:Unit->Shared->Prop}(hfr:A.frames=some (env::outer))(hf:env.frame=some L) (hkb:base.StaysIn h) (hl:h.FunFrames base (env::outer)) (hx:Heap.MadeExcOf h s.heap e cls args) (hQ:∀h' t,Heap.HeldW base (env::outer) e cls (.ref t) L h'->s.heap.UpToSlots h'->Q () {s with heap:=h'}):wpAny M A (noteFrame (.ref e) env) Q E s:=by
 obtain ⟨t,he,htn,ht⟩:=hx.there;have nb:base.get? e=none:=by
  cases q:base.get? e with
  |none=>rfl
  |some o=>have:=hkb e o q;rw[hx.new] at this;cases this
 unfold noteFrame;simp only[hf];refine wpAny_bind (wpAny_field he rfl (x:= .none) rfl ?_);rw[if_neg (by simp)];refine wpAny_entryW (a0:= .ref t) hfr (hl.of_keeps λ b o q _=>⟨o,hx.keeps b o q,rfl⟩) hf he (λ b o q=>hx.keeps b o (hkb b o q)) nb rfl (by simp) rfl λ h' hN=>?_;obtain ⟨k1,k2,k3,k4⟩:=hN;exact hQ h' t ⟨k1,nb,k2,k3⟩ k4
def VT{σ':St}{H':Hp}{c:String}{e:Value}{s':Shared}{E:Value->Shared->Prop}{Q:Unit->Shared->Prop}{xe:Value->Shared->Prop}(g:Good X)(ok:X.Ok)(r:gc (cxT X (X.pn++pins) xe) cf.cb σ' H' c e s') (k:∀(a C:Addr) (B:Heap) (a0:Value) (H1 H2:Hp) (s1:Shared) (h5:Heap),e= .ref a->cf.cb.exc c=some C->au H' H1->au H1 H2->Inv X pins σ' H1 s1->s1.heap.get? a=none->H2 a=none->s'.os=s1.os->AllBare s'.gens->Heap.FlyingW B (X.env::X.outer) a (.ref C) a0 h5->(∀h:Heap,B.StaysIn h->h5.UpToSlots h->Un (frs X.stack) [] H1 H2 s1.heap h/\pW X.prog X.w H2 h)->Q () {s' with heap:=h5}):
  wpAny (model X.prog X.w) X.A (noteFrame e X.env) (λ _ s₂=>wpAny (model X.prog X.w) X.A (setFlight e none) Q E s₂) E s':=by
 obtain ⟨anK,H1,s1,C,I1,sm,hc,r⟩:=r;have I1:Inv X pins σ' H1 s1:=Inv.ofT ok I1;obtain ⟨own,hf⟩:=g.own;have hfr:X.A.frames=some (X.env::X.outer):=by rw[<-own];exact ok.frames
 rcases r with ⟨a,args,h',rfl,rfl,hx⟩|⟨a,C',H2,B,a0,rfl,⟨q1,q2,q3⟩,q4,q5,fl,na,nw,cl⟩
 ·have hst:s1.heap.FunFrames X.base X.stack:=I1.stack;have hin:∀env∈X.stack,∀b,env.frame=some b->b∈frs X.stack:=λ env he b hb=>List.mem_filterMap.mpr ⟨env,he,hb⟩;have hkb:(W.hideAll s1.heap (frs X.stack)).StaysIn s1.heap:=λ b o q=>W.of_hideAll _ q;have na:H1 a=none:=by
   cases z:H1 a with
   |none=>rfl
   |some o=>obtain ⟨ob,hb⟩:=pC (I1.hok a o z);rw[hx.new] at hb;cases hb
  have hff:s1.heap.FunFrames (W.hideAll s1.heap (frs X.stack)) (X.env::X.outer):=by have z:=W.funFrames_hide hst hin;generalize W.hideAll s1.heap (frs X.stack)=B at z ⊢;rw[own] at z;exact z
  refine JT (s:={s1 with heap:=h'}) hfr hf hkb hff hx λ h4 t held up4=>?_;refine wpAny_landsW held λ h5 fl5 up5=>?_;refine k a C _ _ H1 H1 s1 h5 rfl hc sm (au.refl H1) I1 hx.new na rfl I1.bare fl5 λ h3 st3 up3=>?_;have keep:∀b o,s1.heap.get? b=some o->b∉frs X.stack->h3.get? b=some o:=λ b o q nb=>st3 b o (W.hideAll_get _ q nb);have slot:∀b o,s1.heap.get? b=some o->b∈frs X.stack->∃sl,h3.get? b=some {o with slots:=sl}:=λ b o q hb=>by obtain ⟨_,o',ho',hd⟩:=hst.mem hb;rw[q] at ho';cases ho';exact ((up4.trans up5).trans up3) b o (hx.keeps b o q) hd
  have un:Un (frs X.stack) [] H1 H1 s1.heap h3:=⟨λ b o q n nb _=>keep b o q nb,λ b o q n hb _=>slot b o q hb,λ b o q n _=>n,λ b o q _=>by
   by_cases hb:b∈frs X.stack
   ·obtain ⟨sl,z⟩:=slot b o q hb;exact ⟨_,z⟩
   ·exact ⟨o,keep b o q hb⟩,λ b xs q=>q,λ b o u q=>q,λ b ps q=>⟨#[],by rw[q];simp⟩⟩
  refine ⟨un,λ b o q=>(I1.hok b o q).stay (λ b' u hb' e'=>?_) (λ _ q=>q) λ _ _ q=>q⟩;have tr:H1 b'≠none:=by
   rcases hb' with rfl|hb'
   ·rw[q];exact λ z=>nomatch z
   ·rw[hb'];exact λ z=>nomatch z
  exact keep b' u e' λ z=>tr (I1.xj b' z)
 ·cases q1;have fl:Heap.FlyingW B X.stack a (.ref C) a0 s'.heap:=fl;rw[own] at fl;refine wpAny_looks_onW hfr hf fl λ h4 held up4=>?_;refine wpAny_landsW held λ h5 fl5 up5=>?_;exact k a C B a0 H1 H2 s1 h5 rfl hc sm q3 I1 nw na q4 q5 fl5 λ h3 st3 up3=>cl h3 st3 ((up4.trans up5).trans up3)
end
section
variable{X:Cx}{cf:Cf}{body suite:List Stmt}{b₀:Stmt}{F G:Sg->Out}{t n:Str}{hit:String->Option Bool}{T:Value}{np hpos pos:Pos}
noncomputable def ajJ(K:W.Frag)(cb:Cb)(T:Value)(hit:String->Option Bool):Prop:=∀c C b,cb.exc c=some C->hit c=some b->W.exmOne K (.ref C) T=some b
def aiC{P:Program}{w:World}{H:Hp}{h:Heap}{a C:Addr}(q:∃o,h.get? a=some o/\o.cls= .ref C):b9 P w (upd H a (.ext (mU a C))) h a (.ext (mU a C)):=by obtain ⟨o,h1,h2⟩:=q;exact ⟨⟨o,h1,h2⟩,⟨o,h1⟩,λ hA hB ⟨o',e1,e2⟩ k=>⟨o',k o' e1,e2⟩⟩
def Qy(i:Nat)(g:Good X)(hT:X.mg t=some T)(hh:ajJ X.K cf.cb T hit)(hb:∀pn xe,Good (cxT X pn xe)->qH (cxT X pn xe) cf body F)(hs:∀ev pn,qH (cxE X ev pn) cf (b₀::suite) G)(hg:Gl X t:=by rfl)(hd:(t==("__debug__":Str))=false:=by decide)(hi:X.N[i]? =some n:=by rfl)(hl:X.env.scope.names.lookup n=some .local:=by rfl)(hkl:X.env.kindOf n=some .local:=by rfl):uK X cf (.Try body [.ExceptHandler (some (.Name t np)) (some n) (b₀::suite) hpos] [] [] pos) (C7 i hit F G):=by
 have hb:=λ pn xe h_1=>(hb pn xe h_1).out;have hs:=λ ev pn=>(hs ev pn).out;refine ⟨?_⟩;intro pins s σ H E I ⟨Γ,j,h⟩;let E1:Value->Shared->Prop:=λ e s'=>wpAny (model X.prog X.w) X.A (noteFrame e X.env) (λ _ s₂=>wpAny (model X.prog X.w) X.A (setFlight e none) (λ _ s₃=>wpAny (model X.prog X.w) X.A (handleBy e X.env [.ExceptHandler (some (.Name t np)) (some n) (b₀::suite) hpos]) (SP X pins E) X.xe s₃) X.xe s₂) X.xe s'
 have g1:Good (cxT X (X.pn++pins) E1):=⟨PassesOwn.looking,g.calm,g.nd,g.own⟩;have hF:Fn (cxT X (X.pn++pins) E1) cf H (F Γ) E:=by
  simp only[C7,tryD] at h;cases q:F Γ with
  |nx Γ'=>rw[q] at h;exact h
  |bk Γ'=>rw[q] at h;exact h
  |ct Γ'=>rw[q] at h;exact h
  |rt d=>rw[q] at h;exact λ v H' b t=>h v H' ⟨b.same,b.free⟩ t
  |O3 ds=>rw[q] at h;exact λ v H' S b=>h v H' S ⟨b.same,b.free⟩
  |SQ ds Γ9=>rw[q] at h;exact h
  |Av ds Γ9=>rw[q] at h;exact h
  |bad=>rw[q] at h;exact h
  |err c Γ1=>
   rw[q] at h;intro σ' H' e s' kp j1 r;dsimp only at h;split at h
   ·rename_i hc';refine VT g I.ok r λ a C B a0 H1 H2 s1 h5 ea hc sm1 sm2 I1 nw na os' bare fl cl=>?_;subst ea;have inv:∀h:Heap,B.StaysIn h->h5.UpToSlots h->Inv X pins σ' H2 {s' with heap:=h}:=λ h st up=>I1.Qd (s':={s' with heap:=h}) (ch:=[]) os' (cl h st up).1 (cl h st up).2 bare (λ b z=>absurd z (by simp));have I5:=inv h5 fl.1 (Heap.UpToSlots.refl h5);refine wpAny_handleBy_cons (codeAny_handlers_test (VO I5 hg hT ?_ hd)) (by intro z;cases z);have LT:W.Looks (model X.prog X.w) h5 (typeOf (.ref a)) (.ref C):=by obtain ⟨ob,hob,hcl⟩:=fl.there;rw[<-hcl];exact (W.Looks.ld hob).andThen .now
    refine (W.exm_one I5.xB LT (hh c C true hc hc')).here ?_;refine codeAny_handlers_suite_as ?_;refine lands_againW fl λ h6 fl6 up6=>?_;have I6:=inv h6 fl6.1 up6;have I7:Inv X pins σ' (upd H2 a (.ext (mU a C))) {s' with heap:=h6}:=Inv.ahi I6 na (I1.kept (h':=s1.heap) (t':=s1.toks) λ _ _ z=>z) nw (aiC fl6.there);have k7:aP cf.cb H (upd H2 a (.ext (mU a C))):=((kp.trans (au.keep sm1)).trans (au.keep sm2)).trans (au.keep (aT na _));refine oU (A:=X.A.mark (some (.ref a))) (i:=i) (v:= .ref a) I7 g.nd hi (Or.inl hl) rfl (λ s8 I8=>?_) (.inr hl);have j7:Jx X cf.z (Γ1.set i (.val (.exc c))) (σ'.set i (some (.ref a))) (upd H2 a (.ext (mU a C))):=by refine ((j1.mono (sm1.trans sm2)).mono (aT na _)).set ?_;simp only[Tl];exact ⟨a,C,rfl,hc,aD⟩
    refine wpAny_mono (hs (.ref a) (X.pn++pins) [] s8 _ _ {nx:=λ σ9 H9=>E.nx (σ9.set i none) H9,bk:=λ σ9 H9=>E.bk (σ9.set i none) H9,ct:=λ σ9 H9=>E.ct (σ9.set i none) H9,rt:=E.rt} (Inv.toE I8 (.ref a)) ⟨_,j7,?_⟩) (λ f s9 q9=>?_) λ _ _ z=>z.elim
    ·cases qG:G (Γ1.set i (.val (.exc c))) with
     |nx Γ9=>rw[qG] at h;exact λ σ9 H9 k9 j9=>h _ H9 (k7.trans k9) j9.unset
     |bk Γ9=>rw[qG] at h;exact λ σ9 H9 k9 j9=>h _ H9 (k7.trans k9) j9.unset
     |ct Γ9=>rw[qG] at h;exact λ σ9 H9 k9 j9=>h _ H9 (k7.trans k9) j9.unset
     |rt d=>rw[qG] at h;exact λ v H' b t=>h v H' ⟨b.same,b.free⟩ t
     |O3 ds=>rw[qG] at h;exact λ v H' S b=>h v H' S ⟨b.same,b.free⟩
     |SQ ds Γ9=>rw[qG] at h;exact h
     |Av ds Γ9=>rw[qG] at h;exact h.elim
     |err c' Γ9=>rw[qG] at h;exact h.elim
     |bad=>rw[qG] at h;exact h.elim
    ·cases f with
     |next=>obtain ⟨σ9,H9,I9,q⟩:=q9;exact xG (Inv.ofE I.ok I9) g.nd hi hkl λ s' I'=>⟨_,H9,I',q⟩
     |brk=>obtain ⟨σ9,H9,I9,q⟩:=q9;exact xG (Inv.ofE I.ok I9) g.nd hi hkl λ s' I'=>⟨_,H9,I',q⟩
     |cont=>obtain ⟨σ9,H9,I9,q⟩:=q9;exact xG (Inv.ofE I.ok I9) g.nd hi hkl λ s' I'=>⟨_,H9,I',q⟩
     |ret u=>obtain ⟨v,σ9,H9,I9,rv,q⟩:=q9;exact xG (Inv.ofE I.ok I9) g.nd hi hkl λ s' I'=>⟨v,_,H9,I',rv,q⟩
   ·exact h.elim
 refine wpAny_Try_except (wpAny_mono (hb (X.pn++pins) E1 g1 [] s σ H E (Inv.toT I E1) ⟨Γ,j,hF⟩) (λ f s1 q=>?_) λ e s1 q=>q);cases f with
 |next=>obtain ⟨σ',H',I',q⟩:=q;exact wpAny_execs_nil ⟨σ',H',Inv.ofT I.ok I',q⟩
 |brk=>obtain ⟨σ',H',I',q⟩:=q;exact ⟨σ',H',Inv.ofT I.ok I',q⟩
 |cont=>obtain ⟨σ',H',I',q⟩:=q;exact ⟨σ',H',Inv.ofT I.ok I',q⟩
 |ret u=>obtain ⟨v,σ',H',I',r,q⟩:=q;exact ⟨v,σ',H',Inv.ofT I.ok I',r,q⟩
end
structure XT(K:W.Frag)(C:Addr):Prop where
 ga:W.findIn K (.ref C) "__getattribute__"=some (some (.builtin "BaseException.__getattribute__"))
 gt:W.findIn K (.ref C) "__getattr__"=some none
 ca:W.findIn K (.ref C) "__class__"=some (some (.builtin "object.__class__"))
 mo:W.mroIn K C (.type "object")=some true
 mb:W.subIn K (.ref C) (.type "BaseException")=some true
 cl:(W.clsIn K C).isSome=true
section
open PySem.W Builtin Builtin.ObjectAttr Builtin.Getset_descriptor
variable{prog:Program}{w:World}{A:Around}{E:Value->Shared->Prop}{h:Heap}{g:Array GenState}{d:Drawn}{t:Nat}{os:OsState}{a C:Addr}{K:Frag}
def OS{M:Model}(p:mU a C h):Looks M h (typeOf (.ref a)) (.ref C):=by obtain ⟨o,h1,h2⟩:=p;exact h2▸(Looks.ld h1).andThen .now
def adg{R:Result->Shared->Prop}(X:K.In h)(T:XT K C)(p:mU a C h)(hq:R (.ok (.ret (.ref C))) ⟨h,g,d,t,os⟩):
  codeAny (model prog w) A (.call (.builtin "getset_descriptor.__get__") ⟨[.builtin "object.__class__",.ref a,.ref C],[]⟩) R ⟨h,g,d,t,os⟩:=by
 have la:=OS (M:=model prog w) p;have lb:=looks_mroIn (M:=model prog w) X T.mo;refine codeAny_call_builtin KF.slot_gs.plain KF.entry_gs
  (KF.slot_gs.check _ _ _ _ _ _ _ _ KF.type_class (KF.args_gs _ _ _) ?_)
 unfold Builtin.«getset_descriptor.__get__» descrGet;rw[dga_obj];refine wpAny_bind (wpAny_pure ?_);unfold descrGetter descrCheckInstance descrNameAndClass isInstance;simp only[KF.owner_class];repeat lk
 refine ⟨Code.quiet_builtin _ (by decide+kernel),codeAny_builtin KF.entry_class ?_⟩;unfold Builtin.«object.__class__» shownTypeOf;repeat lk
 exact hq
def Tc{tk:Tok}{Q:Fin->Shared->Prop}(X:K.In h)(T:XT K C)(p:mU a C h)(hq:Q (.done (.ret (.ref C))) ⟨h,g,d,t,os⟩):
  wpAny (model prog w) A (Builtin.«object.__getattribute__» ⟨[.ref a,.str "__class__" tk],[]⟩) Q E ⟨h,g,d,t,os⟩:=by
 have hT5:(⟨h,g,d,t,os⟩:Shared).TypeIs (.builtin "object.__class__") "getset_descriptor":=F.typeOf_object_class;have f5:=F.typeOf_object_class;have f6:=F.slot_gs_get.lookup;have f7:=F.slot_gs_set.lookup;have la:=OS (M:=model prog w) p;have lb:=looks_findIn (M:=model prog w) X T.ca;obtain ⟨o,h1,h2⟩:=p;repeat (any_goals (first|assumption|(with_reducible refine wpAny_loadPart_at h1 ?_;rw[h2])|with_reducible refine Looks.at lb ?_|wp_step))
 refine adg X T ⟨o,h1,h2⟩ ?_;repeat (any_goals (first|assumption|wp_step))
def Td{nameV:Value}{Q:Unit->Shared->Prop}(X:K.In h)(T:XT K C)(p:mU a C h)(hq:Q () ⟨h,g,d,t,os⟩):
  wpAny (model prog w) A (checkBuiltinCall "BaseException.__getattribute__" ⟨[.ref a,nameV],[]⟩) Q E ⟨h,g,d,t,os⟩:=by
 have hk:builtinKind "BaseException.__getattribute__"=some .slot:=by decide+kernel
 have EM:splitId "BaseException.__getattribute__"=some ("BaseException","__getattribute__"):=by decide+kernel
 have hargs:=F.args_bexc_ga (.ref a) nameV;have la:=OS (M:=model prog w) p;have lb:=looks_subIn (M:=model prog w) X T.mb;simp only[checkBuiltinCall,hk,EM];refine wpAny_bind ?_;unfold isInstance;obtain ⟨o,h1,h2⟩:=p;repeat (first|(with_reducible refine wpAny_loadPart_at h1 ?_;rw[h2])|with_reducible refine Looks.at lb ?_|wp_step)
 exact hq
def Zb{tk:Tok}{R:Result->Shared->Prop}(X:K.In h)(T:XT K C)(p:mU a C h)(hq:R (.ok (.ret (.ref C))) ⟨h,g,d,t,os⟩):
  codeAny (model prog w) A (.call (.builtin "BaseException.__getattribute__") ⟨[.ref a,.str "__class__" tk],[]⟩) R ⟨h,g,d,t,os⟩:=
 codeAny_call_builtin F.attr_ValueError.ga.plain F.entry_bexc_ga (Td X T p (Tc X T p hq))
def ag6{tk:Tok}{Q:Value->Shared->Prop}(X:K.In h)(T:XT K C)(p:mU a C h)(hq:Q (.ref C) ⟨h,g,d,t,os⟩):
  wpAny (model prog w) A (getAttrBy (.ref a) (.str "__class__" tk) false) Q E ⟨h,g,d,t,os⟩:=by
 have f3:=F.attr_ValueError.ga.bind (.ref a);have hx2:(Value.builtin "BaseException.__getattribute__"==Value.builtin "object.__getattribute__")=false:=by decide+kernel
 have hx1:(onTheHeap (Value.ref C)&&Value.builtin "BaseException.__getattribute__"==Value.builtin "object.__getattribute__")=false:=by rw[hx2];rfl
 have lb:=looks_findIn (M:=model prog w) X T.ga;have lc:=looks_findIn (M:=model prog w) X T.gt;obtain ⟨o,h1,h2⟩:=p;repeat (any_goals (first|assumption|(with_reducible refine wpAny_loadPart_at h1 ?_;rw[h2])|with_reducible refine Looks.at lb ?_|with_reducible refine Looks.at lc ?_|wp_step))
 refine Zb X T ⟨o,h1,h2⟩ ?_;repeat (any_goals (first|assumption|wp_step))
def V2(T:XT K C):KitX K (.ref a) (.ref C) (mU a C) where
 ty:=λ _ _ _ p=>OS p
 it:=λ _ _ X _=>by
  have z:=T.cl
  unfold clsIn at z
  split at z
  ·rename_i c' d' cd' HW ho
   intro A' Q' E' s' k q
   unfold isType loadHead
   exact wpAny_bind (wpAny_loadPart (k _ _ (X _ _ ho))
    (wpAny_pure q))
  ·cases z
 ne:=λ h tp dd its n sl X htp=>by
  have z:=T.cl
  refine Bool.eq_false_iff.mpr λ q=>?_
  have e:C=tp:=Value.ref.inj (beq_iff_eq.mp q)
  subst e
  unfold clsIn at z
  split at z
  ·rename_i ho
   have z:=(X _ _ ho).symm.trans htp
   cases z
  ·cases z
 ca:=λ{_ _ _ _ _ s} X p k=>by
  obtain ⟨h,g,d,t,os⟩:=s
  unfold getAttr? getAttrBy?
  repeat (any_goals (first|assumption|with_reducible apply ag6 X T p|wp_step))
end
structure IC(K:W.Frag)(C:Addr):Prop where
 cl:HV K C
 ha:W.findIn K (.ref C) "__class__"=some (some (.builtin "object.__class__"))
 hn:W.specialIn K (.builtin "object.__class__") "__get__"=some (some (.builtin "getset_descriptor.__get__"))
 tk:W.takesIn K (.builtin "object.__class__")=some true
 hm:W.mroIn K C (.type "object")=some true
structure XTs(K:W.Frag)(cb:Cb)(mt:List (String×List String)):Prop where
 xt:∀c C,cb.exc c=some C->(mt.lookup c).isSome=true->XT K C
 ic:∀c C ns,cb.cls c=some (C,ns)->IC K C
structure Ql(K:W.Frag)(cb:Cb)(mt:List (String×List String))(cv:Value)(n:String):Prop where
 nn:W.kitOne K (.type "NoneType") cv=some (["NoneType"].contains n)
 bb:W.kitOne K (.type "bool") cv=some (["bool","int"].contains n)
 ii:W.kitOne K (.type "int") cv=some (["int"].contains n)
 ss:W.kitOne K (.type "str") cv=some (["str"].contains n)
 tt:W.kitOne K (.type "tuple") cv=some (["tuple"].contains n)
 ll:W.kitOne K (.type "list") cv=some (["list"].contains n)
 dd:W.kitOne K (.type "dict") cv=some (["dict"].contains n)
 own:∀c C ks,cb.exc c=some C->mt.lookup c=some ks->W.kitOne K (.ref C) cv=some (ks.contains n)
 ins:∀c C ns ks,cb.cls c=some (C,ns)->mt.lookup c=some ks->W.kitOne K (.ref C) cv=some (ks.contains n)
def Ce{X:Cx}{ct:Ct}{mt:List (String×List String)}{pins:List (Addr×Obj)}{σ:St}{H:Hp}{s:Shared}{d:D}{v:V}{u:Value}{ks:List String}(I:Inv X pins σ H s)(lL:au ct.f.L H)(lB:au ct.B H)(t:Tl X.K ct H d v)(r:RelV v u)(hk:kinds mt d=some ks) (hx:XTs X.K ct.f.cb mt):
  u≠.builtin "__main__.__loader__#opaque"/\∃(ty:Value) (P:Heap->Prop),W.KitX X.K u ty P/\P s.heap/\∀cv n,Ql X.K ct.f.cb mt cv n->W.kitOne X.K ty cv=some (ks.contains n):=by
 cases d with
 |dY=>simp only[Tl] at t;subst t;cases r;cases hk;exact ⟨(λ z=>nomatch z),_,_,W.kitx_none,trivial,λ cv n k=>k.nn⟩
 |bl b=>simp only[Tl] at t;subst t;cases r;cases hk;exact ⟨(λ z=>nomatch z),_,_,W.kitx_bool,trivial,λ cv n k=>k.bb⟩
 |int i=>simp only[Tl] at t;subst t;obtain ⟨tk,rfl⟩:=r;cases hk;exact ⟨(λ z=>nomatch z),_,_,W.kitx_int,trivial,λ cv n k=>k.ii⟩
 |str x=>simp only[Tl] at t;subst t;obtain ⟨tk,rfl⟩:=r;cases hk;exact ⟨(λ z=>nomatch z),_,_,W.kitx_str,trivial,λ cv n k=>k.ss⟩
 |tup ds=>simp only[Tl] at t;obtain ⟨a,vs,rfl,t1,_⟩:=t;cases r;cases hk;obtain ⟨its,_,⟨o,h1,h2,_⟩,_⟩:=I.tuple (lZ t1);exact ⟨(λ z=>nomatch z),_,_,W.kitx_tuple,⟨o,h1,h2⟩,λ cv n k=>k.tt⟩
 |gt ds=>simp only[Tl] at t;obtain ⟨a,vs,rfl,t1,_⟩:=t;cases r;cases hk;obtain ⟨its,_,⟨o,h1,h2,_⟩,_⟩:=I.tuple t1.sq;exact ⟨(λ z=>nomatch z),_,_,W.kitx_tuple,⟨o,h1,h2⟩,λ cv n k=>k.tt⟩
 |lst ds=>simp only[Tl] at t;obtain ⟨a,vs,rfl,t1,_⟩:=t;cases r;cases hk;obtain ⟨its,_,⟨o,_,h1,h2,_⟩,_⟩:=I.list t1.sq;exact ⟨(λ z=>nomatch z),_,_,W.kitx_list,⟨o,h1,h2⟩,λ cv n k=>k.ll⟩
 |bor tm ds=>obtain ⟨a,vs,rfl,t1,_⟩:=t.jK lL lB rfl;cases r;cases hk;obtain ⟨its,_,⟨o,_,h1,h2,_⟩,_⟩:=I.list t1;exact ⟨(λ z=>nomatch z),_,_,W.kitx_list,⟨o,h1,h2⟩,λ cv n k=>k.ll⟩
 |uh ks' xs=>
  simp only[Tl] at t;obtain ⟨a,vs,rfl,⟨o,t1⟩,_⟩:=t;cases r;cases hk;cases ks' with
  |s _=>obtain ⟨_,_,_,vs',_,o',es,ep,h1,h2,_⟩:=I.hok a _ t1;exact ⟨(λ z=>nomatch z),_,_,W.kitx_dict,⟨o',h1,h2.1⟩,λ cv n k=>k.dd⟩
  |t _=>obtain ⟨_,_,_,vs',_,o',es,ep,h1,h2,_⟩:=I.hok a _ t1;exact ⟨(λ z=>nomatch z),_,_,W.kitx_dict,⟨o',h1,h2.1⟩,λ cv n k=>k.dd⟩
 |oq tm ks' xs=>
  simp only[Tl] at t;obtain ⟨a,vs,rfl,t1,_⟩:=t;cases r;cases hk;have t2:H a=some (ks'.ho vs):=by
   cases tm with
   |true=>exact lB a _ t1
   |false=>exact lL a _ t1
  cases ks' with
  |s _=>obtain ⟨_,_,vs',_,o',es,ep,h1,h2,_⟩:=I.hok a _ t2;exact ⟨(λ z=>nomatch z),_,_,W.kitx_dict,⟨o',h1,h2.1⟩,λ cv n k=>k.dd⟩
  |t _=>obtain ⟨_,_,vs',_,o',es,ep,h1,h2,_⟩:=I.hok a _ t2;exact ⟨(λ z=>nomatch z),_,_,W.kitx_dict,⟨o',h1,h2.1⟩,λ cv n k=>k.dd⟩
 |vp tm c ns xs=>cases hk
 |obj c ns xs=>simp only[Tl] at t;obtain ⟨a,C,dx,vs,rfl,hc,ha,_⟩:=t;cases r;have hk:mt.lookup c=some ks:=hk;obtain ⟨mA,O,_⟩:=xD I.hok ha;obtain ⟨od,J,_⟩:=O.look;have ic:=hx.ic c C ns hc;exact ⟨(λ z=>nomatch z),_,_,W.kitx_own (ic.cl.get _) ic.cl.hd ic.ha ic.hn ic.tk ic.hm,J,λ cv n k=>k.ins c C ns ks hc hk⟩
 |exc c=>simp only[Tl] at t;obtain ⟨a,C,rfl,hc,ha⟩:=t;cases r;obtain ⟨p,_⟩:=I.hok a _ ha;have hk:mt.lookup c=some ks:=hk;exact ⟨(λ z=>nomatch z),_,_,V2 (hx.xt c C hc (by rw[hk];rfl)),p,λ cv n k=>k.own c C ks hc hk⟩
section
variable{X:Cx}{ct:Ct}{mt:List (String×List String)}{a b e:Expr}{f g:Sg->Res D}{c:Str}{n:String}{cv:Value}{p p2 pos:Pos}
structure YU(X:Cx)(c:Str)(v:V)(u:Value):Prop where
 rel:RelV v u
 one:∀u',RelV v u'->u'=u
 ld:(X.mg c=some u)\/(X.mg c=none/\bootBuiltins c=some u/\c≠"__name__")
def kJ{C:Addr}(h:X.mg c=some (.ref C)):YU X c (.ref C) (.ref C):=⟨rfl,λ _ z=>z,.inl h⟩
def ql{T:String}(h:X.mg c=none)(hv:bootBuiltins c=some (.type T))(hn:c≠"__name__"):YU X c (.ty T) (.type T):=⟨rfl,λ _ z=>z,.inr ⟨h,hv,hn⟩⟩
def UY{v:V}{u:Value}{pos:Pos}(h:YU X c v u)(hg:Gl X c:=by rfl)(hd:(c==("__debug__":Str))=false:=by decide):PE X (.Name c pos) (tC v):=by
 rcases h.ld with q|⟨q1,q2,q3⟩
 ·exact Pb hg q h.rel hd
 ·exact Z7 hg q1 q2 h.rel q3 hd
def CH{v:V}{u:Value}{pos:Pos}(h:YU X c v u)(hg:Gl X c:=by rfl)(hd:(c==("__debug__":Str))=false:=by decide):WE X (.Name c pos) (tC v):=⟨UY (h:=h) (hg:=hg) (hd:=hd)⟩
def Xw{y:V}(hx:XTs X.K ct.f.cb mt)(hk:Ql X.K ct.f.cb mt cv n)(hy:∀u,RelV y u->u=cv):n9 X (.builtin "isinstance") (λ xs H Q=>au ct.f.L H/\au ct.B H/\∃d v ks,xs=[v,y]/\Tl X.K ct H d v/\kinds mt d=some ks/\Q (.bl (ks.contains n)) H):=by
 intro pins s σ H xs us Q I r ⟨lL,lB,d,v,ks,ex,t,hd,q⟩;subst ex;cases r with
 |cons r1 r2=>
  cases r2 with
  |cons r2 r3=>cases r3;obtain ⟨nb,ty,P,Z,pp,k⟩:=Ce I lL lB t r1 hd hx;rw[hy _ r2];exact W.kia_one Z I.xB pp (k cv n hk) nb λ tk=>⟨.bl _,H,I.tok tk,rfl,q⟩
def PK{cs:List String}{d x:D}(h:vh mt cs d= .ok x):∃ks,kinds mt d=some ks/\x= .bl (cs.any λ c=>ks.contains c):=by
 unfold vh at h;split at h
 ·rename_i ks hk;cases h;exact ⟨ks,hk,rfl⟩
 ·cases h
def PN{cs:List String}{d:D}{c:String}:vh mt cs d≠.err c:=by unfold vh;split<;>exact λ z=>nomatch z
def m6{y:V}(hm:X.mg "isinstance"=none)(hx:XTs X.K ct.f.cb mt)(hk:Ql X.K ct.f.cb mt cv n)(hc:YU X c y cv)(he:WD X ct e f)(hg:Gl X "isinstance":=by rfl)(hgc:Gl X c:=by rfl)(hdc:(c==("__debug__":Str))=false:=by decide)(hs:starEach [e,.Name c p2] X.env=(false,eval e X.env)::starEach [.Name c p2] X.env:=by rfl)(hs2:starEach [.Name c p2] X.env=(false,eval (.Name c p2) X.env)::starEach [] X.env:=by rfl)(hpl:(backTo pos (starEach [.Name c p2] X.env)).any (·.1)=false:=by rfl):WD X ct (.Call (.Name "isinstance" p) [e,.Name c p2] [] pos) (uv mt [n] f):=by
 have he:=he.out;refine ⟨?_⟩;refine PE.imp (jw (Xw hx hk hc.one) hg hm PyProof.Rows.boot_isinstance (ja he (ja (UY hc hgc hdc) qY hs2) hs) (by decide) (by decide) hs hpl) λ σ H Q ⟨Γ,j,h⟩=>?_;refine nY.bnd j h λ d v H' s t j' h'=>?_;cases q:vh mt [n] d with
 |bad=>rw[q] at h';exact h'.elim
 |err c=>exact (PN q).elim
 |ok x=>rw[q] at h';obtain ⟨ks,hks,rfl⟩:=PK q;exact ⟨j'.lL,j'.lB,d,v,ks,rfl,t,hks,by simpa using h' (.bl _) H' s (by simp[Tl])⟩
def zj{K:W.Frag}{ty:Value}{ks:List String}:∀{Xh:List Value} {ns:List String},Paired (λ cv n=>W.kitOne K ty cv=some (ks.contains n)) Xh ns->W.kitAny K ty Xh=some (ns.any λ c=>ks.contains c)
 |_,_,.nil=>rfl
 |_,_,.cons r t=>by
  unfold W.kitAny;rw[r,List.any_cons];cases ks.contains _ with
  |true=>rfl
  |false=>simpa using zj t
def Si{ys:List V}{Xh:List Value}{ns:List String}(hx:XTs X.K ct.f.cb mt)(hk:Paired (Ql X.K ct.f.cb mt) Xh ns)(hy:∀us,Vals ys us->us=Xh):
  n9 X (.builtin "isinstance") (λ xs H Q=>au ct.f.L H/\au ct.B H/\∃d v ks a,xs=[v,.ref a]/\H a=some (.tup ys)/\Tl X.K ct H d v/\kinds mt d=some ks/\Q (.bl (ns.any λ c=>ks.contains c)) H):=by
 intro pins s σ H xs us Q I r ⟨lL,lB,d,v,ks,a,ex,ha,t,hd,q⟩;subst ex;cases r with
 |cons r1 r2=>
  cases r2 with
  |cons r2 r3=>cases r3;cases r2;obtain ⟨nb,ty,P,Z,pp,k⟩:=Ce I lL lB t r1 hd hx;obtain ⟨_,its,ri,o,h1,h2,m,h3⟩:=I.hok a _ ha;have e:=hy _ ri;subst e;obtain ⟨oc,od,odt,osl⟩:=o;simp only at h2 h3;subst h2 h3;exact W.kia_tup Z I.xB pp h1 (zj (Paired.aaA hk λ cv n z=>k cv n z)) nb λ tk=>⟨.bl _,H,I.tok tk,rfl,q⟩
def OU{ys:List V}{Xh:List Value}{ns:List String}{cs:List Expr}{t:TA}{x1}(hm:X.mg "isinstance"=none)(hx:XTs X.K ct.f.cb mt)(hk:Paired (Ql X.K ct.f.cb mt) Xh ns)(hy:∀us,Vals ys us->us=Xh)(he:WD X ct e f)(hc:WA X cs t)(ht:∀σ H Q,Q ys H->t σ H Q)(hl:ys.length<=100)(hg:Gl X "isinstance":=by rfl)(hs:starEach [e,.Tuple cs x1 p2] X.env=(false,eval e X.env)::starEach [.Tuple cs x1 p2] X.env:=by rfl)(hs2:starEach [.Tuple cs x1 p2] X.env=(false,eval (.Tuple cs x1 p2) X.env)::starEach [] X.env:=by rfl)(hpl:(backTo pos (starEach [.Tuple cs x1 p2] X.env)).any (·.1)=false:=by rfl):WD X ct (.Call (.Name "isinstance" p) [e,.Tuple cs x1 p2] [] pos) (uv mt ns f):=by
 have he:=he.out;have hc:=hc.out;refine ⟨?_⟩;refine PE.imp (jw (Si hx hk hy) hg hm PyProof.Rows.boot_isinstance (ja he (ja (UT hc) qY hs2) hs) (by decide) (by decide) hs hpl) λ σ H Q ⟨Γ,j,h⟩=>?_;refine nY.bnd j h λ d v H' s t' j' h'=>?_;cases q:vh mt ns d with
 |bad=>rw[q] at h';exact h'.elim
 |err c=>exact (PN q).elim
 |ok x=>rw[q] at h';obtain ⟨ks,hks,rfl⟩:=PK q;refine ht σ H' _ ⟨Nat.le_of_lt (qa (by omega)),λ a ha=>?_⟩;have s2:=aT ha (.tup ys);exact ⟨j'.lL.trans s2,j'.lB.trans s2,d,v,ks,a,rfl,aD,t'.keep (au.keep s2),hks,h' (.bl _) _ (s.trans s2) (by simp[Tl])⟩
def Cy{K:W.Frag}{H:Hp}:∀{ds:List D} {bs:List Bool} {vs:List V},bools ds=some bs->aE K ct H ds vs->vs=bs.map V.bl
 |[],_,vs,h,t=>by cases h;simpa[aE] using t
 | .bl b::r,bs,vs,h,t=>by simp only[bools,Option.map_eq_some_iff] at h;obtain ⟨rs,h1,rfl⟩:=h;simp only[aE,Tl] at t;obtain ⟨v,vr,rfl,rfl,t2⟩:=t;rw[Cy h1 t2];rfl
 | .dY::_,_,_,h,_=>by cases h
 | .int _::_,_,_,h,_=>by cases h
 | .str _::_,_,_,h,_=>by cases h
 | .tup _::_,_,_,h,_=>by cases h
 | .gt _::_,_,_,h,_=>by cases h
 | .lst _::_,_,_,h,_=>by cases h
 | .obj _ _ _::_,_,_,h,_=>by cases h
 | .exc _::_,_,_,h,_=>by cases h
 | .bor _ _::_,_,_,h,_=>by cases h
 | .uh _ _::_,_,_,h,_=>by cases h
 | .oq _ _ _::_,_,_,h,_=>by cases h
 | .vp _ _ _ _::_,_,_,h,_=>by cases h
def range_all(bs:List Bool):(List.range bs.length).all (λ i=>bs.getD i false)=bs.all id:=by
 rw[Bool.eq_iff_iff,List.all_eq_true,List.all_eq_true];constructor
 ·intro h b hb;obtain ⟨i,hi,rfl⟩:=List.getElem_of_mem hb;have:=h i (List.mem_range.mpr hi);simpa[List.getD_eq_getElem?_getD,hi] using this
 ·intro h i hi;have hi:=List.mem_range.mp hi;simpa[List.getD_eq_getElem?_getD,hi] using h bs[i] (List.getElem_mem hi)
def Ip{pins:List (Addr×Obj)}{σ:St}{H:Hp}{s:Shared}{A:Around}{l:Addr}{bs:List Bool}{R:Value->Shared->Prop}{E:Value->Shared->Prop}(I:Inv X pins σ H s)(hA:A.handled=none)(hs:oA X.K H l (bs.map V.bl)) (k:∀I' fp wr n P St tr it s₂,it= .ref I'->Walks X.prog X.w A I' fp wr n P St->St 0 s₂.heap->TruthOf X.prog X.w A P tr->n=bs.length->tr=(λ i=>bs.getD i false)->(∀h' tk,(∀b o,b∉wr->s₂.heap.get? b=some o->h'.get? b=some o)->Inv X pins σ H {s₂ with heap:=h',toks:=tk})->R it s₂):wpAny (model X.prog X.w) A (pyIter (.ref l)) R E s:=by
 obtain ⟨its,ri,⟨o,n,h1,h2,sf,h3⟩,_⟩:=I.list hs;have hl:s.heap.IsList l its.toArray:=⟨o,h1,h2,n,h3⟩;have hlen:its.length=bs.length:=by rw[<-ri.length,List.length_map]
 refine wpAny_pyIter_list hl ?_;have hne:l≠s.heap.objs.size:=Nat.ne_of_lt (Heap.lt_size h1);refine k _ _ _ _ _ _ (λ i=>bs.getD i false) _ _ rfl (Walks.list hA s.heap.objs.size l hne its.toArray) ⟨⟨_,Heap.get?_push_size _ rfl,rfl,rfl⟩,⟨o,Heap.get?_push_of_some _ h1,h2,n,h3⟩⟩ ?_ (by simpa using hlen) rfl λ h' tk kp=>?_
 ·intro i v s' Q' E' hP hq;have hP:its.toArray[i]? =some v:=hP;rw[List.getElem?_toArray] at hP;have hi:i<bs.length:=by rw[<-hlen];exact (List.getElem?_eq_some_iff.mp hP).1
  obtain ⟨u,e1,e2⟩:=ri.get (i:=i) (x:= .bl bs[i]) (by rw[List.getElem?_map,List.getElem?_eq_getElem hi];rfl);rw[hP] at e1;cases e1;cases e2;have:bs.getD i false=bs[i]:=by simp[List.getD_eq_getElem?_getD,hi]
  have hq:Q' (bs.getD i false) s':=hq;rw[this] at hq;exact wpAny_pure hq
 ·refine I.kept (h':=h') (t':=tk) λ b ob e=>kp b ob ?_ (Heap.get?_push_of_some _ e);simp only[List.mem_singleton];exact Nat.ne_of_lt (Heap.lt_size e)
def Xx(hc:X.calm=true):n9 X (.builtin "all") (λ xs H Q=>∃(l:Addr) (bs:List Bool),xs=[.ref l]/\oA X.K H l (bs.map V.bl)/\Q (.bl (bs.all id)) H):=by intro pins s σ H xs us Q I r ⟨l,bs,ex,hs,q⟩;subst ex;obtain ⟨u,rfl,ru⟩:=vals1 r;cases ru;refine call_all_walk (Ip I (I.ok.hd hc) hs λ I' fp wr n P St tr it s₂ e W st tt en et kp=>?_);subst en et;exact ⟨I',fp,wr,_,P,St,_,e,W,st,tt,λ h' tk k=>by rw[range_all];exact ⟨.bl _,H,kp h' tk k,rfl,q⟩⟩
def adB{fa:Sg->Res (List D)}(hc:X.calm=true)(hm:X.mg "all"=none)(ha:xO X ct [e] fa)(hg:Gl X "all":=by rfl)(he:starEach [e] X.env=(false,eval e X.env)::starEach [] X.env:=by rfl):WD X ct (.Call (.Name "all" p) [e] [] pos) (xM abK fa):=by
 have ha:=ha.out;refine ⟨?_⟩;refine PE.imp (jw (Xx hc) hg hm PyProof.Rows.boot_all ha (by decide) (by decide) he rfl) (Qc λ σ H vs ds Q lL lB t h=>?_);unfold abK at h;split at h
 ·split at h
  ·rename_i es he';split at h
   ·rename_i bs hb;obtain ⟨v,rfl,tv⟩:=wc t;obtain ⟨l,us,rfl,h1,h2⟩:=tv.jK lL lB he';rw[Cy hb h2] at h1;exact ⟨l,bs,rfl,h1,h _ H (au.refl H) (by simp[Tl])⟩
   ·exact h.elim
  ·exact h.elim
 ·exact h.elim
end
def afA:bootBuiltins "int"=some (.type "int"):=by decide+kernel
def abD:bootBuiltins "bool"=some (.type "bool"):=by decide+kernel
def z6:bootBuiltins "tuple"=some (.type "tuple"):=by decide+kernel
def abC:bootBuiltins "list"=some (.type "list"):=by decide+kernel
def TL:∀us,Vals [] us->us=[]:=λ us h=>by cases h;rfl
def CM{C:Addr}{ys:List V}{Xh:List Value}(t:∀us,Vals ys us->us=Xh):∀us,Vals (.ref C::ys) us->us= .ref C::Xh:=λ us r=>by
 cases r with
 |cons r1 r2=>cases r1;rw[t _ r2]
section
variable{X:Cx}{ct:Ct}{c:Cf}{k n:Nat}{f:Addr}{fd:FuncData}{ps:List Str}{F:List Slot->cJ}{x:Str}{p pos:Pos}{e:Expr}{es:List Expr}{fa:Sg->Res (List D)}
def jn(G:i6 X.prog X.w X.K X.mg X.base c.z.f.cb k f fd ps F)(hr:dQ k X.A)(hm:X.mg x=some (.ref f))(hk:W.keepIn X.K (.ref f)=true)(hb:Binds X.K fd ps [])(ha:xO X c.z (e::es) fa)(hn:ps.length=n:=by rfl)(hg:Gl X x:=by rfl)(hdb:(x==("__debug__":Str))=false:=by decide)(he:starEach (e::es) X.env=(false,eval e X.env)::starEach es X.env:=by rfl)(hpl:(backTo pos (starEach es X.env)).any (·.1)=false:=by rfl):WD X c.z (.Call (.Name x p) (e::es) [] pos) (ez n F fa):=by have ha:=ha.out;refine ⟨?_⟩;subst hn;exact U1 (oY (eU c) G hr hm hk hb ha hg hdb he hpl)
def lN(G:i6 X.prog X.w X.K X.mg X.base ct.f.cb k f fd ps F)(hr:dQ k X.A)(hm:X.mg x=some (.ref f))(hk:W.keepIn X.K (.ref f)=true)(hb:Binds X.K fd ps [])(ha:xO X ct (e::es) fa)(hn:ps.length=n:=by rfl)(hg:Gl X x:=by rfl)(hdb:(x==("__debug__":Str))=false:=by decide)(he:starEach (e::es) X.env=(false,eval e X.env)::starEach es X.env:=by rfl)(hpl:(backTo pos (starEach es X.env)).any (·.1)=false:=by rfl):WD X ct (.Call (.Name x p) (e::es) [] pos) (fT n F fa):=by have ha:=ha.out;refine ⟨?_⟩;subst hn;exact U4 (oY (Pu ct) G hr hm hk hb ha hg hdb he hpl)
def Tj(G:i6 X.prog X.w X.K X.mg X.base ct.f.cb k f fd ps F)(hr:dQ k X.A)(hm:X.mg x=some (.ref f))(hk:W.keepIn X.K (.ref f)=true)(hb:Binds X.K fd ps [])(ha:xO X ct (e::es) fa)(hn:ps.length=n:=by rfl)(hg:Gl X x:=by rfl)(hdb:(x==("__debug__":Str))=false:=by decide)(he:starEach (e::es) X.env=(false,eval e X.env)::starEach es X.env:=by rfl)(hpl:(backTo pos (starEach es X.env)).any (·.1)=false:=by rfl):WM X ct (.Call (.Name x p) (e::es) [] pos) (pI n F fa):=by have ha:=ha.out;refine ⟨?_⟩;subst hn;exact FF (oY (Pu ct) G hr hm hk hb ha hg hdb he hpl)
def oO(G:i6 X.prog X.w X.K X.mg X.base ct.f.cb k f fd ps F)(hr:dQ k X.A)(hm:X.mg x=some (.ref f))(hk:W.keepIn X.K (.ref f)=true)(hb:Binds X.K fd ps [])(ha:xO X ct (e::es) fa)(hn:ps.length=n:=by rfl)(hg:Gl X x:=by rfl)(hdb:(x==("__debug__":Str))=false:=by decide)(he:starEach (e::es) X.env=(false,eval e X.env)::starEach es X.env:=by rfl)(hpl:(backTo pos (starEach es X.env)).any (·.1)=false:=by rfl):WD X ct (.Call (.Name x p) (e::es) [] pos) (d7 n F fa):=by have ha:=ha.out;refine ⟨?_⟩;subst hn;exact U3 (oY (Pr ct) G hr hm hk hb ha hg hdb he hpl)
def adw(G:i6 X.prog X.w X.K X.mg X.base ct.f.cb k f fd ps F)(hr:dQ k X.A)(hm:X.mg x=some (.ref f))(hk:W.keepIn X.K (.ref f)=true)(hb:Binds X.K fd ps [])(ha:xO X ct (e::es) fa)(hn:ps.length=n:=by rfl)(hg:Gl X x:=by rfl)(hdb:(x==("__debug__":Str))=false:=by decide)(he:starEach (e::es) X.env=(false,eval e X.env)::starEach es X.env:=by rfl)(hpl:(backTo pos (starEach es X.env)).any (·.1)=false:=by rfl):WM X ct (.Call (.Name x p) (e::es) [] pos) (rJ n F fa):=by have ha:=ha.out;refine ⟨?_⟩;subst hn;exact FE (oY (Pr ct) G hr hm hk hb ha hg hdb he hpl)
end
def spL(K:W.Frag):Sp:=λ vs H Q _=>∃(a:Addr) (ns:List Int),vs=[.ref a]/\FzL K H a (ns.map V.int)/\ns.length<=63/\∀H',Q (.bl true) H'
def E7{K:W.Frag}{ct:Ct}{H:Hp}:∀ns:List Int,aE K ct H (ns.map D.int) (ns.map V.int)
 |[]=>by simp[aE]
 |n::ns=>aE.cons (by simp[Tl]) (E7 ns)
def ahg{l:W.OpenLaw}{q:Program}{loose:List Str}{XP:(Str->Option Value)->Heap->Prop}{YP:World->Heap->Prop}{d:DefRec}{K:Params->W.Frag}{k:Nat}{F:List Slot->cJ}(hn:l.most=some 63)(hdf:d.params.defaults=[]) (h1:callerA.depth+3*k+5<recursionLimit) (h2:callerA.units+16*k+200<cLine) (hY:∀(w:World) (h:Heap),YP w h->(K w.params).In h) (hF:∀(w:World) (mg:Str->Option Value) (fa:Addr) (h:Heap),(K w.params).In h->h.Ns mainGlobals mg->mg d.name=some (.ref fa)->∃(cb:Cb) (fd:FuncData),(∀(s:Shared) (u:Value),BindsTo s fd ⟨[u],[]⟩ [("_law_script",u)])/\∀base:Heap,i6 l.prog w (K w.params) mg base cb k fa fd ["_law_script"] F) (ht:∀ns:List Int,ns.length<=63->F [.val (.lst (ns.map D.int))]= .ok (.bl true)):W.WalkO q loose XP YP l.row.toRowW d [] (λ f vs=>PySem.call f vs):=by
 refine L2.Zu (n:=63) (k:=k) (x:="_law_script") (K:=K) (CX:=λ w=>EO l.prog w) (sp:=λ w=>spL (K w.params)) hn (by decide) hdf ⟨rfl,h1,h2⟩ hY (λ w mg fa h X G hm=>?_) (λ w H a ns hl hO hS=>⟨a,ns,rfl,?_,hl,λ _=>rfl⟩) (λ w H s e s' z=>?_)
 ·obtain ⟨cb,fd,hb,hf⟩:=hF w mg fa h X G hm;refine ⟨fd,hb,λ base _ _=>(hf base).imp λ vs H Q E ⟨a,ns,e1,fz,hl,hq⟩=>?_⟩;subst e1;refine ⟨rfl,iy cb (λ _=>none) [.ref a],[.val (.lst (ns.map D.int))],rfl,rfl,V9 (ds:=[.lst (ns.map D.int)]) (λ _ _ q=>nomatch q) (aE.cons ?_ aE.nil),?_⟩
  ·simp only[Tl];exact ⟨a,_,rfl,fz,E7 ns⟩
  ·rw[ht ns hl];intro v H' _ _ tv;simp only[Tl] at tv;subst tv;exact hq H'
 ·rcases hS with (h|⟨o,h⟩)|h
  ·rcases hO a with z|⟨o,xs,z⟩
   ·rw[z] at h;cases h
   ·rw[z] at h;cases h
  ·exact .inl ⟨o,h⟩
  ·exact .inr h
 ·obtain ⟨_,_,_,_,_,_,z,_⟩:=z;exact z.elim
def walkZ{l:W.OpenLaw}{q:Program}{loose:List Str}{XP:(Str->Option Value)->Heap->Prop}{d:DefRec}{K:Params->W.Frag}{as:List Addr}{nz tz:Nat}{k:Nat}{F:List Slot->cJ}(hn:l.most=some 63)(hdf:d.params.defaults=[]) (h1:callerA.depth+3*k+5<recursionLimit) (h2:callerA.units+16*k+200<cLine) (hK:∀P,as=(K P).map (·.1)) (hF:∀(w:World) (mg:Str->Option Value) (fa:Addr) (h:Heap),(K w.params).In h->h.Ns mainGlobals mg->mg d.name=some (.ref fa)->∃(cb:Cb) (fd:FuncData),(∀(s:Shared) (u:Value),BindsTo s fd ⟨[u],[]⟩ [("_law_script",u)])/\∀base:Heap,i6 l.prog w (K w.params) mg base cb k fa fd ["_law_script"] F) (ht:∀ns:List Int,ns.length<=63->F [.val (.lst (ns.map D.int))]= .ok (.bl true)):W.WalkX q loose XP (W.X.obsZ as) (W.X.valZ K nz tz) l.row.toRowW d [] (λ f vs=>PySem.call f vs):=λ w s₀ s₁ mg mb G y a o pm cd doc dV kV ho hd hcd hD hmg hg args vals as' L hpre hlay hrd hwl hlo=>ahg (YP:=λ w h=>(K w.params).In h) hn hdf h1 h2 (λ _ _ Y=>Y) hF ht w s₀ s₁ mg mb G (W.InK.keeps w s₀.heap s₁.heap (W.X.z_facts hK y).2.1 (W.Laid.keeps L)) a o pm cd doc dV kV ho hd hcd hD hmg hg args vals as' hpre hlay hrd hwl hlo
section
variable{X:Cx}{ct:Ct}{c:Cf}{o e:Expr}{es:List Expr}{f m:Str}{fo g:Sg->Res D}{fa:Sg->Res (List D)}{pos apos:Pos}
def FA(K:W.Frag)(cb:Cb)(f:Str):Prop:=∀C,((∃c,cb.ins c=some C)\/∃c ns,cb.cls c=some (C,ns))->HV K C/\pV K C f
def xP{K:W.Frag}{H:Hp}:∀{ns:List Str} {xs:List D} {vs:List V} {d:D},aE K ct H xs vs->(ns.zip xs).lookup f=some d->∃v,(ns.zip vs).lookup f=some v/\Tl K ct H d v
 |[],xs,vs,d,t,h=>by simp at h
 |n::ns,[],vs,d,t,h=>by simp at h
 |n::ns,x::xs,vs,d,t,h=>by
  simp only[aE] at t;obtain ⟨v,r,rfl,t1,t2⟩:=t;simp only[List.zip_cons_cons,List.lookup_cons] at h ⊢;split at h
  ·cases h;exact ⟨v,rfl,t1⟩
  ·exact xP t2 h
def CL(hf:FA X.K ct.f.cb f)(ho:WD X ct o fo)(hb:attributeBase o f X.env (eval o X.env)=eval o X.env:=by rfl):WD X ct (.Attribute o f pos) (Xe f fo):=by
 have ho:=ho.out;refine ⟨?_⟩;refine PE.imp (aeh ho hb) λ σ H Q ⟨Γ,j,h⟩=>?_;refine nY.bnd j h λ d v H' s t j' h'=>?_;cases d with
 |obj c ns xs=>
  simp only[Tl] at t;obtain ⟨a,C,dx,vs,rfl,h1,h2,h3,h4⟩:=t;simp only[afe] at h';split at h'
  ·rename_i d hd;obtain ⟨v,q1,q2⟩:=xP h4 hd;obtain ⟨z1,z2⟩:=hf C (.inr ⟨c,ns,h1⟩);exact ⟨a,C,dx,_,v,rfl,h2,z1,z2,q1,h' v H' s q2⟩
  ·exact h'.elim
 |vp tm c ns xs=>
  simp only[Tl] at t;obtain ⟨a,C,dx,vs,rfl,h1,h2,h3,h4⟩:=t;have sf:H' a=some (.ins C dx (ns.zip vs)):=by
   cases tm with
   |true=>exact j'.lB a _ h2
   |false=>exact j'.lL a _ h2
  simp only[afe] at h';split at h'
  ·rename_i d hd;obtain ⟨v,q1,q2⟩:=xP h4 hd;obtain ⟨z1,z2⟩:=hf C (.inl ⟨c,h1⟩);exact ⟨a,C,dx,_,v,rfl,sf,z1,z2,q1,h' v H' s q2⟩
  ·exact h'.elim
 |_=>exact h'.elim
def SJ(X:Cx)(cb:Cb)(m:Str)(n:Nat)(oG:List (String×(List Slot->cJ))):Prop:=∀c C ns F,cb.cls c=some (C,ns)->oG.lookup c=some F->∃(k:Nat) (f:Addr) (fd:FuncData) (ps:List Str),HV X.K C/\Meth X.K C m f/\i6 X.prog X.w X.K X.mg X.base cb k f fd ps F/\dQ k X.A/\Binds X.K fd ps []/\ps.length=n+1/\m∉ns
def vc{α:Type}:∀{ns:List Str} {vs:List α},m∉ns->(ns.zip vs).lookup m=none
 |[],vs,_=>by simp
 |n::ns,[],_=>by simp
 |n::ns,v::vs,h=>by
  simp only[List.zip_cons_cons,List.lookup_cons];have:(m==n)=false:=by simp only[List.mem_cons,not_or] at h;simpa using h.1
  rw[this];exact vc λ z=>h (.tail _ z)
variable{md:List D->Option (List D)}{bk:D->Bool}{vq:M->Bool}{oG:List (String×(List Slot->cJ))}{n:Nat}
def aaz(X:Cx)(ct:Ct)(md:List D->Option (List D))(bk:D->Bool)(vq:M->Bool)(n:Nat)(oG:List (String×(List Slot->cJ)))(fo:Sg->Res D)(fa:Sg->Res (List D)):TE:=λ σ H Q=>∃Γ,Jx X ct Γ σ H/\Ok X ct σ H (fo Γ) λ d=>∃F,qI oG d=some F/\Ok X ct σ H (fa Γ) λ ds=>ds.length=n/\∃ds',md (d::ds)=some ds'/\∀H',au H H'->OP X ct bk vq σ H' (F (ds'.map .val)) Q
def Tn{pl:Sem Bool}(Z:Ac ct md bk vq)(hm:SJ X ct.f.cb m n oG)(ho:WD X ct o fo)(ha:xO X ct (e::es) fa)(hst:starEach (e::es) X.env=(false,eval e X.env)::starEach es X.env:=by rfl)(hpl:(backTo pos (starEach es X.env)).any (·.1)=false:=by rfl)(ht:eval (.Call (.Attribute o m apos) (e::es) [] pos) X.env=(do
   let ov <-eval o X.env
   standAt apos.atName
   let (f,first) <-holding [ov] (getMethod ov m pl)
   callWith pos f first (backTo pos (starEach (e::es) X.env)) (backToKw pos (keywordEach [] X.env))):=by rfl):WE X (.Call (.Attribute o m apos) (e::es) [] pos) (aaz X ct md bk vq n oG fo fa):=by
 have ho:=ho.out
 have ha:=ha.out
 refine ⟨?_⟩
 intro pins s σ H Q I ⟨Γ,j,h⟩
 have h1:nY X ct fo σ H (λ x H1=>∃d F,au H H1/\Tl X.K ct H1 d x/\qI oG d=some F/\Ok X ct σ H (fa Γ) λ ds=>ds.length=n/\∃ds',md (d::ds)=some ds'/\∀H',au H H'->OP X ct bk vq σ H' (F (ds'.map .val)) Q):=
  ⟨Γ,j,Ok.mono (au.refl H) h λ d ⟨F,hF,q⟩ v H1 s1 t1=>⟨d,F,s1,t1,hF,q⟩⟩
 refine W.methodCall_KW (pl:=pl) (dc (ho pins s σ H _ I h1) λ u s1 ⟨x,H1,I1,rx,d,F,sm,t,hF,q⟩=>?_) ht
 cases d with
 |obj c ns xs=>
  have t0:=t
  simp only[Tl] at t
  obtain ⟨a,C,dx,vs0,rfl,g1,g2,g3,g4⟩:=t
  cases rx
  obtain ⟨kk,f,fd,ps,c1,c2,c3,c4,c5,c6,c7⟩:=hm c C ns F g1 hF
  refine zD I1 g2 c1 c2 (vc c7) ?_
  have h2:HY X ct fa σ H1 (λ vs H2=>∃ds ds',au H1 H2/\aE X.K ct H2 ds vs/\ds.length=n/\md (.obj c ns xs::ds)=some ds'/\OP X ct bk vq σ H2 (F (ds'.map .val)) Q):=
   ⟨Γ,j.mono sm,Ok.mono sm q λ ds ⟨q1,ds',q2,q3⟩ vs H2 s2 t2=>⟨ds,ds',s2,t2,q1,q2,q3 H2 (sm.trans s2)⟩⟩
  refine W.callWith_K (first:=[.ref a]) (h₀:=X.base) I.ok.mod.kin c2.kp (dc (ha pos pins s1 σ H1 _ I1 h2) λ us s2 ⟨vs,H2,I2,r,ds,ds',s12,tl,hl,hd,q⟩=>⟨I2.xB,?_⟩) hst hpl
  have j2:=j.mono (sm.trans s12)
  obtain ⟨L,l,t2,q1,q2⟩:=Z.go X.K H2 (.obj c ns xs::ds) (.ref a::vs) ds' j2.lL j2.lB (aE.cons (t0.keep (au.keep s12)) tl) hd
  exact C9 (us:= .ref a::us) (vs:= .ref a::vs) c3 c4 c5 I2 (.cons rfl r) l t2 (by simp[<-tl.length,hl,c6]) (ED q q1 q2)
 |_=>cases hF
def p7{pl:Sem Bool}(Z:Ac ct md bk vq)(hm:SJ X ct.f.cb m n oG)(ho:WD X ct o fo)(ht:eval (.Call (.Attribute o m apos) [] [] pos) X.env=(do
   let ov <-eval o X.env
   standAt apos.atName
   let (f,first) <-holding [ov] (getMethod ov m pl)
   callWith pos f first (backTo pos (starEach [] X.env)) (backToKw pos (keywordEach [] X.env))):=by rfl):WE X (.Call (.Attribute o m apos) [] [] pos) (aaz X ct md bk vq n oG fo aB):=by
 have ho:=ho.out
 refine ⟨?_⟩
 intro pins s σ H Q I ⟨Γ,j,h⟩
 have h1:nY X ct fo σ H (λ x H1=>∃d F,au H H1/\Tl X.K ct H1 d x/\qI oG d=some F/\0=n/\∃ds',md [d]=some ds'/\∀H',au H H'->OP X ct bk vq σ H' (F (ds'.map .val)) Q):=
  ⟨Γ,j,Ok.mono (au.refl H) h λ d ⟨F,hF,q⟩ v H1 s1 t1=>⟨d,F,s1,t1,hF,q⟩⟩
 refine W.methodCall_KW (pl:=pl) (dc (ho pins s σ H _ I h1) λ u s1 ⟨x,H1,I1,rx,d,F,sm,t,hF,hl,ds',hd,q⟩=>?_) ht
 cases d with
 |obj c ns xs=>
  have t0:=t
  simp only[Tl] at t
  obtain ⟨a,C,dx,vs0,rfl,g1,g2,g3,g4⟩:=t
  cases rx
  obtain ⟨kk,f,fd,ps,c1,c2,c3,c4,c5,c6,c7⟩:=hm c C ns F g1 hF
  refine zD I1 g2 c1 c2 (vc c7) ?_
  have j2:=j.mono sm
  obtain ⟨L,l,t2,q1,q2⟩:=Z.go X.K H1 [.obj c ns xs] [.ref a] ds' j2.lL j2.lB (aE.cons t0 aE.nil) hd
  exact W.callWith_K0 (first:=[.ref a]) I1.xB c2.kp (C9 (us:=[.ref a]) (vs:=[.ref a]) c3 c4 c5 I1 (.cons rfl .nil) l t2 (by simp[c6, <-hl]) (ED (q H1 sm) q1 q2))
 |_=>cases hF
def ZZ{gm:Sg->Res M}(h:PE X e (aaz X ct md bk vq n oG fo fa))(hg:∀Γ,gm Γ=(fo Γ).bnd λ o=>match qI oG o with
  |some F=>(fa Γ).bnd λ ds=>if ds.length=n then (match md (o::ds) with
   |some ds'=>(match F (ds'.map .val) with
    | .ok d=>if bk d=true then .ok (.d d) else .bad
    | .new m=>if vq m=true then .ok m else .bad
    | .err x=> .err x
    |_=> .bad)
   |none=> .bad) else .bad
  |none=> .bad):PM X ct e gm:=by
 refine PE.imp h λ σ H Q ⟨Γ,j,q⟩=>⟨Γ,j,?_⟩;rw[hg] at q;refine q.bnd λ o _ q=>?_;split at q
 ·rename_i F hF;refine ⟨F,hF,q.bnd λ ds _ q=>?_⟩;split at q
  ·rename_i hl;split at q
   ·rename_i ds' hd;refine ⟨hl,ds',hd,λ H' s=>?_⟩;cases z:F (ds'.map .val) with
    |ok d=>
     rw[z] at q;dsimp only at q;split at q
     ·rename_i hb;exact ⟨hb,(Wm.data q).mono s⟩
     ·exact q.elim
    |new m=>
     rw[z] at q;dsimp only at q;split at q
     ·rename_i hb;exact ⟨hb,Wm.mono s q⟩
     ·exact q.elim
    |err x=>rw[z] at q;exact λ e s' r=>q e s' (r.mono s)
    |QY d os=>rw[z] at q;exact q.elim
    |Gd d os=>rw[z] at q;exact q.elim
    |bad=>rw[z] at q;exact q.elim
   ·exact q.elim
  ·exact q.elim
 ·exact q.elim
def VG(a:cJ):nu a=(match a with
    | .ok d=>if true=true then .ok (.d d) else .bad
    | .new m=>if true=true then .ok m else .bad
    | .err x=> .err x
    |_=> .bad):=by cases a<;>simp[nu]
def oK(h:WE X e (aaz X c.z some (λ _=>true) (λ _=>true) n oG fo fa)):WM X c.z e (vJ n oG fo fa):=by
 have h:=h.out;exact ⟨ZZ h λ Γ=>by
 unfold vJ;cases fo Γ with
 |ok o=>
  simp only[Res.lS];cases qI oG o with
  |none=>rfl
  |some F=>
   simp only;cases fa Γ with
   |ok ds=>
    simp only[Res.lS];by_cases hl:ds.length=n
    ·simp only[hl,if_true];exact VG _
    ·simp[hl]
   |err x=>rfl
   |bad=>rfl
 |err x=>rfl
 |bad=>rfl⟩
def Fq{α:Type}{y:V}:∀{ns:List Str} {vs:List V},ns.length=vs.length->f∉ns->m7 f y (ns.zip vs)=(ns++[f]).zip (vs++[y])
 |[],[],_,_=>rfl
 |[],_::_,h,_=>by simp at h
 |n::ns,[],h,_=>by simp at h
 |n::ns,v::vs,h,hn=>by simp only[List.mem_cons,not_or] at hn;have:¬n=f:=λ z=>hn.1 z.symm;simp only[List.zip_cons_cons,m7,this,if_false,List.cons_append];rw[Fq (α:=α) (by simpa using h) hn.2]
noncomputable def afZ(cb:Cb)(ft:List (String×List Str)):Prop:=∀c C full,cb.ins c=some C->ft.lookup c=some full->∀c' ns',cb.cls c'=some (C,ns')->ns'=full
def EW(i:Nat){x:Str}{px pa:Pos}{ft:List (String×List Str)}(hf:FA X.K c.cb f)(ht:afZ c.cb ft)(he:∀B,WD X (c.at' B) e g)(hN:X.N[i]? =some x:=by rfl)(hv:SG X.env.scope x:=by first|exact Or.inl rfl|exact Or.inr (Or.inl rfl)|exact Or.inr (Or.inr rfl))(hd:(x==("__debug__":Str))=false:=by decide)(hcd:(x==("__classdict__":Str))=false:=by decide)(hs:swapsWith e (some (.Attribute (.Name x px) f pa)) pos.line X.env=pure false:=by rfl):uK X c (.Assign [.Attribute (.Name x px) f pa] e pos) (Uu i ft f g):=by
 have he:=λ B=>(he B).out;refine ⟨?_⟩;intro pins s σ H E I ⟨Γ,j,h⟩;refine ad6 (O6 (ct:=c.at' H) i hN hv hd hcd) (he H) hs pins s σ H E I ?_;refine ⟨Γ,j.lift,Fn.ok j h λ d _ q y H1 s1 t=>?_⟩;refine ⟨Γ,j.lift.mono s1,Ok.mono (H:=H) s1 (Fn.ok (tm:=true) (B:=H) j q λ ks _ q v H2 s2 pa=>?_) λ _ z=>z⟩;have sm:=s1.trans s2;have j2:=j.mono sm;have ty:=t.keep (au.keep s2);obtain ⟨sl,m,v0,m',p1,p2,p3,p4,p5⟩:=pa;have e1:yb i ks (UB ft f d) Γ=(UB ft f d m').map λ fP=>Γ.set i (Uw sl (oh m ks fP)):=by unfold yb;rw[p1,Option.bind_some,p2,Option.bind_some,p5,Option.bind_some]
 rw[e1] at q;cases z:UB ft f d m' with
 |none=>rw[z] at q;exact q.elim
 |some fP=>
  rw[z] at q;cases m' with
  |o cn ns xs=>
   simp only[UB,Option.bind_eq_some_iff] at z;obtain ⟨full,zf,z⟩:=z;split at z
   ·rename_i hc;cases z;obtain ⟨vv,S,g1,o1⟩:=j2.ofM p1 p2;rw[p3] at g1;cases g1;obtain ⟨S',o',_⟩:=o1.WX p4 p5;simp only[Ow] at o';obtain ⟨a,C,dx,vs,rfl,q2,q3,q4,q5,q6⟩:=o';obtain ⟨c1,c2⟩:=hf C (.inl ⟨cn,q3⟩);have kp:aP c.cb H2 (upd H2 a (.ins C dx (m7 f y (ns.zip vs)))):=λ b o hb st=>by
     have:b≠a:=by
      rintro rfl
      rw[q4] at hb;cases hb;obtain ⟨c',ns',w1,w2⟩:=st;have w3:=ht cn C full q3 zf c' ns' w1;rw[oJ q5] at w2;rw[w2,w3] at hc;omega
     rw[aC this];exact hb
    refine ⟨a,C,dx,_,rfl,q4,c1,c2,by rw[List.length_zip];omega,?_⟩;refine q σ _ ((au.keep sm).trans kp) (j2.up p1 p2 p3 p4 p5 kp λ S' o=>?_);simp only[Ow] at o ⊢;obtain ⟨a',C',dx',us,w1,w2,w3,w4,w5,w6⟩:=o;cases w1;rw[q4] at w4;simp only[Option.some.injEq,HO.ins.injEq] at w4;obtain ⟨rfl,rfl,w4⟩:=w4;have euv:us=vs:=by have:=congrArg (List.map Prod.snd) w4;rw[List.map_snd_zip (by omega),List.map_snd_zip (by omega)] at this;exact this.symm
    subst euv;refine ⟨w2,a,C,dx,us++[y],rfl,w2,w3,?_,by simp[q5],(w6.append (aE.cons (Tl.down (B:=H) (tm:=true) ty hc.1) aE.nil)).keep kp⟩;rw[aD,Fq (α:=V) q5 hc.2.2.2]
   ·cases z
  |_=>cases z
end
section
variable{X:Cx}{ct:Ct}{c:Cf}{o e:Expr}{es:List Expr}{x:Str}{fa:Sg->Res (List D)}{p pos:Pos}{md:List D->Option (List D)}{bk:D->Bool}{vq:M->Bool}{n k:Nat}{F:List Slot->cJ}{cn:String}{ns:List Str}{C f:Addr}{fd:FuncData}{ps:List Str}
def SK(X:Cx)(ct:Ct)(bk:D->Bool)(cn:String)(ns:List Str)(σ:St)(H:Hp)(a:cJ)(Q:VK):Prop:=match Gn cn ns a with
 | .ok d=>bk d=true/\Wd X ct H Q d
 | .err x=>∀e s',gc X ct.f.cb σ H x e s'->X.xe e s'
 | .bad=>False
def QU{m:M}:∀{Γ:Sg},b7 0 Γ=[(0,m)]->Γ[0]? =some (.par m)
 |[],h=>by cases h
 | .par m'::r,h=>by simp only[b7,List.cons.injEq,Prod.mk.injEq] at h;obtain ⟨⟨_,rfl⟩,_⟩:=h;rfl
 | .no::r,h=>by simp only[b7] at h;exact absurd h (mG r 0)
 | .val d::r,h=>by simp only[b7] at h;exact absurd h (mG r 0)
 | .own d::r,h=>by simp only[b7] at h;exact absurd h (mG r 0)
where mG {m:M}:∀(Γ:Sg) (i:Nat),b7 (i+1) Γ≠[(0,m)]
 |[],i,h=>by cases h
 | .par m'::r,i,h=>by
  simp only[b7,List.cons.injEq,Prod.mk.injEq] at h
  omega
 | .no::r,i,h=>by simp only[b7] at h;exact mG r (i+1) h
 | .val _::r,i,h=>by simp only[b7] at h;exact mG r (i+1) h
 | .own _::r,i,h=>by simp only[b7] at h;exact mG r (i+1) h
def aeU{K:W.Frag}{cb:Cb}{L H:Hp}{ds:List D}{vs:List V}{a dx:Addr}(l:au L H)(t:aE K (iy cb L vs).z H ds vs)(ha:H a=none)(hd:H dx=none)(ne:dx≠a)(hc:cb.ins cn=some C):
  J K (Cf.z ⟨cb,L,λ b=>b=a,.ref a::vs⟩) (upd (upd H dx (.own a)) a (.ins C dx [])) (.par (.o cn [] [])::ds.map .val) ((V.ref a::vs).map some) (upd (upd H dx (.own a)) a (.ins C dx [])):=by
 have sm:au H (upd (upd H dx (.own a)) a (.ins C dx [])):=(aT hd _).trans (aT (by rw[aC (Ne.symm ne)];exact ha) _);refine ⟨λ _ _ q _=>q,λ _ q=>q,l.trans sm,λ _ _ q=>(nomatch q),by simp[t.length],λ i b=>i=0/\b=a,λ i sl ov h1 h2=>?_,λ i j b hij z z'=>hij (z.1.trans z'.1.symm),λ i b z q=>?_⟩
 ·cases i with
  |zero=>
   cases h1;cases h2;refine ⟨.ref a,rfl,?_,⟨λ b z=> .inr z.2,λ b z q=>?_,λ b z=>?_,λ b z t=>nomatch t⟩,rfl⟩
   ·simp only[Ow];exact ⟨a,C,dx,[],rfl,by simp,hc,aD,rfl,aE.nil⟩
   ·rw[z.2,aD] at q;cases q
   ·cases w:L b with
    |none=>exact w
    |some o=>have:=l b o w;rw[z.2,ha] at this;cases this
  |succ i=>
   simp only[List.getElem?_cons_succ,List.getElem?_map,List.map_cons] at h1 h2;cases q:ds[i]? with
   |none=>rw[q] at h1;cases h1
   |some d=>obtain ⟨v,e1,e2⟩:=t.get q;rw[q] at h1;rw[e1] at h2;cases h1;cases h2;refine ⟨⟨v,rfl,p8 (ct:=(iy cb L vs).z) (fN:=Cf.z ⟨cb,L,λ b=>b=a,.ref a::vs⟩) rfl (λ t a o z=>by cases t<;>exact z) (e2.keep (au.keep sm))⟩,λ b z=>absurd z.1 (by simp)⟩
 ·rw[z.2,aD] at q;cases q
def QK{pins:List (Addr×Obj)}{σ:St}{H L:Hp}{s:Shared}{Q:VK}{us:List Value}{vs:List V}{ds:List D}(Mc:Mk X.K C f)(G:i6 X.prog X.w X.K X.mg X.base ct.f.cb k f fd ps F)(hr:dQ (k+1) X.A)(hb:Binds X.K fd ps [])(hci:ct.f.cb.ins cn=some C)(hcc:ct.f.cb.cls cn=some (C,ns)) (I:Inv X pins σ H s) (r:Vals vs us) (l:au L H) (t:aE X.K (iy ct.f.cb L vs).z H ds vs) (hn:vs.length+1=ps.length) (q1:∀H' d v,bk d=true->Tl X.K (iy ct.f.cb L vs).z H' d v->Tl X.K ct H' d v) (h:SK X ct bk cn ns σ H (F (.par (.o cn [] [])::ds.map .val)) Q):wpAny (model X.prog X.w) X.A (call (.ref C) us) (EP X pins σ Q) X.xe s:=by
 have hx0:H (s.heap.objs.size+1)=none:=I.hok.fresh (Nat.le_succ _);have hd0:H s.heap.objs.size=none:=I.hok.fresh (Nat.le_refl _);have hne:s.heap.objs.size≠s.heap.objs.size+1:=Nat.ne_of_lt (Nat.lt_succ_self _);have I2:=Inv.made (C:=C) I;have smm:au H (upd (upd H s.heap.objs.size (.own (s.heap.objs.size+1))) (s.heap.objs.size+1) (.ins C s.heap.objs.size [])):=(aT hd0 _).trans (aT (by rw[aC (Ne.symm hne)];exact hx0) _);have r2:Vals (V.ref (s.heap.objs.size+1)::vs) (Value.ref (s.heap.objs.size+1)::us):= .cons rfl r;have hl:(Value.ref (s.heap.objs.size+1)::us).length=ps.length:=by rw[<-r2.length];exact hn
 have hb':=hb {s with heap:=(s.heap.push W.emptyDict).push (W.instObj C s.heap.objs.size)} (Value.ref (s.heap.objs.size+1)::us) I2.xB (by rw[List.append_nil];exact hl);rw[List.append_nil] at hb';let E:XK:=λ cls od H'=>∃x C',F (.par (.o cn [] [])::ds.map .val)= .err x/\ct.f.cb.exc x=some C'/\cls= .ref C'/\od=none/\au H H'
 have EM:spD X.K ct.f.cb ps.length F (V.ref (s.heap.objs.size+1)::vs) (upd (upd H s.heap.objs.size (.own (s.heap.objs.size+1))) (s.heap.objs.size+1) (.ins C s.heap.objs.size [])) (λ v H2=>v= .dY/\Q (.ref (s.heap.objs.size+1)) H2) E:=by
  refine ⟨hn,⟨ct.f.cb,L,λ b=>b=s.heap.objs.size+1,_⟩,_,rfl,rfl,aeU l t hx0 hd0 hne hci,?_⟩;unfold SK at h;cases z:F (.par (.o cn [] [])::ds.map .val) with
  |ok d=>rw[z] at h;exact h.elim
  |new d=>rw[z] at h;exact h.elim
  |Gd d os=>rw[z] at h;exact h.elim
  |bad=>rw[z] at h;exact h.elim
  |err x=>refine λ C' H' e sm=>⟨x,C',z,e,rfl,rfl,λ b o w=>sm b o (smm b o w) ?_⟩;intro w2;have w2:b=s.heap.objs.size+1:=w2;rw[w2,hx0] at w;cases w
  |QY d os=>
   rw[z] at h;unfold Gn at h;split at h
   ·rename_i d' hm;split at hm
    ·rename_i c' ns' xs e1;split at hm
     ·rename_i hc;obtain ⟨rfl,rfl⟩:=hc;cases hm;cases e1;intro v Γ' σ' H' j' ho tv;simp only[Tl] at tv;refine ⟨tv,?_⟩;have hz:=QU ho;obtain ⟨v',S,g1,g2,g3,g4⟩:=j'.par hz;simp only[Ow] at g2;obtain ⟨a,C',dx,us',e1,w2,w3,w4,w5,w6⟩:=g2;subst e1;have:a=s.heap.objs.size+1:=by have:=g4;simp only[Cf.z,List.getElem?_cons_zero,Option.some.injEq,V.ref.injEq] at this;exact this.symm
      subst this;have hCC:C'=C:=by have w3:ct.f.cb.ins c'=some C':=w3;rw[hci] at w3;exact (Option.some.inj w3).symm
      subst hCC;refine h.2 _ H' (λ b o w=>j'.same b o (smm b o w) ?_) (q1 H' _ _ h.1 ?_)
      ·intro w2';have w2':b=s.heap.objs.size+1:=w2';rw[w2',hx0] at w;cases w
      ·simp only[Tl];refine ⟨_,C',dx,us',rfl,hcc,w4,w5,?_⟩;exact sG (ct:=Cf.z ⟨ct.f.cb,L,λ b=>b=s.heap.objs.size+1,.ref (s.heap.objs.size+1)::vs⟩) (fN:=(iy ct.f.cb L vs).z) rfl (λ t a o z=>by cases t<;>exact z) w6
     ·cases hm
    ·cases hm
    ·cases hm
   ·rename_i x hm;split at hm
    ·split at hm<;>cases hm
    ·rename_i y e1;cases e1
    ·cases hm
   ·exact h.elim
 refine wpAny_call (VD (f:=f) I.xB Mc.makes Mc.init (beq_iff_eq.mp Mc.fn) (codeAny_mono (G.run _ X.stack _ _ ⟨Value.ref (s.heap.objs.size+1)::us,[]⟩ (Value.ref (s.heap.objs.size+1)::us) _ _ E (hr.make C us [])
  (I2.afk.make C us []) hb' r2 EM) λ r s' hq=>?_))
 cases r with
 |error e=>
  obtain ⟨a,C',H',B,a0,h1,⟨x,C2,w1,w2,w3,w4,w5⟩,h3,h4,h5,h6,h6',h7⟩:=hq;unfold SK at h;rw[w1] at h;cases w3;have nw:s.heap.get? a=none:=by
   cases z:s.heap.get? a with
   |none=>rfl
   |some ob=>have:((s.heap.push W.emptyDict).push (W.instObj C s.heap.objs.size)).get? a=some ob:=Heap.get?_push_of_some _ (Heap.get?_push_of_some _ z);rw[this] at h6';cases h6'
  refine h e s' ⟨pins,H,s,C',I,au.refl H,w2,.inr ⟨a,C',H',B,a0,h1,⟨rfl,rfl,w5⟩,h3,h4,h5,h6,nw,λ h' st up=>?_⟩⟩;obtain ⟨un,hok⟩:=h7 h' st up;have push:∀b o,s.heap.get? b=some o->((s.heap.push W.emptyDict).push (W.instObj C s.heap.objs.size)).get? b=some o:=λ b o q=>Heap.get?_push_of_some _ (Heap.get?_push_of_some _ q);have nn:∀b o,s.heap.get? b=some o->H b=none->upd (upd H s.heap.objs.size (.own (s.heap.objs.size+1))) (s.heap.objs.size+1) (.ins C s.heap.objs.size []) b=none:=λ b o q n=>by have lt:=Heap.lt_size q;rw[aC (Nat.ne_of_lt (Nat.lt_succ_of_lt lt)),aC (Nat.ne_of_lt lt)];exact n
  exact ⟨⟨λ b o q n hb hx=>un.keep b o (push b o q) (nn b o q n) hb hx,λ b o q n hb hx=>un.slot b o (push b o q) (nn b o q n) hb hx,λ b o q n hx=>un.free b o (push b o q) (nn b o q n) hx,λ b o q hx=>un.there b o (push b o q) hx,λ b xs q=>un.tups b xs (smm b _ q),λ b o u q=>un.rQ b o u (smm b _ q),λ b ps q=>un.sH b ps (smm b _ q)⟩,hok⟩
 |ok fl=>
  cases fl with
  |ret u=>obtain ⟨v,H',I3,rv,ev,q3⟩:=I2.after hq;subst ev;exact ⟨rv,⟨V.ref (s.heap.objs.size+1),H',I3,rfl,q3⟩⟩
  |next=>exact False.elim hq
  |brk=>exact False.elim hq
  |cont=>exact False.elim hq
def aeC(X:Cx)(ct:Ct)(md:List D->Option (List D))(bk:D->Bool)(cn:String)(ns:List Str)(n:Nat)(F:List Slot->cJ)(fa:Sg->Res (List D)):TE:=λ σ H Q=>∃Γ,Jx X ct Γ σ H/\Ok X ct σ H (fa Γ) λ ds=>ds.length=n/\∃ds',md ds=some ds'/\∀H',au H H'->SK X ct bk cn ns σ H' (F (.par (.o cn [] [])::ds'.map .val)) Q
def To(Z:Ac ct md bk vq)(Mc:Mk X.K C f)(G:i6 X.prog X.w X.K X.mg X.base ct.f.cb k f fd ps F)(hr:dQ (k+1) X.A)(hb:Binds X.K fd ps [])(hci:ct.f.cb.ins cn=some C)(hcc:ct.f.cb.cls cn=some (C,ns))(hm:X.mg x=some (.ref C))(ha:xO X ct (e::es) fa)(hn:ps.length=n+1)(hg:Gl X x:=by rfl)(hdb:(x==("__debug__":Str))=false:=by decide)(he:starEach (e::es) X.env=(false,eval e X.env)::starEach es X.env:=by rfl)(hpl:(backTo pos (starEach es X.env)).any (·.1)=false:=by rfl):WE X (.Call (.Name x p) (e::es) [] pos) (aeC X ct md bk cn ns n F fa):=by
 have ha:=ha.out;refine ⟨?_⟩;intro pins s σ H Q I ⟨Γ,j,h⟩;refine wpAny_Call_Name_kw (qe I hg hm ?_ hdb);have h':HY X ct fa σ H (λ vs H1=>∃ds ds',au H H1/\aE X.K ct H1 ds vs/\ds.length=n/\md ds=some ds'/\SK X ct bk cn ns σ H1 (F (.par (.o cn [] [])::ds'.map .val)) Q):=
  ⟨Γ,j,Ok.mono (au.refl H) h λ ds ⟨q1,ds',q2,q3⟩ vs H1 s1 t1=>⟨ds,ds',s1,t1,q1,q2,q3 H1 s1⟩⟩
 refine W.callWith_K (h₀:=X.base) I.ok.mod.kin Mc.kp (dc (ha pos pins s σ H _ I h') λ us s1 ⟨vs,H1,I1,r,ds,ds',sm,t1,hl,hd,q⟩=>⟨I1.xB,?_⟩) he hpl;have j1:=j.mono sm;obtain ⟨L,l,t2,q1,_⟩:=Z.go X.K H1 ds vs ds' j1.lL j1.lB t1 hd;exact QK Mc G hr hb hci hcc I1 r l t2 (by rw[<-t1.length,hl,hn]) q1 q
def Z8{gd:Sg->Res D}(h:PE X e (aeC X ct md bk cn ns n F fa))(hg:∀Γ,gd Γ=(fa Γ).bnd λ ds=>if ds.length=n then (match md ds with
   |some ds'=>(match Gn cn ns (F (.par (.o cn [] [])::ds'.map .val)) with
    | .ok d=>if bk d=true then .ok d else .bad
    | .err x=> .err x
    | .bad=> .bad)
   |none=> .bad) else .bad):PD X ct e gd:=by
 refine PE.imp h λ σ H Q ⟨Γ,j,q⟩=>⟨Γ,j,?_⟩;rw[hg] at q;refine q.bnd λ ds _ q=>?_;split at q
 ·rename_i hl;split at q
  ·rename_i ds' hd;refine ⟨hl,ds',hd,λ H' s=>?_⟩;unfold SK;cases z:Gn cn ns (F (.par (.o cn [] [])::ds'.map .val)) with
   |ok d=>
    rw[z] at q;dsimp only at q ⊢;split at q
    ·rename_i hb;exact ⟨hb,Wd.mono s q⟩
    ·exact q.elim
   |err x=>rw[z] at q;exact λ e s' r=>q e s' (r.mono s)
   |bad=>rw[z] at q;exact q.elim
  ·exact q.elim
 ·exact q.elim
def ZN(r:Res D):r=(match r with
    | .ok d=>if true=true then .ok d else .bad
    | .err x=> .err x
    | .bad=> .bad):=by cases r<;>simp
def Tw(h:WE X e (aeC X c.z some (λ _=>true) cn ns n F fa)):WD X c.z e (Hi n cn ns F fa):=by
 have h:=h.out;exact ⟨Z8 h λ Γ=>by
 unfold Hi;cases fa Γ with
 |ok ds=>
  simp only[Res.lS];by_cases hl:ds.length=n
  ·simp only[hl,if_true];exact ZN _
  ·simp[hl]
 |err x=>rfl
 |bad=>rfl⟩
def Tt{fd:Sg->Res D}(he:WD X c.z e fd):uK X c (.Return (some e) pos) (O0 fd):=by have he:=he.out;exact ⟨PS.imp (yu he) λ E σ H ⟨Γ,j,h⟩=>⟨Γ,j,Fn.ok j h λ d _ q v H' s t=>q v σ H' (j.mono s) t⟩⟩
end
section
variable{P:Program}{w:World}{K:W.Frag}{mg:Str->Option Value}{base:Heap}{cb:Cb}
def afc{x qual:Str}{st:Stmt}{f:Addr}{fd:FuncData}{N ps:List Str}{k:Nat}{F:List Slot->cJ}{B:Nat->Sg->Out}(SN:lT K x qual st f fd)(S:lM N ps (aA st)) (hbody:∀(c:Cf) (cdv:Value) (A:Around) (outer:List Env) (s:Shared) (H:Hp) (E:XK),c.cb=cb->dQ k (A.deeper (envOfC qual (aA st) s.heap.objs.size f cdv))->Good (lR (EO P w) P w K mg base N qual (aA st) f cdv A outer s H E)->∀n,ajC (lR (EO P w) P w K mg base N qual (aA st) f cdv A outer s H E) c (aH st) (B n)) (hF:∀as,as.length=ps.length->F as≠.bad->∃n,SA (B n (dg N as))=F as):i6 P w K mg base cb (k+1) f fd ps F:=by
 obtain ⟨oc,od,kV,doc,pm,an,cdv,fN,osl,rfl,lk,hcd⟩:=SN.ex;refine acm lk hcd S (λ vs H Q E h=>h.1) λ A outer s H vs Q E hr EM=>?_;obtain ⟨hn,c,as,ecb,aiE,j,h⟩:=EM;have hl:as.length=vs.length:=by have:=j.len;simpa using this
 have hb:F as≠.bad:=λ z=>by rw[z] at h;exact h
 obtain ⟨n,hF⟩:=hF as (by rw[hl];exact hn) hb;refine ⟨_,hbody c cdv A outer s H E ecb hr ⟨PassesOwn.leaving,rfl,S.nd,rfl,rfl⟩ n,dg N as,PB j,?_⟩;rw[<-hF] at h;cases q:B n (dg N as) with
 |nx Γ=>rw[q] at h;exact λ σ' H' _ j=>h .dY Γ σ' H' j rfl (by simp[Tl])
 |bk Γ=>rw[q] at h;exact h.elim
 |ct Γ=>rw[q] at h;exact h.elim
 |rt d=>rw[q] at h;exact λ v H' b t=>h v H' b.same b.free t
 |O3 m=>rw[q] at h;exact λ v H' S b o n k=>h v H' S b.same b.free o n k
 |SQ d Γ=>rw[q] at h;exact λ v σ' H' j t=>h v Γ σ' H' j rfl t
 |Av d Γ=>rw[q] at h;exact h.elim
 |err x Γ=>rw[q] at h;exact λ σ' H' e s' _ j r=>GB (ecb▸r) λ C H2 hc s=>h C H2 hc λ b o z n=>s b o (j.same b o z n)
 |bad=>rw[q] at h;exact h.elim
def Zp{x qual:Str}{st:Stmt}{f:Addr}{fd:FuncData}{N ps:List Str}{k:Nat}{F:List Slot->cJ}{B:Nat->Sg->Out}(SN:lT K x qual st f fd)(S:lM N ps (aA st))(hbody:∀(c:Cf) (cdv:Value) (A:Around) (outer:List Env) (s:Shared) (H:Hp) (E:XK),c.cb=cb->dQ k (A.deeper (envOfC qual (aA st) s.heap.objs.size f cdv))->Good (lR (EO P w) P w K mg base N qual (aA st) f cdv A outer s H E)->∀n,qH (lR (EO P w) P w K mg base N qual (aA st) f cdv A outer s H E) c (aH st) (B n)) (hF:∀as,as.length=ps.length->F as≠.bad->∃n,SA (B n (dg N as))=F as):i6 P w K mg base cb (k+1) f fd ps F:=afc (SN:=SN) (S:=S) (hbody:=(λ c cdv A outer s H E h_1 h_2 h_3 n=>(hbody c cdv A outer s H E h_1 h_2 h_3 n).out)) (hF:=hF)
end
section
variable{K:W.Frag}{ct:Ct}{H:Hp}
mutual
/-- no more places ao6 it needs -/
def Ow.BQ:∀{m:M} {v:V} {S:Fp},Y0 m=true->Ow K ct H m v S->Ow K ct H m v (λ b=>S b/\∀o,H b=some o->¬SH ct.f.cb o)
 | .d x,v,S,_,h=>by simpa only[Ow] using h
 | .l xs,v,S,_,h=>by simp only[Ow] at h ⊢;obtain ⟨a,vs,h1,h2,h3,h4⟩:=h;exact ⟨a,vs,h1,⟨h2,λ o q=>by rw[h3] at q;cases q;exact λ z=>z⟩,h3,h4⟩
 | .n ms,v,S,z,h=>by simp only[Ow] at h ⊢;obtain ⟨a,vs,h1,h2,h3,h4⟩:=h;refine ⟨a,vs,h1,⟨h2,λ o q=>by rw[h3] at q;cases q;exact λ z=>z⟩,h3,(cG.BQ (by simpa[Y0] using z) h4).wide λ b w=>⟨⟨w.1.1,w.2⟩,w.1.2⟩⟩
 | .t ms,v,S,z,h=>by simp only[Ow] at h ⊢;obtain ⟨a,vs,h1,h2,h3⟩:=h;exact ⟨a,vs,h1,h2,cG.BQ (by simpa[Y0] using z) h3⟩
 | .k ks xs,v,S,_,h=>by simp only[Ow] at h ⊢;obtain ⟨a,vs,h1,h2,h3,h4⟩:=h;exact ⟨a,vs,h1,⟨h2,λ o q=>by rw[h3] at q;cases q;exact Ks.F9⟩,h3,h4⟩
 | .o c ns xs,v,S,z,h=>by simp[Y0] at z
def cG.BQ:∀{ms:List M} {vs:List V} {S:Fp},Q7 ms=true->cG K ct H ms vs S->cG K ct H ms vs (λ b=>S b/\∀o,H b=some o->¬SH ct.f.cb o)
 |[],vs,S,_,h=>by simpa[cG] using h
 |m::ms,vs,S,z,h=>by simp only[cG] at h ⊢;obtain ⟨v,r,S1,S2,h1,h2,h3,h4,h5,h6⟩:=h;have zz:=Bool.and_eq_true_iff.mp (show (Y0 m&&Q7 ms)=true by simpa[Q7] using z);exact ⟨v,r,_,_,h1,λ b w=>⟨h2 b w.1,w.2⟩,λ b w=>⟨h3 b w.1,w.2⟩,λ b w w'=>h4 b w.1 w'.1,Ow.BQ zz.1 h5,cG.BQ zz.2 h6⟩
end
end
section
variable{X:Cx}{c:Cf}{x:Str}{e:Expr}{es:List Expr}{i q n k:Nat}{f:Sg->Res D}{r fa:Sg->Res (List D)}{p pos:Pos}{F:List Slot->cJ}{fn:Addr}{fd:FuncData}{ps:List Str}
def IoT(X:Cx)(c:Cf)(q i:Nat)(σ:St)(H:Hp)(ds:List D)(vs:List V):Prop:=ds.length=vs.length/\(∀(k:Nat) (d:D) (v:V),k≠q->ds[k]? =some d->vs[k]? =some v->Tl X.K c.z H d v)/\∃v0,σ[i]? =some (some v0)/\vs[q]? =some v0
def aeZ(X:Cx)(c:Cf)(q i:Nat)(f:Sg->Res (List D)):TA:=λ σ H Q=>∃Γ,Jx X c.z Γ σ H/\(∃v0,σ[i]? =some (some v0))/\Ok X c.z σ H (f Γ) λ ds=>∀vs H',au H H'->IoT X c q i σ H' ds vs->Q vs H'
def Qz(i:Nat){px:Pos}(hr:xO X c.z es r)(hN:X.N[i]? =some x:=by rfl)(hv:SG X.env.scope x:=by first|exact Or.inl rfl|exact Or.inr (Or.inl rfl)|exact Or.inr (Or.inr rfl))(hd:(x==("__debug__":Str))=false:=by decide)(hcd:(x==("__classdict__":Str))=false:=by decide)(hs:starEach (.Name x px::es) X.env=(false,eval (.Name x px) X.env)::starEach es X.env:=by rfl):WA X (.Name x px::es) (aeZ X c 0 i (ai (dC .dY) r)):=by
 have hr:=hr.out;refine ⟨?_⟩;refine PA.imp (ja (yz hN hv hd hcd) hr hs) λ σ H Q ⟨Γ,j,⟨v0,hv0⟩,h⟩=>?_;refine ⟨v0,hv0,Γ,j,?_⟩;simp only[ai,dC,Res.lS] at h;refine h.bnd λ ds _ h vs H' s t=>?_;refine h (v0::vs) H' s ⟨by simp[t.length],λ k d v hk h1 h2=>?_,v0,hv0,rfl⟩;cases k with
 |zero=>exact absurd rfl hk
 |succ k=>
  obtain ⟨v',g1,g2⟩:=t.get (by simpa using h1);have:vs[k]? =some v:=by simpa using h2
  rw[this] at g1;cases g1;exact g2
def xOf(X:Cx)(c:Cf)(g:Sg->Res (D×Sg)):TE:=λ σ H Q=>∃Γ,Jx X c.z Γ σ H/\Ok X c.z σ H (g Γ) λ r=>∀v H',aP c.cb H H'->Jx X c.z r.2 σ H'->Tl X.K c.z H' r.1 v->Q v H'
def xr{m:M}:∀{Γ:Sg} {k i:Nat},b7 k Γ=[(i,m)]->k<=i/\Γ[i- k]? =some (.par m)
 |[],k,i,h=>by cases h
 | .par m'::r,k,i,h=>by simp only[b7,List.cons.injEq,Prod.mk.injEq] at h;obtain ⟨⟨rfl,rfl⟩,_⟩:=h;exact ⟨Nat.le_refl _,by simp⟩
 | .no::r,k,i,h=>by simp only[b7] at h;obtain ⟨h1,h2⟩:=xr h;refine ⟨by omega,?_⟩;rw[show i- k=(i-(k+1))+1 by omega];simpa using h2
 | .val _::r,k,i,h=>by simp only[b7] at h;obtain ⟨h1,h2⟩:=xr h;refine ⟨by omega,?_⟩;rw[show i- k=(i-(k+1))+1 by omega];simpa using h2
 | .own _::r,k,i,h=>by simp only[b7] at h;obtain ⟨h1,h2⟩:=xr h;refine ⟨by omega,?_⟩;rw[show i- k=(i-(k+1))+1 by omega];simpa using h2
def ZK{pins:List (Addr×Obj)}{σ:St}{H:Hp}{s:Shared}{Q:VK}{us:List Value}{vs:List V}{ds:List D}{Γ:Sg}{sl:Slot}{m:M}(G:i6 X.prog X.w X.K X.mg X.base c.cb k fn fd ps F)(hr:dQ k X.A)(hb:Binds X.K fd ps []) (I:Inv X pins σ H s) (rv:Vals vs us) (j:Jx X c.z Γ σ H) (io:IoT X c q i σ H ds vs) (hn:ds.length=ps.length) (hq:q<ps.length) (hi:Γ[i]? =some sl) (hm:QI sl=some m) (ho:Y0 m=true) (h:Ok X c.z σ H (Te i q sl Γ (F ((ds.map Slot.val).set q (.par m)))) λ r=>∀v H',aP c.cb H H'->Jx X c.z r.2 σ H'->Tl X.K c.z H' r.1 v->Q v H'):wpAny (model X.prog X.w) X.A (call (.ref fn) us) (EP X pins σ Q) X.xe s:=by
 obtain ⟨i1,i2,v0,i3,i4⟩:=io;have hvl:vs.length=ps.length:=by rw[<-i1];exact hn
 have hl:us.length=ps.length:=by rw[<-rv.length];exact hvl
 have hb':=hb s us I.xB (by rw[List.append_nil];exact hl);rw[List.append_nil] at hb';obtain ⟨S,sg,chg⟩:=j.chg i;have hsl:=sg sl _ hi i3;have own:∃_:Unit,Ow X.K c.z H m v0 S/\SI c.z X.H₀ H S:=by
  cases sl with
  |no=>cases hm
  |val d=>cases hm
  |own m0=>cases hm;obtain ⟨v,e1,o,so,_⟩:=hsl;cases e1;exact ⟨(),o,so⟩
  |par m0=>cases hm;obtain ⟨v,e1,o,so,_⟩:=hsl;cases e1;exact ⟨(),o,so⟩
 obtain ⟨_,ow,so⟩:=own;have owt:=ow.BQ ho;let S2:Fp:=λ b=>S b/\∀o,H b=some o->¬SH c.cb o
 let c2:Cf:=⟨c.cb,c.L,S2,vs⟩
 have cg:∀t a o,c.z.lo t a=some o->c2.z.lo t a=some o:=λ t a o z=>by cases t<;>exact z
 have cg':∀t a o,c2.z.lo t a=some o->c.z.lo t a=some o:=λ t a o z=>by cases t<;>exact z
 have jc:J X.K c2.z H ((ds.map Slot.val).set q (.par m)) (vs.map some) H:=by
  refine ⟨λ _ _ z _=>z,λ _ z=>z,j.lL,λ _ _ z=>(nomatch z),by simp[i1],λ a b=>a=q/\S2 b,λ a HW ov g1 g2=>?_,λ a a' b ha z z'=>ha (z.1.trans z'.1.symm),λ a b z=>so.here b z.2.1⟩;by_cases e:q=a
  ·subst e;rw[List.getElem?_set_self (by simpa[hn] using hq)] at g1;rw[List.getElem?_map,i4] at g2;cases g1;cases g2;refine ⟨v0,rfl,(xq (ct:=c.z) (fN:=c2.z) rfl cg owt).wide λ b z=>⟨rfl,z⟩,⟨λ b z=> .inr z.2,λ b z=>so.here b z.2.1,λ b z=>so.DF b z.2.1,λ b z t=>(nomatch t)⟩,i4⟩
  ·rw[List.getElem?_set_ne e,List.getElem?_map] at g1;rw[List.getElem?_map] at g2;cases z1:ds[a]? with
   |none=>rw[z1] at g1;cases g1
   |some d=>
    cases z2:vs[a]? with
    |none=>rw[z2] at g2;cases g2
    |some v=>rw[z1] at g1;rw[z2] at g2;cases g1;cases g2;exact ⟨⟨v,rfl,p8 (ct:=c.z) (fN:=c2.z) rfl cg (i2 a d v (λ z=>e z.symm) z1 z2)⟩,λ b z=>e z.1.symm⟩
 let E:XK:=λ _ _ _=>False
 have EM:spD X.K c.cb ps.length F vs H Q E:=by
  refine ⟨hvl,c2,_,rfl,rfl,jc,?_⟩;cases z:F ((ds.map Slot.val).set q (.par m)) with
  |ok d=>rw[z] at h;exact h.elim
  |new d=>rw[z] at h;exact h.elim
  |Gd d os=>rw[z] at h;exact h.elim
  |err d=>rw[z] at h;exact h.elim
  |bad=>rw[z] at h;exact h.elim
  |QY d os=>
   rw[z] at h;rcases os with _|⟨⟨q',m'⟩,_|⟨b2,r2⟩⟩
   ·exact h.elim
   ·simp only[Te] at h;split at h
    ·rename_i eq;subst eq;intro v Γ' σ' H' j' ho' tv;obtain ⟨_,hz⟩:=xr ho';obtain ⟨v',S',g1,g2,g3,g4⟩:=j'.par (i:=q') (by simpa using hz);have ev:v'=v0:=by have:vs[q']? =some v':=g4;rw[i4] at this;exact (Option.some.inj this).symm
     subst ev;have kp:aP c.cb H H':=λ b o hb st=>j'.same b o hb λ w=>w.2 o hb st;have un:∀b o,H b=some o->¬S b->H' b=some o:=λ b o hb w=>j'.same b o hb λ w'=>w w'.1;have sub:∀b,S' b->S b\/H b=none:=λ b w=>(g3.new b w).elim .inr λ w'=> .inl w'.1;have ow':Ow X.K c.z H' m' v' S':=xq (ct:=c2.z) (fN:=c.z) rfl cg' g2;have fin:∀HW,kP X.K c.z X.H₀ H' i S' HW (some v')->Jx X c.z (Γ.set i HW) σ H':=λ HW ok=>by
      have q:=chg H' HW (some v') S' kp un j'.free (λ b u z=>nomatch z) ok sub;have:σ.set i (some v')=σ:=by have e2:=(List.getElem?_eq_some_iff.mp i3).2;rw[<-e2,List.set_getElem_self]
      rwa [this] at q
     have sok:SI c.z X.H₀ H' S':=⟨λ b w=>(sub b w).elim (so.new b) λ w'=> .inl (j.free b w'),g3.here,λ b w=>g3.DF b w,λ b w t=>nomatch t⟩;refine h v H' kp ?_ (p8 (ct:=c2.z) (fN:=c.z) rfl cg' tv);cases sl with
     |no=>cases hm
     |val d=>cases hm
     |own m0=>obtain ⟨_,_,_,_,n0⟩:=hsl;exact fin (.own m') ⟨v',rfl,ow',sok,λ b w=>(sub b w).elim (n0 b) (j.free b)⟩
     |par m0=>obtain ⟨vv,e1,_,_,n0⟩:=hsl;cases e1;exact fin (.par m') ⟨v',rfl,ow',sok,n0⟩
    ·exact h.elim
   ·exact h.elim
 refine wpAny_call (codeAny_mono (G.run X.A X.stack s H ⟨us,[]⟩ us vs Q E hr I.afk hb' rv EM) λ r s' hq=>?_);cases r with
 |error e=>obtain ⟨a,C,H',B,a0,h1,h2,_⟩:=hq;exact h2.elim
 |ok fl=>
  cases fl with
  |ret u=>exact I.after hq
  |next=>exact False.elim hq
  |brk=>exact False.elim hq
  |cont=>exact False.elim hq
def Tp{g:Str}{pg:Pos}(G:i6 X.prog X.w X.K X.mg X.base c.cb k fn fd ps F)(hr:dQ k X.A)(hm:X.mg g=some (.ref fn))(hk:W.keepIn X.K (.ref fn)=true)(hb:Binds X.K fd ps [])(ha:WA X (e::es) (aeZ X c q i fa))(hn:ps.length=n:=by rfl)(hg:Gl X g:=by rfl)(hdb:(g==("__debug__":Str))=false:=by decide)(he:starEach (e::es) X.env=(false,eval e X.env)::starEach es X.env:=by rfl)(hpl:(backTo pos (starEach es X.env)).any (·.1)=false:=by rfl):WE X (.Call (.Name g pg) (e::es) [] pos) (xOf X c (ES n i q F fa)):=by
 have ha:=ha.out;refine ⟨?_⟩;subst hn;intro pins s σ H Q I ⟨Γ,j,h⟩;refine wpAny_Call_Name_kw (qe I hg hm ?_ hdb);unfold ES at h;split at h
 ·rename_i sl hi;split at h
  ·rename_i m hsm;obtain ⟨v0,_,hv0,_⟩:=j.ofM hi hsm;have h':aeZ X c q i fa σ H (λ vs H1=>∃ds,au H H1/\IoT X c q i σ H1 ds vs/\ds.length=ps.length/\q<ps.length/\Y0 m=true/\Ok X c.z σ H (Te i q sl Γ (F ((ds.map Slot.val).set q (.par m)))) λ r=>∀v H',aP c.cb H H'->Jx X c.z r.2 σ H'->Tl X.K c.z H' r.1 v->Q v H'):=by
    refine ⟨Γ,j,⟨v0,hv0⟩,h.bnd λ ds _ h vs H1 s1 io=>?_⟩;split at h
    ·rename_i hc;exact ⟨ds,s1,io,hc.1,hc.2.1,hc.2.2,h⟩
    ·exact h.elim
   refine W.callWith_K (h₀:=X.base) I.ok.mod.kin hk (dc (ha pos pins s σ H _ I h') λ us s1 ⟨vs,H1,I1,r,ds,sm,io,hl,hq,ho,q2⟩=>⟨I1.xB,?_⟩) he hpl;exact ZK G hr hb I1 r (j.mono sm) io hl hq hi hsm ho (Ok.mono sm q2 λ r w v H' kp=>w v H' ((au.keep sm).trans kp))
  ·exact h.elim
 ·exact h.elim
variable{g:Sg->Res (D×Sg)}{Γ:Sg}{σ:St}{H:Hp}
def Tq(a:Nat){pos':Pos}(hN:X.N.Nodup)(he:WE X e (xOf X c g))(hi:X.N[a]? =some x:=by rfl)(hx:Loc X.env.scope x:=by first|exact Or.inl rfl|exact Or.inr rfl)(hs:swapsWith e (some (.Name x pos')) pos.line X.env=pure false:=by rfl)(hf:X.fn x=true\/X.env.scope.names.lookup x=some .local:=by first|exact .inl rfl|exact .inr rfl):uK X c (.Assign [.Name x pos'] e pos) (OZ a g):=by have he:=he.out;exact ⟨PS.imp (Dd hN hi hx he hs hf) λ E σ H ⟨Γ,j,h⟩=>⟨Γ,j,Fn.ok j h λ r _ q v H' kp j' t=>q _ H' kp (j'.set t)⟩⟩
end
section
variable{X:Cx}{ct:Ct}{a b e:Expr}{f g:Sg->Res D}{fa:Sg->Res (List D)}{p pos:Pos}
def Tl.C6{K:W.Frag}{H:Hp}{d:D}{v:V}{ds:List D}(l:au ct.f.L H)(b:au ct.B H)(h:Tl K ct H d v)(e:L4.C6 d=some ds):∃a vs,v= .ref a/\(oA K H a vs\/vB K H a vs)/\aE K ct H ds vs:=by
 cases d with
 |lst xs=>cases e;obtain ⟨a,vs,h1,h2,h3⟩:=h.jK l b rfl;exact ⟨a,vs,h1,.inl h2,h3⟩
 |bor t xs=>cases e;obtain ⟨a,vs,h1,h2,h3⟩:=h.jK l b rfl;exact ⟨a,vs,h1,.inl h2,h3⟩
 |tup xs=>cases e;simp only[Tl] at h;obtain ⟨a,vs,h1,h2,h3⟩:=h;exact ⟨a,vs,h1,.inr (lZ h2),h3⟩
 |gt xs=>cases e;simp only[Tl] at h;obtain ⟨a,vs,h1,h2,h3⟩:=h;exact ⟨a,vs,h1,.inr h2.sq,h3⟩
 |_=>cases e
def P6{K:W.Frag}{H:Hp}{d:D}{v:V}(h:Tl K ct H d v)(e:t7 d=true):qN v=true:=by cases d<;>first|(simp only[Tl] at h;subst h;rfl)|cases e
def afi{K:W.Frag}{H:Hp}{d d':D}{v v':V}(h:Tl K ct H d v)(h':Tl K ct H d' v')(e:t7 d=true)(e':t7 d'=true):eqF d d'=eqV v v':=by cases d<;>cases d'<;>first|cases e;done|cases e';done|(simp only[Tl] at h h';subst h h';rfl)
def G0{K:W.Frag}{H:Hp}:∀{ds:List D} {vs:List V},aE K ct H ds vs->ds.all t7=true->vs.all qN=true
 |[],vs,h,_=>by simp only[aE] at h;subst h;rfl
 |d::ds,vs,h,e=>by simp only[aE] at h;obtain ⟨v,r,rfl,t1,t2⟩:=h;simp only[List.all_cons,Bool.and_eq_true] at e ⊢;exact ⟨P6 t1 e.1,G0 t2 e.2⟩
def Wv{K:W.Frag}{H:Hp}{x:D}{y:V}(h:Tl K ct H x y)(e:t7 x=true):∀{ds:List D} {vs:List V},aE K ct H ds vs->ds.all t7=true->inF x ds=inV y vs
 |[],vs,t,_=>by simp only[aE] at t;subst t;rfl
 |d::ds,vs,t,q=>by simp only[aE] at t;obtain ⟨v,r,rfl,t1,t2⟩:=t;simp only[List.all_cons,Bool.and_eq_true] at q;have ih:=Wv h e t2 q.2;simp only[inF,inV,List.any_cons] at ih ⊢;rw[ih,afi t1 h q.1 e]
def QV:HR X ct (rIn X.K true) rF:=by
 intro σ H x y d1 d2 Q lL lB t1 t2 h;unfold rF at h;split at h
 ·rename_i xs hs;split at h
  ·rename_i hc;obtain ⟨a,vs,rfl,q1,q2⟩:=t2.C6 lL lB hs;refine ⟨a,vs,rfl,q1,P6 t1 hc.1,G0 q2 hc.2,?_⟩;have:=h (.bl (!inF d1 xs)) H (au.refl H) (by simp[Tl]);rw[Wv t1 hc.1 q2 hc.2] at this;simpa using this
  ·exact h.elim
 ·exact h.elim
def Qx(ha:WD X ct a f)(hb:WD X ct b g)(hm:behindInMarks .NotIn b=false:=by rfl):HP X ct (.Compare a [.NotIn] [b] pos) (dT (aO rF f g)):=by have ha:=ha.out;have hb:=hb.out;exact ⟨xm Dm QV ha hb hm⟩
variable{cc:Expr}{h:Sg->Res D}
def Hw{r2 r2':R2}{r r':D->D->Res D}(ho:HR X ct r2 r)(ho':HR X ct r2' r'):∀σ H Q,nY X ct (pR r r' f g h) σ H Q->II r2 r2' (nY X ct f) (nY X ct g) (nY X ct h) σ H Q:=by
 rintro σ H Q ⟨Γ,j,q⟩
 refine nY.bnd j q λ x v H1 s1 t1 j1 q1=>?_;refine nY.bnd (W:=Wd X ct H Q) j1 (Ok.mono s1 q1 λ _ z=>z) λ y u H2 s2 t2 j2 q2=>?_;have t1':=t1.keep (au.keep s2);refine ho σ H2 v u x y _ j2.lL j2.lB t1' t2 ?_;have q3:Ok X ct σ H2 ((r x y).bnd λ z=>match z with
  | .bl true=>(h Γ).bnd λ w=>r' y w
  | .bl false=> .ok (.bl false)
  |_=> .bad) (Wd X ct H Q):=Ok.mono s2 q2 λ _ z=>z
 refine q3.bnd λ z _ q4 zv H3 s3 tz=>?_;cases z with
 |bl k=>
  simp only[Tl] at tz;refine ⟨k,tz,?_⟩;have j3:=j2.mono s3;cases k with
  |false=>exact Ka (q4 (.bl false) H3 ((s1.trans s2).trans s3) (by simp[Tl]))
  |true=>refine J9 ?_;refine nY.bnd (f:=h) (r:=λ w=>r' y w) (W:=Wd X ct H Q) j3 (Ok.mono s3 q4 λ _ z=>z) λ w wv H4 s4 t4 j4 q5=>?_;exact ho' σ H4 u wv y w Q j4.lL j4.lB (t2.keep (au.keep (s3.trans s4))) t4 (Ok.mono s4 q5 λ d z=>z.mono (((s1.trans s2).trans s3).trans s4))
 |_=>exact q4.elim
def E3{op op':CmpOp}{r2 r2':R2}{r r':D->D->Res D}(hr:nU X (compareOp op) r2)(hr':nU X (compareOp op') r2')(ho:HR X ct r2 r)(ho':HR X ct r2' r')(ha:WD X ct a f)(hb:WD X ct b g)(hc:WD X ct cc h)(hm:lastMarks [op,op'] [b,cc]=false:=by with_unfolding_all rfl):WD X ct (.Compare a [op,op'] [b,cc] pos) (pR r r' f g h):=by have ha:=ha.out;have hb:=hb.out;have hc:=hc.out;exact ⟨PE.imp (UZ hr hr' ha hb hc hm) (Hw ho ho')⟩
def BE{op op':CmpOp}{r2 r2':R2}{r r':D->D->Res D}(hr:nU X (compareOp op) r2)(hr':nU X (compareOp op') r2')(ho:HR X ct r2 r)(ho':HR X ct r2' r')(ha:WD X ct a f)(hb:WD X ct b g)(hc:WD X ct cc h)(hm:lastMarks [op,op'] [b,cc]=false:=by with_unfolding_all rfl):HP X ct (.Compare a [op,op'] [b,cc] pos) (dT (pR r r' f g h)):=by have ha:=ha.out;have hb:=hb.out;have hc:=hc.out;exact ⟨PT.imp (UC hr hr' ha hb hc hm) (IF (Hw ho ho'))⟩
variable{es:List Expr}
def Zn(hm:X.mg "list"=none)(ha:xO X ct (e::es) fa)(hg:Gl X "list":=by rfl)(he:starEach (e::es) X.env=(false,eval e X.env)::starEach es X.env:=by rfl)(hpl:(backTo pos (starEach es X.env)).any (·.1)=false:=by rfl):WL X ct (.Call (.Name "list" p) (e::es) [] pos) (Y3 Gy fa):=by
 have ha:=ha.out;refine ⟨?_⟩;refine PE.imp (BY Ew hg hm (by decide+kernel) ha (by decide) (by decide) he hpl) λ σ H Q ⟨Γ,j,h⟩=>?_;refine HY.bnd j h λ ds vs H' s t j' h'=>?_;unfold Gy at h';split at h'
 ·rename_i x;split at h'
  ·rename_i xs hs;obtain ⟨v,rfl,t1⟩:=wc t;obtain ⟨a,us,rfl,q1,q2⟩:=t1.C6 j'.lL j'.lB hs;refine ⟨a,us,rfl,q1,λ l hl=>?_⟩;have s2:=aT hl (.lst us);exact h' l us _ (s.trans s2) (s.free hl) aD (q2.keep (au.keep s2))
  ·exact h'.elim
 ·exact h'.elim
def E0(hm:X.mg "tuple"=none)(ha:xO X ct (e::es) fa)(hg:Gl X "tuple":=by rfl)(he:starEach (e::es) X.env=(false,eval e X.env)::starEach es X.env:=by rfl)(hpl:(backTo pos (starEach es X.env)).any (·.1)=false:=by rfl):WD X ct (.Call (.Name "tuple" p) (e::es) [] pos) (xM CO fa):=by
 have ha:=ha.out;refine ⟨?_⟩;refine PE.imp (BY Bt hg hm (by decide+kernel) ha (by decide) (by decide) he hpl) (Qc λ σ H vs ds Q lL lB t h=>?_);unfold CO at h;split at h
 ·rename_i x;split at h
  ·rename_i xs hs;obtain ⟨v,rfl,t1⟩:=wc t;have lst:∀{ys:List D} {a:Addr} {us:List V},oA X.K H a us->aE X.K ct H ys us->Wd X ct H Q (.tup ys)->∀l,H l=none->Q (.ref l) (upd H l (.tup us)):=λ q1 q2 h l hl=>by rename_i ys a us;have s2:=aT hl (.tup us);refine h _ _ s2 ?_;simp only[Tl];exact ⟨l,us,rfl,aD,q2.keep (au.keep s2)⟩
   cases x with
   |tup ys=>cases hs;simp only[Tl] at t1;obtain ⟨a,us,rfl,q1,q2⟩:=t1;refine ⟨a,us,rfl,.inr ⟨lZ q1,h _ H (au.refl H) ?_⟩⟩;simp only[Tl];exact ⟨a,us,rfl,q1,q2⟩
   |gt ys=>cases hs;simp only[Tl] at t1;obtain ⟨a,us,rfl,q1,q2⟩:=t1;refine ⟨a,us,rfl,.inr ⟨q1.sq,h _ H (au.refl H) ?_⟩⟩;simp only[Tl];exact ⟨a,us,rfl,q1,q2⟩
   |lst ys=>cases hs;obtain ⟨a,us,rfl,q1,q2⟩:=t1.jK lL lB rfl;exact ⟨a,us,rfl,.inl ⟨q1,lst q1 q2 h⟩⟩
   |bor _ ys=>cases hs;obtain ⟨a,us,rfl,q1,q2⟩:=t1.jK lL lB rfl;exact ⟨a,us,rfl,.inl ⟨q1,lst q1 q2 h⟩⟩
   |_=>cases hs
  ·exact h.elim
 ·exact h.elim
end
section
variable{X:Cx}{ct:Ct}{a b e:Expr}{f g:Sg->Res D}{pos:Pos}
def aaN{K:W.Frag}{H:Hp}{d:D}{v:V}{k:Key}(h:Tl K ct H d v)(e:aaO d=some k):v=kV k:=by
 cases d with
 |int i=>cases e;simp only[Tl] at h;exact h
 |str x=>cases e;simp only[Tl] at h;exact h
 |_=>cases e
end
section
variable{X:Cx}{c:Cf}{r ix e:Expr}{i:Nat}{g:Sg->Res (List Nat)}{f fk:Sg->Res D}{pos:Pos}{Γ:Sg}{σ:St}{H:Hp}
end
section
variable{X:Cx}{ct:Ct}{pos:Pos}{e:Expr}{f:Sg->Res D}{fa:Sg->Res (List D)}{keys:List (Option Expr)}{values:List Expr}{ks:List Key}
end
section
variable{X:Cx}{c:Cf}{tg iter:Expr}{fi:Sg->Res (List D)}{t:Tg}{B:Sg->Out}{body:List Stmt}{pos:Pos}
def eK(g:Good X)(hi:WID X c.z tg iter fi)(hg:WGD X c.z tg t)(hb:qH X c body B)(hs:∀x,foldedSetIterable iter X.env x=pure x:=by intro _;rfl):uK X c (.For tg iter body [] pos) (mE fi t B):=by
 have hi:=hi.out;have hg:=hg.out;have hb:=hb.out;refine ⟨?_⟩;refine PS.imp (ad5 g.po g.calm hi hg hb hs) λ E σ H ⟨Γ,j,h⟩=>⟨Γ,j,Fn.ok j h λ xs _ q J H' s it=>?_⟩;obtain ⟨P,p0,pk,pg,pst⟩:=it;have h':Fn X c H' (fM t B xs Γ) E:=q.mono (au.keep s);refine ⟨λ i m σ1 H1=>i+m=xs.length/\P H1/\∃Γ1,Jx X c.z Γ1 σ1 H1/\aP c.cb H' H1/\fM t B (xs.drop i) Γ1=fM t B xs Γ,⟨xs.length,by simp,p0,Γ,j.mono s,aP.refl H',rfl⟩,?_⟩
 rintro i m σ1 H1 ⟨hm,p1,Γ1,j1,k1,e1⟩
 cases hd:xs[i]? with
 |none=>
  have hl:xs.length<=i:=by simpa using hd
  refine .inl ⟨pst i H1 p1 hl,?_⟩;rw[List.drop_eq_nil_of_le hl] at e1;rw[<-e1] at h';exact h' σ1 H1 k1 j1
 |some d=>
  obtain ⟨g1,g2⟩:=pg i d H1 p1 hd;have hl:i<xs.length:=(List.getElem?_eq_some_iff.mp hd).1;refine .inr ⟨g1,λ σ3 H3=>P H3/\∃Γ3,Jx X c.z Γ3 σ3 H3/\aP c.cb H' H3/\fM t B (xs.drop (i+1)) Γ3=fM t B xs Γ,λ σ3 H3 ⟨p3,z⟩=>⟨m- 1,by omega,by omega,p3,z⟩,λ x H2 y=>?_⟩;obtain ⟨sm2,td⟩:=g2 x H2 y;have k2:aP c.cb H' H2:=k1.trans (au.keep sm2);rw[drop_one hd] at e1;cases e2:t d Γ1 with
  |none=>exact (aas e2 e1 h').elim
  |some Γ2=>exact ⟨Γ1,d,Γ2,j1.mono sm2,td,e2,λ σ2 j2=>⟨Γ2,j2,Zz k2 e2 e1 h' λ Γ3 σ3 H3 k3 j3 e3=>⟨pk H' H3 p0 k3 j3.lL j3.lB,Γ3,j3,k3,e3⟩⟩⟩
end
section
variable{X:Cx}{ct:Ct}{a b e:Expr}{f g:Sg->Res D}{fa:Sg->Res (List D)}{p pos:Pos}
end
section
variable{X:Cx}{ct:Ct}{x:Str}{p pos:Pos}{C a:Addr}{cn:String}
def TU{K:W.Frag}{H:Hp}{ds:List D}{vs:List V}{o:Obj}{its:Array Value}{n:Nat}(hl:K.lookup a=some o)(hc:o.cls= .type "tuple")(hd:o.data= .seq its n)(hz:its.size<=sizeLine)(r:Vals vs its.toList)(t:aE K ct H ds vs):Tl K ct H (.gt ds) (.ref a):=by simp only[Tl];exact ⟨a,vs,rfl,⟨o,its,n,hl,hc,hd,hz,r⟩,t⟩
def Y9(K:W.Frag)(u:Value)(d:D):Prop:=∃v:V,RelV v u/\∀(ct:Ct) (H:Hp),Tl K ct H d v
def gT{u:Value}{d:D}(hm:X.mg x=some u)(ht:Y9 X.K u d)(hg:Gl X x:=by rfl)(hd:(x==("__debug__":Str))=false:=by decide):WD X ct (.Name x pos) (dC d):=by refine ⟨?_⟩;obtain ⟨v,r,t⟩:=ht;exact Z9 (v:=v) hg hm r (λ H=>t ct H) hd
def je{K:W.Frag}{i:Int}{t:Tok}:Y9 K (.int i t) (.int i):=⟨.int i,⟨t,rfl⟩,λ _ _=>by simp[Tl]⟩
def abS(K:W.Frag)(us:List Value)(ds:List D):Prop:=∃vs:List V,Vals vs us/\∀(ct:Ct) (H:Hp),aE K ct H ds vs
def GS{K:W.Frag}:abS K [] []:=⟨[],.nil,λ _ _=>aE.nil⟩
def jY{K:W.Frag}{u:Value}{us:List Value}{d:D}{ds:List D}(h:Y9 K u d)(t:abS K us ds):abS K (u::us) (d::ds):=by obtain ⟨v,r,q⟩:=h;obtain ⟨vs,rs,qs⟩:=t;exact ⟨v::vs,.cons r rs,λ ct H=>aE.cons (q ct H) (qs ct H)⟩
def PY{K:W.Frag}{us:List Value}{ds:List D}{od:Option Addr}{sl:Array (Option Value)}{n:Nat}(hl:K.lookup a=some ⟨.type "tuple",od,.seq us.toArray n,sl⟩)(hz:us.length<=1000)(h:abS K us ds):Y9 K (.ref a) (.gt ds):=by obtain ⟨vs,rs,qs⟩:=h;exact ⟨.ref a,rfl,λ ct H=>TU hl rfl rfl (by rw[sizeLine_eq];simp;omega) (by simpa using rs) (qs ct H)⟩
structure Mk0(K:W.Frag)(C:Addr):Prop where
 makes:W.makesIn K C=true
 init:W.findIn K (.ref C) "__init__"=some (some (.builtin "object.__init__"))
 kp:W.keepIn K (.ref C)=true
def Tz(Mc:Mk0 X.K C)(hcc:ct.f.cb.cls cn=some (C,[]))(hm:X.mg x=some (.ref C))(hg:Gl X x:=by rfl)(hdb:(x==("__debug__":Str))=false:=by decide):WD X ct (.Call (.Name x p) [] [] pos) (dC (.obj cn [] [])):=by
 refine ⟨?_⟩;intro pins s σ H Q I ⟨Γ,j,h⟩;refine wpAny_Call_Name_kw (qe I hg hm ?_ hdb);refine W.callWith_K0 I.xB Mc.kp (wpAny_call ?_);have hx0:H (s.heap.objs.size+1)=none:=I.hok.fresh (Nat.le_succ _);have hd0:H s.heap.objs.size=none:=I.hok.fresh (Nat.le_refl _);have hne:s.heap.objs.size≠s.heap.objs.size+1:=Nat.ne_of_lt (Nat.lt_succ_self _);have I2:=Inv.made (C:=C) I;have smm:au H (upd (upd H s.heap.objs.size (.own (s.heap.objs.size+1))) (s.heap.objs.size+1) (.ins C s.heap.objs.size [])):=(aT hd0 _).trans (aT (by rw[aC (Ne.symm hne)];exact hx0) _);have z:EP X pins σ Q (.ref (s.heap.objs.size+1)) {s with heap:=(s.heap.push W.emptyDict).push (W.instObj C s.heap.objs.size)}:=by refine ⟨.ref (s.heap.objs.size+1),_,I2,rfl,h _ _ smm ?_⟩;simp only[Tl];exact ⟨_,C,s.heap.objs.size,[],rfl,hcc,aD,rfl,aE.nil⟩
 obtain ⟨hh,gs,dd,t,os⟩:=s;have Y:=W.makes_of (M:=model X.prog X.w) I.xB Mc.makes;refine W.make_core Y (W.looks_findIn I.xB Mc.init) (λ self=>W.Looks.of_pure (W.oi_bind self)) (.inr ⟨rfl,rfl⟩) ?_;have e1:((hh.push W.emptyDict).push (W.instObj C hh.objs.size)).get? (hh.objs.size+1)=some (W.instObj C hh.objs.size):=by have:=Heap.get?_push_size (hh.push W.emptyDict) (o:=W.instObj C hh.objs.size) rfl;rwa [Heap.size_push] at this
 have t1:W.Looks (model X.prog X.w) ((hh.push W.emptyDict).push (W.instObj C hh.objs.size)) (typeOf (.ref (hh.objs.size+1))) (.ref C):=(W.Looks.ld e1).andThen .now;have t2:W.Looks (model X.prog X.w) ((hh.push W.emptyDict).push (W.instObj C hh.objs.size)) (isInstance (.ref (hh.objs.size+1)) (.type "object")) true:=t1.andThen (Y.top.keeps λ b o e=>Heap.get?_push_of_some _ (Heap.get?_push_of_some _ e));refine codeAny_call_builtin W.oi_plain W.entry_oi (@W.check_slot (model X.prog X.w) _ _ _ "object.__init__" "object" "__init__" (.ref (hh.objs.size+1)) [] [] _ W.oi_kind W.oi_split t2 (W.oi_args (.ref (hh.objs.size+1))) ?_);exact wpAny_of_eq (W.oi_run _) (And.intro rfl z)
end
section
variable{X:Cx}{c:Cf}{e:Expr}{f:Sg->Res D}{p:Sg->Res Bool}{F G B:Sg->Out}{pos:Pos}{body:List Stmt}
def BG(he:WD X c.z e f)(hs:swapsWith e none pos.line X.env=pure false:=by rfl):uK X c (.Expr e pos) (BW f):=by have he:=he.out;refine ⟨?_⟩;intro pins s σ H E I ⟨Γ,j,h⟩;exact sS he hs pins s σ H E I ⟨Γ,j,Fn.ok j h λ d _ q v H' s t=>q σ H' (au.keep s) (j.mono s)⟩
def b6{ce:Expr}{a b:List Stmt}(hc:HP X c.z ce p)(ha:qH X c a F)(hb:qH X c b G):uK X c (.If ce a b pos) (uQ p F G):=by
 have hc:=hc.out;have ha:=ha.out;have hb:=hb.out;refine ⟨?_⟩;intro pins s σ H E I ⟨Γ,j,h⟩;refine ab4 hc ha hb pins s σ H E I ⟨Γ,j,Fn.ok j h λ x _ q H' s=>?_⟩;cases x with
 |true=>exact J9 ⟨Γ,j.mono s,Fn.mono (au.keep s) q⟩
 |false=>exact Ka ⟨Γ,j.mono s,Fn.mono (au.keep s) q⟩
def xV(n:Nat){ce:Expr}(g:Good X)(hc:HP X c.z ce p)(hb:qH X c body B):uK X c (.While ce body [] pos) (eG p B n):=by
 have hc:=hc.out;have hb:=hb.out;refine ⟨?_⟩;refine PS.imp (UE g.po hc hb) λ E σ H ⟨Γ,j,h⟩=>?_;refine ⟨λ m σ1 H1=>∃Γ1,Jx X c.z Γ1 σ1 H1/\aP c.cb H H1/\eG p B m Γ1=eG p B n Γ,⟨n,Γ,j,aP.refl H,rfl⟩,?_⟩
 rintro m σ1 H1 ⟨Γ1,j1,k1,e1⟩
 cases m with
 |zero=>rw[<-e1] at h;exact h.elim
 |succ m=>
  refine ⟨Γ1,j1,?_⟩;rw[<-e1] at h;have h2:=h.mono k1;simp only[eG] at h2;refine Fn.ok j1 h2 λ x ec q H2 s2=>?_;cases x with
  |false=>exact Ka (q σ1 H2 (au.keep s2) (j1.mono s2))
  |true=>
   refine J9 ⟨λ σ3 H3=>∃Γ3,Jx X c.z Γ3 σ3 H3/\aP c.cb H H3/\eG p B m Γ3=eG p B n Γ,λ σ3 H3 z=>⟨m,Nat.lt_succ_self m,z⟩,Γ1,j1.mono s2,?_⟩;simp only[if_true] at q;simp only[eG,ec,ah2,if_true] at e1;have k2:aP c.cb H H2:=k1.trans (au.keep s2);cases eb:B Γ1 with
   |nx Γ3=>rw[eb] at e1;exact λ σ3 H3 k3 j3=>⟨Γ3,j3,k2.trans k3,e1⟩
   |ct Γ3=>rw[eb] at e1;exact λ σ3 H3 k3 j3=>⟨Γ3,j3,k2.trans k3,e1⟩
   |bk Γ3=>rw[eb] at q;exact λ σ3 H3 k3 j3=>q σ3 H3 ((au.keep s2).trans k3) j3
   |rt d=>rw[eb] at q;exact q
   |O3 d=>rw[eb] at q;exact q
   |SQ d Γ3=>rw[eb] at q;exact q
   |Av d Γ3=>rw[eb] at q;exact q
   |err x Γ3=>rw[eb] at q;exact λ σ3 H3 e s' k3 j3 r=>q σ3 H3 e s' ((au.keep s2).trans k3) j3 r
   |bad=>rw[eb] at q;exact q
end
section
variable{X:Cx}{ct:Ct}
def ab8:HR X ct (rI (λ _ _=>True) λ i j=> .bl (decide (i<j))) ltI:=jd (λ _ _ _=>trivial) λ _ _ _ _ _=>by simp[Tl]
def B3:HR X ct (rI (λ _ _=>True) λ i j=> .bl (decide (i<=j))) leI:=jd (λ _ _ _=>trivial) λ _ _ _ _ _=>by simp[Tl]
end
def IG{α:Type}{a c:String}{A C:α}{r:List (String×α)}(h:((a,A)::r).lookup c=some C):(c=a/\C=A)\/r.lookup c=some C:=by
 rw[List.lookup_cons] at h;by_cases q:(c==a)=true
 ·rw[q] at h;exact .inl ⟨by simpa using q,(Option.some.inj h).symm⟩
 ·rw[Bool.not_eq_true] at q;rw[q] at h;exact .inr h
def dX{α:Type}{c:String}{C:α}:∀{r:List (String×α)},r.lookup c=some C->(c,C)∈r
 |[],h=>by cases h
 |(a,A)::r,h=>by
  rcases IG h with ⟨rfl,rfl⟩|h
  ·exact List.mem_cons_self ..
  ·exact List.mem_cons_of_mem _ (dX h)
noncomputable abbrev mW:=List (String×(Addr×List Str))
abbrev Xr(E:List (String×Addr))(T:mW):Cb:=⟨λ c=>E.lookup c,λ c=>T.lookup c,λ c=>(T.lookup c).map (·.1)⟩
def Wr{T:mW}{c:String}{C:Addr}(h:(T.lookup c).map (·.1)=some C):∃ns,T.lookup c=some (C,ns):=by
 cases q:T.lookup c with
 |none=>rw[q] at h;cases h
 |some x=>rw[q] at h;cases h;exact ⟨x.2,rfl⟩
def Q6{T:mW}(hn:(T.map (·.2.1)).Nodup){a b:String×(Addr×List Str)}(ha:a∈T)(hb:b∈T)(e:a.2.1=b.2.1):a=b:=by
 induction T with
 |nil=>cases ha
 |cons x r ih=>
  simp only[List.map_cons,List.nodup_cons,List.mem_map,not_exists,not_and] at hn;rcases List.mem_cons.mp ha with ea|ha'
  ·rcases List.mem_cons.mp hb with eb|hb'
   ·rw[ea,eb]
   ·rw[ea] at e;exact absurd e.symm (hn.1 b hb')
  ·rcases List.mem_cons.mp hb with eb|hb'
   ·rw[eb] at e;exact absurd e (hn.1 a ha')
   ·exact ih hn.2 ha' hb'
def VJ{T:mW}{c:String}{full:List Str}:((T.map λ e=>(e.1,e.2.2)).lookup c=some full)->∃C,T.lookup c=some (C,full):=by
 induction T with
 |nil=>intro h;cases h
 |cons x r ih=>
  intro h;obtain ⟨a,A,ns⟩:=x;by_cases q:(c==a)=true
  ·rw[List.map_cons,List.lookup_cons] at h;simp only[q] at h;cases h;exact ⟨A,by rw[List.lookup_cons,q]⟩
  ·rw[Bool.not_eq_true] at q;rw[List.map_cons,List.lookup_cons] at h;simp only[q] at h;obtain ⟨C,e⟩:=ih h;exact ⟨C,by rw[List.lookup_cons,q];exact e⟩
def abf{E:List (String×Addr)}{T:mW}(hn:(T.map (·.2.1)).Nodup):afZ (Xr E T) (T.map λ e=>(e.1,e.2.2)):=by intro c C full hi hf c' ns' hc;obtain ⟨ns,h1⟩:=Wr hi;obtain ⟨C2,h2⟩:=VJ hf;rw[h1] at h2;cases h2;have m1:=dX h1;have m2:=dX (show T.lookup c'=some (C,ns') from hc);have:=Q6 hn m1 m2 rfl;cases this;rfl
def acn{K:W.Frag}{f:Str}{E:List (String×Addr)}{T:mW}(h:∀e∈T,HV K e.2.1/\pV K e.2.1 f):FA K (Xr E T) f:=by
 intro C hc;rcases hc with ⟨c,hc⟩|⟨c,ns,hc⟩
 ·obtain ⟨ns,h1⟩:=Wr hc;exact h _ (dX h1)
 ·exact h _ (dX (show T.lookup c=some (C,ns) from hc))
def jB{α:Type}{p:α->Prop}:∀e∈([]:List α),p e:=λ e h=>nomatch h
def bG{α:Type}{p:α->Prop}{a:α}{r:List α}(h:p a)(t:∀e∈r,p e):∀e∈a::r,p e:=λ e he=>by
 rcases List.mem_cons.mp he with rfl|he
 ·exact h
 ·exact t e he
def W2{E:List (String×Addr)}{P:String->Addr->Prop}(h:∀e∈E,P e.1 e.2){c:String}{C:Addr}(hc:E.lookup c=some C):P c C:=h _ (dX hc)
def ae1{T:mW}{P:String->Addr->Prop}(h:∀e∈T,P e.1 e.2.1){c:String}{C:Addr}{ns:List Str}(hc:T.lookup c=some (C,ns)):P c C:=h _ (dX hc)
def hb1{f:String->Option Bool}{c:String}{b:Bool}(e:f c=some b){P:Bool->Prop}(h:P b):∀b',f c=some b'->P b':=λ b' q=>by rw[e] at q;cases q;exact h
def mt1{cb:Cb}{c:String}{C0:Addr}{ns0:List Str}(q:cb.cls c=some (C0,ns0)){P:Addr->List Str->Prop}(h:P C0 ns0):∀C ns,cb.cls c=some (C,ns)->P C ns:=λ C ns z=>by rw[q] at z;cases z;exact h
def JK{X:Cx}{cb:Cb}{m:Str}{n:Nat}{oG:List (String×(List Slot->cJ))}(h:∀e∈oG,∀C ns,cb.cls e.1=some (C,ns)->∃(k:Nat) (f:Addr) (fd:FuncData) (ps:List Str),HV X.K C/\Meth X.K C m f/\i6 X.prog X.w X.K X.mg X.base cb k f fd ps e.2/\dQ k X.A/\Binds X.K fd ps []/\ps.length=n+1/\m∉ns):SJ X cb m n oG:=λ c C ns F hc hF=>h _ (dX hF) C ns hc
def len0{us:List Value}(h:us.length=0):us=[]:=List.eq_nil_of_length_eq_zero h
def om{us:List Value}(h:us.length=1):∃u0,us=[u0]:=by
 cases us with
 |nil=>cases h
 |cons a r=>obtain rfl:=len0 (us:=r) (Nat.succ.inj h);exact ⟨a,rfl⟩
def tQ{us:List Value}(h:us.length=2):∃u0 u1,us=[u0,u1]:=by
 cases us with
 |nil=>cases h
 |cons a r=>obtain ⟨v0,rfl⟩:=om (us:=r) (Nat.succ.inj h);exact ⟨a,v0,rfl⟩
def aeK{us:List Value}(h:us.length=3):∃u0 u1 u2,us=[u0,u1,u2]:=by
 cases us with
 |nil=>cases h
 |cons a r=>obtain ⟨v0,v1,rfl⟩:=tQ (us:=r) (Nat.succ.inj h);exact ⟨a,v0,v1,rfl⟩
def al4{us:List Value}(h:us.length=4):∃u0 u1 u2 u3,us=[u0,u1,u2,u3]:=by
 cases us with
 |nil=>cases h
 |cons a r=>obtain ⟨v0,v1,v2,rfl⟩:=aeK (us:=r) (Nat.succ.inj h);exact ⟨a,v0,v1,v2,rfl⟩
end L4
end
section
namespace L4
open PySem PySem.Spec PyProof.Rows L2 PySem.W
noncomputable def xB{α:Type}(n:Nat):KasT α->Prop
 | .ret _=>True
 | .ask i j k=>i<n/\j<n/\i≠j/\∀b,xB n (k b)
section
variable{prog:Program}{w:World}{A:Around}{E:Value->Shared->Prop}{s:Shared}
def range_getD(vs:List Value):((List.range vs.length).map λ i=>vs.getD i Value.none)=vs:=by
 apply List.ext_getElem
 ·simp
 ·intro i h1 h2;simp at h1;simp[h1]
end
section
variable{X:Cx}{ct:Ct}{e:Expr}{es:List Expr}{fa:Sg->Res (List D)}{p pos:Pos}
def Cd{M:Model}{h:Heap}{i:Int}{t:Tok}:Looks M h (typeOf (.int i t)) (.type "int"):=Looks.of_pure rfl
end
end L4
end
section
namespace L4
open PySem
noncomputable abbrev oF:=Sum Int Str
def Ci:List D->Option (List oF)
 |[]=>some []
 |d::ds=>match aaO d,Ci ds with
  |some k,some ks=>some (k::ks)
  |_,_=>none
def V3:D->Option (List oF)
 | .tup ds=>Ci ds
 |_=>none
def R7:D->Option (List (List oF)×List D)
 | .uh (.t ks) xs=>some (ks,xs)
 | .oq _ (.t ks) xs=>some (ks,xs)
 |_=>none
def wI(ks:List (List oF))(xs:List D)(k:List oF):Option D:=((ks.zip xs).find? λ kv=>decide (kv.1=k)).map (·.2)
def zE(o y:D):Res D:=match R7 o,V3 y with
 |some (ks,xs),some k=>(match wI ks xs k with
  |some d=> .ok d
  |none=> .bad)
 |_,_=> .bad
def Cn(o y z:D):Res D:=match R7 o,V3 y with
 |some (ks,xs),some k=> .ok ((wI ks xs k).getD z)
 |_,_=> .bad
def vS(f g h:Sg->Res D):Sg->Res D:=λ Γ=>(f Γ).bnd λ o=>match R7 o with
 |some _=>(g Γ).bnd λ y=>(h Γ).bnd λ z=>Cn o y z
 |none=> .bad
def BS(ks:List (List oF))(k:List oF):List (List oF):=if (ks.any λ n=>decide (n=k))=true then ks else ks++[k]
def Fj(ks:List (List oF))(xs:List D)(k:List oF)(d:D):List D:=if (ks.any λ n=>decide (n=k))=true then (ks.zip xs).map (λ kv=>if kv.1=k then d else kv.2) else xs++[d]
def vF(k:List oF)(d:D):M->Option M
 | .k (.t ks) xs=>if nt d=true/\ks.length<1000000 then some (.k (.t (BS ks k)) (Fj ks xs k d)) else none
 |_=>none
def yq(i:Nat)(g:Sg->Res (List Nat))(fk f:Sg->Res D):Sg->Out:=λ Γ=>oE (f Γ) Γ λ d=>oE (g Γ) Γ λ ks=>oE (fk Γ) Γ λ z=>match V3 z with
 |some k=>YZ (yb i ks (vF k d) Γ)
 |none=> .bad
def dZ:List Int->List Int->Bool
 |[],[]=>false
 |[],_::_=>true
 |_::_,[]=>false
 |x::xs,y::ys=>if x=y then dZ xs ys else decide (x<y)
def pJ:∀(x y:List Int),x≠y->dZ x y=!dZ y x
 |[],[],h=>absurd rfl h
 |[],_::_,_=>rfl
 |_::_,[],_=>rfl
 |a::x,b::y,h=>by
  simp only[dZ];by_cases e:a=b
  ·subst e;simp only[if_true];exact pJ x y λ z=>h (by rw[z])
  ·have e':b≠a:=λ z=>e z.symm;simp only[e,e',if_false];by_cases q:a<b
   ·have:¬b<a:=by omega
    simp[q,this]
   ·have:b<a:=by omega
    simp[q,this]
def qd:∀(x y z:List Int),dZ x y=true->dZ y z=true->dZ x z=true
 |[],[],_,h,_=>by simp[dZ] at h
 |[],_::_,[],_,h=>by simp[dZ] at h
 |[],_::_,_::_,_,_=>rfl
 |_::_,[],_,h,_=>by simp[dZ] at h
 |_::_,_::_,[],_,h=>by simp[dZ] at h
 |a::x,b::y,c::z,h1,h2=>by
  simp only[dZ] at h1 h2 ⊢;by_cases e1:a=b
  ·subst e1;simp only[if_true] at h1;by_cases e2:a=c
   ·subst e2;simp only[if_true] at h2 ⊢;exact qd x y z h1 h2
   ·simp only[e2,if_false] at h2 ⊢;exact h2
  ·simp only[e1,if_false] at h1;have h1:a<b:=by simpa using h1
   by_cases e2:b=c
   ·subst e2;simp only[e1,if_false];simpa using h1
   ·simp only[e2,if_false] at h2;have h2:b<c:=by simpa using h2
    have e3:a≠c:=by omega
    simp only[e3,if_false];have:a<c:=by omega
    simpa using this
abbrev KD:=List Int×D
def CT(x:KD):List KD->List KD
 |[]=>[x]
 |y::l=>if dZ x.1 y.1=true then x::y::l else y::CT x l
def YY:List KD->List KD
 |[]=>[]
 |x::l=>CT x (YY l)
def uP(x:KD):∀l,(CT x l).Perm (x::l)
 |[]=> .refl _
 |y::l=>by
  unfold CT;split
  ·exact .refl _
  ·exact ((uP x l).cons y).trans (.swap x y l)
def yc:∀l,(YY l).Perm l
 |[]=> .refl _
 |x::l=>(uP x (YY l)).trans ((yc l).cons x)
def LtK(a b:KD):Prop:=dZ a.1 b.1=true
def OX{x:KD}:∀{l:List KD},l.Pairwise LtK->(∀y∈l,x.1≠y.1)->(CT x l).Pairwise LtK
 |[],_,_=>List.pairwise_singleton _ _
 |y::l,h,hn=>by
  unfold CT;have h1:=(List.pairwise_cons.mp h).1;have h2:=(List.pairwise_cons.mp h).2;split
  ·rename_i q;refine List.pairwise_cons.mpr ⟨λ z hz=>?_,h⟩;rcases List.mem_cons.mp hz with rfl|hz
   ·exact q
   ·exact qd _ _ _ q (h1 z hz)
  ·rename_i q;refine List.pairwise_cons.mpr ⟨λ z hz=>?_,OX h2 λ y' hy'=>hn y' (.tail _ hy')⟩;have hz:=(uP x l).mem_iff.mp hz;rcases List.mem_cons.mp hz with rfl|hz
   ·show dZ y.1 z.1=true;rw[pJ _ _ (λ e=>hn y (.head _) e.symm)];simpa using q
   ·exact h1 z hz
def Uh:∀{l:List KD},(l.map (·.1)).Nodup->(YY l).Pairwise LtK
 |[],_=>List.Pairwise.nil
 |x::l,h=>OX (Uh (List.nodup_cons.mp h).2) λ y hy e=>by have hy:=(yc l).mem_iff.mp hy;exact (List.nodup_cons.mp h).1 (List.mem_map.mpr ⟨y,hy,e.symm⟩)
def VN(x:List Int):dZ x x=false:=by
 induction x with
 |nil=>rfl
 |cons a x ih=>simp[dZ,ih]
def BL:∀{l m:List KD},l.Perm m->l.Pairwise LtK->m.Pairwise LtK->l=m
 |[],m,p,_,_=>(List.nil_perm.mp p).symm▸rfl
 |x::l,[],p,_,_=>by simpa using p.length_eq
 |x::l,y::m,p,h1,h2=>by
  have e:x=y:=by
   have hx:=p.mem_iff.mp (.head (a:=x) l);have hy:=p.mem_iff.mpr (.head (a:=y) m);rcases List.mem_cons.mp hx with e|hx
   ·exact e
   ·rcases List.mem_cons.mp hy with e|hy
    ·exact e.symm
    ·have a1:dZ y.1 x.1=true:=(List.pairwise_cons.mp h2).1 x hx;have a2:dZ x.1 y.1=true:=(List.pairwise_cons.mp h1).1 y hy;have:=qd _ _ _ a1 a2;rw[VN] at this;cases this
  subst e;rw[BL (List.Perm.cons_inv p) (List.pairwise_cons.mp h1).2 (List.pairwise_cons.mp h2).2]
def aeF{α β:Type}{n:Nat}{f:Nat->β}{l:List α}{g:α->β}(hl:l.length=n)(h:∀i a,l[i]? =some a->f i=g a):(List.range n).map f=l.map g:=by
 apply List.ext_getElem?;intro i;rw[List.getElem?_map,List.getElem?_map];by_cases hi:i<n
 ·rw[List.getElem?_range hi,List.getElem?_eq_getElem (by rw[hl];exact hi)];exact congrArg some (h i _ (List.getElem?_eq_getElem (by rw[hl];exact hi)))
 ·rw[List.getElem?_eq_none (by simp;omega),List.getElem?_eq_none (by omega)];rfl
def IQ{ns:List (List Int)}{xs:List D}{ix:List Nat}(hl:xs.length=ns.length)(nd:ns.Nodup)(hp:ix.Perm (List.range ns.length))(pw:ix.Pairwise (λ i j=>dZ (ns.getD i []) (ns.getD j [])=true)):
  (ix.map λ i=>((ns.getD i [],xs.getD i .dY):KD))=YY (ns.zip xs):=by
 have e1:(ns.zip xs).map (·.1)=ns:=List.map_fst_zip (by omega);refine BL ?_ (List.pairwise_map.mpr (pw.imp λ h=>h)) (Uh (by rw[e1];exact nd));refine (hp.map _).trans (List.Perm.trans ?_ (yc _).symm);rw[aeF (l:=ns.zip xs) (g:=id) (by rw[List.length_zip,hl];exact Nat.min_self _) λ i a e=>?_]
 ·rw[List.map_id]
 ·rw[List.getElem?_zip_eq_some] at e;rw[List.getD_eq_getElem?_getD,List.getD_eq_getElem?_getD,e.1,e.2];rfl
def Wq:List oF->Option (List Int)
 |[.inl a,.inl b,.inl c]=>some [a,b,c]
 |_=>none
def ints3:List (List oF)->Option (List (List Int))
 |[]=>some []
 |k::ks=>match Wq k,ints3 ks with
  |some n,some ns=>some (n::ns)
  |_,_=>none
def aaY{k:List oF}{n:List Int}(h:Wq k=some n):k=n.map Sum.inl/\n.length=3:=by
 unfold Wq at h;split at h
 ·cases h;exact ⟨rfl,rfl⟩
 ·cases h
def zA:∀{ks:List (List oF)} {ns:List (List Int)},ints3 ks=some ns->ks=ns.map (·.map Sum.inl)/\∀n∈ns,n.length=3
 |[],ns,h=>by cases h;exact ⟨rfl,λ _ z=>nomatch z⟩
 |k::ks,ns,h=>by
  unfold ints3 at h;split at h
  ·rename_i n ms e1 e2;cases h;obtain ⟨a1,a2⟩:=aaY e1;obtain ⟨b1,b2⟩:=zA e2;refine ⟨by rw[a1,b1];rfl,λ m hm=>?_⟩;rcases List.mem_cons.mp hm with rfl|hm
   ·exact a2
   ·exact b2 m hm
  ·cases h
def tupI(n:List Int):D:= .tup (n.map D.int)
def CV(x:D):Res (List D):=match R7 x with
 |some (ks,xs)=>(match ints3 ks with
  |some ns=>if ns.length<4096/\ns.Nodup then .ok ((YY (ns.zip xs)).map λ p=>tupI p.1) else .bad
  |none=> .bad)
 |none=> .bad
def yh(x:D):Res (List D):=match R7 x with
 |some (ks,xs)=>(match ints3 ks with
  |some ns=>if ns.length<4096/\ns.Nodup then .ok ((YY (ns.zip xs)).map λ p=> .tup [tupI p.1,p.2]) else .bad
  |none=> .bad)
 |none=> .bad
def CU:List D->Res (List D)
 |[x]=>CV x
 |_=> .bad
end L4
end
section
namespace L4
open PySem PySem.Spec PyProof.Rows L2
open AutoSeq1 (wpAny_loadPart')
section
variable{prog:Program}{w:World}{A:Around}{E:Value->Shared->Prop}{s:Shared}
def tK{it l:Addr}{i:Nat}{items:Array Value}{x:Value}{Q:Value->Shared->Prop}(hit:s.heap.IsTupleIter it l i)(hl:s.heap.IsTuple l items)(hx:items[i]? =some x) (hQ:∀h',h'.IsTupleIter it l (i+1)->Heap.SameBut it s.heap h'->Q x {s with heap:=h'}):wpAny (model prog w) A (Builtin.SmallTypes.nextOf (.ref it)) Q E s:=by
 obtain ⟨o,ho,hc,hd⟩:=id hit;obtain ⟨ol,hol,_,nl,hdl⟩:=hl;unfold Builtin.SmallTypes.nextOf;refine wpAny_bind (wpAny_callSpecial?_slot (name:=Str.ofString "__next__") hit.typeIs PySem.F.slot_tuple_iterator_next
  (wpAny_call_entry PySem.F.slot_tuple_iterator_next hit.typeIs PySem.F.entry_tuple_iterator_next ?_ (PySem.F.args_tuple_iterator_next_1 _)))
 show wpAny _ _ (field (.ref it) 0>>=_) _ _ s;refine wpAny_bind (wpAny_field ho hd (x:= .ref l) rfl ?_);show wpAny _ _ (if (Value.ref l==Value.none)=true then _ else _) _ _ s;rw[if_neg (show ¬((Value.ref l==Value.none)=true) from Bool.false_ne_true)];show wpAny _ _ (field (.ref it) 1>>=_) _ _ s;refine wpAny_bind (wpAny_field ho hd (x:= .int i 0) rfl ?_);show wpAny _ _ (seqItems? (.ref l)>>=_) _ _ s;refine wpAny_bind (wpAny_seqItems hol hdl ?_);simp only[Int.toNat_natCast,hx];refine wpAny_bind (wpAny_setField ho hd (by simp) (wpAny_pure ⟨x,rfl,wpAny_pure (hQ _ ?_ (Heap.SameBut.update ..))⟩));exact ⟨_,Heap.get?_update_self _ ho (Obj.isFreed_of_fields (Obj.data_mapFields hd _)),(Obj.cls_mapFields ..).trans hc,by rw[Obj.data_mapFields hd];simp[rawInt]⟩
def uY{it l:Addr}{i:Nat}{items:Array Value}{Q:Value->Shared->Prop}(hh:A.handled=none)(hit:s.heap.IsTupleIter it l i)(hl:s.heap.IsTuple l items)(hx:items[i]? =none) (hE:∀h' e,Heap.ExtBut it s.heap h'->(∃o,h'.get? e=some o/\o.cls= .type "StopIteration")->E (.ref e) {s with heap:=h'}):wpAny (model prog w) A (Builtin.SmallTypes.nextOf (.ref it)) Q E s:=by
 obtain ⟨o,ho,hc,hd⟩:=id hit;obtain ⟨ol,hol,_,nl,hdl⟩:=hl;unfold Builtin.SmallTypes.nextOf;refine wpAny_bind (wpAny_callSpecial?_slot (name:=Str.ofString "__next__") hit.typeIs PySem.F.slot_tuple_iterator_next
  (wpAny_call_entry PySem.F.slot_tuple_iterator_next hit.typeIs PySem.F.entry_tuple_iterator_next ?_ (PySem.F.args_tuple_iterator_next_1 _)))
 show wpAny _ _ (field (.ref it) 0>>=_) _ _ s;refine wpAny_bind (wpAny_field ho hd (x:= .ref l) rfl ?_);show wpAny _ _ (if (Value.ref l==Value.none)=true then _ else _) _ _ s;rw[if_neg (show ¬((Value.ref l==Value.none)=true) from Bool.false_ne_true)];show wpAny _ _ (field (.ref it) 1>>=_) _ _ s;refine wpAny_bind (wpAny_field ho hd (x:= .int i 0) rfl ?_);show wpAny _ _ (seqItems? (.ref l)>>=_) _ _ s;refine wpAny_bind (wpAny_seqItems hol hdl ?_);simp only[Int.toNat_natCast,hx];refine wpAny_bind (wpAny_rule (wpAny_bind (wpAny_setField ho hd (by simp) ?_)));show wpAny _ _ (newExc (.type "StopIteration") []>>=_) _ _ _;refine wpAny_bind ?_;simp only[newExc,newTuple];refine wpAny_bind (wpAny_newObj_type ?_ (by size_fits));refine wpAny_bind (m:=firstArgMember _ _) (wpAny_of_eq (a:=Value.none) (by first|rfl|(simp only[firstArgMember];rfl)) ?_);refine wpAny_newObj_type ?_ (by size_fits);simp only[raiseNew];refine wpAny_bind (wpAny_handled ?_);first|rw[show A.in1.handled=none from hh]|rw[hh]
 refine wpAny_bind (wpAny_pure (wpAny_throw ?_));exact hE _ _ (((Heap.SameBut.update ..).extBut.push _).push _) ⟨_,Heap.get?_push_size _ rfl,rfl⟩
def tX{h h':Heap}{l:Addr}{items:Array Value}(t:h.IsTuple l items)(k:∀o,h.get? l=some o->h'.get? l=some o):h'.IsTuple l items:=let ⟨o,ho,r⟩:=t;⟨o,k o ho,r⟩
def W7(hh:A.handled=none)(it l:Addr)(hne:l≠it)(items:Array Value):Draws prog w A it [it,l] items.size (λ i v=>items[i]? =some v) (λ i h=>h.IsTupleIter it l i/\h.IsTuple l items) where
 live:=λ _ _ st=>let ⟨o,ho,_⟩:=st.1;⟨o,ho⟩
 frame:=λ _ _ _ st hk=>⟨st.1.at λ o e=>hk it (by simp) o e,tX st.2 λ o e=>hk l (by simp) o e⟩
 item:=λ i s Q E hi st hQ=>tK st.1 st.2 (x:=items[i]) (by simp[hi]) λ h' amn hs'=>hQ _ h' s.toks (by simp[hi]) ⟨amn,tX st.2 λ o e=>(hs'.2 l hne).trans e⟩ hs'
 done:=λ s Q E st hE=>uY hh st.1 st.2 (by simp) hE
def Gu(l:Addr)(items:Array Value)(n:Nat)(dct:Option Addr)(sl:Array (Option Value)):
  Meets (Builtin.«enumerate.__new__» ⟨[.type "enumerate",.ref l],[]⟩) (λ _ R s=>s.heap.get? l=some {cls:= .type "tuple",dict:=dct,data:= .seq items n,slots:=sl}/\R (.ok (.ret (.ref (s.heap.push {cls:= .type "tuple_iterator",data:= .fields #[.ref l,.int 0 0]}).objs.size))) {s with heap:=(s.heap.push {cls:= .type "tuple_iterator",data:= .fields #[.ref l,.int 0 0]}).push {cls:= .type "enumerate",data:= .fields #[.none,.bool false,.ref s.heap.objs.size,rawInt 0,.none,.none]}}):=
 .of_wp λ prog w A R s h=>by
  obtain ⟨hp,g,d,tk,os⟩:=s;obtain ⟨hl,h⟩:=h;have hsub:=sub_enumerate;have hL:Heap.IsTuple (Shared.heap ⟨hp,g,d,tk,os⟩) l items:=⟨_,hl,rfl,n,rfl⟩;wp_walk using wpAny_loadPart' hl;refine wpAny_stack_any λ st=>wpAny_pure ?_;split
  ·rename_i c _ _ _ _ _;cases (c==Value.type "enumerate")
   ·wp_walk using wpAny_loadPart' hl,wpAny_pyIter_tuple hL;exact ⟨_,rfl,h⟩
   ·wp_walk using wpAny_loadPart' hl,wpAny_pyIter_tuple hL;exact ⟨_,rfl,h⟩
  ·wp_walk using wpAny_loadPart' hl,wpAny_pyIter_tuple hL;exact ⟨_,rfl,h⟩
def KU{l:Addr}{items:Array Value}{Q:Value->Shared->Prop}(hL:s.heap.IsTuple l items) (h:∀h',IsEnum h' (s.heap.objs.size+1) s.heap.objs.size 0 .none->h'.IsTupleIter s.heap.objs.size l 0->(∀b o,s.heap.get? b=some o->h'.get? b=some o)->Q (.ref (s.heap.objs.size+1)) {s with heap:=h'}):
  wpAny (model prog w) A (call (.type "enumerate") [.ref l]) Q E s:=by
 obtain ⟨⟨c,dct,dt,sl⟩,hl,hc,n,hd⟩:=hL;obtain rfl:c= .type "tuple":=hc;obtain rfl:dt= .seq items n:=hd;refine callType_new PySem.F.called_enumerate (by decide) (PySem.F.typeCall_enumerate_1 _) (PySem.F.newCall_enumerate_1 _) (λ obj=>PySem.F.args_object_init_2 obj _) PySem.F.entry_enumerate_new (Gu l items n dct sl) ⟨hl,?_⟩;have hz:(s.heap.push {cls:= .type "tuple_iterator",data:= .fields #[.ref l,.int 0 0]}).objs.size=s.heap.objs.size+1:=Heap.size_push ..;show _/\_;rw[hz];have he:IsEnum ((s.heap.push {cls:= .type "tuple_iterator",data:= .fields #[.ref l,.int 0 0]}).push
   {cls:= .type "enumerate",data:= .fields #[.none,.bool false,.ref s.heap.objs.size,rawInt 0,.none,.none]}) (s.heap.objs.size+1) s.heap.objs.size 0 .none:=by
  have:=Heap.get?_push_size (s.heap.push {cls:= .type "tuple_iterator",data:= .fields #[.ref l,.int 0 0]}) (o:={cls:= .type "enumerate",data:= .fields #[.none,.bool false,.ref s.heap.objs.size,rawInt 0,.none,.none]}) rfl;rw[hz] at this;exact this
 exact ⟨⟨_,he,rfl⟩,h _ he ⟨_,Heap.get?_push_of_some _ (Heap.get?_push_size _ rfl),rfl,rfl⟩ λ b o x=>Heap.get?_push_of_some _ (Heap.get?_push_of_some _ x)⟩
end
section
variable{X:Cx}{pins:List (Addr×Obj)}{σ:St}{H:Hp}{s:Shared}
def Zy{t':Nat}{h':Heap}{ch:List Addr}(I:Inv X pins σ H s)(k:∀b o,b∉ch->s.heap.get? b=some o->h'.get? b=some o)(hf:∀b∈ch,BC X pins H b):Inv X pins σ H {s with heap:=h',toks:=t'}:=by
 have nit:∀b u,H b=some u->b∉ch:=λ b u e z=>by rw[(hf b z).1] at e;cases e
 have hL:X.env.locals∉ch:=λ z=>(hf _ z).2.1 rfl;refine I.step (g':=s.gens) (d':=s.drawn) (ch:=ch) (λ b hb=>?_) (λ b o _ _ hc e _=>k b o hc e) (λ b o _ _ hc e _=>⟨o.slots,k b o hc e⟩) (λ _ _ _ _ n=>n)
  (λ b o hc e=>⟨o,k b o hc e⟩) (λ _ _ e=>e) (λ _ _ _ e=>e) (λ b ps e=>⟨#[],by rw[e];simp⟩) (λ m hm=>?_) (λ b u e=>?_) I.bare
 ·obtain ⟨_,f1,_,f3,f4,f5⟩:=hf b hb;exact ⟨f3,f1,f4,f5⟩
 ·obtain ⟨o,es,ep,ho,r⟩:=hm;exact ⟨o,es,ep,k _ o hL ho,r⟩
 ·refine (I.hok b u e).stay (λ c v hc q=>k c v ?_ q) (λ _ q=>q) λ _ _ q=>q;rcases hc with z|z
  ·rw[z];exact nit b u e
  ·exact nit c _ z
end
section
variable{X:Cx}{ct:Ct}{a b e:Expr}{f g h:Sg->Res D}{pos:Pos}
def GI{K:W.Frag}{H:Hp}:∀{ds:List D} {vs:List V} {ks:List Key},aE K ct H ds vs->Ci ds=some ks->vs=ks.map kV
 |[],vs,ks,h,e=>by cases e;simp only[aE] at h;subst h;rfl
 |d::ds,vs,ks,h,e=>by
  simp only[aE] at h;obtain ⟨v,r,rfl,t1,t2⟩:=h;simp only[Ci] at e;split at e
  ·rename_i k ks' e1 e2;cases e;rw[aaN t1 e1,GI t2 e2];rfl
  ·cases e
def DW{K:W.Frag}{H:Hp}{d:D}{v:V}{k:List Key}(h:Tl K ct H d v)(e:V3 d=some k):∃p,v= .ref p/\H p=some (.tup (k.map kV)):=by
 cases d with
 |tup ds=>simp only[Tl] at h;obtain ⟨p,vs,rfl,h2,h3⟩:=h;rw[GI h3 e] at h2;exact ⟨p,rfl,h2⟩
 |_=>cases e
def xH{K:W.Frag}{H:Hp}{k:List Key}:∀{ks:List (List Key)} {xs:List D} {vs:List V},aE K ct H xs vs->ks.length=vs.length->(∀d,wI ks xs k=some d->∃v,oQ (ks.zip vs) k=some v/\Tl K ct H d v)/\(wI ks xs k=none->oQ (ks.zip vs) k=none)
 |[],xs,vs,t,_=>⟨λ d h=>by simp[wI] at h,λ _=>by simp[oQ]⟩
 |n::ks,[],vs,t,hl=>by simp only[aE] at t;subst t;simp at hl
 |n::ks,x::xs,vs,t,hl=>by
  simp only[aE] at t;obtain ⟨v,r,rfl,t1,t2⟩:=t;obtain ⟨g1,g2⟩:=xH (k:=k) t2 (by simpa using hl);by_cases q:n=k
  ·subst q;refine ⟨λ d h=>?_,λ h=>?_⟩
   ·simp only[wI,List.zip_cons_cons,List.find?_cons,decide_true,Option.map_some,Option.some.injEq] at h;subst h;exact ⟨v,by simp[oQ,List.find?_cons],t1⟩
   ·simp[wI,List.find?_cons] at h
  ·refine ⟨λ d h=>?_,λ h=>?_⟩
   ·simp only[wI,List.zip_cons_cons,List.find?_cons,q,decide_false] at h;obtain ⟨v',w1,w2⟩:=g1 d h;exact ⟨v',by simpa[oQ,List.find?_cons,q] using w1,w2⟩
   ·simp only[wI,List.zip_cons_cons,List.find?_cons,q,decide_false] at h;simpa[oQ,List.find?_cons,q] using g2 h
def Tl.G7{K:W.Frag}{H:Hp}{d:D}{v:V}{ks:List (List Key)}{xs:List D}(l:au ct.f.L H)(b:au ct.B H)(h:Tl K ct H d v)(e:R7 d=some (ks,xs)):∃a vs,v= .ref a/\Rd H a (.dT (ks.zip vs))/\ks.length=vs.length/\aE K ct H xs vs:=by
 cases d with
 |uh ks' xs'=>
  cases ks' with
  |s _=>cases e
  |t ks'=>
  cases e;simp only[Tl] at h;obtain ⟨a,vs,h1,⟨o,h2⟩,h3,h4⟩:=h;exact ⟨a,vs,h1,.inr ⟨o,h2⟩,h3,h4⟩
 |oq t ks' xs'=>
  cases ks' with
  |s _=>cases e
  |t ks'=>
  cases e;simp only[Tl] at h;obtain ⟨a,vs,h1,h2,h3,h4⟩:=h;refine ⟨a,vs,h1,.inl ?_,h3,h4⟩;cases t with
  |true=>exact b a _ h2
  |false=>exact l a _ h2
 |_=>cases e
def Zs(hu:X.A.units+1<cLine)(ha:WD X ct a f)(hb:WD X ct b g)(hn:afR b:=by exact λ _ _=>rfl):WD X ct (.Subscript a b pos) (aO zE f g):=by
 have ha:=ha.out;have hb:=hb.out;refine ⟨?_⟩;intro pins s σ H Q I ⟨Γ,j,h⟩;refine Z5 hu ha hb hn pins s σ H Q I ?_;refine nY.bnd j h λ o v H1 s1 t1 j1 h1=>?_;refine nY.bnd (f:=g) (r:=λ y=>zE o y) (W:=Wd X ct H Q) j1 (Ok.mono s1 h1 λ _ z=>z) λ y u H2 s2 t2 j2 h2=>?_;unfold zE at h2;split at h2
 ·rename_i ks xs k e1 e2;split at h2
  ·rename_i d hd;obtain ⟨a,vs,rfl,q1,q2,q3⟩:=(t1.keep (au.keep s2)).G7 j2.lL j2.lB e1;obtain ⟨w,w1,w2⟩:=(xH q3 q2).1 d hd;obtain ⟨p,rfl,hp⟩:=DW t2 e2;exact ⟨a,w,rfl,.inr ⟨_,k,p,q1,rfl,hp,w1.symm⟩,h2 w H2 (s1.trans s2) w2⟩
  ·exact h2.elim
 ·exact h2.elim
def E2{apos cpos:Pos}{d:Expr}(hu:X.A.units+1<cLine)(ha:WD X ct a f)(hb:WD X ct b g)(hd:WD X ct d h)(h1:attributeBase a "get" X.env (eval a X.env)=eval a X.env:=by rfl)(h2:((backTo cpos (starEach [b,d] X.env)).all (λ x=>!x.1)&&(backToKw cpos (keywordEach [] X.env)).all (λ x=>x.1.isSome)&&decide (([b,d]:List Expr).length+([]:List Keyword).length+(if ([]:List Keyword).isEmpty then 0 else 1)<30))=true:=by rfl)(h3:(apos.endLine==cpos.line)=true:=by rfl)(h4:backTo cpos (starEach [b,d] X.env)=[(false,eval b X.env),(false,eval d X.env)]:=by rfl):WD X ct (.Call (.Attribute a "get" apos) [b,d] [] cpos) (vS f g h):=by
 have ha:=ha.out;have hb:=hb.out;have hd:=hd.out;refine ⟨?_⟩;intro pins s σ H Q I ⟨Γ,j,hh⟩;refine UX hu ha hb hd ⟨h1,h2,h3,h4⟩ pins s σ H Q I ?_;refine nY.bnd j hh λ o v H1 s1 t1 j1 q1=>?_;split at q1
 ·rename_i p e0;obtain ⟨ks,xs⟩:=p;obtain ⟨a,vs,rfl,r1,r2,r3⟩:=t1.G7 j1.lL j1.lB e0;refine ⟨a,rfl,.inr ⟨_,r1⟩,?_⟩;refine nY.bnd (f:=g) (W:=Wd X ct H Q) j1 (Ok.mono s1 q1 λ _ z=>z) λ y u H2 s2 t2 j2 q2=>?_;refine nY.bnd (f:=h) (W:=Wd X ct H Q) j2 (Ok.mono s2 q2 λ _ z=>z) λ z u3 H3 s3 t3 j3 q3=>?_;unfold Cn at q3;rw[e0] at q3;split at q3
  ·rename_i ks' xs' k e1 e2;cases e1;obtain ⟨a',vs',ea,w1,w2,w3⟩:=(t1.keep (au.keep (s2.trans s3))).G7 j3.lL j3.lB e0;cases ea;obtain ⟨p,rfl,hp⟩:=DW (t2.keep (au.keep s3)) e2;refine ⟨_,.inr ⟨_,k,p,w1,rfl,hp,rfl⟩,?_⟩;cases hg:wI ks xs k with
   |none=>rw[(xH w3 w2).2 hg];rw[hg] at q3;exact q3 _ H3 ((s1.trans s2).trans s3) t3
   |some d=>obtain ⟨w,x1,x2⟩:=(xH w3 w2).1 d hg;rw[x1];rw[hg] at q3;exact q3 _ H3 ((s1.trans s2).trans s3) x2
  ·exact q3.elim
 ·exact q1.elim
def wX:WM X ct (.Dict [] [] pos) (λ _=> .ok (.k (.t []) [])):=by
 refine ⟨?_⟩;refine PE.imp UW λ σ H Q ⟨Γ,j,h⟩=>?_;intro p hp;refine h (.ref p) _ (λ b=>b=p) (aT hp _) ?_ (λ b z=>z▸hp) λ b z q=>by subst z;rw[aD] at q;cases q
 simp only[Ow];exact ⟨p,[],rfl,rfl,aD,rfl,aE.nil⟩
end
def SY{ks:List (List Key)}{vs:List V}{k:List Key}(h:ks.length=vs.length):((ks.zip vs).any λ kv=>decide (kv.1=k))=ks.any λ n=>decide (n=k):=by
 induction ks generalizing vs with
 |nil=>simp
 |cons n ks ih=>
  cases vs with
  |nil=>simp at h
  |cons v vs=>simp only[List.zip_cons_cons,List.any_cons];rw[ih (by simpa using h)]
def Uz{K:W.Frag}{ct:Ct}{H:Hp}{ks:List (List Key)}{xs:List D}{vs:List V}{k:List Key}{d:D}{v:V}(h:ks.length=vs.length)(t:aE K ct H xs vs)(td:Tl K ct H d v):
  ∃us,putK (ks.zip vs) k v=(BS ks k).zip us/\(BS ks k).length=us.length/\aE K ct H (Fj ks xs k d) us:=by
 unfold putK BS Fj;rw[SY h];by_cases q:(ks.any λ n=>decide (n=k))=true
 ·simp only[q,if_true];clear q;induction ks generalizing xs vs with
  |nil=>
   cases vs with
   |nil=>exact ⟨[],by simp,rfl,by simp[aE]⟩
   |cons v vs=>simp at h
  |cons n ks ih=>
   cases vs with
   |nil=>simp at h
   |cons w vs=>
    cases xs with
    |nil=>simp only[aE] at t;cases t
    |cons x xs=>
     simp only[aE] at t;obtain ⟨w',r,e,t1,t2⟩:=t;cases e;obtain ⟨us,u1,u2,u3⟩:=ih (by simpa using h) t2;simp only[List.zip_cons_cons,List.map_cons];by_cases q:n=k
     ·subst q;exact ⟨v::us,by simp[u1],by simp[u2],by simpa using aE.cons td u3⟩
     ·exact ⟨w::us,by simp[q,u1],by simp[u2],by simpa[q] using aE.cons t1 u3⟩
 ·simp only[q,if_false,Bool.false_eq_true];exact ⟨vs++[v],by rw[List.zip_append h];simp,by simp[h],t.append (aE.cons td aE.nil)⟩
section
variable{X:Cx}{c:Cf}{r ix e:Expr}{i:Nat}{g:Sg->Res (List Nat)}{f fk:Sg->Res D}{pos:Pos}{Γ:Sg}{σ:St}{H:Hp}
def O5{K:W.Frag}{d:D}{y:V}{k:List Key}{v:V}{B:Hp}{m' fP:M}{S':Fp}(t:Tl K (c.at' B) H d y)(e:vF k d m'=some fP)(o:Ow K c.z H m' v S'):
  ∃a kvs,v= .ref a/\H a=some (.dT kvs)/\kvs.length<1000000/\S' a/\Ow K c.z (upd H a (.dT (putK kvs k y))) fP (.ref a) S':=by
 cases m' with
 |k ks xs=>
  cases ks with
  |s _=>cases e
  |t ks=>
  simp only[vF] at e;split at e
  ·rename_i hc;cases e;simp only[Ow] at o ⊢;obtain ⟨a,vs,rfl,o2,o3,o4,o5⟩:=o;have o3:H a=some (.dT (ks.zip vs)):=o3;obtain ⟨us,u1,u2,u3⟩:=Uz (k:=k) o4 o5 (Tl.down (B:=B) (tm:=true) t hc.1);refine ⟨a,_,rfl,o3,by rw[List.length_zip];omega,o2,a,us,rfl,o2,?_,u2,u3.keep (aP.dT o3)⟩;rw[aD,u1];rfl
  ·cases e
 |_=>cases e
def sD{pt:Pos}(hu:X.A.units+1<cLine)(hr:∀B,WP X (c.at' B) r i g)(hk:∀B,WD X (c.at' B) ix fk)(he:∀B,WD X (c.at' B) e f)(hs:swapsWith e (some (.Subscript r ix pt)) pos.line X.env=pure false:=by rfl):uK X c (.Assign [.Subscript r ix pt] e pos) (yq i g fk f):=by
 have hr:=λ B=>(hr B).out;have hk:=λ B=>(hk B).out;have he:=λ B=>(he B).out;refine ⟨?_⟩;intro pins s σ H E I ⟨Γ,j,h⟩;refine ZW hu (hr H) (hk H) (he H) hs pins s σ H E I ?_;refine ⟨Γ,j.lift,Fn.ok j h λ d _ q y H1 s1 t=>?_⟩;refine ⟨Γ,j.lift.mono s1,Ok.mono (H:=H) s1 (Fn.ok (tm:=true) (B:=H) j q λ ks _ q v H2 s2 pa=>?_) λ _ z=>z⟩;refine ⟨Γ,(j.lift.mono s1).mono s2,Ok.mono (H:=H) (s1.trans s2) (Fn.ok (tm:=true) (B:=H) j q λ z _ q u H3 s3 t3=>?_) λ _ z=>z⟩;split at q
 ·rename_i k hk';have sm:=(s1.trans s2).trans s3;have j3:=j.mono sm;obtain ⟨sl,m,v0,m',p1,p2,p3,p4,p5⟩:=pa.same s3;have ty:=t.keep (au.keep (s2.trans s3));have e1:yb i ks (vF k d) Γ=(vF k d m').map λ fP=>Γ.set i (Uw sl (oh m ks fP)):=by unfold yb;rw[p1,Option.bind_some,p2,Option.bind_some,p5,Option.bind_some]
  rw[e1] at q;cases z:vF k d m' with
  |none=>rw[z] at q;exact q.elim
  |some fP=>rw[z] at q;obtain ⟨vv,S,g1,o1⟩:=j3.ofM p1 p2;rw[p3] at g1;cases g1;obtain ⟨S',o',_⟩:=o1.WX p4 p5;obtain ⟨a,kvs,rfl,ha,hl,_⟩:=O5 ty z o';obtain ⟨p,rfl,hp⟩:=DW t3 hk';refine ⟨a,_,rfl,.inr ⟨kvs,k,p,ha,rfl,hp,Nat.lt_trans hl jJ,rfl⟩,?_⟩;have kp:aP c.cb H3 (upd H3 a (.dT (putK kvs k y))):=aP.dT ha;refine q σ _ ((au.keep sm).trans kp) (j3.up p1 p2 p3 p4 p5 kp λ S' o=>?_);obtain ⟨a',kvs',e2,ha',_,w1,w2⟩:=O5 ty z o;cases e2;rw[ha] at ha';cases ha';exact ⟨w1,w2⟩
 ·exact q.elim
end
end L4
end
section
namespace L4
open PySem PySem.W PyProof.Rows
structure Ord(lt:Nat->Nat->Bool)(n:Nat):Prop where
 tot:∀i j,i<n->j<n->i≠j->lt i j=!lt j i
 tr:∀i j k,i<n->j<n->k<n->lt i j=true->lt j k=true->lt i k=true
structure Pm(n:Nat)(p:Array Nat):Prop where
 size:p.size=n
 low:∀k,k<n->p.getD k 0<n
 inj:∀i j,i<n->j<n->p.getD i 0=p.getD j 0->i=j
section
variable{lt:Nat->Nat->Bool}{n:Nat}
end
end L4
end
section
namespace L4
open PySem PySem.Calls PyProof.Rows PySem.W PyProof.V PySem.Spec
noncomputable def Ent(h:Heap)(d:Addr)(es:Array DictEntry)(ep:Nat):Prop:=∃o,h.get? d=some o/\o.data= .dict es ep
def Ent.at{h h':Heap}{d:Addr}{es:Array DictEntry}{ep:Nat}(e:Ent h d es ep)(k:∀o,h.get? d=some o->h'.get? d=some o):Ent h' d es ep:=let ⟨o,a,b⟩:=e;⟨o,k o a,b⟩
abbrev PF(x y:Value)(d:Addr)(i n ep:Nat)(p q:Value):Obj:={cls:= .type "dict_itemiterator",dict:=none,data:= .fields #[x,y,.ref d,.int i 0,.int n 0,.int ep 0,p,q],slots:= #[]}
abbrev QM(a b:Value):Obj:={cls:= .type "tuple",data:= .seq #[a,b]}
def afX(h:Heap)(it S:Addr)(x y:Value):Prop:=∃(a:Addr) (f:Bool) (o:Obj),x=rawInt a/\y= .bool f/\h.get? a=some o/\a≠it/\a≠S
section
variable{prog:Program}{w:World}{A:Around}{E:Value->Shared->Prop}{s:Shared}
def aan{it d S:Addr}{i ep:Nat}{es:Array DictEntry}{x y p q:Value}{Q:Option Value->Shared->Prop}(hit:s.heap.get? it=some (PF x y d i es.size ep p q))(hx:(x= .none/\y= .bool false)\/afX s.heap it S x y)(hd:Ent s.heap d es ep)(hi:i<es.size)(hS:S<s.heap.objs.size) (hQ:∀h' x' y' p' q',h'.get? it=some (PF x' y' d (i+1) es.size ep p' q')->afX h' it S x' y'->h'.get? s.heap.objs.size=some (QM es[i].key es[i].val)->h'.objs.size=s.heap.objs.size+1->(∀b o,b≠it->s.heap.get? b=some o->h'.get? b=some o)->Q (some (.ref s.heap.objs.size)) {s with heap:=h'}):
  wpAny (model prog w) A (pyNext (.ref it)) Q E s:=by
 obtain ⟨hp,g,dr,tk,os⟩:=s;obtain ⟨od,ho,GR⟩:=hd;have ty:Shared.TypeIs ⟨hp,g,dr,tk,os⟩ (.ref it) "dict_itemiterator":=⟨_,hit,rfl⟩;unfold pyNext;refine wpAny_bind (wpAny_attempt (wpAny_callSpecial?_slot (name:=Str.ofString "__next__") ty PySem.F.slot_dict_itemiterator_next (wpAny_call_entry PySem.F.slot_dict_itemiterator_next ty PySem.F.entry_dict_itemiterator_next ?_ (PySem.F.args_dict_itemiterator_next_1 _))));refine wpAny_bind (wpAny_pure (wpAny_bind (wpAny_bind ?_)));first|refine wpAny_bind (wpAny_typeNameOfWhole_itemiter ty (wpAny_pure (wpAny_bind (wpAny_fieldsOf hit rfl ?_))))|refine wpAny_bind (wpAny_typeNameOf_itemiter ty (wpAny_pure (wpAny_bind (wpAny_fieldsOf hit rfl ?_))))
 have own:Builtin.Dict_items.ownsTuple "dict_itemiterator"=true:=by decide
 simp only[own,if_true];show wpAny _ _ (if (Value.ref d==Value.none)=true then _ else _) _ _ (Shared.mk hp g dr tk os);rw[if_neg (λ z:(Value.ref d==Value.none)=true=>Bool.false_ne_true z)];refine wpAny_bind (wpAny_pure (wpAny_bind (wpAny_dictEntries ho GR ?_)));rw[if_neg (by simp)];refine wpAny_bind (wpAny_pure (wpAny_bind (wpAny_dictEpoch ho GR ?_)));rw[if_neg (by simp)];refine wpAny_pure ?_;simp only[show ¬((i:Int)<0) from by omega,if_false,Int.toNat_natCast,Array.getElem?_eq_getElem hi];refine wpAny_bind ?_;first|refine wpAny_bind (wpAny_typeNameOfWhole_itemiter ty (wpAny_pure (wpAny_bind (wpAny_isOneOf_itemiter ty ?_))))|refine wpAny_bind (wpAny_typeNameOf_itemiter ty (wpAny_pure (wpAny_bind (wpAny_isOneOf_itemiter ty ?_))))
 show wpAny _ _ (setField (.ref it) 3 (rawInt ((i:Int)+1))>>=_) _ _ (Shared.mk hp g dr tk os);refine wpAny_bind (wpAny_setField_rec hit (by simp) λ h1 e1 s1=>?_);replace s1:Heap.SameBut it hp h1:=s1;replace e1:h1.get? it=some (PF x y d (i+1) es.size ep p q):=by
  have e:((i+1:Nat):Int)=(i:Int)+1:=by omega
  simp only[PF,e];simpa[rawInt] using e1
 have ty1:Shared.TypeIs ⟨h1,g,dr,tk,os⟩ (.ref it) "dict_itemiterator":=⟨_,e1,rfl⟩;refine wpAny_bind (wpAny_holding (wpAny_bind (wpAny_isOneOf_itemiter ty1 (wpAny_bind (wpAny_isOneOf_itemiter ty1 ?_)))));show wpAny _ _ (Builtin.Dict_items.pairFromOwner (.ref it) 6 es[i].key es[i].val) _ _ (Shared.mk h1 g dr tk os);unfold Builtin.Dict_items.pairFromOwner;refine wpAny_bind (wpAny_newTuple ?_);have e2:(h1.push (QM es[i].key es[i].val)).get? it=some (PF x y d (i+1) es.size ep p q):=Heap.get?_push_of_some _ e1;have z1:h1.objs.size=hp.objs.size:=s1.1;have il:it<hp.objs.size:=Heap.lt_size hit;have t2:(h1.push (QM es[i].key es[i].val)).get? hp.objs.size=some (QM es[i].key es[i].val):=by rw[<-z1];exact Heap.get?_push_size _ rfl
 have z2:(h1.push (QM es[i].key es[i].val)).objs.size=hp.objs.size+1:=by rw[Heap.size_push,z1]
 have k2:∀b o,b≠it->hp.get? b=some o->(h1.push (QM es[i].key es[i].val)).get? b=some o:=λ b o hb e=>Heap.get?_push_of_some _ (s1.extBut b o hb e);show wpAny _ _ (Builtin.Dict_items.ownedTupleIsFree (.ref it)>>=_) _ _ (Shared.mk (h1.push (QM es[i].key es[i].val)) g dr tk os);rw[z1];generalize h1.push (QM es[i].key es[i].val)=h2 at e2 t2 z2 k2;refine wpAny_bind ?_;unfold Builtin.Dict_items.ownedTupleIsFree;rcases hx with ⟨rfl,rfl⟩|⟨a,f,oa,rfl,rfl,ha,hai,haS⟩
 ·refine wpAny_bind (wpAny_field e2 rfl (x:= .none) rfl (wpAny_pure ?_));simp only[if_true];refine wpAny_bind (wpAny_field e2 rfl (x:=p) rfl (wpAny_bind (wpAny_field e2 rfl (x:=q) rfl ?_)));refine wpAny_bind (wpAny_setField_rec e2 (by simp) λ h3 e3 s3=>wpAny_bind (wpAny_setField_rec e3 (by simp) λ h4 e4 s4=>wpAny_bind (wpAny_setField_rec e4 (by simp) λ h5 e5 s5=>wpAny_bind (wpAny_setField_rec e5 (by simp) λ h6 e6 s6=>?_))));replace s3:Heap.SameBut it h2 h3:=s3;replace s4:Heap.SameBut it h3 h4:=s4;replace s5:Heap.SameBut it h4 h5:=s5;replace s6:Heap.SameBut it h5 h6:=s6;replace e6:h6.get? it=some (PF (rawInt hp.objs.size) (.bool false) d (i+1) es.size ep es[i].key es[i].val):=e6;have up:∀b o,b≠it->h2.get? b=some o->h6.get? b=some o:=λ b o hb e=>s6.extBut b o hb (s5.extBut b o hb (s4.extBut b o hb (s3.extBut b o hb e)));have t6:=up _ _ (Nat.ne_of_gt il) t2;refine wpAny_bind (wpAny_letGo (wpAny_pure (wpAny_pure ⟨_,rfl,wpAny_pure (hQ h6 _ _ _ _ e6 ⟨_,false,_,rfl,rfl,t6,Nat.ne_of_gt il,Nat.ne_of_gt hS⟩ t6 ?_ λ b o hb e=>up b o hb (k2 b o hb e))⟩)));show h6.objs.size=hp.objs.size+1;rw[s6.1,s5.1,s4.1,s3.1,z2]
 ·have fin:∀h3:Heap,h3.get? it=some (PF (rawInt a) (.bool true) d (i+1) es.size ep p q)->Heap.SameBut it h2 h3->Q (some (.ref hp.objs.size)) ⟨h3,g,dr,tk,os⟩:=λ h3 e3 s3=>hQ h3 _ _ _ _ e3 ⟨a,true,oa,rfl,rfl,s3.extBut _ _ hai (k2 _ _ hai ha),hai,haS⟩ (s3.extBut _ _ (Nat.ne_of_gt il) t2) (by show h3.objs.size=hp.objs.size+1;rw[s3.1,z2]) λ b o hb e=>s3.extBut b o hb (k2 b o hb e);refine wpAny_bind (wpAny_field e2 rfl (x:=rawInt a) rfl ?_);show wpAny _ _ (loadIfAlive ((a:Int).toNat)>>=_) _ _ (Shared.mk h2 g dr tk os);rw[Int.toNat_natCast];refine wpAny_bind (kdx_alive (k2 _ _ hai ha) ?_);simp only[Option.isNone_some,Bool.false_eq_true,if_false];refine wpAny_bind (wpAny_field e2 rfl (x:= .bool f) rfl ?_);cases f with
  |true=>rw[if_neg (by decide)];refine wpAny_pure ?_;simp only[Bool.false_eq_true,if_false];exact wpAny_pure (wpAny_pure ⟨_,rfl,wpAny_pure (fin h2 e2 (Heap.SameBut.refl _ _))⟩)
  |false=>rw[if_pos (by decide)];refine wpAny_bind (wpAny_setField_rec e2 (by simp) λ h3 e3 s3=>wpAny_pure ?_);simp only[Bool.false_eq_true,if_false];exact wpAny_pure (wpAny_pure ⟨_,rfl,wpAny_pure (fin h3 e3 s3)⟩)
def Vk{it d:Addr}{i ep:Nat}{es:Array DictEntry}{x y p q:Value}{Q:Option Value->Shared->Prop}(hh:A.handled=none)(hit:s.heap.get? it=some (PF x y d i es.size ep p q))(hd:Ent s.heap d es ep)(hi:es.size<=i) (hQ:∀h',Heap.ExtBut it s.heap h'->Q none {s with heap:=h'}):wpAny (model prog w) A (pyNext (.ref it)) Q E s:=by
 obtain ⟨od,ho,GR⟩:=hd;have ty:s.TypeIs (.ref it) "dict_itemiterator":=⟨_,hit,rfl⟩;unfold pyNext;refine wpAny_bind (wpAny_attempt (wpAny_callSpecial?_slot (name:=Str.ofString "__next__") ty PySem.F.slot_dict_itemiterator_next (wpAny_call_entry PySem.F.slot_dict_itemiterator_next ty PySem.F.entry_dict_itemiterator_next ?_ (PySem.F.args_dict_itemiterator_next_1 _))));refine wpAny_bind (wpAny_pure (wpAny_bind (wpAny_bind ?_)));first|refine wpAny_bind (wpAny_typeNameOfWhole_itemiter ty (wpAny_pure (wpAny_bind (wpAny_fieldsOf hit rfl ?_))))|refine wpAny_bind (wpAny_typeNameOf_itemiter ty (wpAny_pure (wpAny_bind (wpAny_fieldsOf hit rfl ?_))))
 have own:Builtin.Dict_items.ownsTuple "dict_itemiterator"=true:=by decide
 simp only[own,if_true];show wpAny _ _ (if (Value.ref d==Value.none)=true then _ else _) _ _ s;rw[if_neg (λ z:(Value.ref d==Value.none)=true=>Bool.false_ne_true z)];refine wpAny_bind (wpAny_pure (wpAny_bind (wpAny_dictEntries ho GR ?_)));rw[if_neg (by simp)];refine wpAny_bind (wpAny_pure (wpAny_bind (wpAny_dictEpoch ho GR ?_)));rw[if_neg (by simp)];refine wpAny_pure ?_;simp only[show ¬((i:Int)<0) from by omega,if_false,Int.toNat_natCast,Array.getElem?_eq_none hi];refine wpAny_bind ?_;first|refine wpAny_bind (wpAny_typeNameOfWhole_itemiter ty (wpAny_pure ?_))|refine wpAny_bind (wpAny_typeNameOf_itemiter ty (wpAny_pure ?_))
 show wpAny _ _ (setField (.ref it) 2 .none>>=_) _ _ s;refine wpAny_bind (wpAny_setField hit rfl (by simp) ?_);show wpAny _ _ (newExc (.type "StopIteration") []>>=_) _ _ _;refine wpAny_bind ?_;simp only[newExc,newTuple];refine wpAny_bind (wpAny_newObj_type (wpAny_bind (m:=firstArgMember _ _) (wpAny_of_eq (a:=Value.none) (by first|rfl|(simp only[firstArgMember];rfl)) (wpAny_newObj_type ?_ (by size_fits)))) (by size_fits));simp only[raiseNew];refine wpAny_bind (wpAny_handled ?_);rw[show A.in1.handled=none from hh];refine wpAny_bind (wpAny_pure (wpAny_throw ?_));refine wpAny_bind (wpAny_isInstance (T:="StopIteration") (b:=true) ⟨_,Heap.get?_push_size _ rfl,rfl⟩ isSubtype_stop ?_);exact wpAny_pure (hQ _ (((Heap.SameBut.update ..).extBut.push _).push _))
def Wlk(h:Heap)(it d S:Addr)(i n ep:Nat):Prop:=∃x y p q,h.get? it=some (PF x y d i n ep p q)/\((x= .none/\y= .bool false)\/afX h it S x y)
def Wlk.keep{h h':Heap}{it d S:Addr}{i n ep:Nat}(z:Wlk h it d S i n ep)(k:∀b o,b≠S->h.get? b=some o->h'.get? b=some o)(hI:it≠S):Wlk h' it d S i n ep:=by
 obtain ⟨x,y,p,q,e,g⟩:=z;refine ⟨x,y,p,q,k _ _ hI e,g.imp id ?_⟩
 rintro ⟨a,f,o,r1,r2,r3,r4,r5⟩
 exact ⟨a,f,o,r1,r2,k _ _ r5 r3,r4,r5⟩
structure Told(h:Heap)(es:Array DictEntry)(lo:Addr)(as:List Addr):Prop where
 above:∀a∈as,lo<a/\a<h.objs.size
 nd:as.Pairwise (· < ·)
 pair:∀(j:Nat) (a:Addr),as[j]? =some a->∃e:DictEntry,es[j]? =some e/\h.get? a=some (QM e.key e.val)
noncomputable abbrev se(xs:Array Value)(c:Nat):Obj:={cls:= .type "list",dict:=none,data:= .seq xs c,slots:= #[]}
def WZ{R:Result->Shared->Prop}{S I d:Addr}{es:Array DictEntry}{ep:Nat}(hh:A.handled=none)(hSI:S<I)(hSd:d≠S)(hId:d≠I)(hn:es.size<=sizeLine)(res:Value){h0:Heap} (hR:∀h' tk xs c as,(∀b o,b≠S->b≠I->h0.get? b=some o->h'.get? b=some o)->h'.get? S=some (se xs c)->as.length=es.size->Told h' es I as->xs.toList=as.map Value.ref->R (.ok (.ret res)) {s with heap:=h',toks:=tk}):
  ∀(k i:Nat) (h:Heap) (tk c:Nat) (xs:Array Value) (as:List Addr),es.size- i=k->i<=es.size->Wlk h I d S i es.size ep->Ent h d es ep->(∀b o,b≠S->b≠I->h0.get? b=some o->h.get? b=some o)->h.get? S=some (se xs c)->xs.toList=as.map Value.ref->as.length=i->Told h es I as->codeAny (model prog w) A (.builtin "list.extend.loop" ⟨[.ref S,.ref I,res],[]⟩) R {s with heap:=h,toks:=tk}:=by
 have ne:S≠I:=Nat.ne_of_lt hSI;intro k;induction k with
 |zero=>
  intro i h tk c xs as hk hi wk en kp hS hx hl T;refine codeAny_builtin PySem.F.entry_extend_loop ?_;rw[Around.under_plainId PySem.F.plain_extend_loop _];obtain ⟨x,y,p,q,e,_⟩:=wk;show wpAny _ A.in1 (pyNext (.ref I)>>=_) _ _ (Shared.mk h s.gens s.drawn tk s.os);refine wpAny_bind (Vk (s:=Shared.mk h s.gens s.drawn tk s.os) (A:=A.in1) hh e en (by omega) λ h' he=>?_);refine wpAny_pure (hR h' tk xs c as (λ b o h1 h2 z=>he b o h2 (kp b o h1 h2 z)) (he S _ ne hS) (by omega) ⟨λ a ha=>?_,T.nd,λ j a hj=>?_⟩ hx)
  ·obtain ⟨j,hj⟩:=List.mem_iff_getElem?.mp ha;obtain ⟨e',_,z⟩:=T.pair j a hj;exact ⟨(T.above a ha).1,Heap.lt_size (he a _ (Nat.ne_of_gt (T.above a ha).1) z)⟩
  ·obtain ⟨e',z1,z2⟩:=T.pair j a hj;exact ⟨e',z1,he a _ (Nat.ne_of_gt (T.above a (List.mem_of_getElem? hj)).1) z2⟩
 |succ k ih=>
  intro i h tk c xs as hk hi wk en kp hS hx hl T;have lt:i<es.size:=by omega
  have sz:xs.size=i:=by rw[<-Array.length_toList,hx,List.length_map,hl]
  refine codeAny_builtin PySem.F.entry_extend_loop ?_;rw[Around.under_plainId PySem.F.plain_extend_loop _];obtain ⟨x,y,p,q,e,gn⟩:=wk;have Il:I<h.objs.size:=Heap.lt_size e;have Sl:S<h.objs.size:=Heap.lt_size hS;show wpAny _ A.in1 (pyNext (.ref I)>>=_) _ _ (Shared.mk h s.gens s.drawn tk s.os);refine wpAny_bind (aan (s:=Shared.mk h s.gens s.drawn tk s.os) (S:=S) e gn en lt Sl λ h' x' y' p' q' e' gn' t' z' k'=>?_);replace k':∀b o,b≠I->h.get? b=some o->h'.get? b=some o:=k';replace t':h'.get? h.objs.size=some (QM es[i].key es[i].val):=t';replace z':h'.objs.size=h.objs.size+1:=z';have hS':=k' S _ ne hS;have up:∀b o,b≠S->h'.get? b=some o->(h'.update S (Obj.mapSeq (·.push (Value.ref h.objs.size)))).get? b=some o:=λ b o hb z=>(Heap.get?_update_other _ _ (Ne.symm hb)).trans z;show wpAny _ A.in1 (updateSeq S (·.push (Value.ref h.objs.size))>>=_) _ _ (Shared.mk h' s.gens s.drawn tk s.os);have W':Wlk h' I d S (i+1) es.size ep:=⟨x',y',p',q',e',.inr gn'⟩;refine wpAny_bind (wpAny_updateSeq hS' rfl (wpAny_pure ⟨plainId_quiet PySem.F.plain_extend_loop _,ih (i+1) _ tk _ (xs.push (Value.ref h.objs.size)) (as++[h.objs.size]) (by omega) lt (W'.keep up (Ne.symm ne)) (en.at λ o z=>up d o hSd (k' d o hId z))
   (λ b o h1 h2 z=>up b o h1 (k' b o h2 (kp b o h1 h2 z))) (Heap.get?_update_self _ hS' rfl) (by rw[Array.toList_push,hx,List.map_append];rfl) (by rw[List.length_append,hl];rfl) ⟨?_,?_,?_⟩⟩) (by rw[sz];omega) (by show (xs.push (Value.ref h.objs.size)).size<=sizeLine+1;rw[Array.size_push,sz];omega))
  ·intro a ha;have sz2:(h'.update S (Obj.mapSeq (·.push (Value.ref h.objs.size)))).objs.size=h.objs.size+1:=by rw[Heap.size_update,z']
   rw[sz2];rcases List.mem_append.mp ha with ha|ha
   ·exact ⟨(T.above a ha).1,Nat.lt_succ_of_lt (T.above a ha).2⟩
   ·rw[List.mem_singleton.mp ha];exact ⟨Il,Nat.lt_succ_self _⟩
  ·refine List.pairwise_append.mpr ⟨T.nd,List.pairwise_singleton _ _,λ a ha b hb=>?_⟩;rw[List.mem_singleton.mp hb];exact (T.above a ha).2
  ·intro j b hj;by_cases h1:j<as.length
   ·rw[List.getElem?_append_left h1] at hj;obtain ⟨e2,z1,z2⟩:=T.pair j b hj;have hb:=(T.above b (List.mem_of_getElem? hj)).1;exact ⟨e2,z1,up b _ (Nat.ne_of_gt (Nat.lt_trans hSI hb)) (k' b _ (Nat.ne_of_gt hb) z2)⟩
   ·have h2:j=as.length:=by have:=(List.getElem?_eq_some_iff.mp hj).1;rw[List.length_append,List.length_singleton] at this;omega
    subst h2;have hb:h.objs.size=b:=by simpa using hj
    subst hb;exact ⟨es[i],by rw[hl];simp[lt],up _ _ (Nat.ne_of_gt Sl) t'⟩
abbrev Zv(d:Addr):Obj:={cls:= .type "dict_items",data:= .fields #[.ref d]}
def zw{v d:Addr}{es:Array DictEntry}{ep:Nat}{Q:Value->Shared->Prop}(hv:s.heap.get? v=some (Zv d))(hd:Ent s.heap d es ep) (hQ:Q (.ref s.heap.objs.size) {s with heap:=s.heap.push (PF .none (.bool false) d 0 es.size ep .none .none)}):wpAny (model prog w) A (pyIter (.ref v)) Q E s:=by
 obtain ⟨od,ho,GR⟩:=hd;have ty:s.TypeIs (.ref v) "dict_items":=⟨_,hv,rfl⟩;refine wpAny_pyIter_slot ty PySem.F.slot_dict_items_iter (wpAny_call_entry PySem.F.slot_dict_items_iter ty PySem.F.entry_dict_items_iter ?_ (PySem.F.args_dict_items_iter_1 _));unfold Builtin.«dict_items.__iter__»;refine wpAny_bind (wpAny_pure (wpAny_bind ?_));unfold Builtin.Dict_items.dictOf;refine wpAny_bind (wpAny_field hv rfl (x:= .ref d) rfl (wpAny_pure (wpAny_bind ?_)));unfold Builtin.Dict_items.newIterator;refine wpAny_bind (wpAny_dictEntries ho GR (wpAny_bind (wpAny_dictEpoch ho GR ?_)));have own:Builtin.Dict_items.ownsTuple "dict_itemiterator"=true:=by decide
 simp only[own,if_true];refine wpAny_newObj_type (wpAny_pure ⟨_,rfl,"dict_itemiterator",_,⟨_,Heap.get?_push_size _ rfl,rfl⟩,PySem.F.slot_dict_itemiterator_next.lookup,?_⟩) (by simp only[sizeOk,Builtin.Dict_items.ownedTupleFields,List.size_toArray,List.length_append,List.length_cons,List.length_nil,sizeLine_eq];omega);simpa[rawInt,PF,Builtin.Dict_items.ownedTupleFields] using hQ
def R4{R:Result->Shared->Prop}{r d S:Addr}{es:Array DictEntry}{ep:Nat}(hh:A.handled=none)(hv:s.heap.get? r=some (Zv d))(hd:Ent s.heap d es ep)(hSr:S≠r)(hSd:d≠S)(res:Value)(c0:Nat)(hS:s.heap.get? S=some (se #[] c0))(hn:es.size<=sizeLine) (hR:∀h' tk xs c as,(∀b o,b≠S->s.heap.get? b=some o->h'.get? b=some o)->h'.get? S=some (se xs c)->as.length=es.size->Told h' es s.heap.objs.size as->xs.toList=as.map Value.ref->R (.ok (.ret res)) {s with heap:=h',toks:=tk}):
  wpAny (model prog w) A.in1 (Builtin.List.listExtendWith (.ref S) (.ref r) res) (λ fin s'=>match fin with| .done f=>R (.ok f) s'| .again c'=>c'.quiet=true/\codeAny (model prog w) A c' R s') (λ e s'=>R (.error e) s') s:=by
 have Sl:S<s.heap.objs.size:=Heap.lt_size hS;have dl:d<s.heap.objs.size:=let ⟨_,z,_⟩:=hd;Heap.lt_size z
 have key:∀(h:Heap) (c1 tk:Nat),(∀b o,b≠S->(s.heap.push (PF .none (.bool false) d 0 es.size ep .none .none)).get? b=some o->h.get? b=some o)->h.get? S=some (se #[] c1)->codeAny (model prog w) A (.builtin "list.extend.loop" ⟨[.ref S,.ref s.heap.objs.size,res],[]⟩) R {s with heap:=h,toks:=tk}:=λ h c1 tk hk hS1=>WZ (s:=s) (h0:=s.heap) hh Sl hSd (Nat.ne_of_lt dl) hn res (λ h' tk' xs c as hk'=>hR h' tk' xs c as λ b o hb e=>hk' b o hb (Nat.ne_of_lt (Heap.lt_size e)) e) es.size 0 h tk c1 #[] [] (Nat.sub_zero _) (Nat.zero_le _) ⟨_,_,_,_,hk _ _ (Nat.ne_of_gt Sl) (Heap.get?_push_size _ rfl),.inl ⟨rfl,rfl⟩⟩ (hd.at λ o e=>hk d o hSd (Heap.get?_push_of_some _ e)) (λ b o hb _ e=>hk b o hb (Heap.get?_push_of_some _ e)) hS1 rfl rfl ⟨(λ _ ha=>nomatch ha),List.Pairwise.nil,λ j a hj=>by simp at hj⟩;have ty:s.TypeIs (.ref r) "dict_items":=⟨_,hv,rfl⟩;unfold Builtin.List.listExtendWith;refine wpAny_bind (wpAny_typeOf (T:="dict_items") ty ?_);simp only[show Builtin.List.listSameRef (.ref S) (.ref r)=false by simp[Builtin.List.listSameRef,hSr],show (Value.type "dict_items"==Value.type "list")=false by decide,show (Value.type "dict_items"==Value.type "tuple")=false by decide,Bool.or_false,Bool.false_eq_true,if_false];refine wpAny_bind (zw hv hd ?_);have hS1:(s.heap.push (PF .none (.bool false) d 0 es.size ep .none .none)).get? S=some (se #[] c0):=Heap.get?_push_of_some _ hS;refine wpAny_bind (wpAny_holding (kdx_hint ⟨_,Heap.get?_push_of_some _ hv,rfl⟩ ?_));refine wpAny_ite_split (λ _=>?_) (λ _=>wpAny_pure ⟨plainId_quiet PySem.F.plain_extend_loop _,key _ c0 _ (λ b o _ e=>e) hS1⟩);refine wpAny_bind (wpAny_rule (wpAny_bind ?_));show wpAny _ _ (updateSeq S (·.push .none)>>=λ _=>updateSeq S (·.pop)) _ _ (Shared.mk _ s.gens s.drawn s.toks s.os);refine wpAny_bind (wpAny_updateSeq hS1 rfl ?_);have hS2:=Heap.get?_update_self (Obj.mapSeq (·.push Value.none)) hS1 rfl;refine wpAny_updateSeq (hz:=by seq_fits) hS2 rfl ?_;have hS3:=Heap.get?_update_self (Obj.mapSeq (·.pop)) hS2 rfl;exact wpAny_pure ⟨plainId_quiet PySem.F.plain_extend_loop _,key _ _ _ (λ b o hb e=>(Heap.get?_update_other _ _ (Ne.symm hb)).trans ((Heap.get?_update_other _ _ (Ne.symm hb)).trans e)) hS3⟩
def Bp{R:List Value->Shared->Prop}{r d:Addr}{es:Array DictEntry}{ep:Nat}(hh:A.handled=none)(hv:s.heap.get? r=some (Zv d))(hd:Ent s.heap d es ep)(hn:es.size<=sizeLine) (h:∀(h':Heap) (tk:Nat) (as:List Addr),(∀b o,s.heap.get? b=some o->h'.get? b=some o)->as.length=es.size->Told h' es s.heap.objs.size as->s.heap.objs.size<h'.objs.size->R (as.map Value.ref) {s with heap:=h',toks:=tk}):
  wpAny (model prog w) A (collect (.ref r)) R E s:=by
 have rl:r<s.heap.objs.size:=Heap.lt_size hv;have dl:d<s.heap.objs.size:=let ⟨_,z,_⟩:=hd;Heap.lt_size z
 have out:∀(h':Heap) (tk:Nat) (xs:Array Value) (c:Nat) (as:List Addr),(∀b o,b≠s.heap.objs.size->(s.heap.push (se #[] 0)).get? b=some o->h'.get? b=some o)->h'.get? s.heap.objs.size=some (se xs c)->as.length=es.size->Told h' es (s.heap.push (se #[] 0)).objs.size as->xs.toList=as.map Value.ref->wpAny (model prog w) A (load s.heap.objs.size>>=λ o=>match o.data with| .seq xs _=>pure xs.toList|_=>unsupported "internal:collect") R E {s with heap:=h',toks:=tk}:=λ h' tk xs c as hk hS hl T hx=>by refine wpAny_bind (wpAny_load hS (wpAny_pure ?_));show R xs.toList _;rw[hx];refine h h' tk as (λ b o e=>hk b o (Nat.ne_of_lt (Heap.lt_size e)) (Heap.get?_push_of_some _ e)) hl ⟨λ a ha=>⟨?_,(T.above a ha).2⟩,T.nd,T.pair⟩ (Heap.lt_size hS);have:=(T.above a ha).1;rw[Heap.size_push] at this;exact Nat.lt_of_succ_lt this
 unfold collect;refine wpAny_bind (wpAny_runValue (codeAny_builtin entry_proto_collect' ?_));rw[Around.under_plainId PySem.F.plain_proto_collect _];show wpAny _ A.in1 (newList []>>=λ l=>again (.builtin "list.__iadd__" ⟨[l,.ref r],[]⟩)) _ _ (Shared.mk s.heap s.gens s.drawn s.toks s.os);refine wpAny_bind (wpAny_newObj_type (wpAny_pure ⟨plainId_quiet PySem.F.plain_list_iadd _,codeAny_builtin entry_list_iadd' ?_⟩));rw[Around.under_plainId PySem.F.plain_list_iadd _];have hS1:(s.heap.push (se #[] 0)).get? s.heap.objs.size=some (se #[] 0):=Heap.get?_push_size _ rfl;have key:=R4 (prog:=prog) (w:=w) (A:=A) (s:={s with heap:=s.heap.push (se #[] 0)}) (S:=s.heap.objs.size) (R:=λ(q:Result) (s':Shared)=>∃(h':Heap) (tk:Nat) (xs:Array Value) (c:Nat) (as:List Addr),q= .ok (.ret (.ref s.heap.objs.size))/\s'={s with heap:=h',toks:=tk}/\
   (∀b o,b≠s.heap.objs.size->(s.heap.push (se #[] 0)).get? b=some o->h'.get? b=some o)/\h'.get? s.heap.objs.size=some (se xs c)/\as.length=es.size/\Told h' es (s.heap.push (se #[] 0)).objs.size as/\xs.toList=as.map Value.ref)
  hh (Heap.get?_push_of_some _ hv) (hd.at λ o e=>Heap.get?_push_of_some _ e) (Nat.ne_of_gt rl) (Nat.ne_of_lt dl) (.ref s.heap.objs.size) 0 hS1 hn (λ h' tk xs c as a1 a2 a3 a4 a5=>⟨h',tk,xs,c,as,rfl,rfl,a1,a2,a3,a4,a5⟩)
 refine wpAny_mono key (λ fin s' x=>?_) λ e s' x=>?_
 ·cases fin with
  |done f=>obtain ⟨h',tk,xs,c,as,e,rfl,a1,a2,a3,a4,a5⟩:=x;cases e;exact out h' tk xs c as a1 a2 a3 a4 a5
  |again c1=>refine ⟨x.1,codeAny_mono x.2 λ q s2 y=>?_⟩;obtain ⟨h',tk,xs,c,as,rfl,rfl,a1,a2,a3,a4,a5⟩:=y;exact out h' tk xs c as a1 a2 a3 a4 a5
 ·obtain ⟨_,_,_,_,_,e',_⟩:=x;cases e'
end
noncomputable abbrev Y4(d:Addr)(i n ep:Nat):Obj:={cls:= .type "dict_keyiterator",dict:=none,data:= .fields #[.ref d,.int i 0,.int n 0,.int ep 0],slots:= #[]}
def len_dict:typeLookup (.type "dict") "__len__"=pure (some (.builtin "dict.__len__")):=by rw[typeLookup_type,builtinLookup_eq_fast];kernel_rfl
section
variable{prog:Program}{w:World}{A:Around}{E:Value->Shared->Prop}{s:Shared}
def aat{it d:Addr}{i ep:Nat}{es:Array DictEntry}{Q:Option Value->Shared->Prop}(hit:s.heap.get? it=some (Y4 d i es.size ep))(hd:Ent s.heap d es ep)(hi:i<es.size) (hQ:∀h',h'.get? it=some (Y4 d (i+1) es.size ep)->Heap.SameBut it s.heap h'->Q (some es[i].key) {s with heap:=h'}):wpAny (model prog w) A (pyNext (.ref it)) Q E s:=by
 obtain ⟨hp,g,dr,tk,os⟩:=s;obtain ⟨od,ho,GR⟩:=hd;have ty:Shared.TypeIs ⟨hp,g,dr,tk,os⟩ (.ref it) "dict_keyiterator":=⟨_,hit,rfl⟩;unfold pyNext;refine wpAny_bind (wpAny_attempt (wpAny_callSpecial?_slot (name:=Str.ofString "__next__") ty PySem.F.slot_dict_keyiterator_next (wpAny_call_entry PySem.F.slot_dict_keyiterator_next ty PySem.F.entry_dict_keyiterator_next ?_ (PySem.F.args_dict_keyiterator_next_1 _))));refine wpAny_bind (wpAny_pure (wpAny_bind (wpAny_bind ?_)));first|refine wpAny_bind (wpAny_typeNameOfWhole_keyiter ty (wpAny_pure (wpAny_bind (wpAny_fieldsOf hit rfl ?_))))|refine wpAny_bind (wpAny_typeNameOf_keyiter ty (wpAny_pure (wpAny_bind (wpAny_fieldsOf hit rfl ?_))))
 have own:Builtin.Dict_items.ownsTuple "dict_keyiterator"=false:=by decide
 simp only[own,Bool.false_eq_true,if_false];show wpAny _ _ (if (Value.ref d==Value.none)=true then _ else _) _ _ (Shared.mk hp g dr tk os);rw[if_neg (λ z:(Value.ref d==Value.none)=true=>Bool.false_ne_true z)];refine wpAny_bind (wpAny_pure (wpAny_bind (wpAny_dictEntries ho GR ?_)));rw[if_neg (by simp)];refine wpAny_bind (wpAny_pure (wpAny_bind (wpAny_dictEpoch ho GR ?_)));rw[if_neg (by simp)];refine wpAny_pure ?_;simp only[show ¬((i:Int)<0) from by omega,if_false,Int.toNat_natCast,Array.getElem?_eq_getElem hi];refine wpAny_bind ?_;first|refine wpAny_bind (wpAny_typeNameOfWhole_keyiter ty (wpAny_pure (wpAny_bind (wpAny_isOneOf_keyiter ty ?_))))|refine wpAny_bind (wpAny_typeNameOf_keyiter ty (wpAny_pure (wpAny_bind (wpAny_isOneOf_keyiter ty ?_))))
 show wpAny _ _ (setField (.ref it) 1 (rawInt ((i:Int)+1))>>=_) _ _ (Shared.mk hp g dr tk os);refine wpAny_bind (wpAny_setField_rec hit (by simp) λ h1 e1 s1=>?_);replace s1:Heap.SameBut it hp h1:=s1;replace e1:h1.get? it=some (Y4 d (i+1) es.size ep):=by
  have e:((i+1:Nat):Int)=(i:Int)+1:=by omega
  simp only[Y4,e];simpa[rawInt] using e1
 have ty1:Shared.TypeIs ⟨h1,g,dr,tk,os⟩ (.ref it) "dict_keyiterator":=⟨_,e1,rfl⟩;refine wpAny_bind (wpAny_holding (wpAny_bind (wpAny_isOneOf_keyiter ty1 ?_)));show wpAny _ _ (pure es[i].key) _ _ (Shared.mk h1 g dr tk os);exact wpAny_pure (wpAny_pure ⟨_,rfl,wpAny_pure (hQ h1 e1 s1)⟩)
def aeB{it d:Addr}{i ep:Nat}{es:Array DictEntry}{Q:Option Value->Shared->Prop}(hh:A.handled=none)(hit:s.heap.get? it=some (Y4 d i es.size ep))(hd:Ent s.heap d es ep)(hi:es.size<=i) (hQ:∀h',Heap.ExtBut it s.heap h'->Q none {s with heap:=h'}):wpAny (model prog w) A (pyNext (.ref it)) Q E s:=by
 obtain ⟨od,ho,GR⟩:=hd;have ty:s.TypeIs (.ref it) "dict_keyiterator":=⟨_,hit,rfl⟩;unfold pyNext;refine wpAny_bind (wpAny_attempt (wpAny_callSpecial?_slot (name:=Str.ofString "__next__") ty PySem.F.slot_dict_keyiterator_next (wpAny_call_entry PySem.F.slot_dict_keyiterator_next ty PySem.F.entry_dict_keyiterator_next ?_ (PySem.F.args_dict_keyiterator_next_1 _))));refine wpAny_bind (wpAny_pure (wpAny_bind (wpAny_bind ?_)));first|refine wpAny_bind (wpAny_typeNameOfWhole_keyiter ty (wpAny_pure (wpAny_bind (wpAny_fieldsOf hit rfl ?_))))|refine wpAny_bind (wpAny_typeNameOf_keyiter ty (wpAny_pure (wpAny_bind (wpAny_fieldsOf hit rfl ?_))))
 have own:Builtin.Dict_items.ownsTuple "dict_keyiterator"=false:=by decide
 simp only[own,Bool.false_eq_true,if_false];show wpAny _ _ (if (Value.ref d==Value.none)=true then _ else _) _ _ s;rw[if_neg (λ z:(Value.ref d==Value.none)=true=>Bool.false_ne_true z)];refine wpAny_bind (wpAny_pure (wpAny_bind (wpAny_dictEntries ho GR ?_)));rw[if_neg (by simp)];refine wpAny_bind (wpAny_pure (wpAny_bind (wpAny_dictEpoch ho GR ?_)));rw[if_neg (by simp)];refine wpAny_pure ?_;simp only[show ¬((i:Int)<0) from by omega,if_false,Int.toNat_natCast,Array.getElem?_eq_none hi];refine wpAny_bind ?_;first|refine wpAny_bind (wpAny_typeNameOfWhole_keyiter ty (wpAny_pure ?_))|refine wpAny_bind (wpAny_typeNameOf_keyiter ty (wpAny_pure ?_))
 show wpAny _ _ (setField (.ref it) 0 .none>>=_) _ _ s;refine wpAny_bind (wpAny_setField hit rfl (by simp) ?_);show wpAny _ _ (newExc (.type "StopIteration") []>>=_) _ _ _;refine wpAny_bind ?_;simp only[newExc,newTuple];refine wpAny_bind (wpAny_newObj_type (wpAny_bind (m:=firstArgMember _ _) (wpAny_of_eq (a:=Value.none) (by first|rfl|(simp only[firstArgMember];rfl)) (wpAny_newObj_type ?_ (by size_fits)))) (by size_fits));simp only[raiseNew];refine wpAny_bind (wpAny_handled ?_);rw[show A.in1.handled=none from hh];refine wpAny_bind (wpAny_pure (wpAny_throw ?_));refine wpAny_bind (wpAny_isInstance (T:="StopIteration") (b:=true) ⟨_,Heap.get?_push_size _ rfl,rfl⟩ isSubtype_stop ?_);exact wpAny_pure (hQ _ (((Heap.SameBut.update ..).extBut.push _).push _))
noncomputable def HU(h:Heap)(d:Addr)(es:Array DictEntry)(ep:Nat):Prop:=∃o,h.get? d=some o/\o.cls= .type "dict"/\o.data= .dict es ep
def HU.ent{h:Heap}{d:Addr}{es:Array DictEntry}{ep:Nat}(e:HU h d es ep):Ent h d es ep:=let ⟨o,a,_,b⟩:=e;⟨o,a,b⟩
def HU.at{h h':Heap}{d:Addr}{es:Array DictEntry}{ep:Nat}(e:HU h d es ep)(k:∀o,h.get? d=some o->h'.get? d=some o):HU h' d es ep:=let ⟨o,a,c,b⟩:=e;⟨o,k o a,c,b⟩
def RJ{d:Addr}{es:Array DictEntry}{ep:Nat}{Q:Value->Shared->Prop}(hy:(d==sysModules)=false)(hd:HU s.heap d es ep) (hQ:Q (.ref s.heap.objs.size) {s with heap:=s.heap.push (Y4 d 0 es.size ep)}):wpAny (model prog w) A (pyIter (.ref d)) Q E s:=by obtain ⟨od,ho,hc,GR⟩:=hd;have ty:s.TypeIs (.ref d) "dict":=⟨_,ho,hc⟩;refine wpAny_pyIter_slot ty PySem.F.slot_dict_iter (wpAny_call_entry PySem.F.slot_dict_iter ty PySem.F.entry_dict_iter ?_ (PySem.F.args_dict_iter_1 _));unfold Builtin.«dict.__iter__»;refine wpAny_bind ?_;unfold Builtin.Dict.dictSlotNone;refine wpAny_bind (wpAny_notOrdered_dict ty ?_);show wpAny _ _ (pure (Value.ref d)) _ _ s;refine wpAny_pure ?_;show wpAny _ _ (Builtin.Dict.showsAll d>>=_) _ _ s;unfold Builtin.Dict.showsAll;rw[if_neg (by rw[hy];exact Bool.false_ne_true)];refine wpAny_bind (wpAny_pure (wpAny_bind (wpAny_dictEntries ho GR (wpAny_bind (wpAny_dictEpoch ho GR ?_)))));refine wpAny_bind (wpAny_newObj_type (wpAny_pure ⟨_,rfl,"dict_keyiterator",_,⟨_,Heap.get?_push_size _ rfl,rfl⟩,PySem.F.slot_dict_keyiterator_next.lookup,?_⟩));simpa[rawInt,Y4] using hQ
def aaP{r:Addr}(hT:s.TypeIs (.ref r) "dict"){Q:Bool->Shared->Prop}(h:Q false s):wpAny (model prog w) A (Builtin.List.listLengthHint (.ref r)) Q E s:=by
 unfold Builtin.List.listLengthHint;refine wpAny_bind (wpAny_specialOf hT len_dict ?_);generalize hid:("dict.__len__":String)=id0
 wp_delta
 rw[show splitId id0=some ("dict","__len__") from by subst hid;decide+kernel];subst hid;refine wpAny_bind (wpAny_isInstance (T:="dict") (b:=true) hT (by rw[isSubtype_type];kernel_rfl) ?_);refine wpAny_ite_split (λ hab=>absurd hab (by decide)) (λ _=>wpAny_ite_split (λ _=>?_) (λ hab=>absurd (by decide+kernel) hab));first|exact wpAny_pure h|exact wpAny_bind (wpAny_typeOf hT (wpAny_pure h))
def RC{R:Result->Shared->Prop}{S I d:Addr}{es:Array DictEntry}{ep:Nat}(hh:A.handled=none)(hSI:S<I)(hSd:d≠S)(hId:d≠I)(hn:es.size<=sizeLine)(res:Value){h0:Heap} (hR:∀h' tk xs c,(∀b o,b≠S->b≠I->h0.get? b=some o->h'.get? b=some o)->h'.get? S=some (se xs c)->xs.toList=es.toList.map (·.key)->R (.ok (.ret res)) {s with heap:=h',toks:=tk}):
  ∀(k i:Nat) (h:Heap) (tk c:Nat) (xs:Array Value),es.size- i=k->i<=es.size->h.get? I=some (Y4 d i es.size ep)->Ent h d es ep->(∀b o,b≠S->b≠I->h0.get? b=some o->h.get? b=some o)->h.get? S=some (se xs c)->xs.toList=(es.toList.take i).map (·.key)->codeAny (model prog w) A (.builtin "list.extend.loop" ⟨[.ref S,.ref I,res],[]⟩) R {s with heap:=h,toks:=tk}:=by
 have ne:S≠I:=Nat.ne_of_lt hSI;intro k;induction k with
 |zero=>intro i h tk c xs hk hi wk en kp hS hx;refine codeAny_builtin PySem.F.entry_extend_loop ?_;rw[Around.under_plainId PySem.F.plain_extend_loop _];show wpAny _ A.in1 (pyNext (.ref I)>>=_) _ _ (Shared.mk h s.gens s.drawn tk s.os);refine wpAny_bind (aeB (s:=Shared.mk h s.gens s.drawn tk s.os) (A:=A.in1) hh wk en (by omega) λ h' he=>?_);exact wpAny_pure (hR h' tk xs c (λ b o h1 h2 z=>he b o h2 (kp b o h1 h2 z)) (he S _ ne hS) (by rw[hx,List.take_of_length_le (by simp;omega)]))
 |succ k ih=>
  intro i h tk c xs hk hi wk en kp hS hx;have lt:i<es.size:=by omega
  have sz:xs.size=i:=by rw[<-Array.length_toList,hx,List.length_map,List.length_take,Array.length_toList];omega
  refine codeAny_builtin PySem.F.entry_extend_loop ?_;rw[Around.under_plainId PySem.F.plain_extend_loop _];show wpAny _ A.in1 (pyNext (.ref I)>>=_) _ _ (Shared.mk h s.gens s.drawn tk s.os);refine wpAny_bind (aat (s:=Shared.mk h s.gens s.drawn tk s.os) wk en lt λ h' e' k'=>?_);replace k':Heap.SameBut I h h':=k';have hS':=k'.extBut S _ ne hS;have up:∀b o,b≠S->h'.get? b=some o->(h'.update S (Obj.mapSeq (·.push es[i].key))).get? b=some o:=λ b o hb z=>(Heap.get?_update_other _ _ (Ne.symm hb)).trans z;show wpAny _ A.in1 (updateSeq S (·.push es[i].key)>>=_) _ _ (Shared.mk h' s.gens s.drawn tk s.os);refine wpAny_bind (wpAny_updateSeq hS' rfl (wpAny_pure ⟨plainId_quiet PySem.F.plain_extend_loop _,ih (i+1) _ tk _ (xs.push es[i].key) (by omega) lt (up I _ (Ne.symm ne) e') (en.at λ o z=>up d o hSd (k'.extBut d o hId z))
   (λ b o h1 h2 z=>up b o h1 (k'.extBut b o h2 (kp b o h1 h2 z))) (Heap.get?_update_self _ hS' rfl) ?_⟩) (by rw[sz];omega) (by show (xs.push es[i].key).size<=sizeLine+1;rw[Array.size_push,sz];omega))
  rw[Array.toList_push,hx,List.take_succ_eq_append_getElem (by simpa using lt),List.map_append];simp
def Kd(s:Shared)(es:Array DictEntry)(q:Result)(s':Shared):Prop:=∃(h':Heap) (tk:Nat) (xs:Array Value) (c:Nat),q= .ok (.ret (.ref s.heap.objs.size))/\s'={s with heap:=h',toks:=tk}/\(∀b o,s.heap.get? b=some o->h'.get? b=some o)/\h'.get? s.heap.objs.size=some (se xs c)/\xs.toList=es.toList.map (·.key)
def Ep{R:List Value->Shared->Prop}{d:Addr}{es:Array DictEntry}{ep:Nat}(hh:A.handled=none)(hy:(d==sysModules)=false)(hd:HU s.heap d es ep)(hn:es.size<=sizeLine) (h:∀(h':Heap) (tk:Nat),(∀b o,s.heap.get? b=some o->h'.get? b=some o)->s.heap.objs.size<h'.objs.size->R (es.toList.map (·.key)) {s with heap:=h',toks:=tk}):
  wpAny (model prog w) A (collect (.ref d)) R E s:=by
 have dl:d<s.heap.objs.size:=let ⟨_,z,_⟩:=hd;Heap.lt_size z
 have out:∀(h':Heap) (tk:Nat) (xs:Array Value) (c:Nat),(∀b o,s.heap.get? b=some o->h'.get? b=some o)->h'.get? s.heap.objs.size=some (se xs c)->xs.toList=es.toList.map (·.key)->wpAny (model prog w) A (load s.heap.objs.size>>=λ o=>match o.data with| .seq xs _=>pure xs.toList|_=>unsupported "internal:collect") R E {s with heap:=h',toks:=tk}:=λ h' tk xs c hk hS hx=>by refine wpAny_bind (wpAny_load hS (wpAny_pure ?_));show R xs.toList _;rw[hx];exact h h' tk hk (Heap.lt_size hS)
 unfold collect;refine wpAny_bind (wpAny_runValue (codeAny_builtin entry_proto_collect' ?_));rw[Around.under_plainId PySem.F.plain_proto_collect _];show wpAny _ A.in1 (newList []>>=λ l=>again (.builtin "list.__iadd__" ⟨[l,.ref d],[]⟩)) _ _ (Shared.mk s.heap s.gens s.drawn s.toks s.os);refine wpAny_bind (wpAny_newObj_type (wpAny_pure ⟨plainId_quiet PySem.F.plain_list_iadd _,codeAny_builtin entry_list_iadd' ?_⟩));rw[Around.under_plainId PySem.F.plain_list_iadd _];have hS1:(s.heap.push (se #[] 0)).get? s.heap.objs.size=some (se #[] 0):=Heap.get?_push_size _ rfl;have hd1:HU (s.heap.push (se #[] 0)) d es ep:=hd.at λ o e=>Heap.get?_push_of_some _ e;have z1:(s.heap.push (se #[] 0)).objs.size=s.heap.objs.size+1:=Heap.size_push ..;have key:∀(h:Heap) (c1 tk:Nat),(∀b o,b≠s.heap.objs.size->((s.heap.push (se #[] 0)).push (Y4 d 0 es.size ep)).get? b=some o->h.get? b=some o)->h.get? s.heap.objs.size=some (se #[] c1)->
   codeAny (model prog w) A (.builtin "list.extend.loop" ⟨[.ref s.heap.objs.size,.ref (s.heap.push (se #[] 0)).objs.size,.ref s.heap.objs.size],[]⟩) (Kd s es) {s with heap:=h,toks:=tk}:=λ h c1 tk hk hS=>by
  refine RC (s:=s) (h0:=s.heap) hh (by rw[z1];exact Nat.lt_succ_self _) (Nat.ne_of_lt dl) (by rw[z1];exact Nat.ne_of_lt (Nat.lt_succ_of_lt dl)) hn _ (λ h' tk' xs c hk' a2 a3=>⟨h',tk',xs,c,rfl,rfl,λ b o e=>hk' b o (Nat.ne_of_lt (Heap.lt_size e)) (by rw[z1];exact Nat.ne_of_lt (Nat.lt_succ_of_lt (Heap.lt_size e))) e,a2,a3⟩) es.size 0 h tk c1 #[] (Nat.sub_zero _) (Nat.zero_le _)
   (hk _ _ (by rw[z1];exact Nat.succ_ne_self _) (Heap.get?_push_size _ rfl)) (hd.ent.at λ o e=>hk d o (Nat.ne_of_lt dl) (Heap.get?_push_of_some _ (Heap.get?_push_of_some _ e))) (λ b o hb _ e=>hk b o hb (Heap.get?_push_of_some _ (Heap.get?_push_of_some _ e))) hS rfl
 have fin:wpAny (model prog w) A.in1 (Builtin.List.listExtendWith (.ref s.heap.objs.size) (.ref d) (.ref s.heap.objs.size)) (λ fin s'=>match fin with| .done f=>Kd s es (.ok f) s'| .again c'=>c'.quiet=true/\codeAny (model prog w) A c' (Kd s es) s') (λ _ _=>False) {s with heap:=s.heap.push (se #[] 0)}:=by
  unfold Builtin.List.listExtendWith;have ty:Shared.TypeIs {s with heap:=s.heap.push (se #[] 0)} (.ref d) "dict":=let ⟨o,a,c,_⟩:=hd1;⟨o,a,c⟩
  refine wpAny_bind (wpAny_typeOf (T:="dict") ty ?_);simp only[show Builtin.List.listSameRef (.ref s.heap.objs.size) (.ref d)=false by simp[Builtin.List.listSameRef,Nat.ne_of_gt dl],show (Value.type "dict"==Value.type "list")=false by decide,show (Value.type "dict"==Value.type "tuple")=false by decide,Bool.or_false,Bool.false_eq_true,if_false];refine wpAny_bind (RJ hy hd1 ?_);have hS2:((s.heap.push (se #[] 0)).push (Y4 d 0 es.size ep)).get? s.heap.objs.size=some (se #[] 0):=Heap.get?_push_of_some _ hS1;refine wpAny_bind (wpAny_holding (aaP (let ⟨o,a,c,_⟩:=hd1;⟨o,Heap.get?_push_of_some _ a,c⟩) ?_));refine wpAny_ite_split (λ _=>?_) (λ _=>wpAny_pure ⟨plainId_quiet PySem.F.plain_extend_loop _,key _ 0 _ (λ b o _ e=>e) hS2⟩);refine wpAny_bind (wpAny_rule (wpAny_bind ?_));show wpAny _ _ (updateSeq s.heap.objs.size (·.push .none)>>=λ _=>updateSeq s.heap.objs.size (·.pop)) _ _ (Shared.mk _ s.gens s.drawn s.toks s.os);refine wpAny_bind (wpAny_updateSeq hS2 rfl ?_);have hS3:=Heap.get?_update_self (Obj.mapSeq (·.push Value.none)) hS2 rfl;refine wpAny_updateSeq (hz:=by seq_fits) hS3 rfl ?_;have hS4:=Heap.get?_update_self (Obj.mapSeq (·.pop)) hS3 rfl;exact wpAny_pure ⟨plainId_quiet PySem.F.plain_extend_loop _,key _ _ _ (λ b o hb e=>(Heap.get?_update_other _ _ (Ne.symm hb)).trans ((Heap.get?_update_other _ _ (Ne.symm hb)).trans e)) hS4⟩
 refine wpAny_mono fin (λ fin s' x=>?_) λ e s' x=>x.elim;cases fin with
 |done f=>obtain ⟨h',tk,xs,c,e,rfl,a1,a2,a3⟩:=x;cases e;exact out h' tk xs c a1 a2 a3
 |again c1=>refine ⟨x.1,codeAny_mono x.2 λ q s2 y=>?_⟩;obtain ⟨h',tk,xs,c,rfl,rfl,a1,a2,a3⟩:=y;exact out h' tk xs c a1 a2 a3
end
end L4
end
section
namespace LM
open PySem PySem.W PyProof.Rows
noncomputable abbrev SS:=StateT SortSt Sem
def XF(left:Bool)(key:Keyed)(arr:Array Keyed)(base i:Nat):SS (Option Bool):=do
 let x <-elem' arr (base+i)
 if left then lt' x key
 else do
  let r <-lt' key x
  pure (r.map λ x=>!x)
def afB(left:Bool)(key:Keyed)(arr:Array Keyed)(base n lo hi:Nat):SS (Option Nat):=do
 let s <-forIn [:n] ((none:Option (Option Nat)),lo,hi) λ _ s=>
  if s.2.1>=s.2.2 then pure (ForInStep.done (none,s.2.1,s.2.2))
  else do
   let x <-XF left key arr base (s.2.1+(s.2.2- s.2.1)/ 2)
   match x with
   |some more=>if more=true then pure (ForInStep.yield (none,s.2.1+(s.2.2- s.2.1)/ 2+1,s.2.2)) else pure (ForInStep.yield (none,s.2.1,s.2.1+(s.2.2- s.2.1)/ 2))
   |_=>pure (ForInStep.done (some none,s.2.1,s.2.2))
 match s.1 with
 |some r=>pure r
 |none=>pure (some s.2.2)
def nE(left:Bool)(key:Keyed)(arr:Array Keyed)(base n hint:Nat):SS (Option Nat):=do
 let x <-XF left key arr base hint
 match x with
 |some right=>
  if right=true then do
   let s <-forIn [:n] ((none:Option (Option Nat)),0,1) λ _ s=>
    if s.2.2>=n- hint then pure (ForInStep.done (none,s.2.1,s.2.2))
    else do
     let x <-XF left key arr base (hint+s.2.2)
     match x with
     |some more=>if (!more)=true then pure (ForInStep.done (none,s.2.1,s.2.2)) else pure (ForInStep.yield (none,s.2.2,2*s.2.2+1))
     |_=>pure (ForInStep.done (some none,s.2.1,s.2.2))
   match s.1 with
   |some r=>pure r
   |none=>afB left key arr base n (hint+s.2.1+1) (hint+min s.2.2 (n- hint))
  else do
   let s <-forIn [:n] ((none:Option (Option Nat)),0,1) λ _ s=>
    if s.2.2>=hint+1 then pure (ForInStep.done (none,s.2.1,s.2.2))
    else do
     let x <-XF left key arr base (hint- s.2.2)
     match x with
     |some found=>if found=true then pure (ForInStep.done (none,s.2.1,s.2.2)) else pure (ForInStep.yield (none,s.2.2,2*s.2.2+1))
     |_=>pure (ForInStep.done (some none,s.2.1,s.2.2))
   match s.1 with
   |some r=>pure r
   |none=>afB left key arr base n (hint+1- min s.2.2 (hint+1)) (hint- s.2.1)
 |_=>pure none
def sgX(g:Nat):SS Unit:=modify λ st=>SortSt.mk' (kindOf st) (arrOf st) (pendingOf st) g (failedOf st)
abbrev abO:=Option (Array Keyed)×Array Keyed×Nat×Nat×Nat×Nat
abbrev EI:=Option (Array Keyed)×Array Keyed×Nat×Nat×Nat×Nat×Nat
noncomputable def lP(a b out:Array Keyed)(ia ib:Nat):Array Keyed:=out++a.extract ia++b.extract ib
noncomputable def vd(a b out:Array Keyed)(ia ib:Nat):Array Keyed:=out++b.extract ib++a.extract ia
def lo1(a b:Array Keyed)(mg:Nat)(_:Nat)(s:abO):SS (ForInStep abO):=do
 let y <-elem' b s.2.2.2.1
 let x <-elem' a s.2.2.1
 let r <-lt' y x
 match r with
 |some ai1=>
  if ai1=true then do
   let y <-elem' b s.2.2.2.1
   if (s.2.2.2.1+1==b.size)=true then pure (ForInStep.done (some (lP a b (s.2.1.push y) s.2.2.1 (s.2.2.2.1+1)),s.2.1.push y,s.2.2.1,s.2.2.2.1+1,0,s.2.2.2.2.2+1))
   else if s.2.2.2.2.2+1>=mg then pure (ForInStep.done (none,s.2.1.push y,s.2.2.1,s.2.2.2.1+1,0,s.2.2.2.2.2+1))
   else pure (ForInStep.yield (none,s.2.1.push y,s.2.2.1,s.2.2.2.1+1,0,s.2.2.2.2.2+1))
  else do
   let x <-elem' a s.2.2.1
   if (s.2.2.1+1+1==a.size)=true then pure (ForInStep.done (some (vd a b (s.2.1.push x) (s.2.2.1+1) s.2.2.2.1),s.2.1.push x,s.2.2.1+1,s.2.2.2.1,s.2.2.2.2.1+1,0))
   else if s.2.2.2.2.1+1>=mg then pure (ForInStep.done (none,s.2.1.push x,s.2.2.1+1,s.2.2.2.1,s.2.2.2.2.1+1,0))
   else pure (ForInStep.yield (none,s.2.1.push x,s.2.2.1+1,s.2.2.2.1,s.2.2.2.2.1+1,0))
 |_=>pure (ForInStep.done (some (lP a b s.2.1 s.2.2.1 s.2.2.2.1),s.2.1,s.2.2.1,s.2.2.2.1,s.2.2.2.2.1,s.2.2.2.2.2))
def aaE(a b:Array Keyed)(mg ac bc:Nat)(out:Array Keyed)(ia ib:Nat):SS (ForInStep EI):=do
 let x <-elem' a ia
 if (ia+1+1==a.size)=true then pure (ForInStep.done (some (vd a b (out.push x) (ia+1) ib),out.push x,ia+1,ib,mg,ac,bc))
 else if (decide (ac<7)&&decide (bc<7))=true then pure (ForInStep.done (none,out.push x,ia+1,ib,mg,ac,bc))
 else pure (ForInStep.yield (none,out.push x,ia+1,ib,mg,ac,bc))
def aaF(a b:Array Keyed)(mg ac HX:Nat)(out:Array Keyed)(ia ib:Nat):SS (ForInStep EI):=do
 let y <-elem' b ib
 if (ib+1==b.size)=true then pure (ForInStep.done (some (lP a b (out.push y) ia (ib+1)),out.push y,ia,ib+1,mg,ac,HX))
 else do
  let x <-elem' a ia
  let r <-nE true x b (ib+1) (b.size-(ib+1)) 0
  match r with
  |some k=>
   if k>0 then
    if (ib+1+k==b.size)=true then pure (ForInStep.done (some (lP a b (out.push y++b.extract (ib+1) (ib+1+k)) ia (ib+1+k)),out.push y++b.extract (ib+1) (ib+1+k),ia,ib+1+k,mg,ac,k))
    else aaE a b mg ac k (out.push y++b.extract (ib+1) (ib+1+k)) ia (ib+1+k)
   else aaE a b mg ac k (out.push y) ia (ib+1)
  |_=>pure (ForInStep.done (some (lP a b (out.push y) ia (ib+1)),out.push y,ia,ib+1,mg,ac,HX))
def aaG(a b:Array Keyed)(ac0 HX:Nat)(out:Array Keyed)(ia ib mg:Nat):SS (ForInStep EI):=do
 sgX mg
 let y <-elem' b ib
 let r <-nE false y a ia (a.size- ia) 0
 match r with
 |some k=>
  if k>0 then
   if (ia+k+1==a.size)=true then pure (ForInStep.done (some (vd a b (out++a.extract ia (ia+k)) (ia+k) ib),out++a.extract ia (ia+k),ia+k,ib,mg,k,HX))
   else if (ia+k==a.size)=true then pure (ForInStep.done (some (lP a b (out++a.extract ia (ia+k)) (ia+k) ib),out++a.extract ia (ia+k),ia+k,ib,mg,k,HX))
   else aaF a b mg k HX (out++a.extract ia (ia+k)) (ia+k) ib
  else aaF a b mg k HX out ia ib
 |_=>pure (ForInStep.done (some (lP a b out ia ib),out,ia,ib,mg,ac0,HX))
def lo2(a b:Array Keyed)(_:Nat)(s:EI):SS (ForInStep EI):=if s.2.2.2.2.1>1 then aaG a b s.2.2.2.2.2.1 s.2.2.2.2.2.2 s.2.1 s.2.2.1 s.2.2.2.1 (s.2.2.2.2.1- 1)
 else aaG a b s.2.2.2.2.2.1 s.2.2.2.2.2.2 s.2.1 s.2.2.1 s.2.2.2.1 s.2.2.2.2.1
abbrev afS:=Option (Array Keyed)×Array Keyed×Nat×Nat×Nat
def lo0(a b:Array Keyed)(_:Nat)(s:afS):SS (ForInStep afS):=do
 let t <-forIn [:a.size+b.size] ((none,s.2.1,s.2.2.1,s.2.2.2.1,0,0):abO) (lo1 a b s.2.2.2.2)
 match t.1 with
 |some r=>pure (ForInStep.done (some r,t.2.1,t.2.2.1,t.2.2.2.1,s.2.2.2.2))
 |none=>do
  liftM (rule "list.sort.gallop")
  let u <-forIn [:a.size+b.size] ((none,t.2.1,t.2.2.1,t.2.2.2.1,s.2.2.2.2+1,t.2.2.2.2.1,t.2.2.2.2.2):EI) (lo2 a b)
  match u.1 with
  |some r=>pure (ForInStep.done (some r,u.2.1,u.2.2.1,u.2.2.2.1,u.2.2.2.2.1))
  |none=>do
   sgX (u.2.2.2.2.1+1)
   pure (ForInStep.yield (none,u.2.1,u.2.2.1,u.2.2.2.1,u.2.2.2.2.1+1))
def yR(a b:Array Keyed):SS (Array Keyed):=do
 liftM (rule "list.sort.merge-lo")
 let y <-elem' b 0
 if (1==b.size)=true then pure (lP a b #[y] 0 1)
 else if (0+1==a.size)=true then pure (vd a b #[y] 0 1)
 else do
  let st <-get
  let s <-forIn [:a.size+b.size] ((none, #[y],0,1,gallopOf st):afS) (lo0 a b)
  match s.1 with
  |some r=>pure r
  |none=>liftM (unsupported "internal:list.sort.merge-bound")
abbrev abR:=Option (Array Keyed)×Nat×Nat×Array Keyed×Nat×Nat
abbrev EJ:=Option (Array Keyed)×Nat×Nat×Array Keyed×Nat×Nat×Nat
def lQ(a b out:Array Keyed)(na nb:Nat):Array Keyed:=a.extract 0 na++b.extract 0 nb++out.reverse
def qh(a b out:Array Keyed)(na nb:Nat):Array Keyed:=b.extract 0 nb++a.extract 0 na++out.reverse
def hi1(a b:Array Keyed)(mg:Nat)(_:Nat)(s:abR):SS (ForInStep abR):=do
 let y <-elem' b (s.2.2.1- 1)
 let x <-elem' a (s.2.1- 1)
 let r <-lt' y x
 match r with
 |some ai5=>
  if ai5=true then do
   let x <-elem' a (s.2.1- 1)
   if (s.2.1- 1==0)=true then pure (ForInStep.done (some (lQ a b (s.2.2.2.1.push x) (s.2.1- 1) s.2.2.1),s.2.1- 1,s.2.2.1,s.2.2.2.1.push x,s.2.2.2.2.1+1,0))
   else if s.2.2.2.2.1+1>=mg then pure (ForInStep.done (none,s.2.1- 1,s.2.2.1,s.2.2.2.1.push x,s.2.2.2.2.1+1,0))
   else pure (ForInStep.yield (none,s.2.1- 1,s.2.2.1,s.2.2.2.1.push x,s.2.2.2.2.1+1,0))
  else do
   let y <-elem' b (s.2.2.1- 1)
   if (s.2.2.1- 1==1)=true then pure (ForInStep.done (some (qh a b (s.2.2.2.1.push y) s.2.1 (s.2.2.1- 1)),s.2.1,s.2.2.1- 1,s.2.2.2.1.push y,0,s.2.2.2.2.2+1))
   else if s.2.2.2.2.2+1>=mg then pure (ForInStep.done (none,s.2.1,s.2.2.1- 1,s.2.2.2.1.push y,0,s.2.2.2.2.2+1))
   else pure (ForInStep.yield (none,s.2.1,s.2.2.1- 1,s.2.2.2.1.push y,0,s.2.2.2.2.2+1))
 |_=>pure (ForInStep.done (some (lQ a b s.2.2.2.1 s.2.1 s.2.2.1),s.2.1,s.2.2.1,s.2.2.2.1,s.2.2.2.2.1,s.2.2.2.2.2))
def aa2(a b:Array Keyed)(mg ac bc na nb:Nat)(out:Array Keyed):SS (ForInStep EJ):=do
 let x <-elem' a (na- 1)
 if (na- 1==0)=true then pure (ForInStep.done (some (lQ a b (out.push x) (na- 1) nb),na- 1,nb,out.push x,mg,ac,bc))
 else if (decide (ac<7)&&decide (bc<7))=true then pure (ForInStep.done (none,na- 1,nb,out.push x,mg,ac,bc))
 else pure (ForInStep.yield (none,na- 1,nb,out.push x,mg,ac,bc))
def aa3(a b:Array Keyed)(mg ac HX na nb:Nat)(out:Array Keyed):SS (ForInStep EJ):=do
 let y <-elem' b (nb- 1)
 if (nb- 1==1)=true then pure (ForInStep.done (some (qh a b (out.push y) na (nb- 1)),na,nb- 1,out.push y,mg,ac,HX))
 else do
  let x <-elem' a (na- 1)
  let r <-nE true x b 0 (nb- 1) (nb- 1- 1)
  match r with
  |some at_=>
   if nb- 1- at_>0 then
    if (at_==1)=true then pure (ForInStep.done (some (qh a b (out.push y++(b.extract at_ (nb- 1)).reverse) na at_),na,at_,out.push y++(b.extract at_ (nb- 1)).reverse,mg,ac,nb- 1- at_))
    else if (at_==0)=true then pure (ForInStep.done (some (lQ a b (out.push y++(b.extract at_ (nb- 1)).reverse) na at_),na,at_,out.push y++(b.extract at_ (nb- 1)).reverse,mg,ac,nb- 1- at_))
    else aa2 a b mg ac (nb- 1- at_) na at_ (out.push y++(b.extract at_ (nb- 1)).reverse)
   else aa2 a b mg ac (nb- 1- at_) na (nb- 1) (out.push y)
  |_=>pure (ForInStep.done (some (lQ a b (out.push y) na (nb- 1)),na,nb- 1,out.push y,mg,ac,HX))
def aa4(a b:Array Keyed)(ac0 HX na nb:Nat)(out:Array Keyed)(mg:Nat):SS (ForInStep EJ):=do
 sgX mg
 let y <-elem' b (nb- 1)
 let r <-nE false y a 0 na (na- 1)
 match r with
 |some at_=>
  if na- at_>0 then
   if (at_==0)=true then pure (ForInStep.done (some (lQ a b (out++(a.extract at_ na).reverse) at_ nb),at_,nb,out++(a.extract at_ na).reverse,mg,na- at_,HX))
   else aa3 a b mg (na- at_) HX at_ nb (out++(a.extract at_ na).reverse)
  else aa3 a b mg (na- at_) HX na nb out
 |_=>pure (ForInStep.done (some (lQ a b out na nb),na,nb,out,mg,ac0,HX))
def hi2(a b:Array Keyed)(_:Nat)(s:EJ):SS (ForInStep EJ):=if s.2.2.2.2.1>1 then aa4 a b s.2.2.2.2.2.1 s.2.2.2.2.2.2 s.2.1 s.2.2.1 s.2.2.2.1 (s.2.2.2.2.1- 1)
 else aa4 a b s.2.2.2.2.2.1 s.2.2.2.2.2.2 s.2.1 s.2.2.1 s.2.2.2.1 s.2.2.2.2.1
abbrev afV:=Option (Array Keyed)×Nat×Nat×Array Keyed×Nat
def hi0(a b:Array Keyed)(_:Nat)(s:afV):SS (ForInStep afV):=do
 let t <-forIn [:a.size+b.size] ((none,s.2.1,s.2.2.1,s.2.2.2.1,0,0):abR) (hi1 a b s.2.2.2.2)
 match t.1 with
 |some r=>pure (ForInStep.done (some r,t.2.1,t.2.2.1,t.2.2.2.1,s.2.2.2.2))
 |none=>do
  liftM (rule "list.sort.gallop")
  let u <-forIn [:a.size+b.size] ((none,t.2.1,t.2.2.1,t.2.2.2.1,s.2.2.2.2+1,t.2.2.2.2.1,t.2.2.2.2.2):EJ) (hi2 a b)
  match u.1 with
  |some r=>pure (ForInStep.done (some r,u.2.1,u.2.2.1,u.2.2.2.1,u.2.2.2.2.1))
  |none=>do
   sgX (u.2.2.2.2.1+1)
   pure (ForInStep.yield (none,u.2.1,u.2.2.1,u.2.2.2.1,u.2.2.2.2.1+1))
def yS(a b:Array Keyed):SS (Array Keyed):=do
 liftM (rule "list.sort.merge-hi")
 let x <-elem' a (a.size- 1)
 if (a.size- 1==0)=true then pure (lQ a b #[x] (a.size- 1) b.size)
 else if (b.size==1)=true then pure (qh a b #[x] (a.size- 1) b.size)
 else do
  let st <-get
  let s <-forIn [:a.size+b.size] ((none,a.size- 1,b.size, #[x],gallopOf st):afV) (hi0 a b)
  match s.1 with
  |some r=>pure r
  |none=>liftM (unsupported "internal:list.sort.merge-bound")
def VQ(sa:Nat)(merged:Array Keyed):SS Bool:=do
 modify λ st=>SortSt.mk' (kindOf st) (List.foldl (λ a x=>match x with|(p,j)=>a.setIfInBounds (sa+j) p) (arrOf st) merged.toList.zipIdx) (pendingOf st) (gallopOf st) (failedOf st)
 let st <-get
 pure (failedOf st).isNone
def Gr(i:Nat):SS Bool:=do
 let s <-get
 match (pendingOf s)[i]?,(pendingOf s)[i+1]? with
 |some (sa,na,pw),some (sb,nb,_)=>do
  set (SortSt.mk' (kindOf s) (arrOf s) (((pendingOf s).setIfInBounds i (sa,na+nb,pw)).eraseIdxIfInBounds (i+1)) (gallopOf s) (failedOf s))
  let y <-elem' (arrOf s) sb
  let r <-nE false y (arrOf s) sa na 0
  match r with
  |some k=>
   if (na- k==0)=true then pure true
   else do
    let x <-elem' (arrOf s) (sa+k+(na- k) - 1)
    let r <-nE true x (arrOf s) sb nb (nb- 1)
    match r with
    |some nb=>
     if (nb==0)=true then pure true
     else if na- k<=nb then do
      let m <-yR ((arrOf s).extract (sa+k) sb) ((arrOf s).extract sb (sb+nb))
      VQ (sa+k) m
     else do
      let m <-yS ((arrOf s).extract (sa+k) sb) ((arrOf s).extract sb (sb+nb))
      VQ (sa+k) m
    |_=>pure false
  |_=>pure false
 |_,_=>liftM (unsupported "internal:list.sort.pending")
def JN:mergeAt'=Gr:=by kernel_rfl
end LM
end
section
namespace LM
open PySem PySem.W PyProof.Rows L4
structure Mg(R:Nat->Nat->Prop)(o X Y T:List Nat):Prop where
 perm:(o++(X++Y)).Perm T
 uo:o.Pairwise R
 lo:∀x∈o,∀y∈X++Y,R x y
 ux:X.Pairwise R
 uy:Y.Pairwise R
namespace Mg
variable{R:Nat->Nat->Prop}{o X X1 X2 Y T:List Nat}{x y:Nat}
def swap(h:Mg R o X Y T):Mg R o Y X T:=⟨(List.Perm.append_left o List.perm_append_comm).trans h.perm,h.uo,λ x hx z hz=>h.lo x hx z (by simp only[List.mem_append] at*;exact hz.symm),h.uy,h.ux⟩
def mem(h:Mg R o X Y T){z:Nat}(hz:z∈o\/z∈X\/z∈Y):z∈T:=h.perm.mem_iff.mp (by simp only[List.mem_append];exact hz)
def step(tr:∀a b c,a∈T->b∈T->c∈T->R a b->R b c->R a c)(h:Mg R o (X1++X2) (y::Y) T)(hx:∀x∈X1,R x y):Mg R (o++X1) X2 (y::Y) T:=by
 have u:=List.pairwise_append.mp h.ux;have v:=List.pairwise_cons.mp h.uy;refine ⟨?_,?_,?_,u.2.1,h.uy⟩
 ·have:=h.perm;simpa[List.append_assoc] using this
 ·refine List.pairwise_append.mpr ⟨h.uo,u.1,λ a ha b hb=>h.lo a ha b (by simp[hb])⟩
 ·intro a ha b hb;rcases List.mem_append.mp ha with ha|ha
  ·exact h.lo a ha b (by simp only[List.mem_append] at*;rcases hb with hb|hb;exact .inl (.inr hb);exact .inr hb)
  ·rcases List.mem_append.mp hb with hb|hb
   ·exact u.2.2 a ha b hb
   ·rcases List.mem_cons.mp hb with rfl|hb
    ·exact hx a ha
    ·exact tr a y b (h.mem (.inr (.inl (by simp[ha])))) (h.mem (.inr (.inr (by simp)))) (h.mem (.inr (.inr (by simp[hb])))) (hx a ha) (v.1 b hb)
def fin(h:Mg R o X [] T):(o++X).Perm T/\(o++X).Pairwise R:=by refine ⟨by simpa using h.perm,List.pairwise_append.mpr ⟨h.uo,h.ux,λ a ha b hb=>h.lo a ha b (by simp[hb])⟩⟩
def aiB(h:Mg R o [x] Y T)(hx:∀y∈Y,R y x):(o++(Y++[x])).Perm T/\(o++(Y++[x])).Pairwise R:=by refine ⟨h.swap.perm,List.pairwise_append.mpr ⟨h.uo,List.pairwise_append.mpr ⟨h.uy,by simp,λ a ha b hb=>?_⟩,λ a ha b hb=>h.swap.lo a ha b hb⟩⟩;rw[List.mem_singleton] at hb;subst hb;exact hx a ha
end Mg
section
variable{prog:Program}{w:World}{A:Around}{E:Value->Shared->Prop}{s:Shared}{κ:SortKind}{it:Array Keyed}{lt:Nat->Nat->Bool}{n:Nat}
noncomputable def aQ(it:Array Keyed)(l:List Nat):Array Keyed:=(l.map (kas_item it)).toArray
def bY{l:List Nat}:(aQ it l).size=l.length:=by simp[aQ]
def bP{l:List Nat}{i:Nat}(h:i<l.length):(aQ it l)[i]? =some (kas_item it l[i]):=by simp[aQ,h]
def nv{l:List Nat}{i j:Nat}:(aQ it l).extract i j=aQ it ((l.drop i).take (j- i)):=by simp[aQ,List.extract_toArray,List.extract_eq_take_drop,List.map_take,List.map_drop]
def gh{l m:List Nat}:aQ it l++aQ it m=aQ it (l++m):=by simp[aQ]
def jx{l:List Nat}{i:Nat}:(aQ it l).push (kas_item it i)=aQ it (l++[i]):=by simp[aQ]
def Px{i:Nat}: #[kas_item it i]=aQ it [i]:=by simp[aQ]
def xy{l:List Nat}:(aQ it l).reverse=aQ it l.reverse:=by simp[aQ,List.map_reverse]
noncomputable abbrev dS(κ:SortKind)(a:Array Keyed)(pe:Array (Nat×Nat×Nat))(mg:Nat):SortSt:=SortSt.mk' κ a pe mg none
def CF(prog:Program)(w:World)(A:Around)(s:Shared)(κ:SortKind)(it:Array Keyed)(lt:Nat->Nat->Bool)(n:Nat):Prop:=∀(i j:Nat) (Q:Bool->Shared->Prop),i<n->j<n->i≠j->Q (lt i j) s->kas_cmp prog w A κ it i j Q s
def lt_eq:lt'=λ x y=>(get>>=λ st=>liftM (keyLt' (kindOf st) x.1 y.1).attempt>>=λ r=>(match r with
  | .ok b=>pure (some b)
  | .error e=>(modify λ x=>SortSt.mk' (kindOf x) (arrOf x) (pendingOf x) (gallopOf x) (some e))>>=λ _=>pure none):SS (Option Bool)):=by kernel_rfl
def abn:elem'=λ arr i=>(match arr[i]? with
  |some p=>pure p
  |none=>liftM (unsupported "internal:list.sort.index"):SS Keyed):=by kernel_rfl
def cF{arr:Array Keyed}{i:Nat}{x:Keyed}{st:SortSt}{Q:Keyed->SortSt->Prop}(h:arr[i]? =some x)(q:Q x st):wpS (model prog w) A E s (elem' arr i) Q st:=by rw[abn];simp only[h];exact wpS_pure q
def V_lt(hc:CF prog w A s κ it lt n){i j:Nat}{a:Array Keyed}{pe:Array (Nat×Nat×Nat)}{mg:Nat}{Q:Option Bool->SortSt->Prop}(hi:i<n)(hj:j<n)(ne:i≠j)(q:Q (some (lt i j)) (dS κ a pe mg)):
  wpS (model prog w) A E s (lt' (kas_item it i) (kas_item it j)) Q (dS κ a pe mg):=by
 rw[lt_eq];refine wpS_bind (wpS_get ?_);refine wpS_bind (wpS_lift (wpAny_attempt ?_));exact wpAny_mono (hc i j (λ b s'=>s'=s/\Q (some b) (dS κ a pe mg)) hi hj ne ⟨rfl,q⟩) (λ b s' h=>⟨h.1,wpS_pure h.2⟩) (λ _ _ h=>h.elim)
structure Cut(lt:Nat->Nat->Bool)(it:Array Keyed)(n:Nat)(arr:Array Keyed)(base N k B:Nat):Prop where
 g:∀i,i<N->∃x,arr[base+i]? =some (kas_item it x)/\x<n/\x≠k/\lt x k=decide (i<B)
 le:B<=N
 kn:k<n
def Qj(O:Ord lt n)(hc:CF prog w A s κ it lt n){left:Bool}{arr a:Array Keyed}{pe:Array (Nat×Nat×Nat)}{base N k B mg i:Nat}(C:Cut lt it n arr base N k B)(hi:i<N){Q:Option Bool->SortSt->Prop}(q:Q (some (decide (i<B))) (dS κ a pe mg)):
  wpS (model prog w) A E s (XF left (kas_item it k) arr base i) Q (dS κ a pe mg):=by
 obtain ⟨x,e,hx,ne,hl⟩:=C.g i hi;refine wpS_bind (cF e ?_);cases left with
 |true=>simp only[if_true];refine V_lt hc hx C.kn ne ?_;rw[hl];exact q
 |false=>
  simp only[Bool.false_eq_true,if_false];refine wpS_bind (V_lt hc C.kn hx (Ne.symm ne) (wpS_pure ?_));have:lt k x=!decide (i<B):=by rw[O.tot k x C.kn hx (Ne.symm ne),hl]
  rw[this];simpa using q
def CD(O:Ord lt n)(hc:CF prog w A s κ it lt n){left:Bool}{arr a:Array Keyed}{pe:Array (Nat×Nat×Nat)}{base N k B mg l h:Nat}(C:Cut lt it n arr base N k B)(hl:l<=B)(hh:B<=h)(hN:h<=N){Q:Option Nat->SortSt->Prop}(q:Q (some B) (dS κ a pe mg)):
  wpS (model prog w) A E s (afB left (kas_item it k) arr base N l h) Q (dS κ a pe mg):=by
 refine wpS_bind (wpS_forRange (λ i c st=>st=dS κ a pe mg/\c.1=none/\c.2.1<=B/\B<=c.2.2/\c.2.2<=N/\(c.2.2- c.2.1)+i<=N) ?_ ?_ ⟨rfl,rfl,hl,hh,hN,by dsimp only;omega⟩)
 ·rintro i ⟨c1,c2,c3⟩ st _ hi ⟨rfl,h1,h2,h3,h4,h5⟩
  simp only at h1 h2 h3 h4 h5 ⊢;subst h1;by_cases e:c2>=c3
  ·rw[if_pos e];refine wpS_pure ?_;have:c3=B:=by omega
   subst this;exact wpS_pure q
  ·rw[if_neg e];refine wpS_bind (Qj O hc C (by omega) ?_);by_cases m:c2+(c3- c2)/ 2<B
   ·simp only[m,decide_true,if_true];exact wpS_pure ⟨rfl,rfl,by simp only;omega,h3,h4,by simp only;omega⟩
   ·simp only[m,decide_false,Bool.false_eq_true,if_false];exact wpS_pure ⟨rfl,rfl,h2,by simp only;omega,by simp only;omega,by simp only;omega⟩
 ·rintro ⟨c1,c2,c3⟩ st ⟨rfl,h1,h2,h3,h4,h5⟩
  simp only at h1 h2 h3 h4 h5 ⊢;subst h1;have:c3=B:=by have:=Nat.le_max_right 0 N;omega
  subst this;exact wpS_pure q
def mT(O:Ord lt n)(hc:CF prog w A s κ it lt n){left:Bool}{arr a:Array Keyed}{pe:Array (Nat×Nat×Nat)}{base N k B mg hint:Nat}(C:Cut lt it n arr base N k B)(hh:hint<N){Q:Option Nat->SortSt->Prop}(q:Q (some B) (dS κ a pe mg)):
  wpS (model prog w) A E s (nE left (kas_item it k) arr base N hint) Q (dS κ a pe mg):=by
 have hB:=C.le;refine wpS_bind (Qj O hc C hh ?_);by_cases r:hint<B
 ·simp only[r,decide_true,if_true];refine wpS_bind (wpS_forRange (λ i c st=>st=dS κ a pe mg/\c.1=none/\hint+c.2.1<B/\c.2.1<c.2.2/\i<=c.2.2) ?_ ?_ ⟨rfl,rfl,by simp only;omega,by simp,by simp⟩)
  ·rintro i ⟨c1,c2,c3⟩ st _ hi ⟨rfl,h1,h2,h3,h4⟩
   simp only at h1 h2 h3 h4 ⊢;subst h1;by_cases e:c3>=N- hint
   ·rw[if_pos e];refine wpS_pure ?_;exact CD O hc C (by first|omega|(dsimp only;omega)) (by first|omega|(dsimp only;omega)) (by first|omega|(dsimp only;omega)) q
   ·rw[if_neg e];refine wpS_bind (Qj O hc C (by omega) ?_);by_cases m:hint+c3<B
    ·simp only[m,decide_true,Bool.not_true,Bool.false_eq_true,if_false];exact wpS_pure ⟨rfl,rfl,m,by simp only;omega,by simp only;omega⟩
    ·simp only[m,decide_false,Bool.not_false,if_true];refine wpS_pure ?_;exact CD O hc C (by first|omega|(dsimp only;omega)) (by first|omega|(dsimp only;omega)) (by first|omega|(dsimp only;omega)) q
  ·rintro ⟨c1,c2,c3⟩ st ⟨rfl,h1,h2,h3,h4⟩
   simp only at h1 h2 h3 h4 ⊢;subst h1;have:=Nat.le_max_right 0 N;exact CD O hc C (by first|omega|(dsimp only;omega)) (by first|omega|(dsimp only;omega)) (by first|omega|(dsimp only;omega)) q
 ·simp only[r,decide_false,Bool.false_eq_true,if_false];refine wpS_bind (wpS_forRange (λ i c st=>st=dS κ a pe mg/\c.1=none/\c.2.1<=hint/\B<=hint- c.2.1/\c.2.1<c.2.2/\i<=c.2.2) ?_ ?_ ⟨rfl,rfl,by simp,by simp only;omega,by simp,by simp⟩)
  ·rintro i ⟨c1,c2,c3⟩ st _ hi ⟨rfl,h1,h2,h3,h4,h5⟩
   simp only at h1 h2 h3 h4 h5 ⊢;subst h1;by_cases e:c3>=hint+1
   ·rw[if_pos e];refine wpS_pure ?_;exact CD O hc C (by first|omega|(dsimp only;omega)) (by first|omega|(dsimp only;omega)) (by first|omega|(dsimp only;omega)) q
   ·rw[if_neg e];refine wpS_bind (Qj O hc C (by omega) ?_);by_cases m:hint- c3<B
    ·simp only[m,decide_true,if_true];refine wpS_pure ?_;exact CD O hc C (by first|omega|(dsimp only;omega)) (by first|omega|(dsimp only;omega)) (by first|omega|(dsimp only;omega)) q
    ·simp only[m,decide_false,Bool.false_eq_true,if_false];exact wpS_pure ⟨rfl,rfl,by simp only;omega,by simp only;omega,by simp only;omega,by simp only;omega⟩
  ·rintro ⟨c1,c2,c3⟩ st ⟨rfl,h1,h2,h3,h4,h5⟩
   simp only at h1 h2 h3 h4 h5 ⊢;subst h1;have:=Nat.le_max_right 0 N;exact CD O hc C (by first|omega|(dsimp only;omega)) (by first|omega|(dsimp only;omega)) (by first|omega|(dsimp only;omega)) q
def abM{g mg:Nat}{a:Array Keyed}{pe:Array (Nat×Nat×Nat)}{Q:Unit->SortSt->Prop}(q:Q () (dS κ a pe g)):wpS (model prog w) A E s (sgX g) Q (dS κ a pe mg):=wpS_modify q
def vz{t:String}{st:SortSt}{Q:Unit->SortSt->Prop}(q:Q () st):wpS (model prog w) A E s (liftM (rule t)) Q st:=wpS_lift (wpAny_rule ⟨rfl,q⟩)
def rX(O:Ord lt n){k:Nat}(hk:k<n):∀(l:List Nat),(∀x∈l,x<n/\x≠k)->l.Pairwise (λ a b=>lt a b=true)->∃B,B<=l.length/\∀(i:Nat) (h:i<l.length),lt l[i] k=decide (i<B)
 |[],_,_=>⟨0,Nat.le_refl _,λ i h=>absurd h (Nat.not_lt_zero _)⟩
 |x::t,hl,hp=>by
  have Wz:=List.pairwise_cons.mp hp;by_cases e:lt x k=true
  ·obtain ⟨B,h1,h2⟩:=rX O hk t (λ y hy=>hl y (List.mem_cons_of_mem _ hy)) Wz.2;refine ⟨B+1,by simpa using h1,λ i h=>?_⟩;cases i with
   |zero=>simpa using e
   |succ i=>simpa using h2 i (by simpa using h)
  ·refine ⟨0,Nat.zero_le _,λ i h=>?_⟩;have xk:=hl x (by simp);have kx:lt k x=true:=by rw[O.tot k x hk xk.1 (Ne.symm xk.2)];simpa using e
   cases i with
   |zero=>simpa using e
   |succ i=>
    have hi:i<t.length:=by simpa using h
    have ti:=hl t[i] (List.mem_cons_of_mem _ (List.getElem_mem hi));have kt:lt k t[i]=true:=O.tr k x t[i] hk xk.1 ti.1 kx (Wz.1 _ (List.getElem_mem hi));have:lt t[i] k=!lt k t[i]:=O.tot _ _ ti.1 hk ti.2;simp only[List.getElem_cons_succ,this,kt];simp
def Cut.tw{l:List Nat}{k B:Nat}{arr:Array Keyed}{base:Nat}(hk:k<n)(hl:∀x∈l,x<n/\x≠k)(hB:B<=l.length)(h:∀(i:Nat) (h:i<l.length),lt l[i] k=decide (i<B))(ha:∀(i:Nat) (h:i<l.length),arr[base+i]? =some (kas_item it l[i])):Cut lt it n arr base l.length k B:=⟨λ i hi=>⟨l[i],ha i hi,(hl _ (List.getElem_mem hi)).1,(hl _ (List.getElem_mem hi)).2,h i hi⟩,hB,hk⟩
abbrev Rl(lt:Nat->Nat->Bool)(a b:Nat):Prop:=lt a b=true
structure vA(lt:Nat->Nat->Bool)(n:Nat)(la lb:List Nat):Prop where
 hn:∀x∈la++lb,x<n
 nd:(la++lb).Nodup
 ua:la.Pairwise (Rl lt)
 ub:lb.Pairwise (Rl lt)
def Good(lt:Nat->Nat->Bool)(it:Array Keyed)(la lb:List Nat)(r:Array Keyed):Prop:=∃l,r=aQ it l/\l.Perm (la++lb)/\l.Pairwise (Rl lt)
def tS{l:List Nat}{i:Nat}:(aQ it l).extract i=aQ it (l.drop i):=by rw[nv,bY];congr 1;exact List.take_of_length_le (by simp)
def Mg.goX{R:Nat->Nat->Prop}{o X Y T:List Nat}(tr:∀a b c,a∈T->b∈T->c∈T->R a b->R b c->R a c)(h:Mg R o X Y T)(hY:0<Y.length)(k:Nat)(hx:∀(i:Nat) (h:i<X.length),i<k->R X[i] Y[0]):Mg R (o++X.take k) (X.drop k) Y T:=by
 match Y,hY with
 |y::Y',_=>rw[<-List.take_append_drop k X] at h;refine h.step tr λ x hxm=>?_;obtain ⟨i,hi,e⟩:=List.mem_iff_getElem.mp hxm;rw[List.getElem_take] at e;rw[<-e];rw[List.length_take] at hi;exact hx i (by omega) (by omega)
def Mg.goY{R:Nat->Nat->Prop}{o X Y T:List Nat}(tr:∀a b c,a∈T->b∈T->c∈T->R a b->R b c->R a c)(h:Mg R o X Y T)(hX:0<X.length)(k:Nat)(hy:∀(i:Nat) (h:i<Y.length),i<k->R Y[i] X[0]):Mg R (o++Y.take k) X (Y.drop k) T:=(h.swap.goX tr hX k hy).swap
def take_one{l:List Nat}(h:0<l.length):l.take 1=[l[0]]:=by
 match l,h with
 |x::t,_=>rfl
section
variable{la lb:List Nat}
def vA.tr(O:Ord lt n)(T:vA lt n la lb):∀a b c,a∈la++lb->b∈la++lb->c∈la++lb->Rl lt a b->Rl lt b c->Rl lt a c:=λ a b c ha hb hc h1 h2=>O.tr a b c (T.hn a ha) (T.hn b hb) (T.hn c hc) h1 h2
def vA.ne(T:vA lt n la lb){i j:Nat}(hi:i<la.length)(hj:j<lb.length):la[i]≠lb[j]:=by have:=(List.nodup_append.mp T.nd).2.2;exact this _ (List.getElem_mem hi) _ (List.getElem_mem hj)
def vA.A0(T:vA lt n la lb){i:Nat}(hi:i<la.length):la[i]<n:=T.hn _ (by simp)
def vA.AZ(T:vA lt n la lb){i:Nat}(hi:i<lb.length):lb[i]<n:=T.hn _ (by simp)
structure LI(lt:Nat->Nat->Bool)(la lb o:List Nat)(ia ib:Nat):Prop where
 m:Mg (Rl lt) o (la.drop ia) (lb.drop ib) (la++lb)
 ha:ia+1<la.length
 hb:ib<lb.length
def xx{o:List Nat}{ia ib:Nat}(m:Mg (Rl lt) o (la.drop ia) (lb.drop ib) (la++lb))(h:ib=lb.length):Good lt it la lb (lP (aQ it la) (aQ it lb) (aQ it o) ia ib):=by subst h;unfold lP;rw[tS,tS,gh,gh];rw[List.drop_length] at m ⊢;rw[List.append_nil];exact ⟨_,rfl,m.fin⟩
def xw{o:List Nat}{ia ib:Nat}(hl:∀y∈lb,∀(h:la≠[]),Rl lt y (la.getLast h))(m:Mg (Rl lt) o (la.drop ia) (lb.drop ib) (la++lb))(h:ia+1=la.length):Good lt it la lb (vd (aQ it la) (aQ it lb) (aQ it o) ia ib):=by
 have e:la.drop ia=[la.getLast (by intro z;rw[z] at h;simp at h)]:=by rw[List.drop_eq_getElem_cons (by omega),List.drop_eq_nil_of_le (by omega:la.length<=ia+1),List.getLast_eq_getElem];simp only[show la.length- 1=ia by omega]
 unfold vd;rw[tS,tS,gh,gh,List.append_assoc];rw[e] at m ⊢;exact ⟨_,rfl,m.aiB λ y hy=>hl y (List.mem_of_mem_drop hy) _⟩
def vO{l:List Nat}{i:Nat}(h:i<l.length):(l.drop i)[0]'(by simp;omega)=l[i]:=by simp
def LI.pb(O:Ord lt n)(T:vA lt n la lb){o:List Nat}{ia ib:Nat}(h:LI lt la lb o ia ib)(c:Rl lt (lb[ib]'h.hb) (la[ia]'(by have:=h.ha;omega))):Mg (Rl lt) (o++[lb[ib]'h.hb]) (la.drop ia) (lb.drop (ib+1)) (la++lb):=by
 have ha:=h.ha;have hb:=h.hb;have:=h.m.goY (T.tr O) (by simp;omega) 1 (λ i hi h1=>by
  have:i=0:=by omega
  subst this;rw[vO hb,vO (by omega)];exact c)
 rw[take_one (by simp;omega),vO hb,List.drop_drop] at this;exact this
def LI.pa(O:Ord lt n)(T:vA lt n la lb){o:List Nat}{ia ib:Nat}(h:LI lt la lb o ia ib)(c:Rl lt (la[ia]'(by have:=h.ha;omega)) (lb[ib]'h.hb)):Mg (Rl lt) (o++[la[ia]'(by have:=h.ha;omega)]) (la.drop (ia+1)) (lb.drop ib) (la++lb):=by
 have ha:=h.ha;have hb:=h.hb;have:=h.m.goX (T.tr O) (by simp;omega) 1 (λ i hi h1=>by
  have:i=0:=by omega
  subst this;rw[vO hb,vO (by omega)];exact c)
 rw[take_one (by simp;omega),vO (by omega),List.drop_drop] at this;exact this
def ajH(lt:Nat->Nat->Bool)(it:Array Keyed)(la lb:List Nat)(c0:Nat)(c:abO):Prop:=(∃r,c.1=some r/\Good lt it la lb r)\/(∃o ia ib ac bc,c=(none,aQ it o,ia,ib,ac,bc)/\LI lt la lb o ia ib/\c0+1<=ia+ib)
def ajx(O:Ord lt n)(hc:CF prog w A s κ it lt n)(T:vA lt n la lb)(hl:∀y∈lb,∀(h:la≠[]),Rl lt y (la.getLast h)){a:Array Keyed}{pe:Array (Nat×Nat×Nat)}{mg g x i c0 ia ib ac bc:Nat}{o:List Nat}(h:LI lt la lb o ia ib)(hi:c0+i<=ia+ib):
  wpS (model prog w) A E s (lo1 (aQ it la) (aQ it lb) g x (none,aQ it o,ia,ib,ac,bc)) (λ r st'=>st'=dS κ a pe mg/\match r with
   | .done c=>ajH lt it la lb c0 c
   | .yield c=>∃o ia ib ac bc,c=(none,aQ it o,ia,ib,ac,bc)/\LI lt la lb o ia ib/\c0+(i+1)<=ia+ib) (dS κ a pe mg):=by
 have ha:=h.ha;have hb:=h.hb;unfold lo1;dsimp only;refine wpS_bind (cF (bP hb) (wpS_bind (cF (bP (by omega:ia<la.length)) (wpS_bind (V_lt hc (T.AZ hb) (T.A0 (by omega)) (Ne.symm (T.ne (by omega) hb)) ?_)))));cases e:lt lb[ib] la[ia] with
 |true=>
  simp only[if_true];refine wpS_bind (cF (bP hb) ?_);have m:=h.pb O T e;rw[jx,bY];by_cases e1:ib+1=lb.length
  ·rw[if_pos (by simpa using e1)];exact wpS_pure ⟨rfl,.inl ⟨_,rfl,xx m e1⟩⟩
  ·rw[if_neg (by simpa using e1)];have li:LI lt la lb (o++[lb[ib]]) ia (ib+1):=⟨m,ha,by omega⟩;by_cases e2:bc+1>=g
   ·rw[if_pos e2];exact wpS_pure ⟨rfl,.inr ⟨_,_,_,_,_,rfl,li,by omega⟩⟩
   ·rw[if_neg e2];exact wpS_pure ⟨rfl,_,_,_,_,_,rfl,li,by omega⟩
 |false=>
  simp only[Bool.false_eq_true,if_false];have e':Rl lt la[ia] lb[ib]:=by show lt la[ia] lb[ib]=true;rw[O.tot _ _ (T.A0 (by omega)) (T.AZ hb) (T.ne (by omega) hb),e];rfl
  refine wpS_bind (cF (bP (by omega:ia<la.length)) ?_);have m:=h.pa O T e';rw[jx,bY];by_cases e1:ia+1+1=la.length
  ·rw[if_pos (by simpa using e1)];exact wpS_pure ⟨rfl,.inl ⟨_,rfl,xw hl m e1⟩⟩
  ·rw[if_neg (by simpa using e1)];have li:LI lt la lb (o++[la[ia]]) (ia+1) ib:=⟨m,by omega,hb⟩;by_cases e2:ac+1>=g
   ·rw[if_pos e2];exact wpS_pure ⟨rfl,.inr ⟨_,_,_,_,_,rfl,li,by omega⟩⟩
   ·rw[if_neg e2];exact wpS_pure ⟨rfl,_,_,_,_,_,rfl,li,by omega⟩
abbrev Any(κ:SortKind)(a:Array Keyed)(pe:Array (Nat×Nat×Nat))(st:SortSt):Prop:=∃mg,st=dS κ a pe mg
def ajG(lt:Nat->Nat->Bool)(it:Array Keyed)(la lb:List Nat)(c0:Nat)(c:EI):Prop:=(∃r,c.1=some r/\Good lt it la lb r)\/(∃o ia ib mg ac bc,c=(none,aQ it o,ia,ib,mg,ac,bc)/\LI lt la lb o ia ib/\c0<=ia+ib)
def ajF(lt:Nat->Nat->Bool)(it:Array Keyed)(la lb:List Nat)(c0:Nat)(c:EI):Prop:=∃o ia ib mg ac bc,c=(none,aQ it o,ia,ib,mg,ac,bc)/\LI lt la lb o ia ib/\c0<=ia+ib
abbrev afT(lt:Nat->Nat->Bool)(it:Array Keyed)(la lb:List Nat)(c0:Nat)(κ:SortKind)(a:Array Keyed)(pe:Array (Nat×Nat×Nat))(r:ForInStep EI)(st':SortSt):Prop:=Any κ a pe st'/\match r with
   | .done c=>ajG lt it la lb c0 c
   | .yield c=>ajF lt it la lb c0 c
def YJ(O:Ord lt n)(T:vA lt n la lb)(hl:∀y∈lb,∀(h:la≠[]),Rl lt y (la.getLast h)){a:Array Keyed}{pe:Array (Nat×Nat×Nat)}{mg g c0 ia ib ac bc:Nat}{o:List Nat}(h:LI lt la lb o ia ib)(c:Rl lt (la[ia]'(by have:=h.ha;omega)) (lb[ib]'h.hb))(hi:c0<=ia+ib):
  wpS (model prog w) A E s (aaE (aQ it la) (aQ it lb) g ac bc (aQ it o) ia ib) (afT lt it la lb c0 κ a pe) (dS κ a pe mg):=by
 have ha:=h.ha;have hb:=h.hb;unfold aaE;refine wpS_bind (cF (bP (by omega:ia<la.length)) ?_);have m:=h.pa O T c;rw[jx,bY];by_cases e1:ia+1+1=la.length
 ·rw[if_pos (by simpa using e1)];exact wpS_pure ⟨⟨_,rfl⟩,.inl ⟨_,rfl,xw hl m e1⟩⟩
 ·rw[if_neg (by simpa using e1)];have li:LI lt la lb (o++[la[ia]]) (ia+1) ib:=⟨m,by omega,hb⟩;split
  ·exact wpS_pure ⟨⟨_,rfl⟩,.inr ⟨_,_,_,_,_,_,rfl,li,by omega⟩⟩
  ·exact wpS_pure ⟨⟨_,rfl⟩,_,_,_,_,_,_,rfl,li,by omega⟩
def YK(O:Ord lt n)(hc:CF prog w A s κ it lt n)(T:vA lt n la lb)(hl:∀y∈lb,∀(h:la≠[]),Rl lt y (la.getLast h)){a:Array Keyed}{pe:Array (Nat×Nat×Nat)}{mg g c0 ia ib ac bc:Nat}{o:List Nat}(h:LI lt la lb o ia ib)(c:Rl lt (lb[ib]'h.hb) (la[ia]'(by have:=h.ha;omega)))(hi:c0<=ia+ib):
  wpS (model prog w) A E s (aaF (aQ it la) (aQ it lb) g ac bc (aQ it o) ia ib) (afT lt it la lb c0 κ a pe) (dS κ a pe mg):=by
 have ha:=h.ha;have hb:=h.hb;unfold aaF;refine wpS_bind (cF (bP hb) ?_);have m:=h.pb O T c;rw[jx,bY];by_cases e1:ib+1=lb.length
 ·rw[if_pos (by simpa using e1)];exact wpS_pure ⟨⟨_,rfl⟩,.inl ⟨_,rfl,xx m e1⟩⟩
 ·rw[if_neg (by simpa using e1)];have li:LI lt la lb (o++[lb[ib]]) ia (ib+1):=⟨m,ha,by omega⟩;refine wpS_bind (cF (bP (by omega:ia<la.length)) ?_);have kn:=T.A0 (i:=ia) (by omega);have hD:∀x∈lb.drop (ib+1),x<n/\x≠la[ia]:=λ x hx=>by have hx':=List.mem_of_mem_drop hx;refine ⟨T.hn x (by simp[hx']),λ z=>?_⟩;obtain ⟨j,hj,e⟩:=List.mem_iff_getElem.mp hx';exact T.ne (by omega:ia<la.length) hj (by rw[e,z])
  obtain ⟨B,hB,mR⟩:=rX O kn (lb.drop (ib+1)) hD (T.ub.sublist (List.drop_sublist _ _));have C:Cut lt it n (aQ it lb) (ib+1) (lb.drop (ib+1)).length la[ia] B:=Cut.tw kn hD hB mR λ i h=>by rw[bP (by simp at h;omega)];simp
  rw[List.length_drop] at C hB;refine wpS_bind (mT O hc C (by omega) ?_);dsimp only;have m2:=li.m.goY (T.tr O) (by simp;omega) B λ i h1 h2=>by rw[vO (by omega:ia<la.length)];show lt _ _=true;rw[mR i h1];simpa using h2
  rw[List.drop_drop] at m2;by_cases e2:B>0
  ·rw[if_pos e2,nv,gh,Nat.add_sub_cancel_left];by_cases e3:ib+1+B=lb.length
   ·rw[if_pos (by simpa using e3)];exact wpS_pure ⟨⟨_,rfl⟩,.inl ⟨_,rfl,xx m2 e3⟩⟩
   ·rw[if_neg (by simpa using e3)];have Rr:LI lt la lb (o++[lb[ib]]++(lb.drop (ib+1)).take B) ia (ib+1+B):=⟨m2,ha,by omega⟩;refine YJ O T hl Rr ?_ (by omega);have:=mR B (by simp;omega);simp only[List.getElem_drop,Nat.lt_irrefl,decide_false] at this;show lt _ _=true;rw[O.tot _ _ kn (T.AZ (by omega)) (T.ne (by omega) (by omega)),this];rfl
  ·rw[if_neg e2];have:B=0:=by omega
   subst this;refine YJ O T hl li ?_ (by omega);have:=mR 0 (by simp;omega);simp only[List.getElem_drop,Nat.lt_irrefl,decide_false,Nat.add_zero] at this;show lt _ _=true;rw[O.tot _ _ kn (T.AZ (by omega)) (T.ne (by omega) (by omega)),this];rfl
def YL(O:Ord lt n)(hc:CF prog w A s κ it lt n)(T:vA lt n la lb)(hl:∀y∈lb,∀(h:la≠[]),Rl lt y (la.getLast h)){a:Array Keyed}{pe:Array (Nat×Nat×Nat)}{mg g c0 ia ib ac bc:Nat}{o:List Nat}(h:LI lt la lb o ia ib)(hi:c0<=ia+ib):
  wpS (model prog w) A E s (aaG (aQ it la) (aQ it lb) ac bc (aQ it o) ia ib g) (afT lt it la lb c0 κ a pe) (dS κ a pe mg):=by
 have ha:=h.ha;have hb:=h.hb;unfold aaG;refine wpS_bind (abM (wpS_bind (cF (bP hb) ?_)));have kn:=T.AZ (i:=ib) hb;have hD:∀x∈la.drop ia,x<n/\x≠lb[ib]:=λ x hx=>by have hx':=List.mem_of_mem_drop hx;refine ⟨T.hn x (by simp[hx']),λ z=>?_⟩;obtain ⟨j,hj,e⟩:=List.mem_iff_getElem.mp hx';exact T.ne hj hb (by rw[e,z])
 obtain ⟨B,hB,mR⟩:=rX O kn (la.drop ia) hD (T.ua.sublist (List.drop_sublist _ _));have C:Cut lt it n (aQ it la) ia (la.drop ia).length lb[ib] B:=Cut.tw kn hD hB mR λ i h=>by rw[bP (by simp at h;omega)];simp
 rw[List.length_drop] at C hB;rw[bY];refine wpS_bind (mT O hc C (by omega) ?_);dsimp only;have WB:=mR (la.length- 1- ia) (by simp;omega);simp only[List.getElem_drop] at WB;have hB2:B<la.length- ia:=by
  have ne:la≠[]:=by intro z;rw[z] at ha;simp at ha
  have h1:=hl lb[ib] (List.getElem_mem hb) ne;rw[List.getLast_eq_getElem] at h1;have h2:lt la[ia+(la.length- 1- ia)] lb[ib]=false:=by
   rw[O.tot _ _ (T.A0 (by omega)) kn (T.ne (by omega) hb)];have:ia+(la.length- 1- ia)=la.length- 1:=by omega
   simp only[this];rw[show lt lb[ib] la[la.length- 1]=true from h1];rfl
  rw[h2] at WB;have:=(decide_eq_false_iff_not.mp WB.symm);omega
 have m2:=h.m.goX (T.tr O) (by simp;omega) B λ i h1 h2=>by rw[vO hb];show lt _ _=true;rw[mR i h1];simpa using h2
 rw[List.drop_drop] at m2;have nx:=mR B (by simp;omega);simp only[List.getElem_drop,Nat.lt_irrefl,decide_false] at nx;have nx':Rl lt lb[ib] (la[ia+B]'(by omega)):=by show lt _ _=true;rw[O.tot _ _ kn (T.A0 (by omega)) (Ne.symm (T.ne (by omega) hb)),nx];rfl
 by_cases e2:B>0
 ·rw[if_pos e2,nv,gh,Nat.add_sub_cancel_left];by_cases e3:ia+B+1=la.length
  ·rw[if_pos (by simpa using e3)];exact wpS_pure ⟨⟨_,rfl⟩,.inl ⟨_,rfl,xw hl m2 e3⟩⟩
  ·rw[if_neg (by simpa using e3),if_neg (by simp;omega)];exact YK O hc T hl (⟨m2,by omega,hb⟩:LI lt la lb (o++(la.drop ia).take B) (ia+B) ib) nx' (by omega)
 ·rw[if_neg e2];have:B=0:=by omega
  subst this;exact YK O hc T hl h nx' (by omega)
def am1(O:Ord lt n)(hc:CF prog w A s κ it lt n)(T:vA lt n la lb)(hl:∀y∈lb,∀(h:la≠[]),Rl lt y (la.getLast h))(h1:0<la.length)(h2:0<lb.length)(hf:Rl lt lb[0] la[0]){a:Array Keyed}{pe:Array (Nat×Nat×Nat)}{mg:Nat}:
  wpS (model prog w) A E s (yR (aQ it la) (aQ it lb)) (λ r st'=>Any κ a pe st'/\Good lt it la lb r) (dS κ a pe mg):=by
 unfold yR;refine wpS_bind (vz (wpS_bind (cF (bP h2) ?_)));have m0:Mg (Rl lt) [] la lb (la++lb):=⟨List.Perm.refl _,List.Pairwise.nil,λ _ h=>(nomatch h),T.ua,T.ub⟩;have m:=m0.goY (T.tr O) h1 1 (λ i hi h=>by
  have:i=0:=by omega
  subst this;exact hf)
 rw[take_one h2,List.nil_append] at m;rw[Px,bY,bY];have md:Mg (Rl lt) [lb[0]] (la.drop 0) (lb.drop 1) (la++lb):=by rw[List.drop_zero];exact m
 by_cases e1:1=lb.length
 ·rw[if_pos (by simpa using e1)];exact wpS_pure ⟨⟨_,rfl⟩,xx md e1⟩
 ·rw[if_neg (by simpa using e1)];by_cases e2:0+1=la.length
  ·rw[if_pos (by simpa using e2)];exact wpS_pure ⟨⟨_,rfl⟩,xw hl md e2⟩
  ·rw[if_neg (by simpa using e2)];refine wpS_bind (wpS_get ?_);refine wpS_bind (wpS_forRange (λ i c st=>Any κ a pe st/\∃o ia ib g,c=(none,aQ it o,ia,ib,g)/\LI lt la lb o ia ib/\1+i<=ia+ib) ?_ ?_ ⟨⟨_,rfl⟩,_,_,_,_,rfl,⟨md,by omega,by omega⟩,by omega⟩)
   ·rintro i c st _ hi ⟨⟨mg,rfl⟩,o,ia,ib,g,rfl,li,hp⟩
    unfold lo0;rw[bY,bY];refine wpS_bind (wpS_mono (wpS_forRange (λ i c st=>st=dS κ a pe mg/\∃o' ia' ib' ac bc,c=(none,aQ it o',ia',ib',ac,bc)/\LI lt la lb o' ia' ib'/\(ia+ib)+i<=ia'+ib') (Q:=λ c st=>st=dS κ a pe mg/\ajH lt it la lb (ia+ib) c) ?_ ?_ ⟨rfl,_,_,_,_,_,rfl,li,by dsimp only;omega⟩) ?_)
    ·rintro j c st _ hj ⟨rfl,o',ia',ib',ac,bc,rfl,VM,Wz⟩
     refine wpS_mono (ajx O hc T hl VM Wz) λ r st' hr=>?_;obtain ⟨hr1,hr2⟩:=hr;cases r with
     |done c=>exact ⟨hr1,hr2⟩
     |yield c=>exact ⟨hr1,hr2⟩
    ·rintro c st ⟨rfl,o',ia',ib',ac,bc,rfl,VM,Wz⟩
     have:=Nat.le_max_right 0 (la.length+lb.length);exact ⟨rfl,.inr ⟨_,_,_,_,_,rfl,VM,by omega⟩⟩
    ·rintro c st ⟨rfl,hd⟩
     rcases hd with ⟨r,hr,gd⟩|⟨o',ia',ib',ac,bc,rfl,VM,Wz⟩
     ·obtain ⟨c1,c2⟩:=c;simp only at hr;subst hr;exact wpS_pure (wpS_pure ⟨⟨_,rfl⟩,gd⟩)
     ·refine wpS_bind (vz ?_);refine wpS_bind (wpS_mono (wpS_forRange (λ i c st=>Any κ a pe st/\ajF lt it la lb (ia+ib+1) c) (Q:=λ c st=>Any κ a pe st/\ajG lt it la lb (ia+ib+1) c) ?_ ?_ ⟨⟨_,rfl⟩,_,_,_,_,_,_,rfl,VM,Wz⟩) ?_)
      ·rintro j c st _ hj ⟨⟨mg,rfl⟩,o2,ia2,ib2,g2,ac2,bc2,rfl,Rr,hp2⟩
       unfold lo2;dsimp only;split
       ·refine wpS_mono (YL O hc T hl Rr hp2) λ r st' hr=>?_;obtain ⟨hr1,hr2⟩:=hr;cases r with
        |done c=>exact ⟨hr1,hr2⟩
        |yield c=>exact ⟨hr1,hr2⟩
       ·refine wpS_mono (YL O hc T hl Rr hp2) λ r st' hr=>?_;obtain ⟨hr1,hr2⟩:=hr;cases r with
        |done c=>exact ⟨hr1,hr2⟩
        |yield c=>exact ⟨hr1,hr2⟩
      ·rintro c st ⟨hs,hy⟩
       exact ⟨hs,.inr hy⟩
      ·rintro c st ⟨⟨mg,rfl⟩,hd⟩
       rcases hd with ⟨r,hr,gd⟩|⟨o2,ia2,ib2,g2,ac2,bc2,rfl,Rr,hp2⟩
       ·obtain ⟨c1,c2⟩:=c;simp only at hr;subst hr;exact wpS_pure (wpS_pure ⟨⟨_,rfl⟩,gd⟩)
       ·refine wpS_bind (abM (wpS_pure ⟨⟨_,rfl⟩,_,_,_,_,rfl,Rr,by dsimp only;omega⟩))
   ·rintro c st ⟨_,o,ia,ib,g,rfl,li,hp⟩
    have:=Nat.le_max_right 0 (la.length+lb.length);have ha:=li.ha;have hb:=li.hb;exfalso;omega
end
end
section
variable{prog:Program}{w:World}{A:Around}{E:Value->Shared->Prop}{s:Shared}{κ:SortKind}{it:Array Keyed}{lt:Nat->Nat->Bool}{n:Nat}
abbrev Rg(lt:Nat->Nat->Bool)(a b:Nat):Prop:=lt b a=true
abbrev tr(l:List Nat)(k:Nat):List Nat:=(l.take k).reverse
def kc{l:List Nat}{k:Nat}(h:k<=l.length):(tr l k).length=k:=by simp;omega
def iH{l:List Nat}{k i:Nat}(h:k<=l.length)(hi:i<k):(tr l k)[i]'(by rw[kc h];exact hi)=l[k- 1- i]'(by omega):=by simp only[tr,List.getElem_reverse,List.length_take,List.getElem_take,Nat.min_eq_left h]
def OW{l:List Nat}{k B:Nat}(h:k<=l.length)(hB:B<=k):(tr l k).take (k- B)=((l.drop B).take (k- B)).reverse:=by rw[tr,List.take_reverse,List.length_take,Nat.min_eq_left h,show k-(k- B)=B by omega,List.drop_take]
def sF{l:List Nat}{k B:Nat}(h:k<=l.length)(hB:B<=k):(tr l k).drop (k- B)=tr l B:=by rw[tr,List.drop_reverse,List.length_take,Nat.min_eq_left h,show k-(k- B)=B by omega,List.take_take,Nat.min_eq_left hB]
section
variable{la lb:List Nat}
def vA.tr'(O:Ord lt n)(T:vA lt n la lb):∀a b c,a∈la++lb->b∈la++lb->c∈la++lb->Rg lt a b->Rg lt b c->Rg lt a c:=λ a b c ha hb hc h1 h2=>O.tr c b a (T.hn c hc) (T.hn b hb) (T.hn a ha) h2 h1
structure HI(lt:Nat->Nat->Bool)(la lb o:List Nat)(na nb:Nat):Prop where
 m:Mg (Rg lt) o (tr la na) (tr lb nb) (la++lb)
 a1:1<=na
 a2:na<=la.length
 b1:2<=nb
 b2:nb<=lb.length
def tT{l:List Nat}{k:Nat}:(aQ it l).extract 0 k=aQ it (l.take k):=by rw[nv];rfl
def Fo{l:List Nat}(h:l.Perm (la++lb)/\l.Pairwise (Rg lt)):l.reverse.Perm (la++lb)/\l.reverse.Pairwise (Rl lt):=⟨(List.reverse_perm l).trans h.1,List.pairwise_reverse.mpr h.2⟩
def xF{o:List Nat}{na nb:Nat}(h0:na=0)(m:Mg (Rg lt) o (tr la na) (tr lb nb) (la++lb)):Good lt it la lb (lQ (aQ it la) (aQ it lb) (aQ it o) na nb):=by subst h0;unfold lQ;rw[tT,tT,xy,gh,gh];have h:=Fo (m.swap.fin);simp only[tr,List.reverse_append,List.reverse_reverse] at h;exact ⟨_,rfl,by simpa using h⟩
def tY{o:List Nat}{na nb:Nat}(hf:∀(h:0<lb.length),∀x∈la,Rl lt lb[0] x)(hb:0<lb.length)(h0:nb=1)(m:Mg (Rg lt) o (tr la na) (tr lb nb) (la++lb)):Good lt it la lb (qh (aQ it la) (aQ it lb) (aQ it o) na nb):=by subst h0;unfold qh;rw[tT,tT,xy,gh,gh];have e:lb.take 1=[lb[0]]:=take_one hb;have m':=m.swap;simp only[tr,e,List.reverse_singleton] at m';have h:=Fo (m'.aiB λ y hy=>hf hb y (List.mem_of_mem_take (List.mem_reverse.mp hy)));simp only[List.reverse_append,List.reverse_reverse,List.reverse_singleton] at h;rw[e];exact ⟨_,rfl,h⟩
def HI.pa(O:Ord lt n)(T:vA lt n la lb){o:List Nat}{na nb:Nat}(h:HI lt la lb o na nb)(c:Rl lt (lb[nb- 1]'(by have:=h.b1;have:=h.b2;omega)) (la[na- 1]'(by have:=h.a1;have:=h.a2;omega))):Mg (Rg lt) (o++[la[na- 1]'(by have:=h.a1;have:=h.a2;omega)]) (tr la (na- 1)) (tr lb nb) (la++lb):=by
 have a1:=h.a1;have a2:=h.a2;have b1:=h.b1;have b2:=h.b2;have hb:0<(tr lb nb).length:=by rw[kc b2];omega
 have hx:0<(tr la na).length:=by rw[kc a2];omega
 have:=h.m.goX (T.tr' O) hb 1 (λ i hi h1=>by
  have:i=0:=by omega
  subst this;rw[iH b2 (by omega),iH a2 (by omega)];exact c)
 rw[take_one hx,iH a2 (by omega)] at this;have e:=sF (l:=la) (k:=na) (B:=na- 1) a2 (by omega);rw[show na-(na- 1)=1 by omega] at e;rw[e] at this;exact this
def HI.pb(O:Ord lt n)(T:vA lt n la lb){o:List Nat}{na nb:Nat}(h:HI lt la lb o na nb)(c:Rl lt (la[na- 1]'(by have:=h.a1;have:=h.a2;omega)) (lb[nb- 1]'(by have:=h.b1;have:=h.b2;omega))):Mg (Rg lt) (o++[lb[nb- 1]'(by have:=h.b1;have:=h.b2;omega)]) (tr la na) (tr lb (nb- 1)) (la++lb):=by
 have a1:=h.a1;have a2:=h.a2;have b1:=h.b1;have b2:=h.b2;have hb:0<(tr lb nb).length:=by rw[kc b2];omega
 have hx:0<(tr la na).length:=by rw[kc a2];omega
 have:=h.m.goY (T.tr' O) hx 1 (λ i hi h1=>by
  have:i=0:=by omega
  subst this;rw[iH b2 (by omega),iH a2 (by omega)];exact c)
 rw[take_one hb,iH b2 (by omega)] at this;have e:=sF (l:=lb) (k:=nb) (B:=nb- 1) b2 (by omega);rw[show nb-(nb- 1)=1 by omega] at e;rw[e] at this;exact this
def ajM(lt:Nat->Nat->Bool)(it:Array Keyed)(la lb:List Nat)(c0:Nat)(c:abR):Prop:=(∃r,c.1=some r/\Good lt it la lb r)\/(∃o na nb ac bc,c=(none,na,nb,aQ it o,ac,bc)/\HI lt la lb o na nb/\na+nb+1<=c0)
def ajA(O:Ord lt n)(hc:CF prog w A s κ it lt n)(T:vA lt n la lb)(hf:∀(h:0<lb.length),∀x∈la,Rl lt lb[0] x){a:Array Keyed}{pe:Array (Nat×Nat×Nat)}{mg g x i c0 na nb ac bc:Nat}{o:List Nat}(h:HI lt la lb o na nb)(hi:na+nb+i<=c0):
  wpS (model prog w) A E s (hi1 (aQ it la) (aQ it lb) g x (none,na,nb,aQ it o,ac,bc)) (λ r st'=>st'=dS κ a pe mg/\match r with
   | .done c=>ajM lt it la lb c0 c
   | .yield c=>∃o na nb ac bc,c=(none,na,nb,aQ it o,ac,bc)/\HI lt la lb o na nb/\na+nb+(i+1)<=c0) (dS κ a pe mg):=by
 have a1:=h.a1;have a2:=h.a2;have b1:=h.b1;have b2:=h.b2;have ha:na- 1<la.length:=by omega
 have hb:nb- 1<lb.length:=by omega
 unfold hi1;dsimp only;refine wpS_bind (cF (bP hb) (wpS_bind (cF (bP ha) (wpS_bind (V_lt hc (T.AZ hb) (T.A0 ha) (Ne.symm (T.ne ha hb)) ?_)))));cases e:lt lb[nb- 1] la[na- 1] with
 |true=>
  simp only[if_true];refine wpS_bind (cF (bP ha) ?_);have m:=h.pa O T e;rw[jx];by_cases e1:na- 1=0
  ·rw[if_pos (by simpa using e1)];exact wpS_pure ⟨rfl,.inl ⟨_,rfl,xF e1 m⟩⟩
  ·rw[if_neg (by simpa using e1)];have li:HI lt la lb (o++[la[na- 1]]) (na- 1) nb:=⟨m,by omega,by omega,b1,b2⟩;by_cases e2:ac+1>=g
   ·rw[if_pos e2];exact wpS_pure ⟨rfl,.inr ⟨_,_,_,_,_,rfl,li,by omega⟩⟩
   ·rw[if_neg e2];exact wpS_pure ⟨rfl,_,_,_,_,_,rfl,li,by omega⟩
 |false=>
  simp only[Bool.false_eq_true,if_false];have e':Rl lt la[na- 1] lb[nb- 1]:=by show lt la[na- 1] lb[nb- 1]=true;rw[O.tot _ _ (T.A0 ha) (T.AZ hb) (T.ne ha hb),e];rfl
  refine wpS_bind (cF (bP hb) ?_);have m:=h.pb O T e';rw[jx];by_cases e1:nb- 1=1
  ·rw[if_pos (by simpa using e1)];exact wpS_pure ⟨rfl,.inl ⟨_,rfl,tY hf (by omega) e1 m⟩⟩
  ·rw[if_neg (by simpa using e1)];have li:HI lt la lb (o++[lb[nb- 1]]) na (nb- 1):=⟨m,a1,a2,by omega,by omega⟩;by_cases e2:bc+1>=g
   ·rw[if_pos e2];exact wpS_pure ⟨rfl,.inr ⟨_,_,_,_,_,rfl,li,by omega⟩⟩
   ·rw[if_neg e2];exact wpS_pure ⟨rfl,_,_,_,_,_,rfl,li,by omega⟩
def ajL(lt:Nat->Nat->Bool)(it:Array Keyed)(la lb:List Nat)(c0:Nat)(c:EJ):Prop:=(∃r,c.1=some r/\Good lt it la lb r)\/(∃o na nb mg ac bc,c=(none,na,nb,aQ it o,mg,ac,bc)/\HI lt la lb o na nb/\na+nb<=c0)
def ajK(lt:Nat->Nat->Bool)(it:Array Keyed)(la lb:List Nat)(c0:Nat)(c:EJ):Prop:=∃o na nb mg ac bc,c=(none,na,nb,aQ it o,mg,ac,bc)/\HI lt la lb o na nb/\na+nb<=c0
abbrev afW(lt:Nat->Nat->Bool)(it:Array Keyed)(la lb:List Nat)(c0:Nat)(κ:SortKind)(a:Array Keyed)(pe:Array (Nat×Nat×Nat))(r:ForInStep EJ)(st':SortSt):Prop:=Any κ a pe st'/\match r with
   | .done c=>ajL lt it la lb c0 c
   | .yield c=>ajK lt it la lb c0 c
def YM(O:Ord lt n)(T:vA lt n la lb){a:Array Keyed}{pe:Array (Nat×Nat×Nat)}{mg g c0 na nb ac bc:Nat}{o:List Nat}(h:HI lt la lb o na nb)(c:Rl lt (lb[nb- 1]'(by have:=h.b1;have:=h.b2;omega)) (la[na- 1]'(by have:=h.a1;have:=h.a2;omega)))(hi:na+nb<=c0):
  wpS (model prog w) A E s (aa2 (aQ it la) (aQ it lb) g ac bc na nb (aQ it o)) (afW lt it la lb c0 κ a pe) (dS κ a pe mg):=by
 have a1:=h.a1;have a2:=h.a2;have b1:=h.b1;have b2:=h.b2;have ha:na- 1<la.length:=by omega
 unfold aa2;refine wpS_bind (cF (bP ha) ?_);have m:=h.pa O T c;rw[jx];by_cases e1:na- 1=0
 ·rw[if_pos (by simpa using e1)];exact wpS_pure ⟨⟨_,rfl⟩,.inl ⟨_,rfl,xF e1 m⟩⟩
 ·rw[if_neg (by simpa using e1)];have li:HI lt la lb (o++[la[na- 1]]) (na- 1) nb:=⟨m,by omega,by omega,b1,b2⟩;split
  ·exact wpS_pure ⟨⟨_,rfl⟩,.inr ⟨_,_,_,_,_,_,rfl,li,by omega⟩⟩
  ·exact wpS_pure ⟨⟨_,rfl⟩,_,_,_,_,_,_,rfl,li,by omega⟩
def Hj(O:Ord lt n){l:List Nat}{k N:Nat}(hk:k<n)(hN:N<=l.length)(hl:∀x∈l,x<n/\x≠k)(hp:l.Pairwise (Rl lt)):∃B,Cut lt it n (aQ it l) 0 N k B/\B<=N/\∀(i:Nat) (h:i<N),lt (l[i]'(by omega)) k=decide (i<B):=by
 have hl':∀x∈l.take N,x<n/\x≠k:=λ x hx=>hl x (List.mem_of_mem_take hx);obtain ⟨B,hB,mR⟩:=rX O hk (l.take N) hl' (hp.sublist (List.take_sublist _ _));have C:Cut lt it n (aQ it l) 0 (l.take N).length k B:=Cut.tw hk hl' hB mR λ i h=>by rw[Nat.zero_add,bP (by simp at h;omega),List.getElem_take]
 rw[List.length_take,Nat.min_eq_left hN] at C hB;refine ⟨B,C,hB,λ i h=>?_⟩;have:=mR i (by simp;omega);rwa [List.getElem_take] at this
def YN(O:Ord lt n)(hc:CF prog w A s κ it lt n)(T:vA lt n la lb)(hf:∀(h:0<lb.length),∀x∈la,Rl lt lb[0] x){a:Array Keyed}{pe:Array (Nat×Nat×Nat)}{mg g c0 na nb ac bc:Nat}{o:List Nat}(h:HI lt la lb o na nb)(c:Rl lt (la[na- 1]'(by have:=h.a1;have:=h.a2;omega)) (lb[nb- 1]'(by have:=h.b1;have:=h.b2;omega)))(hi:na+nb<=c0):
  wpS (model prog w) A E s (aa3 (aQ it la) (aQ it lb) g ac bc na nb (aQ it o)) (afW lt it la lb c0 κ a pe) (dS κ a pe mg):=by
 have a1:=h.a1;have a2:=h.a2;have b1:=h.b1;have b2:=h.b2;have ha:na- 1<la.length:=by omega
 have hb:nb- 1<lb.length:=by omega
 unfold aa3;refine wpS_bind (cF (bP hb) ?_);have m:=h.pb O T c;rw[jx];by_cases e1:nb- 1=1
 ·rw[if_pos (by simpa using e1)];exact wpS_pure ⟨⟨_,rfl⟩,.inl ⟨_,rfl,tY hf (by omega) e1 m⟩⟩
 ·rw[if_neg (by simpa using e1)];have li:HI lt la lb (o++[lb[nb- 1]]) na (nb- 1):=⟨m,a1,a2,by omega,by omega⟩;refine wpS_bind (cF (bP ha) ?_);have kn:=T.A0 ha;have hD:∀x∈lb,x<n/\x≠la[na- 1]:=λ x hx=>by refine ⟨T.hn x (by simp[hx]),λ z=>?_⟩;obtain ⟨j,hj,e⟩:=List.mem_iff_getElem.mp hx;exact T.ne ha hj (by rw[e,z])
  obtain ⟨B,C,hB,mR⟩:=Hj (it:=it) O kn (by omega:nb- 1<=lb.length) hD T.ub;refine wpS_bind (mT O hc C (by omega) ?_);dsimp only;have B1:1<=B:=by have h0:=mR 0 (by omega);rw[show lt lb[0] la[na- 1]=true from hf (by omega) _ (List.getElem_mem ha)] at h0;have:=of_decide_eq_true h0.symm;omega
  have hx:0<(tr la na).length:=by rw[kc a2];omega
  have m2:=li.m.goY (T.tr' O) hx (nb- 1- B) λ i h1 h2=>by rw[kc (by omega)] at h1;rw[iH (by omega) h1,iH a2 (by omega)];show lt la[na- 1- 0] _=true;have:=mR (nb- 1- 1- i) (by omega);simp only[Nat.sub_zero];rw[O.tot _ _ kn (T.AZ (by omega)) (T.ne ha (by omega)),this];simp;omega
  rw[OW (by omega) hB,sF (by omega) hB] at m2;have nx:Rl lt (lb[B- 1]'(by omega)) la[na- 1]:=by show lt _ _=true;rw[mR (B- 1) (by omega)];simp;omega
  by_cases e2:nb- 1- B>0
  ·rw[if_pos e2,nv,xy,gh];by_cases e3:B=1
   ·rw[if_pos (by simpa using e3)];exact wpS_pure ⟨⟨_,rfl⟩,.inl ⟨_,rfl,tY hf (by omega) e3 m2⟩⟩
   ·rw[if_neg (by simpa using e3),if_neg (by simp;omega)];have Rr:HI lt la lb (o++[lb[nb- 1]]++((lb.drop B).take (nb- 1- B)).reverse) na B:=⟨m2,a1,a2,by omega,by omega⟩;exact YM O T Rr nx (by omega)
  ·rw[if_neg e2];have eB:B=nb- 1:=by omega
   subst eB;exact YM O T li nx (by omega)
def YO(O:Ord lt n)(hc:CF prog w A s κ it lt n)(T:vA lt n la lb)(hf:∀(h:0<lb.length),∀x∈la,Rl lt lb[0] x){a:Array Keyed}{pe:Array (Nat×Nat×Nat)}{mg g c0 na nb ac bc:Nat}{o:List Nat}(h:HI lt la lb o na nb)(hi:na+nb<=c0):
  wpS (model prog w) A E s (aa4 (aQ it la) (aQ it lb) ac bc na nb (aQ it o) g) (afW lt it la lb c0 κ a pe) (dS κ a pe mg):=by
 have a1:=h.a1;have a2:=h.a2;have b1:=h.b1;have b2:=h.b2;have ha:na- 1<la.length:=by omega
 have hb:nb- 1<lb.length:=by omega
 unfold aa4;refine wpS_bind (abM (wpS_bind (cF (bP hb) ?_)));have kn:=T.AZ hb;have hD:∀x∈la,x<n/\x≠lb[nb- 1]:=λ x hx=>by refine ⟨T.hn x (by simp[hx]),λ z=>?_⟩;obtain ⟨j,hj,e⟩:=List.mem_iff_getElem.mp hx;exact T.ne hj hb (by rw[e,z])
 obtain ⟨B,C,hB,mR⟩:=Hj (it:=it) O kn a2 hD T.ua;refine wpS_bind (mT O hc C (by omega) ?_);dsimp only;have hy:0<(tr lb nb).length:=by rw[kc b2];omega
 have m2:=h.m.goX (T.tr' O) hy (na- B) λ i h1 h2=>by rw[kc a2] at h1;rw[iH a2 h1,iH b2 (by omega)];show lt lb[nb- 1- 0] _=true;have:=mR (na- 1- i) (by omega);simp only[Nat.sub_zero];rw[O.tot _ _ kn (T.A0 (by omega)) (Ne.symm (T.ne (by omega) hb)),this];simp;omega
 rw[OW a2 hB,sF a2 hB] at m2;by_cases e2:na- B>0
 ·rw[if_pos e2,nv,xy,gh];by_cases e3:B=0
  ·rw[if_pos (by simpa using e3)];exact wpS_pure ⟨⟨_,rfl⟩,.inl ⟨_,rfl,xF e3 m2⟩⟩
  ·rw[if_neg (by simpa using e3)];refine YN O hc T hf (⟨m2,by omega,by omega,b1,b2⟩:HI lt la lb (o++((la.drop B).take (na- B)).reverse) B nb) ?_ (by omega);show lt _ _=true;rw[mR (B- 1) (by omega)];simp;omega
 ·rw[if_neg e2];have eB:B=na:=by omega
  subst eB;refine YN O hc T hf h ?_ (by omega);show lt _ _=true;rw[mR (B- 1) (by omega)];simp;omega
def am3(O:Ord lt n)(hc:CF prog w A s κ it lt n)(T:vA lt n la lb)(hl:∀y∈lb,∀(h:la≠[]),Rl lt y (la.getLast h))(h1:0<la.length)(h2:0<lb.length)(hf:∀(h:0<lb.length),∀x∈la,Rl lt lb[0] x){a:Array Keyed}{pe:Array (Nat×Nat×Nat)}{mg:Nat}:
  wpS (model prog w) A E s (yS (aQ it la) (aQ it lb)) (λ r st'=>Any κ a pe st'/\Good lt it la lb r) (dS κ a pe mg):=by
 unfold yS;rw[bY,bY];have ha:la.length- 1<la.length:=by omega
 refine wpS_bind (vz (wpS_bind (cF (bP ha) ?_)));have m0:Mg (Rg lt) [] (tr la la.length) (tr lb lb.length) (la++lb):=by
  refine ⟨?_,List.Pairwise.nil,λ _ h=>(nomatch h),?_,?_⟩
  ·simp only[tr,List.take_length,List.nil_append];exact List.Perm.append (List.reverse_perm _) (List.reverse_perm _)
  ·simp only[tr,List.take_length];exact List.pairwise_reverse.mpr T.ua
  ·simp only[tr,List.take_length];exact List.pairwise_reverse.mpr T.ub
 have hy:0<(tr lb lb.length).length:=by rw[kc (Nat.le_refl _)];omega
 have hx:0<(tr la la.length).length:=by rw[kc (Nat.le_refl _)];omega
 have m:=m0.goX (T.tr' O) hy 1 (λ i hi h=>by
  have:i=0:=by omega
  subst this;rw[iH (Nat.le_refl _) (by omega),iH (Nat.le_refl _) (by omega)];have:=hl (lb[lb.length- 1]'(by omega)) (List.getElem_mem _) (by intro z;rw[z] at h1;simp at h1);rw[List.getLast_eq_getElem] at this;exact this)
 rw[take_one hx,iH (Nat.le_refl _) (by omega),List.nil_append] at m;have e:=sF (l:=la) (k:=la.length) (B:=la.length- 1) (Nat.le_refl _) (by omega);rw[show la.length-(la.length- 1)=1 by omega] at e;rw[e] at m;simp only[Nat.sub_zero] at m;rw[Px];by_cases e1:la.length- 1=0
 ·rw[if_pos (by simpa using e1)];exact wpS_pure ⟨⟨_,rfl⟩,xF e1 m⟩
 ·rw[if_neg (by simpa using e1)];by_cases e2:lb.length=1
  ·rw[if_pos (by simpa using e2)];exact wpS_pure ⟨⟨_,rfl⟩,tY hf (by omega) e2 m⟩
  ·rw[if_neg (by simpa using e2)];refine wpS_bind (wpS_get ?_);refine wpS_bind (wpS_forRange (λ i c st=>Any κ a pe st/\∃o na nb g,c=(none,na,nb,aQ it o,g)/\HI lt la lb o na nb/\na+nb+1+i<=la.length+lb.length) ?_ ?_ ⟨⟨_,rfl⟩,_,_,_,_,rfl,⟨m,by omega,by omega,by omega,by omega⟩,by omega⟩)
   ·rintro i c st _ hi ⟨⟨mg,rfl⟩,o,na,nb,g,rfl,li,hp⟩
    unfold hi0;rw[bY,bY];refine wpS_bind (wpS_mono (wpS_forRange (λ i c st=>st=dS κ a pe mg/\∃o' na' nb' ac bc,c=(none,na',nb',aQ it o',ac,bc)/\HI lt la lb o' na' nb'/\na'+nb'+i<=na+nb) (Q:=λ c st=>st=dS κ a pe mg/\ajM lt it la lb (na+nb) c) ?_ ?_ ⟨rfl,_,_,_,_,_,rfl,li,by dsimp only;omega⟩) ?_)
    ·rintro j c st _ hj ⟨rfl,o',na',nb',ac,bc,rfl,VM,Wz⟩
     refine wpS_mono (ajA O hc T hf VM Wz) λ r st' hr=>?_;obtain ⟨hr1,hr2⟩:=hr;cases r with
     |done c=>exact ⟨hr1,hr2⟩
     |yield c=>exact ⟨hr1,hr2⟩
    ·rintro c st ⟨rfl,o',na',nb',ac,bc,rfl,VM,Wz⟩
     have:=Nat.le_max_right 0 (la.length+lb.length);exact ⟨rfl,.inr ⟨_,_,_,_,_,rfl,VM,by omega⟩⟩
    ·rintro c st ⟨rfl,hd⟩
     rcases hd with ⟨r,hr,gd⟩|⟨o',na',nb',ac,bc,rfl,VM,Wz⟩
     ·obtain ⟨c1,c2⟩:=c;simp only at hr;subst hr;exact wpS_pure (wpS_pure ⟨⟨_,rfl⟩,gd⟩)
     ·refine wpS_bind (vz ?_);refine wpS_bind (wpS_mono (wpS_forRange (λ i c st=>Any κ a pe st/\ajK lt it la lb (na+nb- 1) c) (Q:=λ c st=>Any κ a pe st/\ajL lt it la lb (na+nb- 1) c) ?_ ?_ ⟨⟨_,rfl⟩,_,_,_,_,_,_,rfl,VM,by dsimp only;omega⟩) ?_)
      ·rintro j c st _ hj ⟨⟨mg,rfl⟩,o2,na2,nb2,g2,ac2,bc2,rfl,Rr,hp2⟩
       unfold hi2;dsimp only;split
       ·refine wpS_mono (YO O hc T hf Rr hp2) λ r st' hr=>?_;obtain ⟨hr1,hr2⟩:=hr;cases r with
        |done c=>exact ⟨hr1,hr2⟩
        |yield c=>exact ⟨hr1,hr2⟩
       ·refine wpS_mono (YO O hc T hf Rr hp2) λ r st' hr=>?_;obtain ⟨hr1,hr2⟩:=hr;cases r with
        |done c=>exact ⟨hr1,hr2⟩
        |yield c=>exact ⟨hr1,hr2⟩
      ·rintro c st ⟨hs,hy⟩
       exact ⟨hs,.inr hy⟩
      ·rintro c st ⟨⟨mg,rfl⟩,hd⟩
       rcases hd with ⟨r,hr,gd⟩|⟨o2,na2,nb2,g2,ac2,bc2,rfl,Rr,hp2⟩
       ·obtain ⟨c1,c2⟩:=c;simp only at hr;subst hr;exact wpS_pure (wpS_pure ⟨⟨_,rfl⟩,gd⟩)
       ·have:=li.a1;refine wpS_bind (abM (wpS_pure ⟨⟨_,rfl⟩,_,_,_,_,rfl,Rr,by dsimp only;omega⟩))
   ·rintro c st ⟨_,o,na,nb,g,rfl,li,hp⟩
    have:=Nat.le_max_right 0 (la.length+lb.length);exfalso;omega
end
end
section
variable{prog:Program}{w:World}{A:Around}{E:Value->Shared->Prop}{s:Shared}{κ:SortKind}{it:Array Keyed}{lt:Nat->Nat->Bool}{n:Nat}
def Zm{M:Model}{σ:Type}{x:σ}{Q:PUnit->σ->Prop}{st:σ}(q:Q ⟨⟩ x):wpS M A E s (set x) Q st:=wpS_modify (f:=λ _=>x) q
def VP:∀(l:List Keyed) (k sa:Nat) (X Y Z:List Keyed) (arr:Array Keyed),arr.toList=X++Y++Z->X.length=sa+k->Y.length=l.length->(List.foldl (λ(a:Array Keyed) (x:Keyed×Nat)=>match x with|(p,j)=>a.setIfInBounds (sa+j) p) arr (l.zipIdx k)).toList=X++l++Z
 |[],k,sa,X,Y,Z,arr,h,hX,hY=>by have:Y=[]:=List.eq_nil_of_length_eq_zero hY;subst this;simpa using h
 |p::l,k,sa,X,Y,Z,arr,h,hX,hY=>by
  match Y,hY with
  |y::Y',hY=>rw[List.zipIdx_cons,List.foldl_cons];have:=VP l (k+1) sa (X++[p]) Y' Z (arr.setIfInBounds (sa+k) p) (by rw[Array.toList_setIfInBounds,h, <-hX];simp[List.set_append]) (by simp;omega) (by simpa using hY);dsimp only;rw[this];simp
def ajy{lp ls lm lq:List Nat}{pe:Array (Nat×Nat×Nat)}{mg sa:Nat}{Q:Bool->SortSt->Prop}(hp:lp.length=sa)(hl:ls.length=lm.length)(q:Q true (dS κ (aQ it (lp++lm++lq)) pe mg)):
  wpS (model prog w) A E s (VQ sa (aQ it lm)) Q (dS κ (aQ it (lp++ls++lq)) pe mg):=by
 unfold VQ;refine wpS_bind (wpS_modify (wpS_bind (wpS_get (wpS_pure ?_))));have e:List.foldl (λ(a:Array Keyed) (x:Keyed×Nat)=>match x with|(p,j)=>a.setIfInBounds (sa+j) p) (aQ it (lp++ls++lq)) (aQ it lm).toList.zipIdx=aQ it (lp++lm++lq):=by apply Array.toList_inj.mp;rw[VP (aQ it lm).toList 0 sa (lp.map (kas_item it)) (ls.map (kas_item it)) (lq.map (kas_item it)) _ (by simp[aQ]) (by simpa using hp) (by simpa[aQ] using hl)];simp[aQ]
 show Q true (dS κ (List.foldl (λ(a:Array Keyed) (x:Keyed×Nat)=>match x with|(p,j)=>a.setIfInBounds (sa+j) p) (aQ it (lp++ls++lq)) (aQ it lm).toList.zipIdx) pe mg);rw[e];exact q
def at3{X Y Z:List Nat}{i:Nat}(h:i<Y.length):(aQ it (X++Y++Z))[X.length+i]? =some (kas_item it Y[i]):=by rw[bP (by simp;omega)];congr 2;rw[List.getElem_append_left (by simp;omega),List.getElem_append_right (by omega)];simp
def ext3{X Y Z:List Nat}:(aQ it (X++Y++Z)).extract X.length (X.length+Y.length)=aQ it Y:=by rw[nv];congr 1;rw[List.append_assoc,List.drop_left,Nat.add_sub_cancel_left,List.take_left]
def V_at(O:Ord lt n)(hc:CF prog w A s κ it lt n){pre la lb post:List Nat}{l1 l2:List (Nat×Nat×Nat)}{pw pw2 mg:Nat}(T:vA lt n la lb)(h1:0<la.length)(h2:0<lb.length){Q:Bool->SortSt->Prop} (q:∀lm g,lm.Perm (la++lb)->lm.Pairwise (Rl lt)->Q true (dS κ (aQ it (pre++lm++post)) (l1++(pre.length,la.length+lb.length,pw)::l2).toArray g)):
  wpS (model prog w) A E s (mergeAt' l1.length) Q (dS κ (aQ it (pre++(la++lb)++post)) (l1++(pre.length,la.length,pw)::(pre.length+la.length,lb.length,pw2)::l2).toArray mg):=by
 rw[JN];unfold Gr;refine wpS_bind (wpS_get ?_);have e1:(l1++(pre.length,la.length,pw)::(pre.length+la.length,lb.length,pw2)::l2).toArray[l1.length]? =some (pre.length,la.length,pw):=by simp
 have e2:(l1++(pre.length,la.length,pw)::(pre.length+la.length,lb.length,pw2)::l2).toArray[l1.length+1]? =some (pre.length+la.length,lb.length,pw2):=by simp only[List.getElem?_toArray];rw[List.getElem?_append_right (by omega)];simp
 have e3:((l1++(pre.length,la.length,pw)::(pre.length+la.length,lb.length,pw2)::l2).toArray.setIfInBounds l1.length (pre.length,la.length+lb.length,pw)).eraseIdxIfInBounds (l1.length+1)=(l1++(pre.length,la.length+lb.length,pw)::l2).toArray:=by apply Array.toList_inj.mp;rw[Array.toList_eraseIdxIfInBounds,Array.toList_setIfInBounds];simp[List.set_append,List.eraseIdx_append];intro h;omega
 rw[e1,e2];dsimp only;refine wpS_bind (Zm ?_);rw[e3];have gb:∀i (h:i<lb.length),(aQ it (pre++(la++lb)++post))[pre.length+la.length+i]? =some (kas_item it lb[i]):=λ i h=>by have:=at3 (it:=it) (X:=pre++la) (Y:=lb) (Z:=post) h;rw[List.length_append] at this;rw[<-this];simp[List.append_assoc]
 have ga:∀i (h:i<la.length),(aQ it (pre++(la++lb)++post))[pre.length+i]? =some (kas_item it la[i]):=λ i h=>by have:=at3 (it:=it) (X:=pre) (Y:=la) (Z:=lb++post) h;rw[<-this];simp[List.append_assoc]
 refine wpS_bind (cF (gb 0 h2) ?_);have kn:=T.AZ h2;have hD:∀x∈la,x<n/\x≠lb[0]:=λ x hx=>by refine ⟨T.hn x (by simp[hx]),λ z=>?_⟩;obtain ⟨j,hj,e⟩:=List.mem_iff_getElem.mp hx;exact T.ne hj h2 (by rw[e,z])
 obtain ⟨B1,hB1,afu⟩:=rX O kn la hD T.ua;have C1:Cut lt it n (aQ it (pre++(la++lb)++post)) pre.length la.length lb[0] B1:=Cut.tw kn hD hB1 afu ga;refine wpS_bind (mT O hc C1 h1 ?_);dsimp only;have ub0:∀y∈lb,y=lb[0]\/Rl lt lb[0] y:=λ y hy=>by
  obtain ⟨j,hj,e⟩:=List.mem_iff_getElem.mp hy;cases j with
  |zero=>exact .inl e.symm
  |succ j=>exact .inr (e▸(List.pairwise_iff_getElem.mp T.ub) 0 (j+1) h2 hj (by omega))
 have H1:∀x∈la.take B1,∀y∈lb,Rl lt x y:=λ x hx y hy=>by
  obtain ⟨i,hi,e⟩:=List.mem_iff_getElem.mp hx;rw[List.getElem_take] at e;rw[List.length_take] at hi;have c:Rl lt x lb[0]:=by show lt _ _=true;rw[<-e,afu i (by omega)];simp;omega
  rcases ub0 y hy with rfl|h
  ·exact c
  ·exact T.tr O x lb[0] y (by simp[List.mem_of_mem_take hx]) (by simp) (by simp[hy]) c h
 by_cases z1:la.length- B1=0
 ·rw[if_pos (by simpa using z1)];refine wpS_pure (q (la++lb) _ (List.Perm.refl _) (List.pairwise_append.mpr ⟨T.ua,T.ub,λ x hx y hy=>H1 x ?_ y hy⟩));rw[List.take_of_length_le (by omega)];exact hx
 ·rw[if_neg (by simpa using z1)];have hl1:la.length- 1<la.length:=by omega
  refine wpS_bind (cF (x:=kas_item it la[la.length- 1]) (by rw[show pre.length+B1+(la.length- B1) - 1=pre.length+(la.length- 1) by omega];exact ga _ hl1) ?_);have kn2:=T.A0 hl1;have hD2:∀x∈lb,x<n/\x≠la[la.length- 1]:=λ x hx=>by refine ⟨T.hn x (by simp[hx]),λ z=>?_⟩;obtain ⟨j,hj,e⟩:=List.mem_iff_getElem.mp hx;exact T.ne hl1 hj (by rw[e,z])
  obtain ⟨B2,hB2,abu⟩:=rX O kn2 lb hD2 T.ub;have C2:Cut lt it n (aQ it (pre++(la++lb)++post)) (pre.length+la.length) lb.length la[la.length- 1] B2:=Cut.tw kn2 hD2 hB2 abu gb;refine wpS_bind (mT O hc C2 (by omega) ?_);dsimp only;have ula:∀x∈la,x=la[la.length- 1]\/Rl lt x la[la.length- 1]:=λ x hx=>by
   obtain ⟨j,hj,e⟩:=List.mem_iff_getElem.mp hx;by_cases c:j=la.length- 1
   ·subst c;exact .inl e.symm
   ·exact .inr (e▸(List.pairwise_iff_getElem.mp T.ua) j (la.length- 1) hj hl1 (by omega))
  -- Ao last of Ao first list is above Ao first of Ao second
  have lf:∀x∈la.drop B1,Rl lt lb[0] x:=λ x hx=>by obtain ⟨i,hi,e⟩:=List.mem_iff_getElem.mp hx;rw[List.getElem_drop] at e;rw[List.length_drop] at hi;have:=afu (B1+i) (by omega);have nx:=hD x (List.mem_of_mem_drop hx);show lt _ _=true;rw[O.tot _ _ kn nx.1 (Ne.symm nx.2), <-e,this];simp
  have B2p:1<=B2:=by
   have h0:=abu 0 h2;have:la[la.length- 1]∈la.drop B1:=by refine List.mem_iff_getElem.mpr ⟨la.length- 1- B1,by simp;omega,?_⟩;rw[List.getElem_drop];congr 1;omega
   rw[show lt lb[0] la[la.length- 1]=true from lf _ this] at h0;have:=of_decide_eq_true h0.symm;omega
  rw[if_neg (by simp;omega)];have H2:∀x∈la,∀y∈lb.drop B2,Rl lt x y:=λ x hx y hy=>by
   obtain ⟨i,hi,e⟩:=List.mem_iff_getElem.mp hy;rw[List.getElem_drop] at e;rw[List.length_drop] at hi;have:=abu (B2+i) (by omega);have ny:=hD2 y (List.mem_of_mem_drop hy);have c:Rl lt la[la.length- 1] y:=by show lt _ _=true;rw[O.tot _ _ kn2 ny.1 (Ne.symm ny.2), <-e,this];simp
   rcases ula x hx with rfl|h
   ·exact c
   ·exact T.tr O x _ y (by simp[hx]) (by simp) (by simp[List.mem_of_mem_drop hy]) h c
  have H3:∀y∈lb.take B2,Rl lt y la[la.length- 1]:=λ y hy=>by obtain ⟨i,hi,e⟩:=List.mem_iff_getElem.mp hy;rw[List.getElem_take] at e;rw[List.length_take] at hi;show lt _ _=true;rw[<-e,abu i (by omega)];simp;omega
  have T':vA lt n (la.drop B1) (lb.take B2):=by have sub:(la.drop B1++lb.take B2).Sublist (la++lb):=List.Sublist.append (List.drop_sublist _ _) (List.take_sublist _ _);exact ⟨λ x hx=>T.hn x (sub.subset hx),T.nd.sublist sub,T.ua.sublist (List.drop_sublist _ _),T.ub.sublist (List.take_sublist _ _)⟩
  have hl:∀y∈lb.take B2,∀(h:la.drop B1≠[]),Rl lt y ((la.drop B1).getLast h):=λ y hy h=>by rw[List.getLast_drop,List.getLast_eq_getElem];exact H3 y hy
  have n1:0<(la.drop B1).length:=by simp;omega
  have n2:0<(lb.take B2).length:=by simp;omega
  have ex1:(aQ it (pre++(la++lb)++post)).extract (pre.length+B1) (pre.length+la.length)=aQ it (la.drop B1):=by
   have:=ext3 (it:=it) (X:=pre++la.take B1) (Y:=la.drop B1) (Z:=lb++post);have e:pre++la.take B1++la.drop B1++(lb++post)=pre++(la++lb)++post:=by simp only[List.append_assoc];rw[<-List.append_assoc (la.take B1),List.take_append_drop]
   rw[e] at this;rw[<-this];congr 1<;>simp<;>omega
  have ex2:(aQ it (pre++(la++lb)++post)).extract (pre.length+la.length) (pre.length+la.length+B2)=aQ it (lb.take B2):=by
   have:=ext3 (it:=it) (X:=pre++la) (Y:=lb.take B2) (Z:=lb.drop B2++post);have e:pre++la++lb.take B2++(lb.drop B2++post)=pre++(la++lb)++post:=by simp only[List.append_assoc];rw[<-List.append_assoc (lb.take B2),List.take_append_drop]
   rw[e] at this;rw[<-this];congr 1<;>simp;omega
  have ew:pre++(la++lb)++post=(pre++la.take B1)++(la.drop B1++lb.take B2)++(lb.drop B2++post):=by simp only[List.append_assoc];rw[<-List.append_assoc (lb.take B2),List.take_append_drop, <-List.append_assoc (la.take B1),List.take_append_drop]
  have done:∀(m:Array Keyed) (g:Nat),Good lt it (la.drop B1) (lb.take B2) m->wpS (model prog w) A E s (VQ (pre.length+B1) m) Q (dS κ (aQ it (pre++(la++lb)++post)) (l1++(pre.length,la.length+lb.length,pw)::l2).toArray g):=by
   rintro m g ⟨lm,rfl,pm,um⟩
   rw[ew];refine ajy (by simp;omega) (by rw[pm.length_eq]) ?_;have:=q (la.take B1++(lm++lb.drop B2)) g ?_ ?_
   ·simpa only[List.append_assoc] using this
   ·have p1:(la.take B1++(lm++lb.drop B2)).Perm (la.take B1++((la.drop B1++lb.take B2)++lb.drop B2)):=List.Perm.append_left _ (List.Perm.append_right _ pm);refine p1.trans (List.Perm.of_eq ?_);simp only[List.append_assoc,List.take_append_drop];rw[<-List.append_assoc,List.take_append_drop]
   ·have ua:=List.pairwise_append.mp (by rw[List.take_append_drop];exact T.ua:(la.take B1++la.drop B1).Pairwise (Rl lt));have ub:=List.pairwise_append.mp (by rw[List.take_append_drop];exact T.ub:(lb.take B2++lb.drop B2).Pairwise (Rl lt));refine List.pairwise_append.mpr ⟨ua.1,List.pairwise_append.mpr ⟨um,ub.2.1,λ x hx y hy=>?_⟩,λ x hx y hy=>?_⟩
    ·rcases List.mem_append.mp (pm.mem_iff.mp hx) with h|h
     ·exact H2 x (List.mem_of_mem_drop h) y hy
     ·exact ub.2.2 x h y hy
    ·rcases List.mem_append.mp hy with h|h
     ·rcases List.mem_append.mp (pm.mem_iff.mp h) with h|h
      ·exact ua.2.2 x hx y h
      ·exact H1 x hx y (List.mem_of_mem_take h)
     ·exact H1 x hx y (List.mem_of_mem_drop h)
  rw[ex1,ex2];have f0:Rl lt ((lb.take B2)[0]'n2) ((la.drop B1)[0]'n1):=by rw[List.getElem_take];exact lf _ (List.getElem_mem _)
  split
  ·refine wpS_bind (wpS_mono (am1 O hc T' hl n1 n2 f0) ?_)
   rintro m st ⟨⟨g,rfl⟩,gd⟩
   exact done m g gd
  ·refine wpS_bind (wpS_mono (am3 O hc T' hl n1 n2 (λ h x hx=>by rw[List.getElem_take];exact lf x hx)) ?_)
   rintro m st ⟨⟨g,rfl⟩,gd⟩
   exact done m g gd
def abH(lo:Nat)(_:Nat)(s:Option (Option Nat)×Nat):SS (ForInStep (Option (Option Nat)×Nat)):=do
 let x <-ltAt' (lo+s.2) (lo+s.2- 1)
 match x with
 |some sm=>if sm=true then pure (ForInStep.done (none,s.2)) else pure (ForInStep.yield (none,s.2+1))
 |_=>pure (ForInStep.done (some none,s.2))
def KN(lo nrem n:Nat):SS (Option Nat):=do
 reverseSlice' lo (lo+n)
 let s <-forIn [n:nrem] ((none:Option (Option Nat)),n) (abH lo)
 match s.1 with
 |some r=>pure r
 |none=>pure (some s.2)
abbrev DS:=Option (Option Nat)×Nat×Nat
def acu(lo:Nat)(_:Nat)(s:DS):SS (ForInStep DS):=do
 let x <-ltAt' (lo+s.2.1) (lo+s.2.1- 1)
 match x with
 |some smaller=>
  if smaller=true then
   if s.2.2>0 then do
    reverseSlice' (lo+s.2.1-(s.2.2+1)) (lo+s.2.1)
    pure (ForInStep.yield (none,s.2.1+1,0))
   else pure (ForInStep.yield (none,s.2.1+1,0))
  else do
   let x <-ltAt' (lo+s.2.1- 1) (lo+s.2.1)
   match x with
   |some aeL=>if aeL=true then pure (ForInStep.done (none,s.2.1,s.2.2)) else pure (ForInStep.yield (none,s.2.1+1,s.2.2+1))
   |_=>pure (ForInStep.done (some none,s.2.1,s.2.2))
 |_=>pure (ForInStep.done (some none,s.2.1,s.2.2))
def KP(lo nrem n:Nat):SS (Option Nat):=do
 liftM (rule "list.sort.descending-run")
 let s <-forIn [n+1:nrem] ((none,n+1,0):DS) (acu lo)
 match s.1 with
 |some r=>pure r
 |none=>
  if s.2.2>0 then do
   reverseSlice' (lo+s.2.1-(s.2.2+1)) (lo+s.2.1)
   KN lo nrem s.2.1
  else KN lo nrem s.2.1
def Xm(lo nrem:Nat):SS (Option Nat):=do
 let s <-forIn [1:nrem] ((none:Option (Option Nat)),1) (abH lo)
 match s.1 with
 |some r=>pure r
 |none=>
  if (s.2==nrem)=true then pure (some s.2)
  else if s.2>1 then do
   let x <-ltAt' lo (lo+s.2- 1)
   match x with
   |some alC=>if alC=true then pure (some s.2) else do
     reverseSlice' lo (lo+s.2)
     KP lo nrem s.2
   |_=>pure none
  else KP lo nrem s.2
def count_eq:countRun'=Xm:=by kernel_rfl
def bsS(lo k:Nat)(_:Nat)(s:Option Bool×Nat×Nat):SS (ForInStep (Option Bool×Nat×Nat)):=
 if s.2.1>=s.2.2 then pure (ForInStep.done (none,s.2.1,s.2.2))
 else do
  let x <-ltAt' (lo+k) (lo+(s.2.1+s.2.2)/ 2)
  match x with
  |some less=>if less=true then pure (ForInStep.yield (none,s.2.1,(s.2.1+s.2.2)/ 2)) else pure (ForInStep.yield (none,(s.2.1+s.2.2)/ 2+1,s.2.2))
  |_=>pure (ForInStep.done (some false,s.2.1,s.2.2))
def bsB(lo:Nat)(k:Nat)(_:Option Bool×Unit):SS (ForInStep (Option Bool×Unit)):=do
 let t <-forIn [:k] ((none:Option Bool),0,k) (bsS lo k)
 match t.1 with
 |some r=>pure (ForInStep.done (some r,()))
 |none=>do
  moveDown' (lo+k) (lo+t.2.1)
  pure (ForInStep.yield (none,()))
def bsX(lo n ok:Nat):SS Bool:=do
 let s <-forIn [max ok 1:n] ((none:Option Bool),()) (bsB lo)
 match s.1 with
 |some r=>pure r
 |none=>pure true
def aiZ:binarySort'=bsX:=by kernel_rfl
def aaB:ltAt'=λ i j=>(get>>=λ st=>elem' (arrOf st) i>>=λ x=>elem' (arrOf st) j>>=λ y=>lt' x y:SS (Option Bool)):=by kernel_rfl
structure Nd(n:Nat)(l:List Nat):Prop where
 hn:∀x∈l,x<n
 nd:l.Nodup
def Nd.perm{l m:List Nat}(h:Nd n l)(p:m.Perm l):Nd n m:=⟨λ x hx=>h.hn x (p.mem_iff.mp hx),p.nodup_iff.mpr h.nd⟩
def gD(l:List Nat)(d:Nat){i:Nat}(h:i<l.length):l.getD i d=l[i]:=by simp[List.getD_eq_getElem?_getD,h]
def mid{Z F R:List Nat}{c:Nat}(h:c<F.length):(Z++(F++R))[Z.length+c]? =F[c]? :=by rw[List.getElem?_append_right (by omega),Nat.add_sub_cancel_left,List.getElem?_append_left h]
def Nd.g{l:List Nat}(h:Nd n l){i:Nat}(hi:i<l.length):l.getD i 0<n:=by rw[gD _ _ hi];exact h.hn _ (List.getElem_mem hi)
def Nd.ne{l:List Nat}(h:Nd n l){i j:Nat}(hi:i<l.length)(hj:j<l.length)(ne:i≠j):l.getD i 0≠l.getD j 0:=by rw[gD _ _ hi,gD _ _ hj];intro e;exact ne ((List.getElem_inj h.nd).mp e)
def V5{X Y:List Nat}{i:Nat}(h:i<Y.length):(aQ it (X++Y))[X.length+i]? =some (kas_item it (Y.getD i 0)):=by have:=at3 (it:=it) (X:=X) (Y:=Y) (Z:=[]) h;rw[List.append_nil] at this;rw[this,gD _ _ h]
def Aa(hc:CF prog w A s κ it lt n){pre rest:List Nat}{pe:Array (Nat×Nat×Nat)}{mg i j a b:Nat}{Q:Option Bool->SortSt->Prop}(N:Nd n rest)(ei:a=pre.length+i)(ej:b=pre.length+j)(hi:i<rest.length)(hj:j<rest.length)(ne:i≠j)(q:Q (some (lt (rest.getD i 0) (rest.getD j 0))) (dS κ (aQ it (pre++rest)) pe mg)):
  wpS (model prog w) A E s (ltAt' a b) Q (dS κ (aQ it (pre++rest)) pe mg):=by
 subst ei ej;rw[aaB];exact wpS_bind (wpS_get (wpS_bind (cF (V5 hi) (wpS_bind (cF (V5 hj) (V_lt hc (N.g hi) (N.g hj) (N.ne hi hj ne) q))))))
def BN(O:Ord lt n){l:List Nat}{m:Nat}(N:Nd n l)(hm:m<=l.length)(h:∀j,1<=j->j<m->lt (l.getD j 0) (l.getD (j- 1) 0)=false):(l.take m).Pairwise (Rl lt):=by
 have adj:∀k,k+1<m->lt (l.getD k 0) (l.getD (k+1) 0)=true:=λ k hk=>by have h1:=h (k+1) (by omega) hk;rw[O.tot _ _ (N.g (by omega)) (N.g (by omega)) (N.ne (by omega) (by omega) (by omega))];simpa using h1
 have all:∀d i,i+d+1<m->lt (l.getD i 0) (l.getD (i+d+1) 0)=true:=by
  intro d;induction d with
  |zero=>intro i hi;exact adj i hi
  |succ d ih=>intro i hi;exact O.tr _ _ _ (N.g (by omega)) (N.g (by omega:i+d+1<l.length)) (N.g (by omega)) (ih i (by omega)) (adj (i+d+1) (by omega))
 rw[List.pairwise_iff_getElem];intro i j hi hj hij;rw[List.length_take] at hi hj;have:=all (j- i- 1) i (by omega);rw[show i+(j- i- 1)+1=j by omega] at this;rw[List.getElem_take,List.getElem_take];rwa [gD _ _ (by omega),gD _ _ (by omega)] at this
def adb(hc:CF prog w A s κ it lt n){pre rest:List Nat}{pe:Array (Nat×Nat×Nat)}{mg lo nrem a:Nat}{Q:Option (Option Nat)×Nat->SortSt->Prop}(N:Nd n rest)(hlo:pre.length=lo)(hr:rest.length=nrem)(ha:1<=a)(han:a<=nrem)(h0:∀j,1<=j->j<a->lt (rest.getD j 0) (rest.getD (j- 1) 0)=false) (q:∀m,a<=m->m<=nrem->(∀j,1<=j->j<m->lt (rest.getD j 0) (rest.getD (j- 1) 0)=false)->(m<nrem->lt (rest.getD m 0) (rest.getD (m- 1) 0)=true)->Q (none,m) (dS κ (aQ it (pre++rest)) pe mg)):
  wpS (model prog w) A E s (forIn [a:nrem] ((none:Option (Option Nat)),a) (abH lo)) Q (dS κ (aQ it (pre++rest)) pe mg):=by
 refine wpS_forRange (λ i c st=>st=dS κ (aQ it (pre++rest)) pe mg/\c=(none,i)/\∀j,1<=j->j<i->lt (rest.getD j 0) (rest.getD (j- 1) 0)=false) ?_ ?_ ⟨rfl,rfl,h0⟩
 ·rintro i c st hai hi ⟨rfl,rfl,h⟩
  unfold abH;dsimp only;refine wpS_bind (Aa hc N (i:=i) (j:=i- 1) (by omega) (by omega) (by omega) (by omega) (by omega) ?_);cases e:lt (rest.getD i 0) (rest.getD (i- 1) 0) with
  |true=>simp only[if_true];exact wpS_pure (q i hai (by omega) h λ _=>e)
  |false=>
   simp only[Bool.false_eq_true,if_false];refine wpS_pure ⟨rfl,rfl,λ j j1 j2=>?_⟩;by_cases z:j=i
   ·subst z;exact e
   ·exact h j j1 (by omega)
 ·rintro c st ⟨rfl,rfl,h⟩
  rw[Nat.max_eq_right han] at*;exact q nrem han (Nat.le_refl _) h λ h=>absurd h (Nat.lt_irrefl _)
def Rm{Z F R:List Nat}{i j:Nat}(hi:i=Z.length)(hj:j=Z.length+F.length):mirror (aQ it (Z++F++R)) i j ((j- i)/ 2)=aQ it (Z++F.reverse++R):=by
 apply Array.ext_getElem?;intro k;rw[getElem?_mirror_all (by rw[bY];simp;omega) k];simp only[aQ,List.getElem?_toArray,List.getElem?_map];subst hi hj;split
 ·rename_i h;obtain ⟨d,rfl⟩:∃d,k=Z.length+d:=⟨k- Z.length,by omega⟩;congr 1;rw[List.append_assoc,List.append_assoc,show Z.length+(Z.length+F.length) - 1-(Z.length+d)=Z.length+(F.length- 1- d) by omega,mid (by omega),mid (by simp;omega),List.getElem?_reverse (by omega)]
 ·rename_i h;congr 1;by_cases c:k<Z.length
  ·rw[List.append_assoc,List.append_assoc,List.getElem?_append_left c,List.getElem?_append_left c]
  ·rw[List.getElem?_append_right (by simp;omega),List.getElem?_append_right (by simp;omega)];simp
def Sw{Z F R:List Nat}{x i d:Nat}(hi:i=Z.length+F.length)(hd:d=F.length):bubble (aQ it (Z++(F++x::R))) i d=aQ it (Z++(x::F++R)):=by
 apply Array.ext_getElem?;intro k;rw[getElem?_bubble (by rw[bY];simp;omega) d (by omega) k];simp only[aQ,List.getElem?_toArray,List.getElem?_map];subst hi hd;rw[Nat.add_sub_cancel];split
 ·rename_i h;subst h;congr 1;have l1:(Z++(F++x::R))[Z.length+F.length]? =some x:=by rw[List.getElem?_append_right (by omega),List.getElem?_append_right (by omega)];simp
  have l2:(Z++(x::F++R))[Z.length]? =some x:=by rw[List.getElem?_append_right (by omega)];simp
  rw[l1,l2]
 ·split
  ·rename_i h;obtain ⟨c,rfl⟩:∃c,k=Z.length+(c+1):=⟨k- Z.length- 1,by omega⟩;congr 1;rw[show Z.length+(c+1) - 1=Z.length+c by omega,mid (by omega),mid (by simp;omega),List.getElem?_cons_succ]
  ·congr 1;by_cases c:k<Z.length
   ·rw[List.getElem?_append_left c,List.getElem?_append_left c]
   ·obtain ⟨e,rfl⟩:∃e,k=Z.length+(F.length+1+e):=⟨k- Z.length- F.length- 1,by omega⟩;have l1:(Z++(F++x::R))[Z.length+(F.length+1+e)]? =R[e]? :=by rw[List.getElem?_append_right (by omega),List.getElem?_append_right (by omega),show Z.length+(F.length+1+e) - Z.length- F.length=e+1 by omega,List.getElem?_cons_succ]
    have l2:(Z++(x::F++R))[Z.length+(F.length+1+e)]? =R[e]? :=by rw[List.getElem?_append_right (by omega),List.getElem?_append_right (by simp)];congr 1;simp
    rw[l1,l2]
def ajw{Z F R:List Nat}{pe:Array (Nat×Nat×Nat)}{mg i j:Nat}{Q:Unit->SortSt->Prop}(hi:i=Z.length)(hj:j=Z.length+F.length)(q:Q () (dS κ (aQ it (Z++F.reverse++R)) pe mg)):
  wpS (model prog w) A E s (reverseSlice' i j) Q (dS κ (aQ it (Z++F++R)) pe mg):=by
 refine wpS_reverse ?_;show Q () (dS κ (mirror (aQ it (Z++F++R)) i j ((j- i)/ 2)) pe mg);rw[Rm hi hj];exact q
def afO{Z F R:List Nat}{x:Nat}{pe:Array (Nat×Nat×Nat)}{mg i j:Nat}{Q:Unit->SortSt->Prop}(hi:i=Z.length+F.length)(hj:j=Z.length)(q:Q () (dS κ (aQ it (Z++(x::F++R))) pe mg)):
  wpS (model prog w) A E s (moveDown' i j) Q (dS κ (aQ it (Z++(F++x::R))) pe mg):=by
 rw[moveDown'_eq];refine wpS_modify ?_;show Q () (dS κ (bubble (aQ it (Z++(F++x::R))) i (i- j)) pe mg);rw[Sw hi (by omega)];exact q
def abN(O:Ord lt n)(hc:CF prog w A s κ it lt n){pre rest:List Nat}{pe:Array (Nat×Nat×Nat)}{mg lo nrem:Nat}{Q:Option Nat->SortSt->Prop}(N:Nd n rest)(hlo:pre.length=lo)(hr:rest.length=nrem)(h1:1<=nrem) (q:∀m rest',rest'.Perm rest->1<=m->m<=nrem->(rest'.take m).Pairwise (Rl lt)->Q (some m) (dS κ (aQ it (pre++rest')) pe mg)):
  wpS (model prog w) A E s (countRun' lo nrem) Q (dS κ (aQ it (pre++rest)) pe mg):=by
 rw[count_eq];unfold Xm;refine wpS_bind (adb hc N hlo hr (Nat.le_refl _) h1 (λ j a b=>by omega) λ m m1 m2 hm hd=>?_);dsimp only;have up:=BN O N (by omega:m<=rest.length) hm;by_cases e:m=nrem
 ·rw[if_pos (by simpa using e)];exact wpS_pure (q m rest (List.Perm.refl _) m1 m2 up)
 ·rw[if_neg (by simpa using e)];by_cases e1:m>1
  ·rw[if_pos e1];have rise:lt (rest.getD 0 0) (rest.getD (m- 1) 0)=true:=by have:=(List.pairwise_iff_getElem.mp up) 0 (m- 1) (by simp;omega) (by simp;omega) (by omega);rw[List.getElem_take,List.getElem_take] at this;rw[gD _ _ (by omega),gD _ _ (by omega)];exact this
   refine wpS_bind (Aa hc N (i:=0) (j:=m- 1) (by omega) (by omega) (by omega) (by omega) (by omega) ?_);rw[rise];simp only[if_true];exact wpS_pure (q m rest (List.Perm.refl _) m1 m2 up)
  ·rw[if_neg e1];have e1:m=1:=by omega
   subst e1;unfold KP;refine wpS_bind (vz (wpS_bind ?_));refine wpS_mono (Q:=λ c st=>st=dS κ (aQ it (pre++rest)) pe mg/\∃m,c=(none,m,0)/\2<=m/\m<=nrem/\∀j,1<=j->j<m->lt (rest.getD j 0) (rest.getD (j- 1) 0)=true) (wpS_forRange (λ i c st=>st=dS κ (aQ it (pre++rest)) pe mg/\c=(none,i,0)/\∀j,1<=j->j<i->lt (rest.getD j 0) (rest.getD (j- 1) 0)=true) ?_ ?_ ⟨rfl,rfl,λ j j1 j2=>?_⟩) ?_
   ·rintro i c st hai hi ⟨rfl,rfl,h⟩
    unfold acu;dsimp only;refine wpS_bind (Aa hc N (i:=i) (j:=i- 1) (by omega) (by omega) (by omega) (by omega) (by omega) ?_);cases e:lt (rest.getD i 0) (rest.getD (i- 1) 0) with
    |true=>
     simp only[if_true,gt_iff_lt,Nat.lt_irrefl,if_false];refine wpS_pure ⟨rfl,rfl,λ j j1 j2=>?_⟩;by_cases z:j=i
     ·subst z;exact e
     ·exact h j j1 (by omega)
    |false=>
     simp only[Bool.false_eq_true,if_false];refine wpS_bind (Aa hc N (i:=i- 1) (j:=i) (by omega) (by omega) (by omega) (by omega) (by omega) ?_);have:lt (rest.getD (i- 1) 0) (rest.getD i 0)=true:=by rw[O.tot _ _ (N.g (by omega)) (N.g (by omega)) (N.ne (by omega) (by omega) (by omega)),e];rfl
     rw[this];simp only[if_true];exact wpS_pure ⟨rfl,i,rfl,hai,by omega,h⟩
   ·rintro c st ⟨rfl,rfl,h⟩
    rw[Nat.max_eq_right (by omega)] at*;exact ⟨rfl,nrem,rfl,by omega,Nat.le_refl _,h⟩
   ·have:j=1:=by omega
    subst this;exact hd (by omega)
   ·rintro c st ⟨rfl,m,rfl,hm1,hm2,hds⟩
    simp only[gt_iff_lt,Nat.lt_irrefl,if_false];unfold KN;have e:pre++rest=pre++rest.take m++rest.drop m:=by rw[List.append_assoc,List.take_append_drop]
    rw[e];refine wpS_bind (ajw hlo.symm (by simp;omega) ?_);rw[List.append_assoc];have p':((rest.take m).reverse++rest.drop m).Perm rest:=by have:=(List.Perm.append_right (rest.drop m) (List.reverse_perm (rest.take m)));rwa [List.take_append_drop] at this
    have N':=N.perm p';have lr:((rest.take m).reverse++rest.drop m).length=nrem:=by rw[p'.length_eq,hr]
    refine wpS_bind (adb hc N' hlo lr (by omega) hm2 ?_ λ m' h1 h2 h3 _=>?_)
    ·intro j j1 j2;have g1:∀i,i<m->((rest.take m).reverse++rest.drop m).getD i 0=rest.getD (m- 1- i) 0:=λ i hi=>by rw[List.getD_eq_getElem?_getD,List.getElem?_append_left (by simp;omega),List.getElem?_reverse (by simp;omega),List.length_take,Nat.min_eq_left (by omega),List.getElem?_take_of_lt (by omega),List.getD_eq_getElem?_getD]
     rw[g1 j j2,g1 (j- 1) (by omega)];have:=hds (m- 1-(j- 1)) (by omega) (by omega);rw[show m- 1-(j- 1) - 1=m- 1- j by omega] at this;rw[O.tot _ _ (N.g (by omega)) (N.g (by omega)) (N.ne (by omega) (by omega) (by omega)),this];rfl
    ·exact wpS_pure (q m' _ p' (by omega) h2 (BN O N' (by omega) h3))
def ajz(O:Ord lt n)(hc:CF prog w A s κ it lt n){pre rest:List Nat}{pe:Array (Nat×Nat×Nat)}{mg lo m ok:Nat}{Q:Bool->SortSt->Prop}(N:Nd n rest)(hlo:pre.length=lo)(hm:m<=rest.length)(h1:1<=ok)(hok:ok<=m)(up:(rest.take ok).Pairwise (Rl lt)) (q:∀rest',rest'.Perm rest->(rest'.take m).Pairwise (Rl lt)->Q true (dS κ (aQ it (pre++rest')) pe mg)):
  wpS (model prog w) A E s (binarySort' lo m ok) Q (dS κ (aQ it (pre++rest)) pe mg):=by
 rw[aiZ];unfold bsX;rw[show max ok 1=ok by omega];refine wpS_bind (wpS_forRange (λ k c st=>c=(none,())/\∃l,st=dS κ (aQ it (pre++l)) pe mg/\l.Perm rest/\(l.take k).Pairwise (Rl lt)) ?_ ?_ ⟨rfl,rest,rfl,List.Perm.refl _,up⟩)
 ·rintro k c st hk1 hk2 ⟨rfl,l,rfl,pl,ul⟩
  have Nl:=N.perm pl;have ll:=pl.length_eq;have hk:k<l.length:=by omega
  unfold bsB;have kx:=Nl.g hk;have hD:∀x∈l.take k,x<n/\x≠l.getD k 0:=λ x hx=>by obtain ⟨i,hi,e⟩:=List.mem_iff_getElem.mp hx;rw[List.getElem_take] at e;rw[List.length_take] at hi;refine ⟨Nl.hn x (List.mem_of_mem_take hx),?_⟩;rw[<-e, <-gD l 0 (by omega)];exact Nl.ne (by omega) hk (by omega)
  obtain ⟨B,hB,cut⟩:=rX O kx (l.take k) hD ul;rw[List.length_take,Nat.min_eq_left (by omega)] at hB;have aiS:∀i,i<k->lt (l.getD k 0) (l.getD i 0)=!decide (i<B):=λ i hi=>by have:=cut i (by simp;omega);rw[List.getElem_take, <-gD l 0 (by omega)] at this;rw[O.tot _ _ kx (Nl.g (by omega)) (Nl.ne hk (by omega) (by omega)),this]
  refine wpS_bind (wpS_mono (Q:=λ c st=>st=dS κ (aQ it (pre++l)) pe mg/\c.1=none/\c.2.1=B) (wpS_forRange (λ i c st=>st=dS κ (aQ it (pre++l)) pe mg/\c.1=none/\c.2.1<=B/\B<=c.2.2/\c.2.2<=k/\(c.2.2- c.2.1)+i<=k) ?_ ?_ ⟨rfl,rfl,by simp,by simpa using hB,by simp,by simp⟩) ?_)
  ·rintro i ⟨c1,c2,c3⟩ st _ hi ⟨rfl,h1,h2,h3,h4,h5⟩
   simp only at h1 h2 h3 h4 h5;subst h1;unfold bsS;dsimp only;by_cases e:c2>=c3
   ·rw[if_pos e];exact wpS_pure ⟨rfl,rfl,by dsimp only;omega⟩
   ·rw[if_neg e];refine wpS_bind (Aa hc Nl (i:=k) (j:=(c2+c3)/ 2) (by omega) (by omega) hk (by omega) (by omega) ?_);rw[aiS _ (by omega)];by_cases z:(c2+c3)/ 2<B
    ·simp only[z,decide_true,Bool.not_true,Bool.false_eq_true,if_false];exact wpS_pure ⟨rfl,rfl,by dsimp only;omega,h3,h4,by dsimp only;omega⟩
    ·simp only[z,decide_false,Bool.not_false,if_true];exact wpS_pure ⟨rfl,rfl,h2,by dsimp only;omega,by dsimp only;omega,by dsimp only;omega⟩
  ·rintro ⟨c1,c2,c3⟩ st ⟨rfl,h1,h2,h3,h4,h5⟩
   simp only at h1 h2 h3 h4 h5;have:=Nat.le_max_right 0 k;exact ⟨rfl,h1,by dsimp only;omega⟩
  ·rintro ⟨c1,c2,c3⟩ st ⟨rfl,h1,h2⟩
   simp only at h1 h2;subst h1 h2;dsimp only;have e:pre++l=(pre++l.take c2)++((l.take k).drop c2++l.getD k 0::l.drop (k+1)):=by
    have e1:l.getD k 0::l.drop (k+1)=l.drop k:=by rw[gD _ _ hk];exact (List.drop_eq_getElem_cons hk).symm
    rw[e1,List.append_assoc];congr 1;have e2:l.take c2++(l.take k).drop c2=l.take k:=by have:=List.take_append_drop c2 (l.take k);rwa [List.take_take,Nat.min_eq_left hB] at this
    rw[<-List.append_assoc,e2,List.take_append_drop]
   rw[e];refine wpS_bind (afO (by simp;omega) (by simp;omega) (wpS_pure ⟨rfl,l.take c2++(l.getD k 0::(l.take k).drop c2++l.drop (k+1)),by simp[List.append_assoc],?_,?_⟩))
   ·have:(pre++l).Perm (pre++(l.take c2++(l.getD k 0::(l.take k).drop c2++l.drop (k+1)))):=by rw[e,List.append_assoc];refine List.Perm.append_left _ (List.Perm.append_left _ ?_);rw[List.cons_append];exact List.perm_middle
    exact ((List.perm_append_left_iff pre).mp this).symm.trans pl
   ·have e3:(l.take c2++(l.getD k 0::(l.take k).drop c2++l.drop (k+1))).take (k+1)=l.take c2++(l.getD k 0::(l.take k).drop c2):=by rw[<-List.append_assoc,List.take_append_of_le_length (by simp;omega)];exact List.take_of_length_le (by simp;omega)
    rw[e3];have e2:l.take c2++(l.take k).drop c2=l.take k:=by have:=List.take_append_drop c2 (l.take k);rwa [List.take_take,Nat.min_eq_left hB] at this
    have ul':=ul;rw[<-e2] at ul';have uu:=List.pairwise_append.mp ul';refine List.pairwise_append.mpr ⟨uu.1,List.pairwise_cons.mpr ⟨λ y hy=>?_,uu.2.1⟩,λ x hx y hy=>?_⟩
    ·obtain ⟨i,hi,e⟩:=List.mem_iff_getElem.mp hy;rw[List.getElem_drop,List.getElem_take] at e;rw[List.length_drop,List.length_take] at hi;have:=aiS (c2+i) (by omega);rw[gD l 0 (by omega:c2+i<l.length),e] at this;show lt _ _=true;rw[this];simp
    ·rcases List.mem_cons.mp hy with rfl|hy
     ·obtain ⟨i,hi,e⟩:=List.mem_iff_getElem.mp hx;rw[List.getElem_take] at e;rw[List.length_take] at hi;have:=cut i (by simp;omega);rw[List.getElem_take,e] at this;show lt _ _=true;rw[this];simp;omega
     ·exact uu.2.2 x hx y hy
 ·rintro c st ⟨rfl,l,rfl,pl,ul⟩
  rw[Nat.max_eq_right hok] at ul;exact wpS_pure (q l pl ul)
def yf(lo n:Nat):SS (ForInStep (Option Unit×Nat)):=do
 modify λ s=>setPending s ((pendingOf s).push (lo,n,0))
 pure (ForInStep.yield (none,lo+n))
def abX(pw:Nat)(_:Nat)(_:Option Unit×Unit):SS (ForInStep (Option Unit×Unit)):=do
 let st <-get
 match if (pendingOf st).size>1 then (pendingOf st)[(pendingOf st).size- 2]? else none with
 |some (_,_,older)=>
  if older<=pw then pure (ForInStep.done (none,()))
  else do
   let b <-mergeAt' ((pendingOf st).size- 2)
   if (!b)=true then pure (ForInStep.done (some (),()))
   else pure (ForInStep.yield (none,()))
 |_=>pure (ForInStep.done (none,()))
def Ui(size lo n:Nat):SS (ForInStep (Option Unit×Nat)):=do
 let st <-get
 match (pendingOf st).back? with
 |some (s1,n1,_)=>do
  let t <-forIn [:size] ((none:Option Unit),()) (abX (power' size (2*s1+n1) (2*s1+n1+n1+n) size))
  match t.1 with
  |some r=>pure (ForInStep.done (some r,lo))
  |none=>do
   modify λ s=>setPending s ((pendingOf s).modify ((pendingOf s).size- 1) λ x=>match x with|(st,len,_)=>(st,len,power' size (2*s1+n1) (2*s1+n1+n1+n) size))
   yf lo n
 |_=>yf lo n
def Uj(size JM:Nat)(_:Nat)(s:Option Unit×Nat):SS (ForInStep (Option Unit×Nat)):=
 if s.2>=size then pure (ForInStep.done (none,s.2))
 else do
  let x <-countRun' s.2 (size- s.2)
  match x with
  |some n=>
   if n<JM then do
    liftM (rule "list.sort.binary-insertion")
    let b <-binarySort' s.2 (min (size- s.2) JM) n
    if (!b)=true then pure (ForInStep.done (some (),s.2))
    else Ui size s.2 (min (size- s.2) JM)
   else Ui size s.2 n
  |_=>pure (ForInStep.done (some (),s.2))
def abW(_:Nat)(_:Option Unit×Unit):SS (ForInStep (Option Unit×Unit)):=do
 let st <-get
 if (pendingOf st).size<=1 then pure (ForInStep.done (none,()))
 else do
  let b <-mergeAt' (if Option.any (λ x=>decide (x<(pendingOf st)[(pendingOf st).size- 2+1]?.elim 0 λ x=>x.2.1)) (if (pendingOf st).size- 2>0 then Option.map (λ x=>x.2.1) (pendingOf st)[(pendingOf st).size- 2- 1]? else none)=true then (pendingOf st).size- 2- 1 else (pendingOf st).size- 2)
  if (!b)=true then pure (ForInStep.done (some (),()))
  else pure (ForInStep.yield (none,()))
def srX:SS Unit:=do
 let st <-get
 let t <-forIn [:(arrOf st).size] ((none:Option Unit),0) (Uj (arrOf st).size (minRun' (arrOf st).size (arrOf st).size 0))
 match t.1 with
 |some r=>pure r
 |none=>do
  let u <-forIn [:(arrOf st).size] ((none:Option Unit),()) abW
  match u.1 with
  |some r=>pure r
  |none=>pure ()
def ahw:sortRuns'=srX:=by rw[sortRuns'_eq];kernel_rfl
def PR(lt:Nat->Nat->Bool):List (Nat×Nat×Nat)->Nat->List (List Nat)->Prop
 |[],_,[]=>True
 |(a,k,_)::t,b,r::rs=>a=b/\k=r.length/\0<r.length/\r.Pairwise (Rl lt)/\PR lt t (b+r.length) rs
 |_,_,_=>False
def PR.split:∀{t1 t2:List (Nat×Nat×Nat)} {a:Nat} {rs:List (List Nat)},PR lt (t1++t2) a rs->∃r1 r2,rs=r1++r2/\PR lt t1 a r1/\PR lt t2 (a+r1.flatten.length) r2
 |[],t2,a,rs,h=>⟨[],rs,rfl,trivial,by simpa using h⟩
 |(x,k,z)::t1,t2,a,[],h=>(nomatch h)
 |(x,k,z)::t1,t2,a,r::rs,⟨h1,h2,h3,h4,h5⟩=>by obtain ⟨r1,r2,e,p1,p2⟩:=PR.split h5;exact ⟨r::r1,r2,by rw[e];rfl,⟨h1,h2,h3,h4,p1⟩,by simpa[Nat.add_assoc] using p2⟩
def PR.join:∀{t1 t2:List (Nat×Nat×Nat)} {a:Nat} {r1 r2:List (List Nat)},PR lt t1 a r1->PR lt t2 (a+r1.flatten.length) r2->PR lt (t1++t2) a (r1++r2)
 |[],t2,a,[],r2,_,h=>by simpa using h
 |[],t2,a,_::_,r2,h,_=>(nomatch h)
 |(x,k,z)::t1,t2,a,[],r2,h,_=>(nomatch h)
 |(x,k,z)::t1,t2,a,r::r1,r2,⟨h1,h2,h3,h4,h5⟩,h=>⟨h1,h2,h3,h4,PR.join h5 (by simpa[Nat.add_assoc] using h)⟩
def PR.pw:∀{t:List (Nat×Nat×Nat)} {a:Nat} {rs:List (List Nat)} {i:Nat} {pw:Nat},PR lt t a rs->PR lt (t.modify i λ x=>match x with|(st,len,_)=>(st,len,pw)) a rs
 |[],_,[],i,_,h=>by simpa using h
 |[],_,_::_,i,_,h=>(nomatch h)
 |(x,k,z)::t,a,[],i,_,h=>(nomatch h)
 |(x,k,z)::t,a,r::rs,0,pw,⟨h1,h2,h3,h4,h5⟩=>by rw[List.modify_zero_cons];exact ⟨h1,h2,h3,h4,h5⟩
 |(x,k,z)::t,a,r::rs,i+1,pw,⟨h1,h2,h3,h4,h5⟩=>by rw[List.modify_succ_cons];exact ⟨h1,h2,h3,h4,PR.pw h5⟩
def PR.len:∀{t:List (Nat×Nat×Nat)} {a:Nat} {rs:List (List Nat)},PR lt t a rs->t.length=rs.length/\t.length<=rs.flatten.length
 |[],_,[],_=>by simp
 |[],_,_::_,h=>(nomatch h)
 |(x,k,z)::t,a,[],h=>(nomatch h)
 |(x,k,z)::t,a,r::rs,⟨h1,h2,h3,h4,h5⟩=>by have:=PR.len h5;simp only[List.length_cons,List.flatten_cons,List.length_append];omega
structure RI(lt:Nat->Nat->Bool)(it:Array Keyed)(κ:SortKind)(n:Nat)(rs:List (List Nat))(rest:List Nat)(pe:Array (Nat×Nat×Nat)):Prop where
 pr:PR lt pe.toList 0 rs
 pm:(rs.flatten++rest).Perm (List.range n)
def RI.nd{rs:List (List Nat)}{rest:List Nat}{pe:Array (Nat×Nat×Nat)}(h:RI lt it κ n rs rest pe):Nd n (rs.flatten++rest):=⟨λ x hx=>by simpa using h.pm.mem_iff.mp hx,h.pm.nodup_iff.mpr List.nodup_range⟩
def ada(O:Ord lt n)(hc:CF prog w A s κ it lt n){rs:List (List Nat)}{rest:List Nat}{pe:Array (Nat×Nat×Nat)}{mg i:Nat}(h:RI lt it κ n rs rest pe)(hi:i+1<pe.size){Q:Bool->SortSt->Prop} (q:∀rs' oi g,RI lt it κ n rs' rest oi->rs'.flatten.length=rs.flatten.length->oi.size+1=pe.size->Q true (dS κ (aQ it (rs'.flatten++rest)) oi g)):
  wpS (model prog w) A E s (mergeAt' i) Q (dS κ (aQ it (rs.flatten++rest)) pe mg):=by
 have hp:=h.pr;obtain ⟨x,y,l1,l2,e,el⟩:∃x y l1 l2,pe.toList=l1++x::y::l2/\l1.length=i:=by
  have hl:i+1<pe.toList.length:=by simpa using hi
  refine ⟨pe.toList[i],pe.toList[i+1],pe.toList.take i,pe.toList.drop (i+2),?_,by simp;omega⟩;rw[<-List.drop_eq_getElem_cons hl, <-List.drop_eq_getElem_cons (by omega),List.take_append_drop]
 obtain ⟨xa,xk,xp⟩:=x;obtain ⟨ya,yk,yp⟩:=y;rw[e] at hp;obtain ⟨r1,r2,er,p1,p2⟩:=PR.split hp;match r2,p2 with
 |[],p2=>exact (nomatch p2)
 |[_],p2=>exact absurd p2.2.2.2.2 (λ z=>(nomatch z))
 |la::lb::r2,⟨a1,a2,a3,a4,b1,b2,b3,b4,p3⟩=>
  subst a1 a2 b1 b2;subst er;have N:=h.nd;have T:vA lt n la lb:=by
   have sub:(la++lb).Sublist ((r1++la::lb::r2).flatten++rest):=by simp only[List.flatten_append,List.flatten_cons,List.append_assoc];exact (List.Sublist.trans (by rw[<-List.append_assoc];exact List.sublist_append_left _ _) (List.sublist_append_right _ _))
   exact ⟨λ x hx=>N.hn x (sub.subset hx),N.nd.sublist sub,a4,b4⟩
  have ew:(r1++la::lb::r2).flatten++rest=r1.flatten++(la++lb)++(r2.flatten++rest):=by simp[List.append_assoc]
  have epe:pe=(l1++(r1.flatten.length,la.length,xp)::(r1.flatten.length+la.length,lb.length,yp)::l2).toArray:=by apply Array.toList_inj.mp;rw[e];simp
  rw[ew,epe, <-el];refine V_at O hc T a3 b3 λ lm g pm um=>?_;have ll:lm.length=la.length+lb.length:=by rw[pm.length_eq,List.length_append]
  have:=q (r1++lm::r2) (l1++(r1.flatten.length,la.length+lb.length,xp)::l2).toArray g ⟨?_,?_⟩ ?_ ?_
  ·simpa[List.append_assoc] using this
  ·refine PR.join p1 ⟨by simp,ll.symm,by omega,um,?_⟩;rw[ll];simpa[Nat.add_assoc] using p3
  ·refine List.Perm.trans ?_ h.pm;rw[ew];simp only[List.flatten_append,List.flatten_cons,List.append_assoc];exact List.Perm.append_left _ (by rw[<-List.append_assoc la lb];exact List.Perm.append_right _ pm)
  ·simp only[List.flatten_append,List.flatten_cons,List.length_append];omega
  ·rw[epe];simp;omega
def afN{rs:List (List Nat)}{run rest:List Nat}{pe:Array (Nat×Nat×Nat)}{mg lo k:Nat}(h:RI lt it κ n rs (run++rest) pe)(hlo:lo=rs.flatten.length)(hk:k=run.length)(h0:0<run.length)(u:run.Pairwise (Rl lt)){Q:ForInStep (Option Unit×Nat)->SortSt->Prop} (q:∀oi,RI lt it κ n (rs++[run]) rest oi->Q (.yield (none,lo+k)) (dS κ (aQ it ((rs++[run]).flatten++rest)) oi mg)):
  wpS (model prog w) A E s (yf lo k) Q (dS κ (aQ it (rs.flatten++(run++rest))) pe mg):=by
 unfold yf;refine wpS_bind (wpS_modify (wpS_pure ?_));have:=q (pe.push (lo,k,0)) ⟨?_,?_⟩
 ·simpa[List.append_assoc] using this
 ·rw[Array.toList_push];exact PR.join h.pr ⟨by simpa using hlo,hk,h0,u,trivial⟩
 ·simpa[List.append_assoc] using h.pm
def am2(O:Ord lt n)(hc:CF prog w A s κ it lt n){rs:List (List Nat)}{run rest:List Nat}{pe:Array (Nat×Nat×Nat)}{mg size lo k:Nat}(h:RI lt it κ n rs (run++rest) pe)(hlo:lo=rs.flatten.length)(hk:k=run.length)(h0:0<run.length)(u:run.Pairwise (Rl lt)){Q:ForInStep (Option Unit×Nat)->SortSt->Prop} (q:∀rs' oi g,RI lt it κ n rs' rest oi->rs'.flatten.length=lo+k->Q (.yield (none,lo+k)) (dS κ (aQ it (rs'.flatten++rest)) oi g)):
  wpS (model prog w) A E s (Ui size lo k) Q (dS κ (aQ it (rs.flatten++(run++rest))) pe mg):=by
 unfold Ui;refine wpS_bind (wpS_get ?_);have fin:∀rs' oi g,RI lt it κ n rs' (run++rest) oi->rs'.flatten.length=lo->wpS (model prog w) A E s (yf lo k) Q (dS κ (aQ it (rs'.flatten++(run++rest))) oi g):=λ rs' oi g h' hl=>by refine afN h' hl.symm hk h0 u λ api h''=>q _ _ _ h'' ?_;simp[hl,hk]
 cases eb:pe.back? with
 |none=>exact fin rs pe mg h hlo.symm
 |some z=>
  obtain ⟨s1,n1,z3⟩:=z;dsimp only;generalize power' size (2*s1+n1) (2*s1+n1+n1+k) size=pw;refine wpS_bind (wpS_mono (Q:=λ c st=>c=(none,())/\∃rs' oi g,st=dS κ (aQ it (rs'.flatten++(run++rest))) oi g/\RI lt it κ n rs' (run++rest) oi/\rs'.flatten.length=lo) (wpS_forRange (λ i c st=>c=(none,())/\∃rs' oi g,st=dS κ (aQ it (rs'.flatten++(run++rest))) oi g/\RI lt it κ n rs' (run++rest) oi/\rs'.flatten.length=lo) ?_ (λ c st hh=>hh) ⟨rfl,rs,pe,mg,rfl,h,hlo.symm⟩) ?_)
  ·rintro i c st _ hi ⟨rfl,rs',oi,g,rfl,h',hl⟩
   unfold abX;refine wpS_bind (wpS_get ?_);show wpS (model prog w) A E s (match if oi.size>1 then oi[oi.size- 2]? else none with
    |some (_,_,older)=>_
    |_=>_) _ _
   by_cases e1:oi.size>1
   ·rw[if_pos e1];have hlt:oi.size- 2<oi.size:=by omega
    rw[Array.getElem?_eq_getElem hlt];obtain ⟨q1,q2,q3⟩:=oi[oi.size- 2];dsimp only;split
    ·exact wpS_pure ⟨rfl,rs',oi,g,rfl,h',hl⟩
    ·refine wpS_bind (ada O hc h' (by show oi.size- 2+1<oi.size;omega) λ rs2 pe2 g2 h2 l2 _=>?_);simp only[Bool.not_true,Bool.false_eq_true,if_false];exact wpS_pure ⟨rfl,rs2,pe2,g2,rfl,h2,by omega⟩
   ·rw[if_neg e1];exact wpS_pure ⟨rfl,rs',oi,g,rfl,h',hl⟩
  ·rintro c st ⟨rfl,rs',oi,g,rfl,h',hl⟩
   dsimp only;refine wpS_bind (wpS_modify ?_);refine fin rs' (oi.modify (oi.size- 1) λ x=>match x with|(st,len,_)=>(st,len,pw)) g ⟨?_,h'.pm⟩ hl;rw[Array.toList_modify];exact PR.pw h'.pr
def afM(O:Ord lt n)(hc:CF prog w A s κ it lt n)(h1:1<=n){mg:Nat}{Q:Unit->SortSt->Prop} (q:∀l pe g,l.Perm (List.range n)->l.Pairwise (Rl lt)->Q () (dS κ (aQ it l) pe g)):
  wpS (model prog w) A E s sortRuns' Q (dS κ (aQ it (List.range n)) #[] mg):=by
 rw[ahw];unfold srX;refine wpS_bind (wpS_get ?_);have hs:(arrOf (dS κ (aQ it (List.range n)) #[] mg)).size=n:=by show (aQ it (List.range n)).size=n;rw[bY,List.length_range]
 rw[hs];generalize minRun' n n 0=mr;refine wpS_bind (wpS_mono (Q:=λ c st=>c.1=none/\∃rs pe g,st=dS κ (aQ it (rs.flatten++[])) pe g/\RI lt it κ n rs [] pe) (wpS_forRange (λ i c st=>c.1=none/\i<=c.2/\∃rs rest pe g,st=dS κ (aQ it (rs.flatten++rest)) pe g/\RI lt it κ n rs rest pe/\rs.flatten.length=c.2) ?_ ?_ ⟨rfl,Nat.le_refl _,[],List.range n, #[],mg,rfl,⟨trivial,List.Perm.refl _⟩,rfl⟩) ?_)
 ·rintro i ⟨c1,c2⟩ st _ hi ⟨e1,hic,rs,rest,pe,g,rfl,h,hl⟩
  simp only at e1 hic hl;subst e1;have ht:rs.flatten.length+rest.length=n:=by have:=h.pm.length_eq;simpa using this
  unfold Uj;dsimp only;by_cases ge:c2>=n
  ·rw[if_pos ge];have:rest=[]:=List.eq_nil_of_length_eq_zero (by omega);subst this;exact wpS_pure ⟨rfl,rs,pe,g,rfl,h⟩
  ·rw[if_neg ge];have N:Nd n rest:=⟨λ x hx=>h.nd.hn x (by simp[hx]),(List.nodup_append.mp h.nd.nd).2.1⟩;refine wpS_bind (abN O hc N hl (by omega:rest.length=n- c2) (by omega) λ m rest' p' m1 m2 um=>?_);dsimp only;have h':RI lt it κ n rs rest' pe:=⟨h.pr,(List.Perm.append_left _ p').trans h.pm⟩;have go:∀mF k,mF.Perm rest->1<=k->k<=n- c2->(mF.take k).Pairwise (Rl lt)->wpS (model prog w) A E s (Ui n c2 k) (λ r st'=>match r with
     | .done c'=>c'.1=none/\∃rs pe g,st'=dS κ (aQ it (rs.flatten++[])) pe g/\RI lt it κ n rs [] pe
     | .yield c'=>c'.1=none/\i+1<=c'.2/\∃rs rest pe g,st'=dS κ (aQ it (rs.flatten++rest)) pe g/\RI lt it κ n rs rest pe/\rs.flatten.length=c'.2) (dS κ (aQ it (rs.flatten++mF)) pe g):=by
    intro mF k p2 k1 k2 u2;have l2:mF.length=n- c2:=by rw[p2.length_eq];omega
    have e:mF=mF.take k++mF.drop k:=(List.take_append_drop k mF).symm;have h2:RI lt it κ n rs (mF.take k++mF.drop k) pe:=by rw[<-e];exact ⟨h.pr,(List.Perm.append_left _ p2).trans h.pm⟩
    rw[e];refine am2 O hc h2 hl.symm (by simp;omega) (by simp;omega) u2 λ rs' oi g' h3 l3=>?_;exact ⟨rfl,by dsimp only;omega,rs',_,oi,g',rfl,h3,l3⟩
   split
   ·refine wpS_bind (vz ?_);have N':=N.perm p';have l':=p'.length_eq;rename_i hlt;refine wpS_bind (ajz O hc N' hl (by omega) m1 (by omega) um λ mF p2 u2=>?_);simp only[Bool.not_true,Bool.false_eq_true,if_false];exact wpS_mono (go mF _ (p2.trans p') (by omega) (by omega) u2) λ r st' hr=>by cases r<;>exact hr
   ·exact wpS_mono (go rest' m p' m1 m2 um) λ r st' hr=>by cases r<;>exact hr
 ·rintro ⟨c1,c2⟩ st ⟨e1,hic,rs,rest,pe,g,rfl,h,hl⟩
  simp only at e1 hic hl;have ht:rs.flatten.length+rest.length=n:=by have:=h.pm.length_eq;simpa using this
  have:=Nat.le_max_right 0 n;have:rest=[]:=List.eq_nil_of_length_eq_zero (by omega);subst this;exact ⟨e1,rs,pe,g,rfl,h⟩
 ·rintro ⟨c1,c2⟩ st ⟨e1,rs,pe,g,rfl,h⟩
  simp only at e1;subst e1;dsimp only;have fin:∀rs pe g,RI lt it κ n rs [] pe->pe.size<=1->Q () (dS κ (aQ it (rs.flatten++[])) pe g):=by
   intro rs pe g h hp;have hl:=h.pr.len;have hf:rs.flatten.length=n:=by have:=h.pm.length_eq;simpa using this
   have h1':pe.toList.length<=1:=by simpa using hp
   match rs,hl,h,hf with
   |[],hl,h,hf=>simp at hf;omega
   |[r],hl,h,hf=>
    refine q _ _ _ h.pm ?_;simp only[List.flatten_cons,List.flatten_nil,List.append_nil];match hpl:pe.toList,h.pr with
    |[],p=>exact (nomatch p)
    |(_,_,_)::_,p=>exact p.2.2.2.1
   |_::_::_,hl,h,hf=>simp at hl;omega
  have hsz:pe.size<=n:=by
   have:=h.pr.len.2;have hf:rs.flatten.length=n:=by have:=h.pm.length_eq;simpa using this
   rw[Array.length_toList] at this;omega
  refine wpS_bind (wpS_mono (Q:=λ c st=>c=(none,())/\∃rs pe g,st=dS κ (aQ it (rs.flatten++[])) pe g/\RI lt it κ n rs [] pe/\pe.size<=1) (wpS_forRange (λ i c st=>c=(none,())/\∃rs pe g,st=dS κ (aQ it (rs.flatten++[])) pe g/\RI lt it κ n rs [] pe/\pe.size<=max 1 (n- i)) ?_ ?_ ⟨rfl,rs,pe,g,rfl,h,by omega⟩) ?_)
  ·rintro i c st _ hi ⟨rfl,rs,pe,g,rfl,h,hp⟩
   unfold abW;refine wpS_bind (wpS_get ?_);by_cases e1:pe.size<=1
   ·rw[if_pos e1];exact wpS_pure ⟨rfl,rs,pe,g,rfl,h,e1⟩
   ·rw[if_neg e1];refine wpS_bind (ada O hc h ?_ λ rs2 pe2 g2 h2 l2 p2=>?_)
    ·have ii:∀(c:Prop) [Decidable c],(if c then pe.size- 2- 1 else pe.size- 2)+1<pe.size:=λ c _=>by split<;>omega
     exact ii _
    ·simp only[Bool.not_true,Bool.false_eq_true,if_false];exact wpS_pure ⟨rfl,rs2,pe2,g2,rfl,h2,by omega⟩
  ·rintro c st ⟨rfl,rs,pe,g,rfl,h,hp⟩
   have:=Nat.le_max_right 0 n;exact ⟨rfl,rs,pe,g,rfl,h,by omega⟩
  ·rintro c st ⟨rfl,rs,pe,g,rfl,h,hp⟩
   exact wpS_pure (fin rs pe g h hp)
end
end LM
end
section
namespace L4
open PySem PySem.Spec PyProof.Rows L2 PySem.W LM
section
variable{prog:Program}{w:World}{A:Around}{E:Value->Shared->Prop}{s:Shared}
def AX{a:Addr}{vs:List Value}{n:Nat}{lt:Nat->Nat->Bool}{κ:SortKind}{P:PySem.Fin->Shared->Prop}(ho:s.heap.get? a=some (seqObj "list" vs.toArray n))(h64:vs.length<4096)(O:Ord lt vs.length)
  (hk:2<=vs.length->∀(h':Heap) (Q:SortKind->Shared->Prop),(∀b o,b≠a->s.heap.get? b=some o->h'.get? b=some o)->Q κ {s with heap:=h'}->wpAny (model prog w) A (keyKind' vs.toArray) Q E {s with heap:=h'})
  (hc:∀(h':Heap) (i j:Nat) (Q:Bool->Shared->Prop),(∀b o,b≠a->s.heap.get? b=some o->h'.get? b=some o)->2<=vs.length->i<vs.length->j<vs.length->i≠j->Q (lt i j) {s with heap:=h'}->wpAny (model prog w) A (keyLt' κ (vs.getD i .none) (vs.getD j .none)) Q (λ _ _=>False) {s with heap:=h'})
  (h:∀h' e (ix:List Nat),(∀b o,b≠a->s.heap.get? b=some o->h'.get? b=some o)->h'.get? a=some (seqObj "list" (ix.map λ i=>vs.getD i Value.none).toArray e)->ix.Perm (List.range vs.length)->ix.Pairwise (λ a b=>lt a b=true)->P (.done (.ret .none)) {s with heap:=h'}):
  wpAny (model prog w) A (Builtin.«list.sort» ⟨[.ref a],[]⟩) P E s:=by
 rw[list_sort_plain]
 have ha:a<s.heap.objs.size:=Heap.lt_size ho
 refine wpAny_bind (listItems_at ho rfl ?_)
 refine wpAny_bind (listUpdate_at ho rfl ?_ (by rw[List.size_toArray,sizeLine_eq];omega) (Nat.zero_le _))
 obtain ⟨e1,ho1⟩:∃e1,(s.heap.update a (Obj.mapSeq λ _=> #[])).get? a=some (seqObj "list" #[] e1):=⟨_,get?_update_seq ho (λ _=> #[])⟩
 refine wpAny_bind (seqEpoch_at ho1 rfl ?_)
 refine wpAny_bind (wpAny_newTuple ?_ (by show vs.length<=_;rw[sizeLine_eq];omega))
 refine wpAny_bind (wpAny_newList ?_ (Nat.zero_le _))
 refine wpAny_holding ?_
 have s1:=Heap.SameBut.update s.heap a (Obj.mapSeq λ _=>(#[]:Array Value))
 have ho6:(((s.heap.update a (Obj.mapSeq λ _=> #[])).push (seqObj "tuple" vs.toArray 0)).push (seqObj "list" #[] 0)).get? a=some (seqObj "list" #[] e1):=Heap.get?_push_of_some _ (Heap.get?_push_of_some _ ho1)
 have kp:∀b o,b≠a->s.heap.get? b=some o->(((s.heap.update a (Obj.mapSeq λ _=>(#[]:Array Value))).push (seqObj "tuple" vs.toArray 0)).push (seqObj "list" #[] 0)).get? b=some o:=λ b o hb q=>
  Heap.get?_push_of_some _ (Heap.get?_push_of_some _ ((s1.2 b hb).trans q))
 show wpAny (model prog w) A _ P E {s with heap:=((s.heap.update a (Obj.mapSeq λ _=> #[])).push (seqObj "tuple" vs.toArray 0)).push (seqObj "list" #[] 0)}
 dsimp only
 generalize hh:((s.heap.update a (Obj.mapSeq λ _=>(#[]:Array Value))).push (seqObj "tuple" vs.toArray 0)).push (seqObj "list" #[] 0)=h1 at*
 have fin:∀(st:SortSt) (out:List Value),(arrOf st).map (·.2)=out.toArray->failedOf st=none->∀ix:List Nat,out=(ix.map λ i=>vs.getD i Value.none)->ix.Perm (List.range vs.length)->ix.Pairwise (λ a b=>lt a b=true)->wpAny (model prog w) A (do
   let touched:=(<-seqEpoch a) !=e1
   Builtin.List.listUpdate (.ref a) λ _=>(arrOf st).map (·.2)
   if let some e:=failedOf st then rule "list.sort.comparison-raised";throw e
   if touched then rule "list.sort.modified";raiseError "ValueError" "list modified during sort"
   ret .none) P E {s with heap:=h1}:=by
  intro st out har hf ix eo hp pw
  have hl:out.length=vs.length:=by rw[eo,List.length_map,hp.length_eq,List.length_range]
  refine wpAny_bind (seqEpoch_at ho6 rfl ?_)
  rw[har,hf]
  refine wpAny_bind (listUpdate_at ho6 rfl ?_ (Nat.zero_le _) (by rw[List.size_toArray,sizeLine_eq];omega))
  simp only[bne_self_eq_false,Bool.false_eq_true,if_false]
  have s2:=Heap.SameBut.update h1 a (Obj.mapSeq λ _=>out.toArray)
  refine wpAny_pure (h _ _ ix (λ b o hb q=>(s2.2 b hb).trans (kp b o hb q)) (by rw[<-eo];exact get?_update_seq ho6 λ _=>out.toArray) hp pw)
 by_cases h2:vs.toArray.size<2
 ·rw[if_pos h2,if_pos h2]
  have sf:vs.length<2:=by simpa using h2
  refine wpAny_bind (wpAny_pure ?_)
  rw[StateT.run_pure]
  refine wpAny_bind (wpAny_pure ?_)
  exact fin (SortSt.mk' general' (vs.toArray.zip vs.toArray) #[] 7 none) vs (by
   show (vs.toArray.zip vs.toArray).map (·.2)=vs.toArray
   apply Array.toList_inj.mp
   simp[List.map_snd_zip]) rfl (List.range vs.length) (by rw[range_getD]) (List.Perm.refl _) (by
    rw[List.pairwise_iff_getElem]
    intro i j hi hj hij
    simp at hj;omega)
 ·rw[if_neg h2,if_neg h2]
  have sf:2<=vs.length:=by simp at h2;omega
  have hn2:¬vs.length<2:=by omega
  refine wpAny_bind (hk sf h1 _ kp ?_)
  have hsz:(vs.toArray.zip vs.toArray).size=vs.length:=by simp
  have hst:SortSt.mk' κ (vs.toArray.zip vs.toArray) #[] 7 none=dS κ (aQ (vs.toArray.zip vs.toArray) (List.range vs.length)) #[] 7:=by
   have:=kas_range (vs.toArray.zip vs.toArray)
   rw[hsz] at this
   unfold aQ
   rw[<-List.map_toArray,this]
  have itf:∀i,(kas_item (vs.toArray.zip vs.toArray) i).1=vs.getD i .none:=λ i=>by
   unfold kas_item
   by_cases h:i<vs.length
   ·have e:(vs.toArray.zip vs.toArray)[i]? =some (vs[i],vs[i]):=by rw[Array.getElem?_eq_getElem (by simpa using h)];simp
    rw[Array.getD_eq_getD_getElem?,e,List.getD_eq_getElem?_getD,List.getElem?_eq_getElem h];rfl
   ·have e:(vs.toArray.zip vs.toArray)[i]? =none:=by rw[Array.getElem?_eq_none];simpa using h
    rw[Array.getD_eq_getD_getElem?,e,List.getD_eq_getElem?_getD,List.getElem?_eq_none (by omega)];rfl
  rw[hst]
  refine wpAny_bind (wpAny_mono (afM (A:=A) (E:=E) (s:={s with heap:=h1}) (κ:=κ) (Q:=λ _ st'=>∃p:List Nat,arrOf st'=p.toArray.map (kas_item (vs.toArray.zip vs.toArray))/\failedOf st'=none/\p.Perm (List.range vs.length)/\p.Pairwise (Rl lt)) O (λ i j C hi hj hij hq=>by
    unfold kas_cmp
    rw[itf,itf]
    exact hc h1 i j C kp sf hi hj hij hq) (by omega) (λ l pe g pl ul=>⟨l,by simp[aQ],rfl,pl,ul⟩)) ?_ λ _ _ e=>e)
  rintro ⟨⟨⟩,st'⟩ s' ⟨es,p,har,hf,hp,up⟩
  subst es
  exact fin st' _ (kat_snds rfl har) hf p rfl hp up
def qV{l:Addr}{Good:List Value->Heap->Prop}{Q:Value->Shared->Prop} (amq:∀(A':Around) (E':Value->Shared->Prop) (R:List Value->Shared->Prop),A'.handled=A.handled->(∀vs h' tk,(∀b o,s.heap.get? b=some o->h'.get? b=some o)->s.heap.objs.size<=h'.objs.size->Good vs h'->R vs {s with heap:=h',toks:=tk})->wpAny (model prog w) A' (collect (.ref l)) R E' s) (hg:∀vs h1 h2,(∀b o,h1.get? b=some o->h2.get? b=some o)->Good vs h1->Good vs h2) (hs:∀vs h',Good vs h'->vs.length<4096/\∃(lt:Nat->Nat->Bool) (κ:SortKind),Ord lt vs.length/\(2<=vs.length->∀(A':Around) (h2:Heap) (tk:Nat) (E':Value->Shared->Prop) (Q:SortKind->Shared->Prop),Good vs h2->Q κ {s with heap:=h2,toks:=tk}->wpAny (model prog w) A' (keyKind' vs.toArray) Q E' {s with heap:=h2,toks:=tk})/\(∀(A':Around) (h2:Heap) (tk i j:Nat) (Q:Bool->Shared->Prop),A'.units<A.units+8->Good vs h2->i<vs.length->j<vs.length->i≠j->Q (lt i j) {s with heap:=h2,toks:=tk}->wpAny (model prog w) A' (keyLt' κ (vs.getD i .none) (vs.getD j .none)) Q (λ _ _=>False) {s with heap:=h2,toks:=tk})/\(∀h2 tk r e (ix:List Nat),(∀b o,s.heap.get? b=some o->h2.get? b=some o)->s.heap.objs.size<=r->Good vs h2->h2.get? r=some (seqObj "list" (ix.map λ i=>vs.getD i Value.none).toArray e)->ix.Perm (List.range vs.length)->ix.Pairwise (λ a b=>lt a b=true)->Q (.ref r) {s with heap:=h2,toks:=tk})):
  wpAny (model prog w) A (call (.builtin "sorted") [.ref l]) Q E s:=by
 refine Calls.call_function_entry kind_sorted plain_sorted entry_sorted (args_sorted1 _) ?_;unfold Builtin.«sorted»;refine wpAny_bind (m:=checkCount "sorted" 1 1 _) (wpAny_pure ?_);refine wpAny_bind (amq _ _ _ rfl λ vs h' tk kp sz gd=>?_);obtain ⟨h64,lt,κ,O,hk,hc,hq⟩:=hs vs h' gd;refine wpAny_bind (wpAny_newList ?_ (by rw[sizeLine_eq];omega));have hoL:(h'.push (seqObj "list" vs.toArray 0)).get? h'.objs.size=some (seqObj "list" vs.toArray 0):=Heap.get?_push_size _ rfl;have keep:∀b o,h'.get? b=some o->(h'.push (seqObj "list" vs.toArray 0)).get? b=some o:=λ b o q=>Heap.get?_push_of_some _ q;show wpAny _ _ _ _ _ (Shared.mk (h'.push (seqObj "list" vs.toArray 0)) s.gens s.drawn tk s.os);refine wpAny_bind (wpAny_holding (wpAny_call_entry slot_list_sort ⟨_,hoL,rfl⟩ entry_list_sort ?body (args_list_sort _)));case body=>
  have gk:∀h2:Heap,(∀b o,b≠h'.objs.size->(h'.push (seqObj "list" vs.toArray 0)).get? b=some o->h2.get? b=some o)->∀b o,h'.get? b=some o->h2.get? b=some o:=λ h2 k b o e=>k b o (Nat.ne_of_lt (Heap.lt_size e)) (keep b o e);refine AX (s:=Shared.mk (h'.push (seqObj "list" vs.toArray 0)) s.gens s.drawn tk s.os) (lt:=lt) (κ:=κ) hoL h64 O
   (λ h2 h3 Q' k q=>hk h2 _ h3 tk _ Q' (hg vs h' h3 (gk h3 k) gd) q) (λ h3 i j Q' k h2 hi hj hij q=>hc _ h3 tk i j Q' ?_ (hg vs h' h3 (gk h3 k) gd) hi hj hij q) λ h3 e ix k ea hp pw=>⟨_,rfl,?_⟩
  ·first|omega|(dsimp only;omega)|(simp[Around.under];omega)
  ·exact wpAny_pure ⟨_,rfl,hq h3 tk _ e ix (λ b o z=>gk h3 k b o (kp b o z)) sz (hg vs h' h3 (gk h3 k) gd) ea hp pw⟩
end
end L4
end
section
namespace L4
open PySem PySem.Spec PyProof.Rows L2 PySem.W
section
variable{prog:Program}{w:World}{A:Around}{E:Value->Shared->Prop}{s:Shared}{Q:Bool->Shared->Prop}
def aag{b:Bool}{x y:Int}{t u:Tok}(h:Q (decide (x<y)) s):wpAny (model prog w) A (oneLt' b (.int x t) (.int y u)) Q E s:=by
 cases b with
 |true=>exact oneLt_int h
 |false=>exact kat_one _ _ (lt_int (show W.BoolBack Q (.bool (decide (x<y))) s from h))
def yY:∀{its jts:List Value} {ns ms:List Int} (i:Nat),IntsAre its ns->IntsAre jts ms->ns.length=ms.length->Q (dZ ns ms) s->KatLex prog w A true false Q (its.zip jts) i s
 |_,_,_,_,_,.nil,.nil,_,q=>kat_nil q
 |_,_,_,_,_,.nil,.cons _ _ _,h,_=>by simp at h
 |_,_,_,_,_,.cons _ _ _,.nil,h,_=>by simp at h
 |_,_,_,_,i,.cons n t a,.cons m u b,h,q=>by
  rw[List.zip_cons_cons];refine kat_cons (wpAny_eqBool_int (kat_go (λ z=>kat_yes (yY (i+1) a b (by simpa using h) ?_)) (λ z=>kat_no (aag ?_))))
  ·have z:n=m:=by simpa using z
   subst z;simpa[dZ] using q
  ·have z:n≠m:=by simpa using z
   simpa[dZ,z] using q
end
def iI{α β:Type}{R:α->β->Prop}:∀{l:List α} {m:List β} {i:Nat} {x:α} {y:β},Paired R l m->l[i]? =some x->m[i]? =some y->R x y
 |_,_,0,_,_,.cons h _,e1,e2=>by cases e1;cases e2;exact h
 |_,_,i+1,_,_,.cons _ t,e1,e2=>iI t (by simpa using e1) (by simpa using e2)
 |_,_,_,_,_,.nil,e1,_=>by simp at e1
def xA:∀n:List Int,(n.map (Sum.inl:Int->Key)).map kV=n.map V.int
 |[]=>rfl
 |x::n=>by simp only[List.map_cons];rw[xA n];rfl
def Gv{x y:List Int}(h:x.map (Sum.inl:Int->Key)=y.map Sum.inl):x=y:=by
 induction x generalizing y with
 |nil=>cases y with
  |nil=>rfl
  |cons _ _=>simp at h
 |cons a x ih=>cases y with
  |nil=>simp at h
  |cons b y=>simp only[List.map_cons,List.cons.injEq,Sum.inl.injEq] at h;rw[h.1,ih h.2]
def VZ{h:Heap}:∀(bs:List Addr) (ns:List (List Int)),bs.length=ns.length->(∀n∈ns,n.length=3)->(∀(i:Nat) (b:Addr) (n:List Int),bs[i]? =some b->ns[i]? =some n->∃its:List Value,IsTup h b its.toArray/\IntsAre its n)->∃fs,KatTups h (bs.map Value.ref) fs/\fs.length=bs.length/\∀v∈fs,∃x t,v=Value.int x t
 |[],_,_,_,_=>⟨[],KatTups.nil,rfl,λ _ z=>nomatch z⟩
 |b::bs,[],h,_,_=>by simp at h
 |b::bs,n::ns,hl,h3,hg=>by
  obtain ⟨fs,k1,k2,k3⟩:=VZ bs ns (by simpa using hl) (λ m hm=>h3 m (.tail _ hm)) λ i c m e1 e2=>hg (i+1) c m (by simpa using e1) (by simpa using e2);obtain ⟨its,⟨o,o1,o2,q,o3⟩,i1⟩:=hg 0 b n rfl rfl;have hn:=h3 n (.head _);cases i1 with
  |nil=>simp at hn
  |cons x t r=>
   refine ⟨.int x t::fs,KatTups.cons o1 o2 o3 (by simp) k1,by simp[k2],λ v hv=>?_⟩;rcases List.mem_cons.mp hv with rfl|hv
   ·exact ⟨x,t,rfl⟩
   ·exact k3 v hv
def Et{X:Cx}(hcm:X.calm=true):n9 X (.builtin "sorted") (λ xs H Q=>∃(a:Addr) (kvs:List (List Key×V)) (ns:List (List Int)),xs=[.ref a]/\Rd H a (.dT kvs)/\kvs.map (·.1)=ns.map (·.map Sum.inl)/\ns.length<4096/\(∀n∈ns,n.length=3)/\∀(bs:List Addr) (r:Addr) (ix:List Nat),H r=none->bs.length=ns.length->(∀(i:Nat) (b:Addr) (n:List Int),bs[i]? =some b->ns[i]? =some n->H b=some (.tup (n.map V.int)))->ix.Perm (List.range ns.length)->ix.Pairwise (λ i j=>dZ (ns.getD i []) (ns.getD j [])=true)->Q (.ref r) (upd H r (.lst (ix.map λ i=>V.ref (bs.getD i 0))))):=by
 intro pins s σ H xs us Q I rr ⟨a,kvs,ns,ex,rd,hk,h64,h3,q⟩;subst ex;obtain ⟨u,rfl,ru⟩:=vals1 rr;cases ru;obtain ⟨z,hy,ys,rel,od,es,ep,g1,g2,g3,g4,g5,nd⟩:=zK I.hok rd;have ly:ys.length=ns.length:=by have e1:=congrArg List.length hk;simp only[List.length_map] at e1;rw[<-e1];exact (Paired.length rel).symm
 have P0:∀(i:Nat) (b:Addr) (n:List Int),(ys.map (·.2.1))[i]? =some b->ns[i]? =some n->H b=some (.tup (n.map V.int)):=λ i b n e1 e2=>by
  rw[List.getElem?_map,Option.map_eq_some_iff] at e1;obtain ⟨y,e1,rfl⟩:=e1;have e3:(kvs.map (·.1))[i]? =some (n.map Sum.inl):=by rw[hk,List.getElem?_map,e2];rfl
  rw[List.getElem?_map,Option.map_eq_some_iff] at e3;obtain ⟨p,e3,e4⟩:=e3;obtain ⟨_,r2,_⟩:=iI rel e3 e1;rw[e4,xA] at r2;exact r2
 have ndn:ns.Nodup:=by
  have e1:ys.map (·.1)=kvs.map (·.1):=by
   apply List.ext_getElem?;intro i;rw[List.getElem?_map,List.getElem?_map];cases e2:ys[i]? with
   |none=>
    have:kvs[i]? =none:=by rw[List.getElem?_eq_none_iff] at e2 ⊢;rw[Paired.length rel];exact e2
    rw[this];rfl
   |some y=>
    have hl:i<kvs.length:=by rw[Paired.length rel];exact (List.getElem?_eq_some_iff.mp e2).1
    rw[List.getElem?_eq_getElem hl];exact congrArg some (iI rel (List.getElem?_eq_getElem hl) e2).1.symm
  rw[e1,hk] at nd;exact (List.pairwise_map.mp nd).imp λ h e=>h (by rw[e])
 let bs:=ys.map (·.2.1)
 have lb:bs.length=ns.length:=by rw[List.length_map];exact ly
 let Good:List Value->Heap->Prop:=λ vs h=>vs=bs.map Value.ref/\∀(i:Nat) (b:Addr) (n:List Int),bs[i]? =some b->ns[i]? =some n->∃its:List Value,IsTup h b its.toArray/\IntsAre its n
 have gk:∀vs h1 h2,(∀b o,h1.get? b=some o->h2.get? b=some o)->Good vs h1->Good vs h2:=λ vs h1 h2 k ⟨e,g⟩=>⟨e,λ i b n e1 e2=>let ⟨its,t,i1⟩:=g i b n e1 e2;⟨its,t.keeps k,i1⟩⟩;have g0:Good (bs.map Value.ref) s.heap:=⟨rfl,λ i b n e1 e2=>by obtain ⟨_,its,r,t⟩:=I.hok b _ (P0 i b n e1 e2);exact ⟨its,t,intsAre_of r⟩⟩;have at2:∀{i:Nat},i<ns.length->∃b n,bs[i]? =some b/\ns[i]? =some n/\(bs.map Value.ref).getD i .none= .ref b/\ns.getD i []=n:=λ{i} hi=>by
  have hb:i<bs.length:=by rw[lb];exact hi
  exact ⟨bs[i],ns[i],List.getElem?_eq_getElem hb,List.getElem?_eq_getElem hi,by simp[List.getD_eq_getElem?_getD,hb],by simp[List.getD_eq_getElem?_getD,hi]⟩
 have O:Ord (λ i j=>dZ (ns.getD i []) (ns.getD j [])) ns.length:=⟨λ i j hi hj hij=>by refine pJ _ _ λ e=>hij ?_;obtain ⟨_,n,_,e1,_,e2⟩:=at2 hi;obtain ⟨_,m,_,e3,_,e4⟩:=at2 hj;rw[e2,e4] at e;subst e;exact (List.getElem?_inj hi ndn).mp (e1.trans e3.symm),λ i j k _ _ _=>qd _ _ _⟩;refine qV (Good:=Good) (l:=a) (λ A' E' R hA h=>?_) gk λ vs h' gd=>?_
 ·refine Ep (by rw[hA];exact I.ok.hd hcm) hy ⟨od,g1,g2.1,g3⟩ ?_ λ h' tk kp sz=>?_
  ·have:es.size=ys.length:=by rw[<-Array.length_toList,g4,List.length_map]
   rw[this,ly,sizeLine_eq];omega
  ·have e:es.toList.map (·.key)=bs.map Value.ref:=by rw[g4,List.map_map,List.map_map];rfl
   rw[e];exact h _ h' tk kp (Nat.le_of_lt sz) (gk _ _ _ kp g0)
 ·obtain ⟨rfl,_⟩:=id gd;have lv:(bs.map Value.ref).length=ns.length:=by rw[List.length_map,lb]
  refine ⟨by rw[lv];exact h64,λ i j=>dZ (ns.getD i []) (ns.getD j []),tuples' true,by rw[lv];exact O,λ h2 A' sf tk E' Q' gd' q'=>?_,λ A' sf tk i j Q' hu gd' hi hj hij q'=>?_,λ sf tk r e ix kp hr gd' er hp pw=>?_⟩
  ·obtain ⟨fs,k1,k2,k3⟩:=VZ bs ns lb h3 gd'.2;rw[lv] at h2;refine kat_kind (s:=Shared.mk sf s.gens s.drawn tk s.os) (fs:=fs) (T:= .type "int") k1 (by rw[k2,lb];omega) (λ v hv=>?_) rfl q';obtain ⟨x,t,rfl⟩:=k3 v hv;exact Cd
  ·rw[lv] at hi hj;obtain ⟨b,n,e1,e2,e3,e4⟩:=at2 hi;obtain ⟨c,m,f1,f2,f3,f4⟩:=at2 hj;rw[e3,f3];obtain ⟨its,⟨ob,o1,o2,k1,o3⟩,i1⟩:=gd'.2 i b n e1 e2;obtain ⟨jts,⟨oc,p1,p2,k2,p3⟩,i2⟩:=gd'.2 j c m f1 f2;have ln:=h3 n (List.mem_of_getElem? e2);have lm:=h3 m (List.mem_of_getElem? f2);refine kat_lt (s:=Shared.mk sf s.gens s.drawn tk s.os) o1 o3 p1 p3 ?_;have z1:its.length=3:=by rw[<-ln];exact i1.length
   have z2:jts.length=3:=by rw[<-lm];exact i2.length
   rw[show decide (its.toArray.size<jts.toArray.size)=false by simp[z1,z2]];refine yY 0 i1 i2 (by rw[ln,lm]) ?_;rw[<-e4, <-f4];exact q'
  ·rw[lv] at hp;have vals:Vals (ix.map λ i=>V.ref (bs.getD i 0)) (ix.map λ i=>(bs.map Value.ref).getD i Value.none):=by
    have:∀l:List Nat,(∀i∈l,i<ns.length)->Vals (l.map λ i=>V.ref (bs.getD i 0)) (l.map λ i=>(bs.map Value.ref).getD i Value.none):=by
     intro l;induction l with
     |nil=>exact λ _=> .nil
     |cons i l ih=>intro hl;obtain ⟨b,_,e1,_,e3,_⟩:=at2 (hl i (.head _));refine .cons ?_ (ih λ j hj=>hl j (.tail _ hj));show L2.RelV (V.ref (bs.getD i 0)) ((bs.map Value.ref).getD i Value.none);rw[e3];show Value.ref b=Value.ref (bs.getD i 0);rw[List.getD_eq_getElem?_getD,e1];rfl
    exact this ix λ i hi=>by simpa using hp.mem_iff.mp hi
   have lx:ix.length<4096:=by rw[hp.length_eq,List.length_range];exact h64
   exact ⟨.ref r,_,I.laid (t':=tk) kp hr (show b9 X.prog X.w _ sf _ (.lst (ix.map λ i=>V.ref (bs.getD i 0))) from ⟨by rw[sizeLine_eq,List.length_map];omega,_,e,vals,er⟩),rfl,q bs r ix (I.hok.fresh hr) lb P0 hp pw⟩
def xZ(H:Hp):List (Addr×HO)->Hp
 |[]=>H
 |p::l=>upd (xZ H l) p.1 p.2
def sE{H:Hp}{b:Addr}:∀{l:List (Addr×HO)},(∀p∈l,p.1≠b)->xZ H l b=H b
 |[],_=>rfl
 |p::l,h=>by show upd (xZ H l) p.1 p.2 b=H b;rw[aC (Ne.symm (h p (.head _)))];exact sE λ q hq=>h q (.tail _ hq)
def wZ{H:Hp}{a:Addr}{o:HO}:∀{l:List (Addr×HO)},(l.map (·.1)).Nodup->(a,o)∈l->xZ H l a=some o
 |p::l,nd,hm=>by
  show upd (xZ H l) p.1 p.2 a=some o;rcases List.mem_cons.mp hm with e|hm
  ·subst e;exact aD
  ·have:a≠p.1:=λ z=>by have:=(List.nodup_cons.mp nd).1;exact this (List.mem_map.mpr ⟨(a,o),hm,z⟩)
   rw[aC this];exact wZ (List.nodup_cons.mp nd).2 hm
def lX{H:Hp}{l:List (Addr×HO)}(h:∀p∈l,H p.1=none):au H (xZ H l):=λ b o e=>by rw[sE λ p hp z=>by rw[<-z,h p hp] at e;cases e];exact e
def RS{P:Program}{w:World}{H:Hp}{h h':Heap}{l:List (Addr×HO)}(x:pW P w H h)(k:∀b u,h.get? b=some u->h'.get? b=some u)(hp:∀p∈l,h.objs.size<=p.1)(nd:(l.map (·.1)).Nodup)(new:∀p∈l,b9 P w (xZ H l) h' p.1 p.2):pW P w (xZ H l) h':=λ b u e=>by
 have fr:∀p∈l,H p.1=none:=λ p q=>x.fresh (hp p q);have sm:=lX fr;by_cases q:∃p∈l,p.1=b
 ·obtain ⟨p,hm,rfl⟩:=q;rw[wZ nd (show (p.1,p.2)∈l from hm)] at e;cases e;exact new p hm
 ·rw[sE λ p hm z=>q ⟨p,hm,z⟩] at e;exact (x b u e).stay (λ c v _ z=>k c v z) (λ c z=>sm c _ z) λ c xs z=>sm c _ z
def TQ{fs ex:List Addr}{H:Hp}{h h':Heap}{l:List (Addr×HO)}(k:∀b u,h.get? b=some u->h'.get? b=some u)(hp:∀p∈l,h.objs.size<=p.1)(fr:∀p∈l,H p.1=none):Un fs ex H (xZ H l) h h' where
 keep:=λ b u q _ _ _=>k b u q
 slot:=λ b u q _ _ _=>⟨u.slots,k b u q⟩
 free:=λ b u q n _=>by rw[sE λ p hm=>Ne.symm (Nat.ne_of_lt (Nat.lt_of_lt_of_le (Heap.lt_size q) (hp p hm)))];exact n
 there:=λ b u q _=>⟨u,k b u q⟩
 tups:=λ b xs q=>lX fr b _ q
 rQ:=λ b u xs q=>lX fr b _ q
 sH:=λ b ps q=>⟨#[],by rw[lX fr b _ q];simp⟩
def Gz:∀x y:List Int,HT.lexLt x y=dZ x y
 |[],[]=>rfl
 |[],_::_=>rfl
 |_::_,[]=>rfl
 |a::x,b::y=>by show (if a=b then HT.lexLt x y else _)=(if a=b then dZ x y else _);rw[Gz x y]
noncomputable def prs(bs:List Addr)(vs:List V)(as:List Addr):List (Addr×HO):=as.zip ((bs.zip vs).map λ p=>HO.tup [.ref p.1,p.2])
def Eu{X:Cx}(hcm:X.calm=true){pins:List (Addr×Obj)}{s:Shared}{σ:St}{H:Hp}{a:Addr}{kvs:List (List Key×V)}{ns:List (List Int)}{Q:VK}{v:Addr}(I:Inv X pins σ H s)(hv:s.heap.get? v=some (Zv a))(hu:X.A.units+8<cLine)(rd:Rd H a (.dT kvs))(hk:kvs.map (·.1)=ns.map (·.map Sum.inl))(h64:ns.length<4096)(h3:∀n∈ns,n.length=3) (q:∀(bs as:List Addr) (r:Addr) (ix:List Nat),H r=none->r∉as->as.Nodup->(∀b∈as,H b=none)->as.length=ns.length->bs.length=ns.length->(∀(i:Nat) (b:Addr) (n:List Int),bs[i]? =some b->ns[i]? =some n->H b=some (.tup (n.map V.int)))->ix.Perm (List.range ns.length)->ix.Pairwise (λ i j=>dZ (ns.getD i []) (ns.getD j [])=true)->Q (.ref r) (xZ H ((r,HO.lst (ix.map λ i=>V.ref (as.getD i 0)))::prs bs (kvs.map (·.2)) as))):
  wpAny (model X.prog X.w) X.A (call (.builtin "sorted") [.ref v]) (EP X pins σ Q) X.xe s:=by
 obtain ⟨z,hy,ys,rel,od,es,ep,g1,g2,g3,g4,g5,nd⟩:=zK I.hok rd;have lk:kvs.length=ns.length:=by have e1:=congrArg List.length hk;simpa only[List.length_map] using e1
 have ly:ys.length=ns.length:=by rw[<-lk];exact (Paired.length rel).symm
 have P0:∀(i:Nat) (b:Addr) (n:List Int),(ys.map (·.2.1))[i]? =some b->ns[i]? =some n->H b=some (.tup (n.map V.int)):=λ i b n e1 e2=>by
  rw[List.getElem?_map,Option.map_eq_some_iff] at e1;obtain ⟨y,e1,rfl⟩:=e1;have e3:(kvs.map (·.1))[i]? =some (n.map Sum.inl):=by rw[hk,List.getElem?_map,e2];rfl
  rw[List.getElem?_map,Option.map_eq_some_iff] at e3;obtain ⟨p,e3,e4⟩:=e3;obtain ⟨_,r2,_⟩:=iI rel e3 e1;rw[e4,xA] at r2;exact r2
 have ndn:ns.Nodup:=by
  have e1:ys.map (·.1)=kvs.map (·.1):=by
   apply List.ext_getElem?;intro i;rw[List.getElem?_map,List.getElem?_map];cases e2:ys[i]? with
   |none=>
    have:kvs[i]? =none:=by rw[List.getElem?_eq_none_iff] at e2 ⊢;rw[Paired.length rel];exact e2
    rw[this];rfl
   |some y=>
    have hl:i<kvs.length:=by rw[Paired.length rel];exact (List.getElem?_eq_some_iff.mp e2).1
    rw[List.getElem?_eq_getElem hl];exact congrArg some (iI rel (List.getElem?_eq_getElem hl) e2).1.symm
  rw[e1,hk] at nd;exact (List.pairwise_map.mp nd).imp λ h e=>h (by rw[e])
 let bs:=ys.map (·.2.1)
 have lb:bs.length=ns.length:=by rw[List.length_map];exact ly
 have esz:es.size=ns.length:=by rw[<-Array.length_toList,g4,List.length_map,ly]
 -- Ao keys,ahe ao5 stand
 let abP:Heap->Prop:=λ h=>∀(i:Nat) (b:Addr) (n:List Int),bs[i]? =some b->ns[i]? =some n->∃its:List Value,IsTup h b its.toArray/\IntsAre its n/\(tupleKind (cI X.prog X.w)).is h (n.map Sum.inl) b
 have kk:∀h1 h2,(∀b o,h1.get? b=some o->h2.get? b=some o)->abP h1->abP h2:=λ h1 h2 k g i b n e1 e2=>by obtain ⟨its,t,i1,o,its',m,o1,o2,o3,o4⟩:=g i b n e1 e2;exact ⟨its,t.keeps k,i1,o,its',m,k _ _ o1,o2,o3,o4⟩
 have k0:abP s.heap:=λ i b n e1 e2=>by have hb:=P0 i b n e1 e2;obtain ⟨_,its,r,t⟩:=I.hok b _ hb;exact ⟨its,t,intsAre_of r,zl I.hok (by rw[xA];exact hb)⟩
 let Good:List Value->Heap->Prop:=λ vs h=>abP h/\∃as:List Addr,vs=as.map Value.ref/\as.length=ns.length/\as.Pairwise (· < ·)/\(∀b∈as,s.heap.objs.size<b)/\∀(i:Nat) (b:Addr),as[i]? =some b->∃y,ys[i]? =some y/\h.get? b=some (QM (.ref y.2.1) y.2.2)
 have gk:∀vs h1 h2,(∀b o,h1.get? b=some o->h2.get? b=some o)->Good vs h1->Good vs h2:=λ vs h1 h2 k ⟨g,as,a1,a2,a3,a4,a5⟩=>⟨kk _ _ k g,as,a1,a2,a3,a4,λ i b e=>let ⟨y,e1,e2⟩:=a5 i b e;⟨y,e1,k _ _ e2⟩⟩;have kv:∀b o,s.heap.get? b=some o->s.heap.get? b=some o:=λ b o e=>e;refine qV (s:=s) (Good:=Good) (λ A' E' R hA h=>?_) gk λ vs h' gd=>?_
 ·refine Bp (s:=s) (es:=es) (ep:=ep) (by rw[hA];exact I.ok.hd hcm) hv ⟨od,kv _ _ g1,g3⟩ (by rw[esz,sizeLine_eq];omega) λ h' tk as kp hl T sz=>?_;refine h _ h' tk kp (Nat.le_of_lt sz) ⟨kk _ _ (λ b o e=>kp b o (kv b o e)) k0,as,rfl,by rw[hl,esz],T.nd,λ b hb=>?_,λ i b e=>?_⟩
  ·exact (T.above b hb).1
  ·obtain ⟨en,e1,e2⟩:=T.pair i b e;have e3:(ys.map (entryOfKey (tupleKind (cI X.prog X.w))))[i]? =some en:=by rw[<-g4];simpa using e1
   rw[List.getElem?_map,Option.map_eq_some_iff] at e3;obtain ⟨y,e4,rfl⟩:=e3;exact ⟨y,e4,e2⟩
 ·obtain ⟨_,as,rfl,la,pa,ab,_⟩:=id gd;have lv:(as.map Value.ref).length=ns.length:=by rw[List.length_map,la]
  have at2:∀{i:Nat},i<ns.length->∃b c n y,bs[i]? =some b/\as[i]? =some c/\ns[i]? =some n/\ys[i]? =some y/\b=y.2.1/\(as.map Value.ref).getD i .none= .ref c/\ns.getD i []=n:=λ{i} hi=>by
   have ha:i<as.length:=by rw[la];exact hi
   have hyl:i<ys.length:=by rw[ly];exact hi
   exact ⟨ys[i].2.1,as[i],ns[i],ys[i],by rw[List.getElem?_map,List.getElem?_eq_getElem hyl];rfl,List.getElem?_eq_getElem ha,List.getElem?_eq_getElem hi,List.getElem?_eq_getElem hyl,rfl,by simp[List.getD_eq_getElem?_getD,ha],by simp[List.getD_eq_getElem?_getD,hi]⟩
  have inj:∀{i j:Nat} {n:List Int},i<ns.length->ns[i]? =some n->ns[j]? =some n->i=j:=λ hi e1 e3=>(List.getElem?_inj hi ndn).mp (e1.trans e3.symm);have O:Ord (λ i j=>dZ (ns.getD i []) (ns.getD j [])) ns.length:=⟨λ i j hi hj hij=>by refine pJ _ _ λ e=>hij ?_;obtain ⟨_,_,n,_,_,_,e1,_,_,_,e2⟩:=at2 hi;obtain ⟨_,_,m,_,_,_,e3,_,_,_,e4⟩:=at2 hj;rw[e2,e4] at e;subst e;exact inj hi e1 e3,λ i j k _ _ _=>qd _ _ _⟩;refine ⟨by rw[lv];exact h64,λ i j=>dZ (ns.getD i []) (ns.getD j []),tuples' false,by rw[lv];exact O,λ h2 A' sf tk E' Q' gd' q'=>?_,λ A' sf tk i j Q' hu' gd' hi hj hij q'=>?_,λ sf tk r e ix kp hr gd' er hp pw=>?_⟩
  ·obtain ⟨kkk,as',ea,la',_,_,g'⟩:=gd';have:as=as':=by have:=congrArg (List.map λ v=>match v with|Value.ref a=>a|_=>0) ea;simpa[List.map_map,Function.comp_def] using this
   subst this;rw[lv] at h2;have mk:∀(l:List Addr) (m:List (List Key×Addr×Value)),l.length=m.length->(∀(i:Nat) (c:Addr),l[i]? =some c->∃y,m[i]? =some y/\sf.get? c=some (QM (.ref y.2.1) y.2.2))->KatTups sf (l.map Value.ref) (m.map λ y=>Value.ref y.2.1):=by
    intro l;induction l with
    |nil=>intro m hl _;cases m with
     |nil=>exact KatTups.nil
     |cons _ _=>simp at hl
    |cons c l ih=>intro m hl hg;cases m with
     |nil=>simp at hl
     |cons y m=>obtain ⟨y',z1,z2⟩:=hg 0 c rfl;cases z1;exact KatTups.cons z2 rfl rfl rfl (ih m (by simpa using hl) λ i c' e'=>hg (i+1) c' (by simpa using e'))
   have kt:=mk as ys (by rw[la,ly]) g';refine kat_kind (s:=Shared.mk sf s.gens s.drawn tk s.os) (T:= .type "tuple") kt (by rw[List.length_map,ly];omega) (λ v hv=>?_) rfl q';obtain ⟨y,hm,rfl⟩:=List.mem_map.mp hv;obtain ⟨i,hi⟩:=List.mem_iff_getElem?.mp hm;have il:i<ns.length:=by rw[<-ly];exact (List.getElem?_eq_some_iff.mp hi).1
   obtain ⟨b,c,n,y',e1,_,e3,e4,rfl,_,_⟩:=at2 il;rw[hi] at e4;cases e4;obtain ⟨its,⟨o,o1,o2,_⟩,_⟩:=kkk i _ n e1 e3;rw[<-o2];exact (Looks.ld o1).andThen .now
  ·rw[lv] at hi hj;obtain ⟨b,c,n,y,e1,e2,e3,e4,rfl,e5,e6⟩:=at2 hi;obtain ⟨b',c',m,y',f1,f2,f3,f4,rfl,f5,f6⟩:=at2 hj;rw[e5,f5];obtain ⟨gk',as',ea,_,_,_,g'⟩:=gd';have:as=as':=by have:=congrArg (List.map λ v=>match v with|Value.ref a=>a|_=>0) ea;simpa[List.map_map,Function.comp_def] using this
   subst this;obtain ⟨y1,z1,z2⟩:=g' i c e2;rw[e4] at z1;cases z1;obtain ⟨y2,w1,w2⟩:=g' j c' f2;rw[f4] at w1;cases w1;obtain ⟨its,t1,i1,k1⟩:=gk' i _ n e1 e3;obtain ⟨jts,t2,i2,k2⟩:=gk' j _ m f1 f3;refine kat_lt (s:=Shared.mk sf s.gens s.drawn tk s.os) z2 rfl w2 rfl ?_;have hu2:A'.units<cLine:=Nat.lt_trans hu' hu;refine kat_cons (wpAny_eqBool_tuple (s:=Shared.mk sf s.gens s.drawn tk s.os) hu2 k1 k2 (kat_go (λ z=>?_) (λ z=>kat_no (kat_one _ _ (HT.JS t1 t2 (by simpa using i1) (by simpa using i2) hu2 ?_)))))
   ·have:n=m:=Gv (by simpa using z);subst this;exact absurd (inj hi e3 f3) hij
   ·show Q' (HT.lexLt n m) _;rw[Gz, <-e6, <-f6];exact q'
  ·rw[lv] at hp;obtain ⟨_,as',ea,la',_,_,g'⟩:=gd';have:as=as':=by have:=congrArg (List.map λ v=>match v with|Value.ref a=>a|_=>0) ea;simpa[List.map_map,Function.comp_def] using this
   subst this;have lx:ix.length<4096:=by rw[hp.length_eq,List.length_range];exact h64
   have rS:s.heap.objs.size<=r:=hr;have kp':∀b u,s.heap.get? b=some u->sf.get? b=some u:=λ b u e=>kp b u (kv b u e);have rna:r∉as:=λ hm=>by obtain ⟨i,hi⟩:=List.mem_iff_getElem?.mp hm;obtain ⟨y,_,z2⟩:=g' i r hi;rw[er] at z2;have:=congrArg (λ o:Option Obj=>o.map (·.cls)) z2;simp[seqObj,QM] at this
   have ndA:as.Nodup:=pa.imp λ h=>Nat.ne_of_lt h;have frA:∀b∈as,H b=none:=λ b hb=>I.hok.fresh (Nat.le_of_lt (ab b hb));have m1:(prs bs (kvs.map (·.2)) as).map (·.1)=as:=by unfold prs;rw[List.map_fst_zip];rw[List.length_map,List.length_zip,List.length_map,List.length_map,la,ly,lk];exact Nat.le_of_eq (Nat.min_self _).symm
   have aih:∀p∈prs bs (kvs.map (·.2)) as,∃i c b v,p=(c,HO.tup [.ref b,v])/\as[i]? =some c/\bs[i]? =some b/\(kvs.map (·.2))[i]? =some v:=λ p hp=>by obtain ⟨i,hi⟩:=List.mem_iff_getElem?.mp hp;unfold prs at hi;rw[List.getElem?_zip_eq_some] at hi;obtain ⟨z1,z2⟩:=hi;rw[List.getElem?_map,Option.map_eq_some_iff] at z2;obtain ⟨pp,z2,z3⟩:=z2;rw[List.getElem?_zip_eq_some] at z2;exact ⟨i,p.1,pp.1,pp.2,by rw[z3],z1,z2.1,z2.2⟩
   have hpl:∀p∈(r,HO.lst (ix.map λ i=>V.ref (as.getD i 0)))::prs bs (kvs.map (·.2)) as,s.heap.objs.size<=p.1:=λ p hp=>by
    rcases List.mem_cons.mp hp with rfl|hp
    ·exact rS
    ·obtain ⟨i,c,b,v,rfl,z1,_⟩:=aih p hp;exact Nat.le_of_lt (ab c (List.mem_of_getElem? z1))
   have ndl:(((r,HO.lst (ix.map λ i=>V.ref (as.getD i 0)))::prs bs (kvs.map (·.2)) as).map (·.1)).Nodup:=by rw[List.map_cons,m1];exact List.nodup_cons.mpr ⟨rna,ndA⟩
   have vals:Vals (ix.map λ i=>V.ref (as.getD i 0)) (ix.map λ i=>(as.map Value.ref).getD i Value.none):=by
    have:∀l:List Nat,(∀i∈l,i<ns.length)->Vals (l.map λ i=>V.ref (as.getD i 0)) (l.map λ i=>(as.map Value.ref).getD i Value.none):=by
     intro l;induction l with
     |nil=>exact λ _=> .nil
     |cons i l ih=>intro hl;obtain ⟨_,c,_,_,_,e1,_,_,_,e3,_⟩:=at2 (hl i (.head _));refine .cons ?_ (ih λ j hj=>hl j (.tail _ hj));show L2.RelV (V.ref (as.getD i 0)) ((as.map Value.ref).getD i Value.none);rw[e3];show Value.ref c=Value.ref (as.getD i 0);rw[List.getD_eq_getElem?_getD,e1];rfl
    exact this ix λ i hi=>by simpa using hp.mem_iff.mp hi
   refine ⟨.ref r,_,I.un (t':=tk) (TQ kp' hpl λ p hp=>I.hok.fresh (hpl p hp)) (RS I.hok kp' hpl ndl λ p hp=>?_),rfl,q bs as r ix (I.hok.fresh rS) rna ndA frA la lb P0 hp pw⟩;rcases List.mem_cons.mp hp with rfl|hp
   ·exact ⟨by rw[sizeLine_eq,List.length_map];omega,_,e,vals,er⟩
   ·obtain ⟨i,c,b,v,rfl,z1,z2,z3⟩:=aih p hp;obtain ⟨y,w1,w2⟩:=g' i c z1;rw[List.getElem?_map,Option.map_eq_some_iff] at z2 z3;obtain ⟨y',z2,rfl⟩:=z2;obtain ⟨p,z3,rfl⟩:=z3;rw[w1] at z2;cases z2;obtain ⟨_,_,r3⟩:=iI rel z3 w1;exact ⟨by rw[sizeLine_eq];simp,[.ref y.2.1,y.2.2],.cons rfl (.cons r3 .nil),_,w2,rfl,_,rfl⟩
section
variable{X:Cx}{ct:Ct}{e:Expr}{es:List Expr}{f:Sg->Res D}{fa:Sg->Res (List D)}{p pos:Pos}
def BP{K:W.Frag}{H:Hp}:∀n:List Int,aE K ct H (n.map D.int) (n.map V.int)
 |[]=>aE.nil
 |i::n=>aE.cons (by simp[Tl]) (BP n)
def CP{K:W.Frag}{H:Hp}{b:Addr}{n:List Int}(h:H b=some (.tup (n.map V.int))):Tl K ct H (tupI n) (.ref b):=by simp only[tupI,Tl];exact ⟨b,_,rfl,h,BP n⟩
def xh{K:W.Frag}{H:Hp}{α:Type}{g:α->D}{h:α->V}:∀{l:List α},(∀a∈l,Tl K ct H (g a) (h a))->aE K ct H (l.map g) (l.map h)
 |[],_=>aE.nil
 |a::l,q=>aE.cons (q a (.head _)) (xh λ b hb=>q b (.tail _ hb))
def Ic(hcm:X.calm=true)(hm:X.mg "sorted"=none)(ha:xO X ct (e::es) fa)(hg:Gl X "sorted":=by rfl)(he:starEach (e::es) X.env=(false,eval e X.env)::starEach es X.env:=by rfl)(hpl:(backTo pos (starEach es X.env)).any (·.1)=false:=by rfl):WL X ct (.Call (.Name "sorted" p) (e::es) [] pos) (Y3 CU fa):=by
 have ha:=ha.out;refine ⟨?_⟩;refine PE.imp (jw (Et hcm) hg hm (by decide+kernel) ha (by decide) (by decide) he hpl) λ σ H Q ⟨Γ,j,h⟩=>?_;refine HY.bnd j h λ ds vs H' s t j' h'=>?_;unfold CU at h';split at h'
 ·rename_i x;obtain ⟨v,rfl,t1⟩:=wc t;unfold CV at h';split at h'
  ·rename_i ks xs hd;split at h'
   ·rename_i ns hn;split at h'
    ·rename_i hc;obtain ⟨a,us,rfl,q1,q2,q3⟩:=t1.G7 j'.lL j'.lB hd;obtain ⟨n1,n2⟩:=zA hn;have lx:xs.length=ns.length:=by rw[q3.length, <-q2,n1,List.length_map]
     refine ⟨a,_,ns,rfl,q1,by rw[oJ q2];exact n1,hc.1,n2,λ bs r ix hr hb hB hp pw=>?_⟩;have s2:=aT hr (.lst (ix.map λ i=>V.ref (bs.getD i 0)));refine h' r _ _ (s.trans s2) (s.free hr) aD ?_;rw[<-IQ lx hc.2 hp pw,List.map_map];refine xh λ i hi=>?_;have il:i<ns.length:=by simpa using hp.mem_iff.mp hi
     have ib:i<bs.length:=by rw[hb];exact il
     show Tl X.K ct _ (tupI (ns.getD i [])) (V.ref (bs.getD i 0));rw[List.getD_eq_getElem?_getD,List.getD_eq_getElem?_getD,List.getElem?_eq_getElem il,List.getElem?_eq_getElem ib];exact CP (s2 _ _ (hB i _ _ (List.getElem?_eq_getElem ib) (List.getElem?_eq_getElem il)))
    ·exact h'.elim
   ·exact h'.elim
  ·exact h'.elim
 ·exact h'.elim
end
def HS(v a:Addr):Heap->Prop:=λ h=>h.get? v=some (Zv a)
def Wg{P:Program}{w:World}{H:Hp}{h:Heap}{v a:Addr}(e:h.get? v=some (Zv a)):b9 P w H h v (.ext (HS v a)):=⟨e,⟨_,e⟩,λ h1 h2 e1 k=>k _ e1⟩
def adJ(td:TE):TE:=λ σ H Q=>td σ H λ x H1=>∃a,x= .ref a/\IsD H1 a/\∀v,H1 v=none->Q (.ref v) (upd H1 v (.ext (HS v a)))
section
variable{X:Cx}{ct:Ct}{o:Expr}{td:TE}{f:Sg->Res D}{ap cp p pos:Pos}
def FG(ho:PE X o td)(h1:attributeBase o "items" X.env (eval o X.env)=eval o X.env:=by rfl)(h3:(ap.endLine==cp.line)=true:=by rfl):PE X (.Call (.Attribute o "items" ap) [] [] cp) (adJ td):=by intro pins s σ H Q I h;refine wpAny_Call_method h1 rfl h3 PySem.F.plainAttrs_dict PySem.F.slot_dict_items PySem.F.type_dict_items (dc (ho pins s σ H _ I h) λ u s1 ⟨x,H1,I1,rx,a,ex,d,q1⟩=>?_);subst ex;obtain rfl:u=Value.ref a:=rx;obtain ⟨t1,t2,hy⟩:=Wn I1 d;refine ⟨t1,t2,?_⟩;show wpAny _ _ (callWith cp (.builtin "dict.items") [.ref a] [] []) _ _ s1;refine Calls.callWith_builtin rfl (PyProof.Rows.evalArgs_none ?_);refine wpAny_call_entry PySem.F.slot_dict_items t1 PySem.F.entry_dict_items ?_ (PySem.F.args_dict_items_1 _);unfold Builtin.«dict.items»;refine wpAny_bind ?_;unfold Builtin.Dict.noArgs;refine wpAny_bind (wpAny_notOrdered_dict t1 ?_);show wpAny _ _ (pure a) _ _ s1;refine wpAny_pure ?_;show wpAny _ _ (Builtin.Dict.showsAll a>>=_) _ _ s1;unfold Builtin.Dict.showsAll;rw[if_neg (by rw[hy];exact Bool.false_ne_true)];refine wpAny_bind (wpAny_pure (wpAny_bind (wpAny_newObj_type (wpAny_pure ⟨_,rfl,?_⟩))));have e:(s1.heap.push (Zv a)).get? s1.heap.objs.size=some (Zv a):=Heap.get?_push_size _ rfl;exact ⟨.ref s1.heap.objs.size,_,I1.laid (t':=s1.toks) (λ _ _ z=>Heap.get?_push_of_some _ z) (Nat.le_refl _) (Wg e),rfl,q1 _ (I1.hok.fresh (Nat.le_refl _))⟩
def Er(hcm:X.calm=true)(hu:X.A.units+8<cLine):n9 X (.builtin "sorted") (λ xs H Q=>∃(v a:Addr) (kvs:List (List Key×V)) (ns:List (List Int)),xs=[.ref v]/\H v=some (.ext (HS v a))/\Rd H a (.dT kvs)/\kvs.map (·.1)=ns.map (·.map Sum.inl)/\ns.length<4096/\(∀n∈ns,n.length=3)/\∀(bs as:List Addr) (r:Addr) (ix:List Nat),H r=none->r∉as->as.Nodup->(∀b∈as,H b=none)->as.length=ns.length->bs.length=ns.length->(∀(i:Nat) (b:Addr) (n:List Int),bs[i]? =some b->ns[i]? =some n->H b=some (.tup (n.map V.int)))->ix.Perm (List.range ns.length)->ix.Pairwise (λ i j=>dZ (ns.getD i []) (ns.getD j [])=true)->Q (.ref r) (xZ H ((r,HO.lst (ix.map λ i=>V.ref (as.getD i 0)))::prs bs (kvs.map (·.2)) as))):=by intro pins s σ H xs us Q I rr ⟨v,a,kvs,ns,ex,hv,rd,hk,h64,h3,q⟩;subst ex;obtain ⟨u,rfl,ru⟩:=vals1 rr;cases ru;exact Eu hcm I (I.hok v _ hv).1 hu rd hk h64 h3 q
def Ie(hcm:X.calm=true)(hu:X.A.units+8<cLine)(hm:X.mg "sorted"=none)(ho:WD X ct o f)(hg:Gl X "sorted":=by rfl)(h1:attributeBase o "items" X.env (eval o X.env)=eval o X.env:=by rfl)(h3:(ap.endLine==cp.line)=true:=by rfl)(he:starEach [.Call (.Attribute o "items" ap) [] [] cp] X.env=(false,eval (.Call (.Attribute o "items" ap) [] [] cp) X.env)::starEach [] X.env:=by rfl)(hpl:(backTo pos (starEach [] X.env)).any (·.1)=false:=by rfl):WL X ct (.Call (.Name "sorted" p) [.Call (.Attribute o "items" ap) [] [] cp] [] pos) (λ Γ=>(f Γ).bnd yh):=by
 have ho:=ho.out;refine ⟨?_⟩;refine PE.imp (jw (Er hcm hu) hg hm (by decide+kernel) (ja (FG ho h1 h3) qY) (by decide) (by decide) he hpl) λ σ H Q ⟨Γ,j,h⟩=>?_;refine nY.bnd j h λ d x H1 s t j1 h'=>?_;unfold yh at h';split at h'
 ·rename_i ks xs hd;split at h'
  ·rename_i ns hn;split at h'
   ·rename_i hc;obtain ⟨a,us,rfl,q1,q2,q3⟩:=t.G7 j1.lL j1.lB hd;obtain ⟨n1,n2⟩:=zA hn;have lx:xs.length=ns.length:=by rw[q3.length, <-q2,n1,List.length_map]
    refine ⟨a,rfl,.inr ⟨_,q1⟩,λ v hv=>?_⟩;have s2:=aT hv (.ext (HS v a));have q1':Rd (upd H1 v (.ext (HS v a))) a (.dT (ks.zip us)):=q1.imp (λ z=>s2 _ _ z) λ⟨o,z⟩=>⟨o,s2 _ _ z⟩;refine ⟨v,a,_,ns,rfl,aD,q1',by rw[oJ q2];exact n1,hc.1,n2,λ bs as r ix hr hra hnd hfr la lb hB hp pw=>?_⟩;have vals:(ks.zip us).map (·.2)=us:=List.map_snd_zip (by omega);rw[vals];have m1:(prs bs us as).map (·.1)=as:=by unfold prs;rw[List.map_fst_zip];rw[List.length_map,List.length_zip,la,lb, <-q2,n1,List.length_map];exact Nat.le_of_eq (Nat.min_self _).symm
    have fr:∀p∈(r,HO.lst (ix.map λ i=>V.ref (as.getD i 0)))::prs bs us as,(upd H1 v (.ext (HS v a))) p.1=none:=λ p hp=>by
     rcases List.mem_cons.mp hp with rfl|hp
     ·exact hr
     ·exact hfr p.1 (by rw[<-m1];exact List.mem_map_of_mem (f:=(·.1)) hp)
    have ndl:(((r,HO.lst (ix.map λ i=>V.ref (as.getD i 0)))::prs bs us as).map (·.1)).Nodup:=by rw[List.map_cons,m1];exact List.nodup_cons.mpr ⟨hra,hnd⟩
    have s3:=lX fr;have sm:=(s.trans s2).trans s3;refine h' r _ _ sm ((s.trans s2).free hr) (wZ ndl (.head _)) ?_;rw[<-IQ lx hc.2 hp pw,List.map_map];refine xh λ i hi=>?_;have il:i<ns.length:=by simpa using hp.mem_iff.mp hi
    have ib:i<bs.length:=by rw[lb];exact il
    have ia:i<as.length:=by rw[la];exact il
    have ixx:i<xs.length:=by rw[lx];exact il
    have iu:i<us.length:=by rw[<-q3.length];exact ixx
    show Tl X.K ct _ (.tup [tupI (ns.getD i []),xs.getD i .dY]) (V.ref (as.getD i 0));rw[List.getD_eq_getElem?_getD,List.getD_eq_getElem?_getD,List.getD_eq_getElem?_getD,List.getElem?_eq_getElem il,List.getElem?_eq_getElem ia,List.getElem?_eq_getElem ixx];simp only[Tl];refine ⟨as[i],[.ref bs[i],us[i]],rfl,wZ ndl (.tail _ ?_),aE.cons (CP (s3 _ _ (hB i _ _ (List.getElem?_eq_getElem ib) (List.getElem?_eq_getElem il)))) (aE.cons ?_ aE.nil)⟩
    ·refine List.mem_iff_getElem?.mpr ⟨i,?_⟩;unfold prs;rw[List.getElem?_zip_eq_some];refine ⟨List.getElem?_eq_getElem ia,?_⟩;rw[List.getElem?_map,List.getElem?_eq_getElem (by rw[List.length_zip];omega),List.getElem_zip];rfl
    ·obtain ⟨d,hd',td⟩:=(q3.keep (au.keep (s2.trans s3))).get' (List.getElem?_eq_getElem iu);rw[List.getElem?_eq_getElem ixx] at hd';cases hd';exact td
   ·exact h'.elim
  ·exact h'.elim
 ·exact h'.elim
end
section
variable{X:Cx}{c:Cf}{e:Expr}{fm:Sg->Res M}{pos:Pos}
end
end L4
end
section
namespace L4
open PySem PySem.Spec PyProof.Rows L2
section
variable{X:Cx}{pins:List (Addr×Obj)}{σ:St}{H:Hp}{s:Shared}
def ZA{t':Nat}{h':Heap}{ch:List Addr}{T:Addr}{o:HO}(I:Inv X pins σ H s)(k:∀b o,b∉ch->s.heap.get? b=some o->h'.get? b=some o)(hf:∀b∈ch,BC X pins H b)(hT:s.heap.objs.size<=T) (new:b9 X.prog X.w (upd H T o) h' T o):Inv X pins σ (upd H T o) {s with heap:=h',toks:=t'}:=by
 have nit:∀b u,H b=some u->b∉ch:=λ b u e z=>by rw[(hf b z).1] at e;cases e
 have hL:X.env.locals∉ch:=λ z=>(hf _ z).2.1 rfl;have hTn:H T=none:=I.hok.fresh hT;have ne:∀b u,s.heap.get? b=some u->b≠T:=λ b u e=>Nat.ne_of_lt (Nat.lt_of_lt_of_le (Heap.lt_size e) hT);have neH:∀b u,H b=some u->b≠T:=λ b u e z=>by rw[z,hTn] at e;cases e
 refine I.step (g':=s.gens) (d':=s.drawn) (ch:=ch) (λ b hb=>?_) (λ b o _ _ hc e _=>k b o hc e) (λ b o _ _ hc e _=>⟨o.slots,k b o hc e⟩) (λ b o _ e n=>by rw[aC (ne b o e)];exact n)
  (λ b o hc e=>⟨o,k b o hc e⟩) (λ b xs e=>by rw[aC (neH b _ e)];exact e) (λ b o u e=>by rw[aC (neH b _ e)];exact e) (λ b ps e=>⟨#[],by rw[aC (neH b _ e),e];simp⟩) (λ m hm=>?_) (λ b u e=>?_) I.bare
 ·obtain ⟨_,f1,_,f3,f4,f5⟩:=hf b hb;exact ⟨f3,f1,f4,f5⟩
 ·obtain ⟨o,es,ep,ho,r⟩:=hm;exact ⟨o,es,ep,k _ o hL ho,r⟩
 ·by_cases hb:b=T
  ·subst hb;rw[aD] at e;cases e;exact new
  ·rw[aC hb] at e;refine (I.hok b u e).stay (λ c v hc q=>k c v ?_ q) (λ c q=>by rw[aC (neH c _ q)];exact q) λ c u q=>by rw[aC (neH c _ q)];exact q
   rcases hc with z|z
   ·rw[z];exact nit b u e
   ·exact nit c _ z
end
def Ite(K:W.Frag)(a:Addr)(N:Nat):It:=⟨λ i H=>∃xs x,vB K H a xs/\xs.length=N/\xs[i]? =some x,λ i H x H'=>∃p v,H p=none/\(∀xs,vB K H a xs->xs[i]? =some v)/\x= .ref p/\H'=upd H p (.tup [.int i,v]),λ i H=>∃xs,vB K H a xs/\xs.length=N/\N<=i⟩
def adE{a b:String}(h:a≠b):Value.type a≠Value.type b:=λ z=>h (Value.type.inj z)
def zJ{h:Heap}{e it a:Addr}{i:Int}{j:Nat}{old:Value}{items:Array Value}(h1:IsEnum h e it i old)(h2:h.IsTupleIter it a j)(h3:h.IsTuple a items):e≠it/\e≠a/\a≠it:=by
 obtain ⟨o2,g2,c2,d2⟩:=h2;obtain ⟨o3,g3,c3,_⟩:=h3;refine ⟨λ z=>?_,λ z=>?_,λ z=>?_⟩
 ·subst z;rw[h1] at g2;cases g2;exact adE (by decide) c2
 ·subst z;rw[h1] at g3;cases g3;exact adE (by decide) c3
 ·subst z;rw[g2] at g3;cases g3;rw[c2] at c3;exact adE (by decide) c3
def ID{P:Program}{w:World}{K:W.Frag}{elts:List Expr}{c:Nat}{pos:Pos}(a e it:Addr)(N:Nat):Turn P w K (.Tuple elts c pos) (Ite K a N) [e,it] e (λ i h=>(∃old,IsEnum h e it (i:Nat) old)/\h.IsTupleIter it a i/\i<=N) where
 mem:=by simp
 obj:=λ i h st b hb=>by
  obtain ⟨⟨old,h1⟩,⟨o,e2,c2,d2⟩,_⟩:=st
  simp only[List.mem_cons,List.mem_singleton,List.not_mem_nil,or_false] at hb
  rcases hb with rfl|rfl
  ·exact ⟨_,h1,λ v z=>by cases z⟩
  ·exact ⟨o,e2,λ v z=>by rw[d2] at z;cases z⟩
 keep:=λ i h h' st k=>by
  obtain ⟨⟨old,h1⟩,h2,h3⟩:=st
  exact ⟨⟨old,k e (by simp) _ h1⟩,h2.at λ o z=>k it (by simp) o z,h3⟩
 item:=by
  intro X hP hw hK hc i pins s σ H E I hf st hg
  subst hP hw hK
  obtain ⟨⟨old,h1⟩,h2,h3⟩:=st
  obtain ⟨xs,x,hq,hN,hx⟩:=hg
  obtain ⟨its,rv,p,hz⟩:=I.tuple hq
  obtain ⟨u,hu,ru⟩:=rv.get hx
  have hl:=rv.length
  have p':s.heap.IsTuple a its.toArray:=p
  obtain ⟨n1,n2,n3⟩:=zJ h1 h2 p'
  have hi:i<its.toArray.size:=by
   have:=(List.getElem?_eq_some_iff.mp hu).1
   simpa using this
  refine wpAny_pyNext_enum_itemD (W7 (A:=X.A.in1) (prog:=X.prog) (w:=X.w) (I.ok.hd hc) it a n3 its.toArray) h1 ⟨h2,p'⟩ hi n1 (by simp[n1,n2]) λ y h' tk hy ho st' hT hsz kk=>?_
  have ey:y=u:=by
   rw[List.getElem?_toArray,hu] at hy;exact (Option.some.inj hy).symm
  subst ey
  refine ⟨_,rfl,wpAny_letOwnedTupleGo_enum ho λ sf he2 sb=>?_⟩
  have hTe:s.heap.objs.size≠e:=Nat.ne_of_gt (Heap.lt_size h1)
  have hT2:sf.get? s.heap.objs.size=some {cls:= .type "tuple",data:= .seq #[.int i tk,y]}:=(sb.2 _ hTe).trans hT
  have hfp:=λ b (hb:b∈[e,it])=>hf b hb
  have I2:Inv X pins σ (upd H s.heap.objs.size (.tup [.int i,x])) {s with heap:=sf,toks:=tk+1}:=by
   refine ZA (ch:=[e,it]) I (λ b o hb q=>?_) hfp (Nat.le_refl _) ⟨by simp[sizeLine_eq],[.int i tk,y],.cons ⟨tk,rfl⟩ (.cons ru .nil),_,hT2,rfl,0,rfl⟩
   simp only[List.mem_cons,List.not_mem_nil,or_false,not_or] at hb
   exact (sb.2 b hb.1).trans (kk b o hb.1 hb.2 q)
  refine ⟨.ref s.heap.objs.size,_,I2,rfl,⟨_,x,I.hok.fresh (Nat.le_refl _),λ ys hys=>by rw[I.BO hys hq];exact hx,rfl,rfl⟩,⟨⟨_,he2⟩,?_,?_⟩,λ b hb=>?_⟩
  ·exact st'.1.at λ o z=>(sb.2 it (Ne.symm n1)).trans z
  ·have:=(List.getElem?_eq_some_iff.mp hx).1;omega
  ·have hb0:=hfp b hb
   rw[aC]
   ·exact hb0.1
   ·intro z
    simp only[List.mem_cons,List.not_mem_nil,or_false] at hb
    rcases hb with rfl|rfl
    ·exact hTe z.symm
    ·obtain ⟨o2,g2,_⟩:=h2
     exact absurd z (Nat.ne_of_lt (Heap.lt_size g2))
 done:=by
  intro X hP hw hK hc i pins s σ H E I hf st hg
  subst hP hw hK
  obtain ⟨⟨old,h1⟩,h2,h3⟩:=st
  obtain ⟨xs,hq,hN,hi⟩:=hg
  obtain ⟨its,rv,p,hz⟩:=I.tuple hq
  have hl:=rv.length
  have p':s.heap.IsTuple a its.toArray:=p
  obtain ⟨n1,n2,n3⟩:=zJ h1 h2 p'
  have ei:i=its.toArray.size:=by simp;omega
  subst ei
  refine wpAny_pyNext_enum_endD (W7 (A:=X.A.in1) (prog:=X.prog) (w:=X.w) (I.ok.hd hc) it a n3 its.toArray) h1 ⟨h2,p'⟩ λ h' eb=>⟨rfl,?_⟩
  exact Zy (ch:=[it]) (t':=s.toks) I (λ b o hb q=>eb b o (by simpa using hb) q) λ b hb=>hf b (by simp only[List.mem_singleton] at hb;subst hb;simp)
 self:=λ _ _ _ _ _ st h=>by
  obtain ⟨⟨old,h1⟩,_⟩:=st
  exact wpAny_pyIter_enum h1 h
end L4
end
section
namespace L4
open PySem
noncomputable def qO:Nat->List D->List D
 |_,[]=>[]
 |k,x::t=> .tup [.int k,x]::qO (k+1) t
def acp:List D->Res (List D)
 |[.tup xs]=> .ok (qO 0 xs)
 |_=> .bad
def Wy(r:Sg->Res (List D)):Sg->Res (List D):=λ Γ=>(r Γ).bnd acp
noncomputable def Wc:D->Res (List D)
 | .uh (.t _) []=> .ok []
 |_=> .bad
def PX(f:Sg->Res D):Sg->Res (List D):=λ Γ=>(f Γ).bnd Wc
noncomputable def jK:D->Res (List D)
 | .lst xs=> .ok xs
 | .bor _ xs=> .ok xs
 | .tup xs=> .ok xs
 | .gt xs=> .ok xs
 |_=> .bad
def jz(f:Sg->Res D):Sg->Res (List D):=λ Γ=>(f Γ).bnd jK
@[simp] theorem agP{f:Sg->Res D}{Γ:Sg}:jz f Γ=(f Γ).bnd jK:=(rfl)
@[simp] theorem ahz(xs:List D):jK (.lst xs)= .ok xs:=(rfl)
def Xs:D->D->Res D
 | .tup (x::xs),.tup (y::ys)=>if (x::xs).length+(y::ys).length<=sizeLine then .ok (.tup ((x::xs)++(y::ys))) else .bad
 |_,_=> .bad
def adW:Sg->Out:=λ _=> .bad
def afg(ds:List D):M->Option M
 | .l xs=>if xs.length+ds.length<1000000/\kR ds=true then some (.l (xs++ds)) else none
 |_=>none
def O1(i:Nat)(g:Sg->Res (List Nat))(f:Sg->Res (List D)):Sg->Out:=λ Γ=>oE (g Γ) Γ λ ks=>if Wi (yN i ks Γ)=true then oE (f Γ) Γ λ d=>YZ (yb i ks (afg d) Γ) else .bad
noncomputable def d3:D->Option (List Int)
 | .tup [.int a,.int b,.int c]=>some [a,b,c]
 |_=>none
def d3s:List D->Option (List (List Int))
 |[]=>some []
 |x::t=>match d3 x,d3s t with
  |some n,some ns=>some (n::ns)
  |_,_=>none
def acw{x:D}{n:List Int}(h:d3 x=some n):x=tupI n/\n.length=3:=by
 unfold d3 at h;split at h
 ·cases h;exact ⟨rfl,rfl⟩
 ·cases h
def Xg:∀{xs:List D} {ns:List (List Int)},d3s xs=some ns->xs=ns.map tupI/\∀n∈ns,n.length=3
 |[],ns,h=>by cases h;exact ⟨rfl,λ _ z=>nomatch z⟩
 |x::xs,ns,h=>by
  unfold d3s at h;split at h
  ·rename_i n ms e1 e2;cases h;obtain ⟨a1,a2⟩:=acw e1;obtain ⟨b1,b2⟩:=Xg e2;refine ⟨by rw[a1,b1];rfl,λ m hm=>?_⟩;rcases List.mem_cons.mp hm with rfl|hm
   ·exact a2
   ·exact b2 m hm
  ·cases h
def OY(xs:List D):Res (List D):=match d3s xs with
 |some ns=>if ns.length<4096/\ns.Nodup then .ok ((YY (ns.zip xs)).map λ p=>tupI p.1) else .bad
 |none=> .bad
def adP:D->Res (List D)
 | .lst xs=>OY xs
 | .bor _ xs=>OY xs
 |_=> .bad
def yg:List D->Res (List D)
 |[x]=>adP x
 |_=> .bad
end L4
end
section
namespace L4
open PySem PySem.Spec PyProof.Rows L2 PySem.W
def BJ:∀{bs:List Addr} {us:List Value},Vals (bs.map V.ref) us->us=bs.map Value.ref
 |[],_,.nil=>rfl
 |b::bs,_,.cons r t=>by have e:=BJ t;subst e;cases r;rfl
def Es{X:Cx}:n9 X (.builtin "sorted") (λ xs H Q=>∃(a:Addr) (bs:List Addr) (ns:List (List Int)),xs=[.ref a]/\oA X.K H a (bs.map V.ref)/\bs.length=ns.length/\ns.Nodup/\ns.length<4096/\(∀n∈ns,n.length=3)/\(∀(i:Nat) (b:Addr) (n:List Int),bs[i]? =some b->ns[i]? =some n->H b=some (.tup (n.map V.int)))/\∀(r:Addr) (ix:List Nat),H r=none->ix.Perm (List.range ns.length)->ix.Pairwise (λ i j=>dZ (ns.getD i []) (ns.getD j [])=true)->Q (.ref r) (upd H r (.lst (ix.map λ i=>V.ref (bs.getD i 0))))):=by
 intro pins s σ H xs us Q I rr ⟨a,bs,ns,ex,sq,lb,ndn,h64,h3,P0,q⟩;subst ex;obtain ⟨u,rfl,ru⟩:=vals1 rr;cases ru;obtain ⟨its,rv,pl,hz⟩:=I.list sq;have amK:=BJ rv;subst amK;let Good:List Value->Heap->Prop:=λ vs h=>vs=bs.map Value.ref/\∀(i:Nat) (b:Addr) (n:List Int),bs[i]? =some b->ns[i]? =some n->∃its:List Value,IsTup h b its.toArray/\IntsAre its n
 have gk:∀vs h1 h2,(∀b o,h1.get? b=some o->h2.get? b=some o)->Good vs h1->Good vs h2:=λ vs h1 h2 k ⟨e,g⟩=>⟨e,λ i b n e1 e2=>let ⟨its,t,i1⟩:=g i b n e1 e2;⟨its,t.keeps k,i1⟩⟩;have g0:Good (bs.map Value.ref) s.heap:=⟨rfl,λ i b n e1 e2=>by obtain ⟨_,its,r,t⟩:=I.hok b _ (P0 i b n e1 e2);exact ⟨its,t,intsAre_of r⟩⟩;have at2:∀{i:Nat},i<ns.length->∃b n,bs[i]? =some b/\ns[i]? =some n/\(bs.map Value.ref).getD i .none= .ref b/\ns.getD i []=n:=λ{i} hi=>by
  have hb:i<bs.length:=by rw[lb];exact hi
  exact ⟨bs[i],ns[i],List.getElem?_eq_getElem hb,List.getElem?_eq_getElem hi,by simp[List.getD_eq_getElem?_getD,hb],by simp[List.getD_eq_getElem?_getD,hi]⟩
 have O:Ord (λ i j=>dZ (ns.getD i []) (ns.getD j [])) ns.length:=⟨λ i j hi hj hij=>by refine pJ _ _ λ e=>hij ?_;obtain ⟨_,n,_,e1,_,e2⟩:=at2 hi;obtain ⟨_,m,_,e3,_,e4⟩:=at2 hj;rw[e2,e4] at e;subst e;exact (List.getElem?_inj hi ndn).mp (e1.trans e3.symm),λ i j k _ _ _=>qd _ _ _⟩;refine qV (Good:=Good) (l:=a) (λ A' E' R hA h=>?_) gk λ vs h' gd=>?_
 ·refine collect_list pl.isList ?_ (by rw[List.length_map,lb,sizeLine_eq];omega);have kp:∀b o,s.heap.get? b=some o->((s.heap.push (seqObj "list" #[] 0)).update s.heap.objs.size (Obj.mapSeq λ x=>x++(bs.map Value.ref).toArray)).get? b=some o:=λ b o q=>by rw[Heap.get?_update_ne _ _ _ _ (Nat.ne_of_lt (Heap.lt_size q))];exact Heap.get?_push_of_some _ q
  exact h _ _ s.toks kp (by rw[Heap.size_update,Heap.size_push];omega) (gk _ _ _ kp g0)
 ·obtain ⟨rfl,_⟩:=id gd;have lv:(bs.map Value.ref).length=ns.length:=by rw[List.length_map,lb]
  refine ⟨by rw[lv];exact h64,λ i j=>dZ (ns.getD i []) (ns.getD j []),tuples' true,by rw[lv];exact O,λ h2 A' sf tk E' Q' gd' q'=>?_,λ A' sf tk i j Q' hu gd' hi hj hij q'=>?_,λ sf tk r e ix kp hr gd' er hp pw=>?_⟩
  ·obtain ⟨fs,k1,k2,k3⟩:=VZ bs ns lb h3 gd'.2;rw[lv] at h2;refine kat_kind (s:=Shared.mk sf s.gens s.drawn tk s.os) (fs:=fs) (T:= .type "int") k1 (by rw[k2,lb];omega) (λ v hv=>?_) rfl q';obtain ⟨x,t,rfl⟩:=k3 v hv;exact Cd
  ·rw[lv] at hi hj;obtain ⟨b,n,e1,e2,e3,e4⟩:=at2 hi;obtain ⟨c,m,f1,f2,f3,f4⟩:=at2 hj;rw[e3,f3];obtain ⟨its,⟨ob,o1,o2,k1,o3⟩,i1⟩:=gd'.2 i b n e1 e2;obtain ⟨jts,⟨oc,p1,p2,k2,p3⟩,i2⟩:=gd'.2 j c m f1 f2;have ln:=h3 n (List.mem_of_getElem? e2);have lm:=h3 m (List.mem_of_getElem? f2);refine kat_lt (s:=Shared.mk sf s.gens s.drawn tk s.os) o1 o3 p1 p3 ?_;have z1:its.length=3:=by rw[<-ln];exact i1.length
   have z2:jts.length=3:=by rw[<-lm];exact i2.length
   rw[show decide (its.toArray.size<jts.toArray.size)=false by simp[z1,z2]];refine yY 0 i1 i2 (by rw[ln,lm]) ?_;rw[<-e4, <-f4];exact q'
  ·rw[lv] at hp;have vals:Vals (ix.map λ i=>V.ref (bs.getD i 0)) (ix.map λ i=>(bs.map Value.ref).getD i Value.none):=by
    have:∀l:List Nat,(∀i∈l,i<ns.length)->Vals (l.map λ i=>V.ref (bs.getD i 0)) (l.map λ i=>(bs.map Value.ref).getD i Value.none):=by
     intro l;induction l with
     |nil=>exact λ _=> .nil
     |cons i l ih=>intro hl;obtain ⟨b,_,e1,_,e3,_⟩:=at2 (hl i (.head _));refine .cons ?_ (ih λ j hj=>hl j (.tail _ hj));show L2.RelV (V.ref (bs.getD i 0)) ((bs.map Value.ref).getD i Value.none);rw[e3];show Value.ref b=Value.ref (bs.getD i 0);rw[List.getD_eq_getElem?_getD,e1];rfl
    exact this ix λ i hi=>by simpa using hp.mem_iff.mp hi
   have lx:ix.length<4096:=by rw[hp.length_eq,List.length_range];exact h64
   exact ⟨.ref r,_,I.laid (t':=tk) kp hr (show b9 X.prog X.w _ sf _ (.lst (ix.map λ i=>V.ref (bs.getD i 0))) from ⟨by rw[sizeLine_eq,List.length_map];omega,_,e,vals,er⟩),rfl,q r ix (I.hok.fresh hr) hp pw⟩
section
variable{X:Cx}{ct:Ct}{e:Expr}{es:List Expr}{f:Sg->Res D}{fa:Sg->Res (List D)}{p pos:Pos}
def E6{K:W.Frag}{H:Hp}:∀{ns:List (List Int)} {vs:List V},aE K ct H (ns.map tupI) vs->∃bs:List Addr,vs=bs.map V.ref/\bs.length=ns.length/\∀(i:Nat) (b:Addr) (n:List Int),bs[i]? =some b->ns[i]? =some n->H b=some (.tup (n.map V.int))
 |[],vs,h=>by simp only[List.map_nil,aE] at h;subst h;exact ⟨[],rfl,rfl,λ i b n h=>by simp at h⟩
 |n::ns,vs,h=>by
  simp only[List.map_cons,aE] at h;obtain ⟨v,r,rfl,h1,h2⟩:=h;obtain ⟨bs,rfl,lb,hb⟩:=E6 h2;simp only[tupI,Tl] at h1;obtain ⟨a,us,rfl,ha,ht⟩:=h1;have eu:us=n.map V.int:=by
   have:∀{m:List Int} {us:List V},aE K ct H (m.map D.int) us->us=m.map V.int:=by
    intro m;induction m with
    |nil=>intro us h;simpa[aE] using h
    |cons x m ih=>intro us h;simp only[List.map_cons,aE,Tl] at h;obtain ⟨v,r,rfl,rfl,h⟩:=h;rw[ih h];rfl
   exact this ht
  subst eu;refine ⟨a::bs,rfl,by simp[lb],λ i b m e1 e2=>?_⟩;cases i with
  |zero=>simp at e1 e2;subst e1 e2;exact ha
  |succ i=>exact hb i b m (by simpa using e1) (by simpa using e2)
def qS(hm:X.mg "sorted"=none)(ha:xO X ct (e::es) fa)(hg:Gl X "sorted":=by rfl)(he:starEach (e::es) X.env=(false,eval e X.env)::starEach es X.env:=by rfl)(hpl:(backTo pos (starEach es X.env)).any (·.1)=false:=by rfl):WL X ct (.Call (.Name "sorted" p) (e::es) [] pos) (Y3 yg fa):=by
 have ha:=ha.out;refine ⟨?_⟩;refine PE.imp (jw Es hg hm (by decide+kernel) ha (by decide) (by decide) he hpl) λ σ H Q ⟨Γ,j,h⟩=>?_;refine HY.bnd j h λ ds vs H' s t j' h'=>?_;unfold yg at h';split at h'
 ·rename_i x;obtain ⟨v,rfl,t1⟩:=wc t;have go:∀(xs:List D) (a:Addr) (vs:List V),oA X.K H' a vs->aE X.K ct H' xs vs->v= .ref a->Ok X ct σ H (OY xs) (Wl X ct H Q)->∃(a:Addr) (bs:List Addr) (ns:List (List Int)),[v]=[.ref a]/\oA X.K H' a (bs.map V.ref)/\bs.length=ns.length/\ns.Nodup/\ns.length<4096/\(∀n∈ns,n.length=3)/\
    (∀(i:Nat) (b:Addr) (n:List Int),bs[i]? =some b->ns[i]? =some n->H' b=some (.tup (n.map V.int)))/\
    ∀(r:Addr) (ix:List Nat),H' r=none->ix.Perm (List.range ns.length)->ix.Pairwise (λ i j=>dZ (ns.getD i []) (ns.getD j [])=true)->Q (.ref r) (upd H' r (.lst (ix.map λ i=>V.ref (bs.getD i 0)))):=by
   intro xs a vs sq tl ev hh;unfold OY at hh;split at hh
   ·rename_i ns hn;split at hh
    ·rename_i hc;obtain ⟨n1,n2⟩:=Xg hn;rw[n1] at tl;obtain ⟨bs,rfl,lb,hb⟩:=E6 tl;have lx:xs.length=ns.length:=by rw[n1,List.length_map]
     refine ⟨a,bs,ns,by rw[ev],sq,lb,hc.2,hc.1,n2,hb,λ r ix hr hp pw=>?_⟩;have s2:=aT hr (.lst (ix.map λ i=>V.ref (bs.getD i 0)));refine hh r _ _ (s.trans s2) (s.free hr) aD ?_;rw[<-IQ lx hc.2 hp pw,List.map_map];refine xh λ i hi=>?_;have il:i<ns.length:=by simpa using hp.mem_iff.mp hi
     have ib:i<bs.length:=by rw[lb];exact il
     show Tl X.K ct _ (tupI (ns.getD i [])) (V.ref (bs.getD i 0));rw[List.getD_eq_getElem?_getD,List.getD_eq_getElem?_getD,List.getElem?_eq_getElem il,List.getElem?_eq_getElem ib];exact CP (s2 _ _ (hb i _ _ (List.getElem?_eq_getElem ib) (List.getElem?_eq_getElem il)))
    ·exact hh.elim
   ·exact hh.elim
  cases x with
  |lst xs=>simp only[Tl] at t1;obtain ⟨a,vs,rfl,fz,tl⟩:=t1;exact go xs a vs fz.sq tl rfl h'
  |bor tm xs=>
   obtain ⟨a,rfl,sq,tl⟩:∃a,v= .ref a/\(∃vs,oA X.K H' a vs/\aE X.K ct H' xs vs)/\True:=by
    simp only[Tl] at t1;obtain ⟨a,vs,rfl,h2,t⟩:=t1;refine ⟨a,rfl,⟨vs,?_,t⟩,trivial⟩;cases tm with
    |true=>exact .inl (.inl (j'.lB a _ h2))
    |false=>exact .inl (.inl (j'.lL a _ h2))
   obtain ⟨vs,sq,tl⟩:=sq;exact go xs a vs sq tl rfl h'
  |_=>exact h'.elim
 ·exact h'.elim
end
end L4
end
section
namespace L4
open PySem PySem.Spec PyProof.Rows L2
section
variable{X:Cx}{c:Cf}{st:Stmt}{sts:List Stmt}
def OT:uK X c st adW:=by refine ⟨?_⟩;intro pins s σ H E I ⟨Γ,j,h⟩;exact h.elim
end
def hU1{a b:Nat}(h:a+64<b):a+1<b:=by omega
def hU8{a b:Nat}(h:a+64<b):a+8<b:=by omega
def CQ(X:Cx)(scope:Scope)(c:Nat)(y:Str):Prop:=X.N[c]? =some y/\SG X.env.scope y/\X.env.kindOf y≠some .local/\(y,NameKind.free)∈scope.names
def Xu{X:Cx}{scope:Scope}{c:Nat}{y:Str}(h1:X.N[c]? =some y)(h2:SG X.env.scope y:=by first|exact Or.inl rfl|exact Or.inr (Or.inl rfl)|exact Or.inr (Or.inr rfl))(h3:X.env.kindOf y≠some .local:=by exact λ h=>nomatch h)(h4:(y,NameKind.free)∈scope.names:=by decide+kernel):CQ X scope c y:=⟨h1,h2,h3,h4⟩
def aby{X:Cx}{scope:Scope}{k:Nat}{caps:List Nat}{N':List Str}(h:∀p∈caps.zip (N'.drop k),CQ X scope p.1 p.2)(i c:Nat)(y:Str)(h1:caps[i]? =some c)(h2:N'[k+i]? =some y):X.N[c]? =some y/\SG X.env.scope y/\X.env.kindOf y≠some .local/\(y,NameKind.free)∈scope.names:=h (c,y) (List.mem_of_getElem? (i:=i) (List.getElem?_zip_eq_some.mpr ⟨h1,by rw[List.getElem?_drop];exact h2⟩))
section
variable{X:Cx}{ct:Ct}{a b:Expr}{f g:Sg->Res D}{pos:Pos}
def Zt(ha:WD X ct a f)(hb:WD X ct b g):WD X ct (.BinOp a .Add b pos) (aO Xs f g):=by
 have ha:=ha.out;have hb:=hb.out;refine ⟨?_⟩;refine vG aae (λ σ H x y d1 d2 Q lL lB t1 t2 h=>?_) ha hb;unfold Xs at h;split at h
 ·split at h
  ·rename_i x' xs y' ys hl;simp only[Tl] at t1 t2;obtain ⟨a,vs,rfl,h1,u1⟩:=t1;obtain ⟨b,us,rfl,h2,u2⟩:=t2;have l1:=u1.length;have l2:=u2.length;refine ⟨a,b,vs,us,rfl,rfl,lZ h1,lZ h2,λ z=>?_,by rw[<-l1, <-l2];exact hl,λ z=>?_,λ _ p hp=>h (.ref p) _ (aT hp _) ?_⟩
   ·rw[z] at l1;simp at l1
   ·rw[z] at l2;simp at l2
   ·simp only[Tl];exact ⟨p,_,rfl,aD,(u1.append u2).keep (au.keep (aT hp _))⟩
  ·exact h.elim
 ·exact h.elim
end
section
variable{X:Cx}{c:Cf}{r ix e:Expr}{i:Nat}{g:Sg->Res (List Nat)}{f:Sg->Res (List D)}{pos:Pos}{Γ:Sg}{σ:St}{H:Hp}
def WY{K:W.Frag}{ds:List D}{ys:List V}{a:Addr}{vs:List V}{B:Hp}{m' fP:M}{S':Fp}(t:aE K (c.at' B) H ds ys)(ha:H a=some (.lst vs))(e:afg ds m'=some fP)(o:Ow K c.z H m' (.ref a) S'):
  vs.length+ys.length<1000000/\S' a/\Ow K c.z (upd H a (.lst (vs++ys))) fP (.ref a) S':=by
 have kp:aP c.cb H (upd H a (.lst (vs++ys))):=aP.lst ha;cases m' with
 |l xs=>
  simp only[afg] at e;split at e
  ·rename_i hc;cases e;simp only[Ow] at o ⊢;obtain ⟨a',us,e1,o2,o3,o4⟩:=o;cases e1;rw[ha] at o3;cases o3;exact ⟨by rw[<-o4.length, <-t.length];exact hc.1,o2,a,_,rfl,o2,aD,(o4.append (aE.down (B:=B) (tm:=true) t hc.2)).keep kp⟩
  ·cases e
 |_=>cases e
def Ij{ap cp:Pos}(hr:∀B,WP X (c.at' B) r i g)(he:∀B,WL X (c.at' B) e f)(hbase:attributeBase r "extend" X.env (eval r X.env)=eval r X.env:=by rfl)(hfew:((backTo cp (starEach [e] X.env)).all (λ x=>!x.1)&&(backToKw cp (keywordEach [] X.env)).all (λ x=>x.1.isSome)
   &&decide ([e].length+([]:List Keyword).length+(if ([]:List Keyword).isEmpty then 0 else 1)<30))=true:=by rfl) (hline:(ap.endLine==cp.line)=true:=by rfl) (hs:starEach [e] X.env=(false,eval e X.env)::starEach [] X.env:=by rfl) (hplain:(backTo cp (starEach [] X.env)).any (·.1)=false:=by rfl) (hw:swapsWith (.Call (.Attribute r "extend" ap) [e] [] cp) none pos.line X.env=pure false:=by rfl):uK X c (.Expr (.Call (.Attribute r "extend" ap) [e] [] cp) pos) (O1 i g f):=by
 have hr:=λ B=>(hr B).out;have he:=λ B=>(he B).out;refine ⟨?_⟩;intro pins s σ H E I ⟨Γ,j,h⟩;refine sS (ab6 PySem.F.plainAttrs_list PySem.F.slot_list_extend PySem.F.type_list_extend Ri (hr H) (ja (he H) qY hs) hbase hfew hline hs hplain) hw pins s σ H E I ?_;refine ⟨Γ,j.lift,Fn.ok j h λ ks _ q v H1 s1 pa=>?_⟩;split at q
 ·rename_i hl;have j1:=j.mono s1;obtain ⟨a,vs,rfl,ha⟩:=B4 j1 pa hl;refine ⟨.inl ⟨rfl,vs,oA.of ha⟩,Γ,j.lift.mono s1,Ok.mono (H:=H) s1 (Fn.ok (tm:=true) (B:=H) j q λ d _ q b ys H2 s2 hn hb t=>?_) λ _ z=>z⟩;have j2:=j1.mono s2;have pa2:=pa.same s2;have ha2:=s2 _ _ ha;obtain ⟨m',fP,S',e1,o1⟩:=w9 j2 pa2 q;refine ⟨a,b,vs,ys,rfl,rfl,ha2,hb,Nat.le_of_lt (Nat.lt_trans (WY t ha2 e1 o1).1 jJ),?_⟩;exact xg j2 (au.keep (s1.trans s2)) pa2 ha2 q λ m' fP S' e o=>(WY t ha2 e o).2
 ·exact q.elim
end
section
variable{X:Cx}{ct:Ct}{tg:Expr}{elts:List Expr}{cx:Nat}{tp:Pos}
def ame(K:W.Frag)(ta:TA):TI:=λ σ H R=>ta σ H λ vs H1=>∃a xs,vs=[.ref a]/\vB K H1 a xs/\R (Ite K a xs.length) H1
def Z2{a:Expr}{ta:TA}{p pos:Pos}(hg:Gl X "enumerate")(hm:X.mg "enumerate"=none)(ha:PA X [a] ta)(hs:starEach [a] X.env=[(false,eval a X.env)]:=by rfl):PI X (.Tuple elts cx tp) (.Call (.Name "enumerate" p) [a] [] pos) (ame X.K ta):=by
 intro pins s σ H R I h;refine Call_ (zb I hg hm boot_enumerate (PyProof.Rows.callWith_type1 (dc (ha pos pins s σ H _ I h) λ us s1 ⟨vs,H1,I1,r1,q1⟩=>?_) hs rfl));obtain ⟨l,xs,e,hq,q⟩:=q1;subst e;cases r1 with
 |cons r rr=>
  cases rr;cases r;obtain ⟨its,rv,p,hz⟩:=I1.tuple hq;refine KU (show s1.heap.IsTuple l its.toArray from p) λ h' he hit k=>?_;refine wpAny_pyIter_enum he ?_;refine ⟨s1.heap.objs.size+1,[s1.heap.objs.size+1,s1.heap.objs.size],_,_,H1,rfl,I1.kept (t':=s1.toks) k,ID l _ _ xs.length,⟨⟨_,he⟩,hit,Nat.zero_le _⟩,λ b hb=>?_,q⟩;simp only[List.mem_cons,List.not_mem_nil,or_false] at hb;rcases hb with rfl|rfl
  ·exact I1.R3 (Nat.le_succ _) (I1.hok.fresh (Nat.le_succ _))
  ·exact I1.R3 (Nat.le_refl _) (I1.hok.fresh (Nat.le_refl _))
def Cq:∀(k:Nat) (xs:List D),(qO k xs).length=xs.length
 |_,[]=>rfl
 |k,x::xs=>by simp[qO,Cq (k+1) xs]
def Cr:∀(k:Nat) (xs:List D) (i:Nat),(qO k xs)[i]? =(xs[i]?).map λ x=> .tup [.int ((k+i:Nat):Int),x]
 |_,[],i=>by simp[qO]
 |k,x::xs,0=>by simp[qO]
 |k,x::xs,i+1=>by simp only[qO,List.getElem?_cons_succ];rw[Cr (k+1) xs i,show k+1+i=k+(i+1) by omega]
def Wf{K:W.Frag}{H:Hp}{a:Addr}{vs:List V}{xs:List D}(fz:vB K H a vs)(t:aE K ct H xs vs):SM K ct (Ite K a vs.length) (qO 0 xs) H:=by
 refine ⟨λ H1=>aP ct.f.cb H H1,aP.refl H,λ H1 H2 k1 k2 _ _=>k1.trans k2,λ i d H1 k1 hd=>?_,λ i H1 k1 hi=>⟨vs,k1.sqT fz,rfl,by rw[Cq] at hi;rw[<-t.length];exact hi⟩⟩;rw[Cr,Nat.zero_add] at hd;cases hx:xs[i]? with
 |none=>rw[hx] at hd;cases hd
 |some x=>rw[hx] at hd;simp only[Option.map_some,Option.some.injEq] at hd;subst hd;obtain ⟨v,hv,tv⟩:=t.get hx;refine ⟨⟨vs,v,k1.sqT fz,rfl,hv⟩,λ y H2 ⟨p,v',hp,hv',ey,eH⟩=>?_⟩;have e2:=hv' vs (k1.sqT fz);rw[hv] at e2;cases e2;subst ey eH;have sm:=aT (H:=H1) hp (.tup [.int i,v]);refine ⟨sm,?_⟩;simp only[Tl];exact ⟨p,_,rfl,aD,aE.cons (by simp[Tl]) (aE.cons ((tv.keep k1).keep (au.keep sm)) aE.nil)⟩
def EV{a:Expr}{r:Sg->Res (List D)}{p pos':Pos}(hm:X.mg "enumerate"=none)(ha:xO X ct [a] r)(hgl:Gl X "enumerate":=by rfl)(hs:starEach [a] X.env=[(false,eval a X.env)]:=by rfl):WID X ct (.Tuple elts cx tp) (.Call (.Name "enumerate" p) [a] [] pos') (Wy r):=by
 have ha:=ha.out;refine ⟨?_⟩;intro pins s σ H R I ⟨Γ,j,h⟩;refine Z2 hgl hm ha hs pins s σ H R I ⟨Γ,j,h.bnd λ ds _ q vs H' s tl=>?_⟩;unfold acp at q;split at q
 ·rename_i xs _;replace q:∀J H',au H H'->SM X.K ct J (qO 0 xs) H'->R J H':=q;obtain ⟨v,rfl,t1⟩:=wc tl;simp only[Tl] at t1;obtain ⟨b,us,rfl,hb,t2⟩:=t1;exact ⟨b,us,rfl,lZ hb,q _ H' s (Wf (lZ hb) t2)⟩
 ·exact q.elim
end
section
variable{X:Cx}{ct:Ct}{tg:Expr}
noncomputable def Itz(d:Addr)(o:Obj):It:=⟨λ _ _=>False,λ _ _ _ _=>False,λ _ H=>∃u,H d=some (.Bd o u)⟩
def aaZ:fastTable "dict_itemiterator.__iter__"=none:=by kernel_rfl
def ae3:"dict_itemiterator.__iter__".cutAt '#'=["dict_itemiterator.__iter__"]:=by kernel_rfl
def ae2:fastTable "dict_keyiterator.__iter__"=some Builtin.«dict_keyiterator.__iter__»:=by kernel_rfl
def qB:entryFor table "dict_itemiterator.__iter__"=some Builtin.«dict_keyiterator.__iter__»:=entryFor_alias aaZ ae3 (by decide+kernel) ae2
def A6{prog:Program}{w:World}{A:Around}{E:Value->Shared->Prop}{s:Shared}{it:Addr}{o:Obj}{Q:Value->Shared->Prop}(h:s.heap.get? it=some o)(hc:o.cls= .type "dict_itemiterator")(q:Q (.ref it) s):wpAny (model prog w) A (pyIter (.ref it)) Q E s:=by have ty:s.TypeIs (.ref it) "dict_itemiterator":=⟨o,h,hc⟩;refine wpAny_pyIter_slot ty PySem.F.slot_dict_itemiterator_iter (wpAny_call_entry PySem.F.slot_dict_itemiterator_iter ty qB ?_ (PySem.F.args_dict_itemiterator_iter_1 _));unfold Builtin.«dict_keyiterator.__iter__»;exact wpAny_pure ⟨_,rfl,"dict_itemiterator",_,ty,PySem.F.slot_dict_itemiterator_next.lookup,q⟩
def E5{P:Program}{w:World}{K:W.Frag}{tg:Expr}(it d:Addr)(o:Obj)(ep:Nat)(ho:o.data= .dict #[] ep):Turn P w K tg (Itz d o) [it] it (λ i h=>i=0/\h.get? it=some (PF .none (.bool false) d 0 0 ep .none .none)) where
 mem:=by simp
 obj:=λ i h st b hb=>by
  have e:b=it:=by simpa using hb
  subst e
  exact ⟨_,st.2,λ v z=>by cases z⟩
 keep:=λ i h h' st k=>⟨st.1,k it (by simp) _ st.2⟩
 item:=by
  intro X hP hw hK hc i pins s σ H E I hf st hg
  exact hg.elim
 done:=by
  intro X hP hw hK hc i pins s σ H E I hf st hg
  subst hP hw hK
  obtain ⟨f0,f1,f2,f3,f4,f5⟩:=hf it (by simp)
  obtain ⟨u,hu⟩:=hg
  have hd:Ent s.heap d #[] ep:=⟨o,(I.hok d _ hu).1,ho⟩
  exact Vk (es:= #[]) (I.ok.hd hc) st.2 hd (Nat.le_refl _) λ h' eb=>⟨rfl,I.turned (t':=s.toks) (λ b o hb e=>eb b o hb e) f0 f1 f3 f4 f5⟩
 self:=λ _ _ _ _ _ st h=>A6 st.2 rfl h
def Ig{o:Expr}{f:Sg->Res D}{ap cp:Pos}(ho:WD X ct o f)(h1:attributeBase o "items" X.env (eval o X.env)=eval o X.env:=by rfl)(h3:(ap.endLine==cp.line)=true:=by rfl):WID X ct tg (.Call (.Attribute o "items" ap) [] [] cp) (PX f):=by
 have ho:=ho.out;refine ⟨?_⟩;intro pins s σ H R I ⟨Γ,j,h⟩;refine dc (FG ho h1 h3 pins s σ H (λ x H2=>∃v d ob,x= .ref v/\H2 v=some (.ext (HS v d))/\H2 d=some (.Bd ob (.dT []))/\R (Itz d ob) H2) I ⟨Γ,j,h.bnd λ x _ q v H' sm tl=>?_⟩) λ v s1 ⟨x,H2,I2,rx,vv,d,ob,ex,hv,hd,q⟩=>?_
 ·unfold Wc at q;split at q
  ·rename_i l _;replace q:∀J H',au H H'->SM X.K ct J [] H'->R J H':=q;simp only[Tl] at tl;obtain ⟨a,vs,rfl,⟨ob,hfz⟩,hl,tl⟩:=tl;simp only[aE] at tl;subst tl;have el:l=[]:=List.eq_nil_of_length_eq_zero hl;subst el;refine ⟨a,rfl,.inr ⟨_,.inr ⟨_,hfz⟩⟩,λ v hvn=>?_⟩;have sm2:=aT hvn (.ext (HS v a));have hd2:=sm2 _ _ hfz;refine ⟨v,a,ob,rfl,aD,hd2,q _ _ (sm.trans sm2) ⟨λ H1=>∃u,H1 a=some (.Bd ob u),⟨_,hd2⟩,λ H1 H3 ⟨u,hu⟩ k _ _=>⟨u,k a _ hu trivial⟩,λ i d H1 _ z=>by simp at z,λ i H1 hu _=>hu⟩⟩
  ·exact q.elim
 ·subst ex;cases rx;obtain ⟨g1,g2⟩:=I2.hok d _ hd;obtain ⟨_,_,xs,pr,o',es,ep,e1,_,e3,e4,_⟩:=(show b9 X.prog X.w H2 s1.heap d (.dT []) from g2);cases pr;have hes:es= #[]:=by apply Array.toList_inj.mp;simpa using e4
  subst hes;rw[g1] at e1;cases e1;have hvw:s1.heap.get? vv=some (Zv d):=(I2.hok vv _ hv).1;refine zw hvw ⟨ob,g1,e3⟩ ?_;refine ⟨s1.heap.objs.size,[s1.heap.objs.size],_,_,H2,rfl,I2.kept (t':=s1.toks) λ b o e=>Heap.get?_push_of_some _ e,E5 _ d ob ep e3,⟨rfl,Heap.get?_push_size _ rfl⟩,λ b hb=>?_,q⟩;have e:b=s1.heap.objs.size:=by simpa using hb
  subst e;exact I2.R3 (Nat.le_refl _) (I2.hok.fresh (Nat.le_refl _))
end
noncomputable def aaR(K:W.Frag)(cv:Value)(n:String)(l:List (Value×List String)):Bool:=l.all λ p=>W.kitOne K p.1 cv==some (p.2.contains n)
noncomputable def kN:List (Value×List String):=[(.type "NoneType",["NoneType"]),(.type "bool",["bool","int"]),(.type "int",["int"]),(.type "str",["str"]),(.type "tuple",["tuple"]),(.type "list",["list"]),(.type "dict",["dict"])]
def isAll(K:W.Frag)(mt:List (String×List String))(E:List (String×Addr))(T:mW)(IS:List (Value×String)):Bool:=IS.all λ x=>aaR K x.1 x.2 kN&&aaR K x.1 x.2 (E.map λ e=>(.ref e.2,(mt.lookup e.1).getD []))&&aaR K x.1 x.2 (T.map λ e=>(.ref e.2.1,(mt.lookup e.1).getD []))
def jM{K:W.Frag}{cv:Value}{n:String}{l:List (Value×List String)}(h:aaR K cv n l=true){p:Value×List String}(hp:p∈l):W.kitOne K p.1 cv=some (p.2.contains n):=eq_of_beq (List.all_eq_true.mp h p hp)
def GQ{K:W.Frag}{mt:List (String×List String)}{E:List (String×Addr)}{T:mW}{IS:List (Value×String)}{cv:Value}{n:String}(h:isAll K mt E T IS=true)(hm:(cv,n)∈IS):Ql K (Xr E T) mt cv n:=by
 have h1:=List.all_eq_true.mp h _ hm;simp only[Bool.and_eq_true] at h1;obtain ⟨⟨h1,h2⟩,h3⟩:=h1;refine ⟨jM h1 (.head _),jM h1 (.tail _ (.head _)),jM h1 (.tail _ (.tail _ (.head _))),jM h1 (.tail _ (.tail _ (.tail _ (.head _)))),jM h1 (.tail _ (.tail _ (.tail _ (.tail _ (.head _))))),jM h1 (.tail _ (.tail _ (.tail _ (.tail _ (.tail _ (.head _)))))),jM h1 (.tail _ (.tail _ (.tail _ (.tail _ (.tail _ (.tail _ (.head _))))))),λ c C ks hc hk=>?_,λ c C ns ks hc hk=>?_⟩
 ·have:=jM h2 (List.mem_map.mpr ⟨_,dX hc,rfl⟩);simp only[hk,Option.getD_some] at this;exact this
 ·have:=jM h3 (List.mem_map.mpr ⟨_,dX hc,rfl⟩);simp only[hk,Option.getD_some] at this;exact this
section
variable{P:Program}{w:World}{K:W.Frag}{mg:Str->Option Value}{cb:Cb}{base:Heap}
def qT{x qual:Str}{st:Stmt}{f:Addr}{fd:FuncData}{N ps:List Str}{k:Nat}{F:List Slot->cJ}(B:Nat->Sg->Out)(SN:lT K x qual st f fd)(hF:∀as,as.length=ps.length->F as≠.bad->∃n,mX (B n (dg N as))=F as)(hbody:∀(c:Cf) (cdv:Value) (A:Around) (outer:List Env) (s:Shared) (H:Hp) (E:XK),c.cb=cb->dQ k (A.deeper (envOfC qual (aA st) s.heap.objs.size f cdv))->Good (lR (EO P w) P w K mg base N qual (aA st) f cdv A outer s H E)->∀n,qH (lR (EO P w) P w K mg base N qual (aA st) f cdv A outer s H E) c (aH st) (B n)) (S:lM N ps (aA st):=by exact ⟨rfl,rfl,rfl,by decide+kernel,rfl,by decide+kernel,by decide+kernel⟩):i6 P w K mg base cb (k+1) f fd ps F:=Zq SN S hbody hF
def wfG{x qual:Str}{st:Stmt}{f:Addr}{fd:FuncData}{N ps:List Str}{k:Nat}{F:List Slot->cJ}(B:Nat->Sg->Out)(SN:lT K x qual st f fd)(hF:∀as,as.length=ps.length->F as≠.bad->∃n,SA (B n (dg N as))=F as)(hbody:∀(c:Cf) (cdv:Value) (A:Around) (outer:List Env) (s:Shared) (H:Hp) (E:XK),c.cb=cb->dQ k (A.deeper (envOfC qual (aA st) s.heap.objs.size f cdv))->Good (lR (EO P w) P w K mg base N qual (aA st) f cdv A outer s H E)->∀n,qH (lR (EO P w) P w K mg base N qual (aA st) f cdv A outer s H E) c (aH st) (B n)) (S:lM N ps (aA st):=by exact ⟨rfl,rfl,rfl,by decide+kernel,rfl,by decide+kernel,by decide+kernel⟩):i6 P w K mg base cb (k+1) f fd ps F:=Zp SN S hbody hF
end
section
variable{X:Cx}{ct:Ct}{tg iter e:Expr}{f:Sg->Res D}{pos:Pos}
def dU(he:WD X ct iter f):WID X ct tg iter (jz f):=by
 have he:=he.out;refine ⟨?_⟩;intro pins s σ H R I ⟨Γ,j,h⟩;cases q:f Γ with
 |bad=>simp only[jz,q,Res.Qf] at h;exact h.elim
 |err c=>simp only[jz,q,Res.Qe] at h;exact Dj he pins s σ H R I ⟨Γ,j,by rw[q];exact h⟩
 |ok d=>
  simp only[jz,q,Res.lS] at h;cases d with
  |lst xs=>replace h:∀J H',au H H'->SM X.K ct J xs H'->R J H':=h;refine Dj he pins s σ H R I ⟨Γ,j,?_⟩;rw[q];intro v H' sm tl;simp only[Tl] at tl;obtain ⟨a,vs,rfl,fz,tl⟩:=tl;exact ⟨a,rfl,⟨vs,fz.sq⟩,h _ H' sm (We fz tl)⟩
  |bor tm xs=>replace h:∀J H',au H H'->SM X.K ct J xs H'->R J H':=h;refine Dj he pins s σ H R I ⟨Γ,j,?_⟩;rw[q];intro v H' sm tl;have j':=j.mono sm;obtain ⟨a,rfl,sq,it⟩:=aaV j'.lL j'.lB tl;exact ⟨a,rfl,sq,h _ H' sm it⟩
  |tup xs=>replace h:∀J H',au H H'->SM X.K ct J xs H'->R J H':=h;refine UP he pins s σ H R I ⟨Γ,j,?_⟩;rw[q];intro v H' sm tl;simp only[Tl] at tl;obtain ⟨a,vs,rfl,fz,tl⟩:=tl;exact ⟨a,rfl,⟨vs,lZ fz⟩,h _ H' sm (PJ (lZ fz) tl)⟩
  |gt xs=>replace h:∀J H',au H H'->SM X.K ct J xs H'->R J H':=h;refine UP he pins s σ H R I ⟨Γ,j,?_⟩;rw[q];intro v H' sm tl;simp only[Tl] at tl;obtain ⟨a,vs,rfl,fz,tl⟩:=tl;exact ⟨a,rfl,⟨vs,fz.sq⟩,h _ H' sm (PJ fz.sq tl)⟩
  |_=>exact h.elim
end
end L4
end
section
namespace L4
open PySem
noncomputable abbrev Lt:=List (List Int×Rat)
def Jm(r:Rat):Int×Int:=(r.num,(r.den:Int))
def Pf(t:Int)(b:Nat)(h:b≠0):(Eb t b,EN t b)=Jm (Rat.normalize t b h):=by
 have e:vQ (b:Int) (Int.gcd t b)=(Int.gcd t b:Int):=by unfold vQ;rw[if_neg (by omega)]
 have g:Int.gcd t (b:Int)=Nat.gcd t.natAbs b:=rfl;rw[Rat.normalize_eq];unfold Eb EN Jm;rw[e,g,Int.fdiv_eq_ediv_of_nonneg _ (by omega),Int.fdiv_eq_ediv_of_nonneg _ (by omega)];rfl
def Lc(r s:Rat):(Eb (r.num*s.den+s.num*r.den) ((r.den:Int)*s.den),EN (r.num*s.den+s.num*r.den) ((r.den:Int)*s.den))=Jm (r+s):=by have:=Pf (r.num*s.den+s.num*r.den) (r.den*s.den) (Nat.mul_ne_zero r.den_nz s.den_nz);rw[Rat.add_def, <-this];simp
structure Sz(c k:Nat)(r:Rat):Prop where
 nn:0<=r.num
 top:r.num.natAbs<2^(8*k+c)
 bot:r.den<2^(7*k)
def D9{t b:Int}{r:Rat}(h:(Eb t b,EN t b)=Jm r):Eb t b=r.num:=congrArg Prod.fst h
def Uk{t b:Int}{r:Rat}(h:(Eb t b,EN t b)=Jm r):EN t b=r.den:=congrArg Prod.snd h
def Vm{t b:Int}{r:Rat}(h:(Eb t b,EN t b)=Jm r)(hb:b≠0):r.num.natAbs<=t.natAbs:=by rw[<-D9 h];exact afa hb
def W9{t b:Int}{r:Rat}(h:(Eb t b,EN t b)=Jm r)(hb:b≠0):r.den<=b.natAbs:=by have:=afb (t:=t) hb;rw[Uk h] at this;simpa using this
def Vl{t b:Int}{r:Rat}(h:(Eb t b,EN t b)=Jm r)(hb:0<b)(ht:0<=t):0<=r.num:=by rw[<-D9 h];unfold Eb vQ;rw[if_neg (by omega),Int.fdiv_eq_ediv_of_nonneg _ (by omega)];exact Int.ediv_nonneg ht (by omega)
def dpos(r:Rat):0<(r.den:Int):=by have:=r.den_pos;omega
def Ef(r s:Rat):(r.den:Int)*s.den≠0:=Int.ne_of_gt (Int.mul_pos (dpos r) (dpos s))
def Sz.mono{c k c' k':Nat}{r:Rat}(h:Sz c k r)(hc:c<=c')(hk:k<=k'):Sz c' k' r:=⟨h.nn,Nat.lt_of_lt_of_le h.top (Nat.pow_le_pow_right (by decide) (by omega)),Nat.lt_of_lt_of_le h.bot (Nat.pow_le_pow_right (by decide) (by omega))⟩
def DM{a b n m:Nat}(h1:a<2^n)(h2:b<2^m):a*b<2^(n+m):=by rw[Nat.pow_add];exact Nat.mul_lt_mul'' h1 h2
def Sz.add{c k j:Nat}{r s:Rat}(h:Sz c k r)(g:Sz c j s)(hk:1<=k)(hj:1<=j):Sz c (k+j) (r+s):=by
 have e:=Lc r s;refine ⟨Vl e (Int.mul_pos (dpos r) (dpos s)) (Int.add_nonneg (Int.mul_nonneg h.nn (by omega)) (Int.mul_nonneg g.nn (by omega))),?_,?_⟩
 ·refine Nat.lt_of_le_of_lt (Vm e (Ef r s)) ?_;refine Nat.lt_of_le_of_lt (Int.natAbs_add_le _ _) ?_;rw[Int.natAbs_mul,Int.natAbs_mul];have a1:=DM h.top (show (s.den:Int).natAbs<2^(7*j) by simpa using g.bot);have a2:=DM g.top (show (r.den:Int).natAbs<2^(7*k) by simpa using h.bot);have b1:2^(8*k+c+7*j)<=2^(8*(k+j)+c- 1):=Nat.pow_le_pow_right (by decide) (by omega);have b2:2^(8*j+c+7*k)<=2^(8*(k+j)+c- 1):=Nat.pow_le_pow_right (by decide) (by omega);have b3:2^(8*(k+j)+c)=2*2^(8*(k+j)+c- 1):=by rw[<-Nat.pow_succ'];congr 1;omega
  omega
 ·refine Nat.lt_of_le_of_lt (W9 e (Ef r s)) ?_;rw[Int.natAbs_mul];have:=DM h.bot g.bot;rw[show 7*(k+j)=7*k+7*j by omega];simpa using this
def Sz.zero{c:Nat}:Sz c 1 0:=⟨by decide,Nat.pos_of_ne_zero (by simp),by decide⟩
def kT(l:Lt)(k:List Int)(r:Rat):Lt:=if (l.any λ p=>decide (p.1=k))=true then l.map (λ p=>if p.1=k then (p.1,r) else p) else l++[(k,r)]
def rP(l:Lt)(k:List Int):Option Rat:=(l.find? λ p=>decide (p.1=k)).map (·.2)
def lW(l:Lt)(k:List Int):Rat:=(rP l k).getD 0
def sj(d:Lt)(l:Lt):Lt:=l.foldl (λ d p=>kT d p.1 (lW d p.1+p.2)) d
def Cm(p:List Int×Rat)(l:Lt)(k:List Int):rP (p::l) k=if p.1=k then some p.2 else rP l k:=by unfold rP;by_cases h:p.1=k<;>simp[List.find?,h]
def GH:∀(l:Lt) (k:List Int) (r:Rat),(kT l k r).map (·.1)=if k∈l.map (·.1) then l.map (·.1) else l.map (·.1)++[k]:=by
 intro l k r;unfold kT;by_cases h:k∈l.map (·.1)
 ·have:(l.any λ p=>decide (p.1=k))=true:=by obtain ⟨p,hp,e⟩:=List.mem_map.mp h;exact List.any_eq_true.mpr ⟨p,hp,by simpa using e⟩
  rw[if_pos this,if_pos h,List.map_map];apply List.map_congr_left;intro p _;simp only[Function.comp];split<;>rfl
 ·have:¬(l.any λ p=>decide (p.1=k))=true:=by intro z;obtain ⟨p,hp,e⟩:=List.any_eq_true.mp z;exact h (List.mem_map.mpr ⟨p,hp,by simpa using e⟩)
  rw[if_neg this,if_neg h];simp
def Q5{l:Lt}{k:List Int}{r:Rat}(h:(l.map (·.1)).Nodup):((kT l k r).map (·.1)).Nodup:=by
 rw[GH];split
 ·exact h
 ·rename_i q;rw[List.nodup_append];exact ⟨h,by simp,λ a ha b hb=>by simp at hb;subst hb;intro z;subst z;exact q ha⟩
def DO{l:Lt}{k:List Int}{r:Rat}{k':List Int}:k'∈(kT l k r).map (·.1)↔ k'=k\/k'∈l.map (·.1):=by
 rw[GH];split
 ·rename_i q;exact ⟨.inr,λ h=>h.elim (λ e=>e▸q) id⟩
 ·simp only[List.mem_append,List.mem_singleton];exact ⟨λ h=>h.symm,λ h=>h.symm⟩
def Co:∀(l d:Lt),(d.map (·.1)).Nodup->((sj d l).map (·.1)).Nodup
 |[],d,h=>h
 |p::l,d,h=>Co l _ (Q5 h)
def GV:∀(l d:Lt) (k:List Int),k∈(sj d l).map (·.1)↔ k∈d.map (·.1)\/k∈l.map (·.1)
 |[],d,k=>by simp[sj]
 |p::l,d,k=>by
  have:=GV l (kT d p.1 (lW d p.1+p.2)) k;rw[DO] at this;rw[show sj d (p::l)=sj (kT d p.1 (lW d p.1+p.2)) l from rfl,this,List.map_cons,List.mem_cons];constructor
  ·rintro ((h|h)|h)
   ·exact .inr (.inl h)
   ·exact .inl h
   ·exact .inr (.inr h)
  ·rintro (h|h|h)
   ·exact .inl (.inr h)
   ·exact .inl (.inl h)
   ·exact .inr h
def kd(l:Lt):List KD:=l.map λ p=>(p.1,.tup [.int (Jm p.2).1,.int (Jm p.2).2])
def ye(x:List Int×Rat):Lt->Lt
 |[]=>[x]
 |y::l=>if dZ x.1 y.1=true then x::y::l else y::ye x l
def qm:Lt->Lt
 |[]=>[]
 |x::l=>ye x (qm l)
def GJ(x:List Int×Rat):∀l:Lt,kd (ye x l)=CT (x.1,.tup [.int (Jm x.2).1,.int (Jm x.2).2]) (kd l)
 |[]=>rfl
 |y::l=>by
  have ih:=GJ x l;simp only[ye,kd,CT,List.map_cons] at ih ⊢;split
  ·rfl
  ·rw[List.map_cons,ih]
def DX:∀l:Lt,kd (qm l)=YY (kd l)
 |[]=>rfl
 |x::l=>by show kd (ye x (qm l))=CT _ (YY (kd l));rw[GJ,DX l]
def yd(x:List Int×Rat):∀l,(ye x l).Perm (x::l)
 |[]=> .refl _
 |y::l=>by
  unfold ye;split
  ·exact .refl _
  ·exact ((yd x l).cons y).trans (.swap x y l)
def p9:∀l,(qm l).Perm l
 |[]=> .refl _
 |x::l=>(yd x (qm l)).trans ((p9 l).cons x)
end L4
end
section
namespace K23
open PySem L4
noncomputable def mt:List (String×List String):=[("NoFraction",["NoFraction","BeamError","ValueError"]),("NoPass",["NoPass","BeamError","ValueError"]),("NoStrength",["NoStrength","BeamError","ValueError"]),("NoCell",["NoCell","BeamError","ValueError"]),("NoTable",["NoTable","BeamError","ValueError"]),("Empty",["Empty","Cell"]),("Table",["Table"])]
def ae8:List (String×List Str):=[("Empty",[]),("Table",["grid","ends"])]
abbrev Gg:List Str:=["_law_script","_law_k"]
abbrev o8:List Str:=["_law_script","_law_k"]
def bz(n:Nat):Sg->Out:=(aN (uQ (dT (aO ltI (ao 1) (xM kC (ai (ao 0) aB)))) (gZ (aO fQ (ao 0) (ao 1))) dh)
  (gZ (dC (.int 0))))
def aR(as:List Slot):cJ:=mX (bz 0 (dg Gg as))
abbrev AQ:List Str:=["grid","cells"]
abbrev lO:List Str:=["grid"]
def v9(n:Nat):Sg->Out:=(aN (uQ (qE (dT (pR leI leI (dC (.int 1)) (xM kC (ai (ao 1) aB)) (dC (.int 16))))) (oX "NoTable" (ai (dC (.str "a row has 1 to 16 cells")) aB)) dh)
  (uQ (dT (aO xu (xM kC (ai (ao 1) aB)) (xM kC (ai (aO fQ (ao 0) (dC (.int 0))) aB)))) (oX "NoTable" (ai (dC (.str "the rows are of unlike length")) aB)) dh))
def cT(n:Nat):Sg->Out:=(aN (uQ (qE (dT (pR leI leI (dC (.int 1)) (xM kC (ai (ao 0) aB)) (dC (.int 16))))) (oX "NoTable" (ai (dC (.str "a table has 1 to 16 rows")) aB)) dh)
  (mE (jz (ao 0)) (aG 1) (v9 n)))
def gf(as:List Slot):cJ:=mX (cT 0 (dg AQ as))
abbrev yO:List Str:=["grid","places","y","cells","x","cell"]
abbrev kq:List Str:=["grid"]
def uN(n:Nat):Sg->Out:=(uQ (dT (uv mt ["Fibre"] (ao 5))) adW dh)
def uM(n:Nat):Sg->Out:=(mE (Wy (ai (ao 3) aB)) (gU 2 (aW (aG 4) (aW (aG 5) iB))) (uN n))
def cA(n:Nat):Sg->Out:=(aN (lz 1 (λ _=> .ok (.k (.t []) [])))
  (aN (mE (Wy (ai (ao 0) aB)) (gU 2 (aW (aG 2) (aW (aG 3) iB))) (uM n))
  (yo 1)))
def fG(as:List Slot):cJ:=mX (cA 0 (dg yO as))
abbrev DJ:List Str:=["grid","ends","name","places"]
abbrev m8:List Str:=["grid"]
def xR(n:Nat):Sg->Out:=(aN (uQ (dT (aO xu (xM kC (ai (ao 3) aB)) (dC (.int 2)))) adW dh)
  (aN (yq 1 (kU 1) (aO fQ (ao 3) (dC (.int 0))) (aO fQ (ao 3) (dC (.int 1))))
  (yq 1 (kU 1) (aO fQ (ao 3) (dC (.int 1))) (aO fQ (ao 3) (dC (.int 0))))))
def dH(n:Nat):Sg->Out:=(aN (lz 1 (λ _=> .ok (.k (.t []) [])))
  (aN (mE (PX (ez 1 fG (ai (ao 0) aB))) (gU 2 (aW (aG 2) (aW (aG 3) iB))) (xR n))
  (yo 1)))
def iA(as:List Slot):cJ:=mX (dH 0 (dg DJ as))
abbrev u7:List Str:=["self","rows"]
abbrev iK:List Str:=["self","rows"]
def bS(n:Nat):Sg->Out:=(aN (Uu 0 ae8 "grid" (xM CO (ai (sr (iC false (jz (ao 1)) 1 [] (aG 0) uH (xM CO (ai (ao 0) aB)))) aB)))
  (aN (BW (d7 1 gf (ai (Xe "grid" (bN 0)) aB)))
  (Uu 0 ae8 "ends" (d7 1 iA (ai (Xe "grid" (bN 0)) aB)))))
def bU(as:List Slot):cJ:=SA (bS 0 (dg u7 as))
abbrev AR:List Str:=["self"]
abbrev jb:List Str:=["self"]
def cU(n:Nat):Sg->Out:=(gZ (xM kC (ai (aO fQ (Xe "grid" (ao 0)) (dC (.int 0))) aB)))
def cX(as:List Slot):cJ:=mX (cU 0 (dg AR as))
def sI:List (String×(List Slot->cJ)):=[("Table",cX)]
abbrev yP:List Str:=["self"]
abbrev g6:List Str:=["self"]
def cB(n:Nat):Sg->Out:=(gZ (xM kC (ai (Xe "grid" (ao 0)) aB)))
def cH(as:List Slot):cJ:=mX (cB 0 (dg yP as))
def oS:List (String×(List Slot->cJ)):=[("Table",cH)]
abbrev Ge:List Str:=["table","found","x","y"]
abbrev o6:List Str:=["table"]
def Aj(n:Nat):Sg->Out:=(O1 1 (kU 1) (iC false (jz (dC (.gt [.int 0,.int 1,.int 2,.int 3]))) 1 [2,3] (aG 0) uH (fj (ai (ao 1) (ai (ao 2) (ai (ao 0) aB))))))
def Ai(n:Nat):Sg->Out:=(mE (pM (ai (rW (vJ 0 oS (ao 0) aB)) aB)) (aG 3) (Aj n))
def di(n:Nat):Sg->Out:=(aN (lz 1 (mL (pQ aB)))
  (aN (mE (pM (ai (rW (vJ 0 sI (ao 0) aB)) aB)) (aG 2) (Ai n))
  (yo 1)))
def gK(as:List Slot):cJ:=mX (di 0 (dg Ge as))
abbrev JC:List Str:=["way"]
abbrev qZ:List Str:=["way"]
def gw(n:Nat):Sg->Out:=(gZ (aO ag7 (ao 0) (dC (.int 2))))
def i7(as:List Slot):cJ:=mX (gw 0 (dg JC as))
abbrev Vx:List Str:=["x","y","way"]
abbrev yD:List Str:=["x","y","way"]
def jA(n:Nat):Sg->Out:=(aN (uQ (dT (aO zI (ao 2) (dC (.int 0)))) (gZ (fj (ai (aO oz (ao 0) (dC (.int 1))) (ai (ao 1) aB)))) dh)
  (aN (uQ (dT (aO zI (ao 2) (dC (.int 1)))) (gZ (fj (ai (ao 0) (ai (aO IK (ao 1) (dC (.int 1))) aB)))) dh)
  (aN (uQ (dT (aO zI (ao 2) (dC (.int 2)))) (gZ (fj (ai (aO IK (ao 0) (dC (.int 1))) (ai (ao 1) aB)))) dh)
  (gZ (fj (ai (ao 0) (ai (aO oz (ao 1) (dC (.int 1))) aB)))))))
def kQ(as:List Slot):cJ:=mX (jA 0 (dg Vx as))
abbrev Rh:List Str:=["p","way","behind"]
abbrev uX:List Str:=["p"]
def fO(n:Nat):Sg->Out:=(aN (gR 1 (ez 1 i7 (ai (aO fQ (ao 0) (dC (.int 2))) aB)))
  (aN (gR 2 (ez 3 kQ (ai (aO fQ (ao 0) (dC (.int 0))) (ai (aO fQ (ao 0) (dC (.int 1))) (ai (ao 1) aB)))))
  (gZ (fj (ai (aO fQ (ao 2) (dC (.int 0))) (ai (aO fQ (ao 2) (dC (.int 1))) (ai (ao 1) aB)))))))
def gQ(as:List Slot):cJ:=mX (fO 0 (dg Rh as))
abbrev tL:List Str:=["self","x","y"]
abbrev d8:List Str:=["self","x","y"]
def bA(n:Nat):Sg->Out:=(gZ (Kz (pR leI ltI (dC (.int 0)) (ao 1) (rW (vJ 0 sI (ao 0) aB))) (pR leI ltI (dC (.int 0)) (ao 2) (rW (vJ 0 oS (ao 0) aB)))))
def bL(as:List Slot):cJ:=mX (bA 0 (dg tL as))
def lu:List (String×(List Slot->cJ)):=[("Table",bL)]
abbrev JG:List Str:=["table","p"]
abbrev rA:List Str:=["table","p"]
def dI(n:Nat):Sg->Out:=(gZ (rW (vJ 2 lu (ao 0) (ai (aO fQ (ao 1) (dC (.int 0))) (ai (aO fQ (ao 1) (dC (.int 1))) aB)))))
def fH(as:List Slot):cJ:=mX (dI 0 (dg JG as))
abbrev Gh:List Str:=["table","p"]
abbrev o9:List Str:=["table","p"]
def cP(n:Nat):Sg->Out:=(gZ (ez 2 fH (ai (ao 0) (ai (ez 1 gQ (ai (ao 1) aB)) aB))))
def dj(as:List Slot):cJ:=mX (cP 0 (dg Gh as))
abbrev Vw:List Str:=["table"]
abbrev yC:List Str:=["table"]
def kL(n:Nat):Sg->Out:=(vE (mL (Y3 yg (ai (sr (iC false (jz (fT 1 gK (ai (ao 0) aB))) 1 [0] (aG 0) (qE (dT (fT 2 dj (ai (ao 1) (ai (ao 0) aB))))) (ao 0))) aB))))
def pY(as:List Slot):cJ:=mX (kL 0 (dg Vw as))
abbrev Q9:List Str:=["table"]
abbrev uS:List Str:=["table"]
def iT(n:Nat):Sg->Out:=(vE (mL (Y3 yg (ai (sr (iC false (jz (fT 1 pY (ai (ao 0) aB))) 1 [] (aG 0) uH (fT 1 gQ (ai (ao 0) aB)))) aB))))
def mV(as:List Slot):cJ:=mX (iT 0 (dg Q9 as))
abbrev DL:List Str:=["table"]
abbrev ng:List Str:=["table"]
def dJ(n:Nat):Sg->Out:=(vE (mL (Y3 yg (ai (sr (lOp afy (fT 1 gK (ai (ao 0) aB)) (fT 1 mV (ai (ao 0) aB)))) aB))))
def cR(as:List Slot):cJ:=mX (dJ 0 (dg DL as))
abbrev aaw:List Str:=["_law_top","_law_bottom","_law_one","_law_other"]
abbrev xo:List Str:=["_law_top","_law_bottom"]
def pZ(n:Nat):Sg->Res Bool:=(dT (aO xu (ao 3) (dC (.int 0))))
def uL(n:Nat):Sg->Out:=(adV 2 3 (ai (ao 3) (ai (aO iL (ao 2) (ao 3)) aB)))
def jS(n:Nat):Sg->Out:=(aN (gR 2 (ao 0))
  (aN (gR 3 (ao 1))
  (aN (eG (pZ n) (uL n) n)
  (gZ (fj (ai (aO fZ (ao 0) (ao 2)) (ai (aO fZ (ao 1) (ao 2)) aB)))))))
noncomputable def eE:List Slot->cJ
 |[.val (.int a),.val (.int b)]=>if 0<=a/\1<=b/\b.natAbs<2^9000 then .ok (.tup [.int (a.fdiv (Int.gcd a b)),.int (b.fdiv (Int.gcd a b))]) else .bad
 |_=> .bad
def VI(a b:Slot)(m:Nat):∀(s l k:Nat),s<k->eG (pZ m) (uL m) k [a,b,.val (.int l),.val (.int s)]= .nx [a,b,.val (.int (Nat.gcd l s:Nat)),.val (.int 0)]:=by
 intro s;induction s using Nat.strongRecOn with
 |_ s ih=>
  intro l k hk;obtain ⟨k,rfl⟩:∃j,k=j+1:=⟨k- 1,by omega⟩;by_cases h:s=0
  ·subst h;simp[eG,pZ]
  ·have e:=ih (l%s) (Nat.mod_lt l (by omega)) s k (by have:=Nat.mod_lt l (show 0<s by omega);omega);have hs:((s:Int)=0)=False:=by simp[h]
   have hs':(s:Int)≠0:=by omega
   rw[GU l s h, <-e];simp[eG,pZ,uL,h,hs,kr _ _ hs',GZ]
def aa6(as:List Slot)(hl:as.length=xo.length)(hb:eE as≠.bad):∃n,mX (jS n (dg aaw as))=eE as:=by
 match as,hb with
 |[.val (.int a),.val (.int b)],hb=>
  by_cases hc:0<=a/\1<=b/\b.natAbs<2^9000
  ·obtain ⟨h1,h2,h3⟩:=id hc;obtain ⟨l,rfl⟩:=Int.eq_ofNat_of_zero_le h1;obtain ⟨s,rfl⟩:=Int.eq_ofNat_of_zero_le (show 0<=b by omega);refine ⟨s+1,?_⟩;have e:=VI (.val (.int (l:Int))) (.val (.int (s:Int))) (s+1) s l (s+1) (by omega);have hg:Int.gcd (l:Int) (s:Int)=Nat.gcd l s:=by simp[Int.gcd]
   have hgp:0<Nat.gcd l s:=Nat.gcd_pos_of_pos_right _ (by omega);have hgl:Nat.gcd l s<=s:=Nat.le_of_dvd (by omega) (Nat.gcd_dvd_right _ _);have d:∀x:Int,fZ (.int x) (.int ((Nat.gcd l s:Nat):Int))= .ok (.int (x.fdiv ((Nat.gcd l s:Nat):Int))):=λ x=>vj _ _ (zL (by omega) (Nat.lt_of_le_of_lt (by simpa using hgl) (by simpa using h3)));simp only[eE,hc,and_self,if_true,hg];simp[jS,dg,e,d]
  ·exact absurd (by simp[eE,hc]) hb
abbrev Rb:List Str:=["_law_script","_law_passes","_law_lamps_here","_law_cell","_law_p"]
abbrev uU:List Str:=["_law_script","_law_passes"]
def kX(n:Nat):Sg->Out:=(aN (gR 4 (aO fQ (ao 1) (aO iL (aO iL (aO fZ (ao 3) (dC (.int 3))) (aO fQ (sr (pQ (ai (dC (.int 5)) (ai (xM kC (ai (ao 1) aB)) aB)))) (aO iL (aO iL (ao 3) (dC (.int 3))) (dC (.int 2))))) (xM kC (ai (ao 1) aB)))))
  (C8 2 (kU 2) (fj (ai (ao 4) (ai (fT 2 eE (ai (aO oz (dC (.int 1)) (aO iL (aO qy (ao 3) (dC (.int 48271))) (aO UH (dC (.int 10)) (dC (.int 30))))) (ai (aO oz (dC (.int 1)) (aO iL (aO fZ (ao 3) (dC (.int 7))) (dC (.int 97)))) aB))) aB)))))
def gH(n:Nat):Sg->Out:=(aN (lz 2 (mL (pQ aB)))
  (aN (mE (jz (sr (aeN (ao 0) (dP (dC (.int 2))) (dP (dC (.int 62)))))) (aG 3) (kX n))
  (yo 2)))
def gM(as:List Slot):cJ:=mX (gH 0 (dg Rb as))
abbrev Gf:List Str:=["_law_lamps_here","_law_cell","_law_wide","_law_high","_law_far","_law_at","_law_p","_law_strength","_law_none","_law_zero","_law_way"]
abbrev o7:List Str:=["_law_lamps_here","_law_cell","_law_wide","_law_high"]
def cO(n:Nat):Sg->Out:=(aN (gR 4 (aO iL (aO fZ (ao 1) (dC (.int 9))) (aO UH (dC (.int 10)) (dC (.int 30)))))
  (aN (Ut 5 (aO iL (aO fZ (ao 1) (dC (.int 3))) (xM kC (ai (bN 0) aB))))
  (aN (BX (aO fQ (bN 0) (ao 5)) (gU 2 (aW (aG 6) (aW (aG 7) iB))))
  (aN (gR 8 (aO fQ (sr (pQ (ai (fj (ai (aO oz (aO oz (ao 2) (dC (.int 1))) (ao 4)) (ai (dC (.int 0)) (ai (dC (.int 0)) aB)))) (ai (fj (ai (dC (.int 0)) (ai (aO IK (dUn Q8 (dC (.int 2))) (ao 4)) (ai (dC (.int 1)) aB)))) (ai (fj (ai (dC (.int 0)) (ai (dC (.int 0)) (ai (dC (.int 4)) aB)))) (ai (fj (ai (dC (.int 0)) (ai (dC (.int 0)) (ai (dUn Q8 (dC (.int 1))) aB)))) (ai (fj (ai (ao 2) (ai (ao 3) (ai (dC (.int 0)) aB)))) aB))))))) (aO iL (aO fZ (ao 1) (dC (.int 27))) (dC (.int 5)))))
  (aN (gR 9 (aO fQ (sr (pQ (ai (fj (ai (dC (.int 0)) (ai (dC (.int 1)) aB))) (ai (fj (ai (aO IK (aO IK (dC (.int 0)) (dC (.int 1))) (ao 4)) (ai (dC (.int 1)) aB))) (ai (fj (ai (dUn Q8 (dC (.int 1))) (ai (aO oz (dC (.int 1)) (ao 4)) aB))) aB))))) (aO iL (aO fZ (ao 1) (dC (.int 135))) (dC (.int 3)))))
  (aN (gR 10 (aO iL (aO fZ (ao 1) (dC (.int 9))) (dC (.int 3))))
  (aN (ym 0 (kU 0) (ao 5) (aO fQ (sr (pQ (ai (fj (ai (ao 8) (ai (ao 7) aB))) (ai (fj (ai (ao 6) (ai (ao 9) aB))) (ai (fj (ai (ao 8) (ai (ao 9) aB))) aB))))) (ao 10)))
  (aN (uQ (dT (aO ltI (aO oz (ao 5) (dC (.int 1))) (xM kC (ai (bN 0) aB)))) (ym 0 (kU 0) (aO oz (ao 5) (dC (.int 1))) (aO fQ (sr (pQ (ai (fj (ai (ao 6) (ai (ao 9) aB))) (ai (fj (ai (ao 8) (ai (ao 7) aB))) (ai (fj (ai (ao 6) (ai (ao 9) aB))) aB))))) (ao 10))) dh)
  (O0 (aO fQ (sr (pQ (ai (dC (.str "pass")) (ai (dC (.str "strength")) (ai (dC (.str "pass")) aB))))) (ao 10)))))))))))
def cQ(as:List Slot):cJ:=SA (cO 0 (dg Gf as))
abbrev DK:List Str:=["table","p"]
abbrev m9:List Str:=["table","p"]
def b8(n:Nat):Sg->Out:=(uQ (Y7 (dT (aO rF (aO fQ (ao 1) (dC (.int 2))) (dC (.gt [.int 0,.int 1,.int 2,.int 3])))) (qE (Y7 (dT (ez 2 fH (ai (ao 0) (ai (ao 1) aB)))) (dT (ez 2 dj (ai (ao 0) (ai (ao 1) aB))))))) (oX "NoPass" (ai (dC (.str "the table has no such pass")) aB)) dh)
def bX(as:List Slot):cJ:=mX (b8 0 (dg DK as))
abbrev aav:List Str:=["one","other"]
abbrev Dk:List Str:=["one","other"]
def jR(n:Nat):Sg->Out:=(gZ (aO ltI (aO qy (aO fQ (ao 0) (dC (.int 0))) (aO fQ (ao 1) (dC (.int 1)))) (aO qy (aO fQ (ao 1) (dC (.int 0))) (aO fQ (ao 0) (dC (.int 1))))))
def jU(as:List Slot):cJ:=mX (jR 0 (dg aav as))
abbrev u6:List Str:=["strength"]
abbrev iJ:List Str:=["strength"]
def aZ(n:Nat):Sg->Out:=(uQ (qE (dT (ez 2 jU (ai (dC (.gt [.int 0,.int 1])) (ai (ao 0) aB))))) (oX "NoStrength" (ai (dC (.str "a strength is above 0")) aB)) dh)
def bf(as:List Slot):cJ:=mX (aZ 0 (dg u6 as))
abbrev rG:List Str:=["one","other","larger","smaller","rest"]
abbrev dw:List Str:=["one","other"]
def cK(n:Nat):Sg->Res Bool:=(dT (aO xu (ao 3) (dC (.int 0))))
def eF(n:Nat):Sg->Out:=(aN (gR 4 (aO iL (ao 2) (ao 3)))
  (aN (gR 2 (ao 3))
  (gR 3 (ao 4))))
def aX(n:Nat):Sg->Out:=(aN (gR 2 (xM XN (ai (ao 0) aB)))
  (aN (gR 3 (xM XN (ai (ao 1) aB)))
  (aN (eG (cK n) (eF n) n)
  (gZ (ao 2)))))
noncomputable def aM:List Slot->cJ
 |[.val (.int a),.val (.int b)]=> .ok (.int (Int.gcd a b))
 |_=> .bad
def aa8(a b:Slot)(m:Nat):∀(s l k:Nat) (r:Slot),s<k->∃r',eG (cK m) (eF m) k [a,b,.val (.int l),.val (.int s),r]= .nx [a,b,.val (.int (Nat.gcd l s:Nat)),.val (.int 0),r']:=by
 intro s;induction s using Nat.strongRecOn with
 |_ s ih=>
  intro l k r hk;obtain ⟨k,rfl⟩:∃j,k=j+1:=⟨k- 1,by omega⟩;by_cases h:s=0
  ·subst h;exact ⟨r,by simp[eG,cK]⟩
  ·obtain ⟨r',e⟩:=ih (l%s) (Nat.mod_lt l (by omega)) s k (.val (.int (l%s:Nat))) (by have:=Nat.mod_lt l (show 0<s by omega);omega);refine ⟨r',?_⟩;have hs:((s:Int)=0)=False:=by simp[h]
   have hs':(s:Int)≠0:=by omega
   rw[GU l s h, <-e];simp[eG,cK,eF,h,hs,kr _ _ hs',GZ]
def rM(as:List Slot)(hl:as.length=dw.length)(hb:aM as≠.bad):∃n,mX (aX n (dg rG as))=aM as:=by
 match as,hb with
 |[.val (.int a),.val (.int b)],_=>
  obtain ⟨r',e⟩:=aa8 (.val (.int a)) (.val (.int b)) (b.natAbs+1) b.natAbs a.natAbs (b.natAbs+1) .no (by omega);refine ⟨b.natAbs+1,?_⟩;have ha:(if a<0 then -a else a)=(a.natAbs:Int):=by split<;>omega
  have hb:(if b<0 then -b else b)=(b.natAbs:Int):=by split<;>omega
  simp[aX,dg,XN,ha,hb,e,aM,Int.gcd]
abbrev JF:List Str:=["top","bottom","divisor"]
abbrev rm:List Str:=["top","bottom"]
def dG(n:Nat):Sg->Out:=(aN (uQ (dT (aO zI (ao 1) (dC (.int 0)))) (oX "NoFraction" (ai (dC (.str "the bottom of a fraction is never 0")) aB)) dh)
  (aN (gR 2 (ez 2 aM (ai (ao 0) (ai (ao 1) aB))))
  (aN (uQ (dT (aO ltI (ao 1) (dC (.int 0)))) (gR 2 (dUn Q8 (ao 2))) dh)
  (gZ (fj (ai (aO fZ (ao 0) (ao 2)) (ai (aO fZ (ao 1) (ao 2)) aB)))))))
def fF(as:List Slot):cJ:=mX (dG 0 (dg JF as))
def GY(t b:Int)(h:b≠0)(hb:b.natAbs<2^9000):fF [.val (.int t),.val (.int b)]= .ok (.tup [.int (Eb t b),.int (EN t b)]):=by
 have d1:∀x,fZ (.int x) (.int (vQ b (Int.gcd t b)))= .ok (.int (x.fdiv (vQ b (Int.gcd t b)))):=λ x=>vj _ _ (zL (WV h) (R1 h hb));by_cases hn:b<0
 ·have e:vQ b (Int.gcd t b)= -(Int.gcd t b:Int):=by simp[vQ,hn]
  rw[e] at d1;simp[fF,dG,dg,h,hn,aM,d1,Eb,EN,e]
 ·have e:vQ b (Int.gcd t b)=(Int.gcd t b:Int):=by simp[vQ,hn]
  rw[e] at d1;simp[fF,dG,dg,h,hn,aM,d1,Eb,EN,e]
def fq(p:Int×Int):D:= .tup [.int p.1,.int p.2]
def ix0(p:Int×Int):fQ (fq p) (.int 0)= .ok (.int p.1):=rfl
def ix1(p:Int×Int):fQ (fq p) (.int 1)= .ok (.int p.2):=rfl
structure Low(n:Nat)(p:Int×Int):Prop where
 pos:1<=p.2
 gcd:Int.gcd p.1 p.2=1
 top:p.1.natAbs<2^n
 bot:p.2.natAbs<2^n
abbrev aeD:List Str:=["one","other"]
abbrev Jf:List Str:=["one","other"]
def pU(n:Nat):Sg->Out:=(gZ (ez 2 fF (ai (aO oz (aO qy (aO fQ (ao 0) (dC (.int 0))) (aO fQ (ao 1) (dC (.int 1)))) (aO qy (aO fQ (ao 1) (dC (.int 0))) (aO fQ (ao 0) (dC (.int 1))))) (ai (aO qy (aO fQ (ao 0) (dC (.int 1))) (aO fQ (ao 1) (dC (.int 1)))) aB))))
def pX(as:List Slot):cJ:=mX (pU 0 (dg aeD as))
abbrev JE:List Str:=["pairs","strengths","p","strength"]
abbrev rj:List Str:=["pairs"]
def jG(n:Nat):Sg->Out:=(yq 1 (kU 1) (ao 2) (d7 2 pX (ai (vS (bN 1) (ao 2) (dC (.gt [.int 0,.int 1]))) (ai (ao 3) aB))))
def fu(n:Nat):Sg->Out:=(aN (lz 1 (λ _=> .ok (.k (.t []) [])))
  (aN (mE (jz (ao 0)) (gU 2 (aW (aG 2) (aW (aG 3) iB))) (jG n))
  (vE (mL (λ Γ=>((bN 1) Γ).bnd yh)))))
def gC(as:List Slot):cJ:=mX (fu 0 (dg JE as))
abbrev JD:List Str:=["table","lamps","p","strength"]
abbrev q8:List Str:=["table","lamps"]
def bV(n:Nat):Sg->Out:=(aN (BW (ez 2 bX (ai (ao 0) (ai (ao 2) aB))))
  (BW (ez 1 bf (ai (ao 3) aB))))
def b5(n:Nat):Sg->Out:=(aN (mE (jz (ao 1)) (gU 2 (aW (aG 2) (aW (aG 3) iB))) (bV n))
  (vE (pI 1 gC (ai (ao 1) aB))))
def bw(as:List Slot):cJ:=mX (b5 0 (dg JD as))
abbrev Rf:List Str:=["_law_table","_law_lamps_here","_law_found_here","e"]
abbrev uW:List Str:=["_law_table","_law_lamps_here"]
def gJ(n:Nat):Sg->Out:=(aN (gR 2 (fj (ai (dC (.str "none")) (ai (dC .dY) aB))))
  (aN (C7 3 (qL mt "BeamError") (gR 2 (fj (ai (dC (.str "light")) (ai (ez 2 bw (ai (ao 0) (ai (ao 1) aB))) aB)))) (aN (uQ (Sv (dT (uv mt ["NoPass"] (ao 3))) (qE (dT (uv mt ["NoStrength","NoCell"] (ao 3))))) (gR 2 (fj (ai (dC (.str "pass")) (ai (dC .dY) aB)))) dh)
  (uQ (Sv (dT (uv mt ["NoStrength"] (ao 3))) (qE (dT (uv mt ["NoPass","NoCell"] (ao 3))))) (gR 2 (fj (ai (dC (.str "strength")) (ai (dC .dY) aB)))) dh)))
  (gZ (ao 2))))
def gP(as:List Slot):cJ:=mX (gJ 0 (dg Rf as))
abbrev Ra:List Str:=["_law_found_here"]
abbrev uT:List Str:=["_law_found_here"]
def gG(n:Nat):Sg->Out:=(gZ (Kz (uv mt ["int"] (ao 0)) (afr (uv mt ["bool"] (ao 0)))))
def i8(as:List Slot):cJ:=mX (gG 0 (dg Ra as))
abbrev Rc:List Str:=["_law_light","_law_one"]
abbrev uV:List Str:=["_law_light"]
def kY(n:Nat):Sg->Out:=(aN (uQ (Y7 (qE (dT (uv mt ["tuple"] (ao 1)))) (dT (aO xu (xM kC (ai (ao 1) aB)) (dC (.int 2))))) (gZ (dC (.bl false))) dh)
  (aN (uQ (Y7 (qE (dT (uv mt ["tuple"] (aO fQ (ao 1) (dC (.int 0)))))) (qE (dT (uv mt ["tuple"] (aO fQ (ao 1) (dC (.int 1))))))) (gZ (dC (.bl false))) dh)
  (uQ (qE (dT (xM abK (ai (sr (iC false (jz (aO Xs (aO fQ (ao 1) (dC (.int 0))) (aO fQ (ao 1) (dC (.int 1))))) 1 [] (aG 0) uH (ez 1 i8 (ai (ao 0) aB)))) aB)))) (gZ (dC (.bl false))) dh)))
def gI(n:Nat):Sg->Out:=(aN (uQ (qE (dT (uv mt ["list"] (ao 0)))) (gZ (dC (.bl false))) dh)
  (aN (mE (jz (ao 0)) (aG 1) (kY n))
  (gZ (dC (.bl true)))))
def gO(as:List Slot):cJ:=mX (gI 0 (dg Rc as))
abbrev aax:List Str:=["_law_lamps_here","_law_kept","_law_p","_law_strength","_law_top","_law_bottom"]
abbrev Dl:List Str:=["_law_lamps_here"]
def p6(n:Nat):Sg->Out:=(aN (BX (vS (bN 1) (ao 2) (fj (ai (dC (.int 0)) (ai (dC (.int 1)) aB)))) (gU 2 (aW (aG 4) (aW (aG 5) iB))))
  (yq 1 (kU 1) (ao 2) (fT 2 eE (ai (aO oz (aO qy (ao 4) (aO fQ (ao 3) (dC (.int 1)))) (aO qy (aO fQ (ao 3) (dC (.int 0))) (ao 5))) (ai (aO qy (ao 5) (aO fQ (ao 3) (dC (.int 1)))) aB)))))
def jT(n:Nat):Sg->Out:=(aN (lz 1 (λ _=> .ok (.k (.t []) [])))
  (aN (mE (jz (ao 0)) (gU 2 (aW (aG 2) (aW (aG 3) iB))) (p6 n))
  (vE (mL (iC true (jz (sr (Y3 CU (ai (bN 1) aB)))) 1 [1] (aG 0) uH (fj (ai (ao 0) (ai (aO zE (ao 1) (ao 0)) aB))))))))
def iz(as:List Slot):cJ:=mX (jT 0 (dg aax as))
abbrev ace:List Str:=["_law_script","_law_wide","_law_high","_law_table","_law_lamps_here","_law_cell","_law_word","_law_handed","_law_light"]
abbrev U7:List Str:=["_law_script"]
def z7(n:Nat):Sg->Out:=(aN (gR 1 (aO oz (dC (.int 1)) (aO iL (ez 2 aR (ai (ao 0) (ai (dC (.int 0)) aB))) (dC (.int 4)))))
  (aN (gR 2 (aO oz (dC (.int 1)) (aO iL (ez 2 aR (ai (ao 0) (ai (dC (.int 1)) aB))) (dC (.int 4)))))
  (aN (gR 3 (Hi 1 "Table" ["grid","ends"] bU (ai (sr (iC false (pM (ai (ao 2) aB)) 1 [1] (aG 0) uH (sr (iC false (pM (ai (ao 1) aB)) 1 [] (aG 0) uH (dC (.obj "Empty" [] [])))))) aB)))
  (aN (lz 4 (pI 2 gM (ai (ao 0) (ai (fT 1 cR (ai (ao 3) aB)) aB))))
  (aN (gR 5 (aO fZ (ez 2 aR (ai (ao 0) (ai (dC (.int 0)) aB))) (dC (.int 4))))
  (aN (uQ (Sv (dT (aO zI (aO iL (ao 5) (dC (.int 3))) (dC (.int 0)))) (dT (aO xu (bN 4) (sr (pQ aB))))) (aN (OZ 6 (ES 4 4 0 cQ (ai (dC .dY) (ai (aO fZ (ao 5) (dC (.int 3))) (ai (ao 1) (ai (ao 2) aB))))))
  (BU (aO zI (d7 2 gP (ai (ao 3) (ai (bN 4) aB))) (fj (ai (ao 6) (ai (dC .dY) aB)))))) dh)
  (aN (lz 7 (mL (Y3 Gy (ai (bN 4) aB))))
  (aN (lz 8 (rJ 2 bw (ai (ao 3) (ai (bN 7) aB))))
  (aN (uQ (Y7 (dT (aO xu (bN 7) (bN 4))) (Y7 (dT (aO xu (bN 8) (d7 1 iz (ai (bN 4) aB)))) (qE (dT (d7 1 gO (ai (bN 8) aB)))))) (gZ (dC (.bl false))) dh)
  (aN (uR 7 (kU 7))
  (aN (uR 8 (kU 8))
  (BU (Kz (aO zI (fT 2 bw (ai (ao 3) (ai (sr (pQ aB)) aB))) (sr (pQ aB))) (aO zI (d7 2 bw (ai (ao 3) (ai (bN 4) aB))) (d7 1 iz (ai (bN 4) aB))))))))))))))))
def v8(as:List Slot):cJ:=mX (z7 0 (dg ace as))
def rq(r:Rat):D:=fq (Jm r)
def acf{a b:Int}(ha:0<=a)(hb:1<=b)(hs:b.natAbs<2^9000):eE [.val (.int a),.val (.int b)]= .ok (fq (Eb a b,EN a b)):=by
 have e:vQ b (Int.gcd a b)=(Int.gcd a b:Int):=by unfold vQ;rw[if_neg (by omega)]
 simp only[eE];rw[if_pos ⟨ha,hb,hs⟩];unfold Eb EN;rw[e];rfl
def JJ{x y:Int}{n m:Nat}(hx:x.natAbs<2^n)(hy:y.natAbs<2^m)(hn:n<=1000000)(hm:m<=1000000):qy (.int x) (.int y)= .ok (.int (x*y)):=yQ _ _ (JI hx hy (Nat.le_trans hn (by decide)) (Nat.le_trans hm (by decide)))
structure IsR(x:D)(r:Rat):Prop where
 i0:fQ x (.int 0)= .ok (.int r.num)
 i1:fQ x (.int 1)= .ok (.int (r.den:Int))
def zx(r:Rat):IsR (rq r) r:=⟨rfl,rfl⟩
def Wh:IsR (.gt [.int 0,.int 1]) 0:=⟨rfl,rfl⟩
def Bj{c k:Nat}{r:Rat}(h:Sz c k r):((r.den:Int)).natAbs<2^(7*k):=by simpa using h.bot
def acq{c k d j:Nat}{r s:Rat}(h:Sz c k r)(g:Sz d j s)(hk:k+j<=1200):((r.den:Int)*s.den).natAbs<2^9000:=by rw[Int.natAbs_mul];exact Nat.lt_of_lt_of_le (DM (Bj h) (Bj g)) (Nat.pow_le_pow_right (by decide) (by omega))
def ad8{x y:D}{r s:Rat}{c d k j:Nat}(hx:IsR x r)(hy:IsR y s)(h:Sz c k r)(g:Sz d j s)(hk:k+j<=1200)(hc:c<=1000)(hd:d<=1000):pX [.val x,.val y]= .ok (rq (r+s)):=by have m1:=JJ h.top (Bj g) (by omega) (by omega);have m2:=JJ g.top (Bj h) (by omega) (by omega);have m3:=JJ (Bj h) (Bj g) (by omega) (by omega);have f:=GY (r.num*s.den+s.num*r.den) ((r.den:Int)*s.den) (Ef r s) (acq h g hk);simp only[pX,pU,dg];simp[hx.i0,hx.i1,hy.i0,hy.i1,m1,m2,m3,f];have e:=Lc r s;rw[D9 e,Uk e];rfl
def zh(l:Lt):List (List oF):=l.map λ p=>p.1.map Sum.inl
def BD(l:Lt):List D:=l.map λ p=>rq p.2
def eD(l:Lt):List D:=l.map λ p=> .tup [tupI p.1,rq p.2]
def D5{a b:List Int}:(a.map (Sum.inl:Int->oF)=b.map Sum.inl)↔ a=b:=by
 constructor
 ·intro h;exact List.map_inj_right (λ x y z=>Sum.inl.inj z)|>.mp h
 ·rintro rfl;rfl
def Cg:∀k:List Int,Ci (k.map D.int)=some (k.map Sum.inl)
 |[]=>rfl
 |x::k=>by simp[Ci,aaO,Cg k]
def zm(k:List Int):V3 (tupI k)=some (k.map Sum.inl):=Cg k
def abT(d:Lt):(zh d).zip (BD d)=d.map λ p=>(p.1.map Sum.inl,rq p.2):=by simp[zh,BD,List.zip_map',Function.comp_def]
def Kf:∀(d:Lt) (k:List Int),wI (zh d) (BD d) (k.map Sum.inl)=(rP d k).map rq:=by
 intro d k;unfold wI;rw[abT];induction d with
 |nil=>rfl
 |cons p d ih=>
  rw[Cm,List.map_cons,List.find?_cons];by_cases h:p.1=k
  ·simp[h]
  ·have:¬(p.1.map (Sum.inl:Int->oF)=k.map Sum.inl):=λ z=>h (D5.mp z);simp only[this,decide_false,h,if_false];exact ih
def acA(d:Lt)(k:List Int):((zh d).any λ n=>decide (n=k.map Sum.inl))=d.any λ p=>decide (p.1=k):=by simp only[zh,List.any_map,Function.comp_def,D5]
def ZJ(d:Lt)(k:List Int)(r:Rat):BS (zh d) (k.map Sum.inl)=zh (kT d k r):=by
 unfold BS kT;rw[acA];split
 ·simp only[zh,List.map_map];apply List.map_congr_left;intro p _;simp only[Function.comp];split<;>rfl
 ·simp[zh]
def ZI(d:Lt)(k:List Int)(r:Rat):Fj (zh d) (BD d) (k.map Sum.inl) (rq r)=BD (kT d k r):=by
 unfold Fj kT;rw[acA];split
 ·rw[abT];simp only[BD,List.map_map];apply List.map_congr_left;intro p _;simp only[Function.comp,D5];split<;>rfl
 ·simp[BD]
def K3(l:Lt):Prop:=∀p∈l,p.1.length=3
def ae0{k:List Int}(h:k.length=3):Wq (k.map Sum.inl)=some k:=by
 match k,h with
 |[a,b,c],_=>rfl
def D4:∀{d:Lt},K3 d->ints3 (zh d)=some (d.map (·.1))
 |[],_=>rfl
 |p::d,h=>by
  have e:=D4 (d:=d) λ q hq=>h q (.tail _ hq);have f:=ae0 (h p (.head _));show (match Wq (p.1.map Sum.inl),ints3 (zh d) with
   |some n,some ns=>some (n::ns)
   |_,_=>none)=_
  rw[e,f];rfl
def SX(d:Lt):(d.map (·.1)).zip (BD d)=kd d:=by simp[BD,kd,rq,fq,List.zip_map',Function.comp_def]
def ZD{d:Lt}(h3:K3 d)(hn:(d.map (·.1)).Nodup)(hl:d.length<4096)(b:Bool):CV (.oq b (.t (zh d)) (BD d))= .ok ((qm d).map λ p=>tupI p.1):=by simp only[CV,R7,D4 h3];rw[if_pos ⟨by simpa using hl,hn⟩,SX, <-DX];simp[kd,Function.comp_def]
def ZE{d:Lt}(h3:K3 d)(hn:(d.map (·.1)).Nodup)(hl:d.length<4096)(b:Bool):yh (.oq b (.t (zh d)) (BD d))= .ok (eD (qm d)):=by simp only[yh,R7,D4 h3];rw[if_pos ⟨by simpa using hl,hn⟩,SX, <-DX];simp[kd,Function.comp_def,eD,rq,fq]
def tH(r:Rat):nt (rq r)=true:=by simp[rq,fq]
def nj(k:List Int):nt (tupI k)=true:=by simp only[tupI,aex];exact qc _ (λ x=>by simp) k
def rE(l:Lt):kR (eD l)=true:=qc _ (λ p=>by simp[tH,nj]) l
def aao(l:Lt):kR (BD l)=true:=qc (λ p:List Int×Rat=>rq p.2) (λ p=>tH p.2) l
def acr(r:Rat):dn (rq r)=rq r:=by simp[rq,fq,dn,oH]
def Pj(r:Rat):nb (rq r)=true:=by simp[rq,fq,nb,oj]
def VC{d:Lt}{k:List Int}{v:Rat}{p:List Int×Rat}(h:p∈kT d k v):p∈d\/p.2=v/\p.1=k:=by
 unfold kT at h;split at h
 ·obtain ⟨q,hq,e⟩:=List.mem_map.mp h;by_cases hk:q.1=k
  ·rw[if_pos hk] at e;subst e;exact .inr ⟨rfl,hk⟩
  ·rw[if_neg hk] at e;subst e;exact .inl hq
 ·rcases List.mem_append.mp h with h|h
  ·exact .inl h
  ·simp at h;subst h;exact .inr ⟨rfl,rfl⟩
def GA(d:Lt)(k:List Int)(v:Rat):(kT d k v).length<=d.length+1:=by unfold kT;split<;>simp
def Gs:∀{d:Lt},(d.map (·.1)).Nodup->∀{p:List Int×Rat},p∈d->rP d p.1=some p.2
 |q::d,h,p,hp=>by
  rw[List.map_cons,List.nodup_cons] at h;rw[Cm];rcases List.mem_cons.mp hp with rfl|hp
  ·rw[if_pos rfl]
  ·rw[if_neg λ z:q.1=p.1=>h.1 (List.mem_map.mpr ⟨p,hp,z.symm⟩)];exact Gs h.2 hp
def qU(d:Lt)(k:List Int):(rP d k=none/\lW d k=0)\/∃p∈d,rP d k=some p.2/\lW d k=p.2:=by
 unfold lW rP;cases h:d.find? λ p=>decide (p.1=k) with
 |none=>exact .inl ⟨rfl,rfl⟩
 |some p=>exact .inr ⟨p,List.mem_of_find?_eq_some h,rfl,rfl⟩
def zr:D:= .gt [.int 0,.int 1]
def zt:D:= .tup [.int 0,.int 1]
def aaW(d:Lt)(k:List Int):IsR (((rP d k).map rq).getD zr) (lW d k)/\dn (((rP d k).map rq).getD zr)=((rP d k).map rq).getD zr:=by
 rcases qU d k with ⟨h1,h2⟩|⟨p,_,h1,h2⟩
 ·rw[h1,h2];exact ⟨Wh,by simp[zr,dn,oH]⟩
 ·rw[h1,h2];exact ⟨zx _,acr _⟩
def IJ{d:Lt}{c m:Nat}(h:∀p∈d,Sz c m p.2)(hm:1<=m)(k:List Int):Sz c m (lW d k):=by
 rcases qU d k with ⟨_,h2⟩|⟨p,hp,_,h2⟩
 ·rw[h2];exact Sz.zero.mono (Nat.le_refl _) hm
 ·rw[h2];exact h p hp
def dR(d:Lt):M:= .k (.t (zh d)) (BD d)
def UA{d:Lt}{k:List Int}{v:Rat}(hl:d.length<1000000):vF (k.map Sum.inl) (rq v) (dR d)=some (dR (kT d k v)):=by simp only[dR,vF];rw[if_pos ⟨tH v,by simpa[zh] using hl⟩,ZJ d k v,ZI]
def A9(a s2 s3:Slot){d:Lt}{k:List Int}{r:Rat}{c m:Nat}(hd:∀p∈d,Sz c m p.2)(hr:Sz c 1 r)(hm:1<=m)(hm2:m<=1000)(hc:c<=1000)(hl:d.length<1000000):jG 0 [a,.own (dR d),.val (tupI k),.val (rq r)]= .nx [a,.own (dR (kT d k (lW d k+r))),.val (tupI k),.val (rq r)]:=by
 obtain ⟨g1,g2⟩:=aaW d k;have e:=ad8 g1 (zx r) (IJ hd hm k) hr (by omega) hc hc;have p:=UA (k:=k) (v:=lW d k+r) hl;have e0:lend (dR d)= .oq true (.t (zh d)) (BD d):=by simp[dR,lend]
 have e1:Cn (.oq true (.t (zh d)) (BD d)) (tupI k) zr= .ok (((rP d k).map rq).getD zr):=by simp only[Cn,R7,zm,Kf]
 have e2:(d7 2 pX (ai (vS (bN 1) (ao 2) (dC (.gt [.int 0,.int 1]))) (ai (ao 3) aB))) [a,.own (dR d),.val (tupI k),.val (rq r)]= .ok (rq (lW d k+r)):=by
  have:vS (bN 1) (ao 2) (dC (.gt [.int 0,.int 1])) [a,.own (dR d),.val (tupI k),.val (rq r)]= .ok (((rP d k).map rq).getD zr):=by rw[<-e1];simp[vS,e0,R7,zr]
  simp only[Ky,Sa,this];simp[oH,g2,acr,e,Vv,Pj]
 simp only[jG,yq,e2];simp[kU,zm,yb,p]
def GW(d:Lt)(p:List Int×Rat)(l:Lt):sj d (p::l)=sj (kT d p.1 (lW d p.1+p.2)) l:=rfl
def Uc{d:Lt}{k:List Int}{r:Rat}{c m:Nat}(hd:∀p∈d,Sz c m p.2)(hr:Sz c 1 r)(hm:1<=m):∀p∈kT d k (lW d k+r),Sz c (m+1) p.2:=by
 intro p hp;rcases VC hp with h|h
 ·exact (hd p h).mono (Nat.le_refl _) (by omega)
 ·rw[h.1];exact (IJ hd hm k).add hr hm (Nat.le_refl _)
def qM(a:Slot){c:Nat}(hc:c<=1000):∀(l d:Lt) (m:Nat) (s2 s3:Slot),(∀p∈d,Sz c m p.2)->(∀p∈l,Sz c 1 p.2)->1<=m->m+l.length<=1000->d.length+l.length<1000000->∃t2 t3,fM (gU 2 (aW (aG 2) (aW (aG 3) iB))) (jG 0) (eD l) [a,.own (dR d),s2,s3]= .nx [a,.own (dR (sj d l)),t2,t3]
 |[],d,m,s2,s3,_,_,_,_,_=>⟨s2,s3,rfl⟩
 |p::l,d,m,s2,s3,hd,hl,hm,hs,hn=>by simp only[List.length_cons] at hs hn;have st:=A9 a s2 s3 (k:=p.1) hd (hl p (.head _)) hm (by omega) hc (by omega);have hlen:=GA d p.1 (lW d p.1+p.2);obtain ⟨t2,t3,e⟩:=qM a hc l (kT d p.1 (lW d p.1+p.2)) (m+1) (.val (tupI p.1)) (.val (rq p.2)) (Uc hd (hl p (.head _)) hm) (λ q hq=>hl q (.tail _ hq)) (by omega) (by omega) (by omega);refine ⟨t2,t3,?_⟩;rw[GW, <-e];simp only[eD,List.map_cons,fM];simp[st]
def Vp(d:Lt):F8 (dR d)=true:=by simp[dR,F8,aao]
def Pw(d:Lt):lend (dR d)= .oq true (.t (zh d)) (BD d):=by simp[dR,lend]
structure Good(l:Lt):Prop where
 k3:K3 l
 nd:(l.map (·.1)).Nodup
 ln:l.length<4096
def Xn{d:Lt}(hn:(d.map (·.1)).Nodup):∀(m:Lt),(∀p∈m,p∈d)->uA (Y6 (aG 0) uH (fj (ai (ao 0) (ai (aO zE (ao 1) (ao 0)) aB))) [.no,.val (.oq true (.t (zh d)) (BD d))]) (m.map λ p=>tupI p.1)= .ok (eD m)
 |[],_=>rfl
 |p::m,h=>by
  have ih:=Xn hn m λ q hq=>h q (.tail _ hq);have g:zE (.oq true (.t (zh d)) (BD d)) (tupI p.1)= .ok (rq p.2):=by simp only[zE,R7,zm,Kf,Gs hn (h p (.head _)),Option.map_some]
  simp only[List.map_cons,uA,ih];simp[Y6,g,eD]
def Zx{x:D}{r:Rat}{c k:Nat}(hx:IsR x r)(h:Sz c k r):jU [.val zr,.val x]= .ok (.bl (decide (0<r.num))):=by have z0:fQ zr (.int 0)= .ok (.int 0):=rfl;have z1:fQ zr (.int 1)= .ok (.int 1):=rfl;simp only[jU,jR,dg];simp[z0,z1,hx.i0,hx.i1]
def abw{x:D}{r:Rat}{c k:Nat}(hx:IsR x r)(h:Sz c k r)(hp:0<r.num):bf [.val x]= .ok .dY:=by have e:=Zx hx h;unfold zr at e;simp only[bf,aZ,dg];simp[e,hp]
def fm(x y:Int)(h:0<y):0<=x.fmod y/\x.fmod y<y:=⟨Int.fmod_nonneg_of_pos x h,Int.fmod_lt_of_pos x h⟩
def YW(c:Int):Int:=1+(c*48271).fmod (10^30)
noncomputable def Ug(c:Int):Nat:=(1+(c.fdiv 7).fmod 97).toNat
def IP(c:Int):(Ug c:Int)=1+(c.fdiv 7).fmod 97/\1<=Ug c/\Ug c<=97:=by have:=fm (c.fdiv 7) 97 (by decide);unfold Ug;omega
def YX(c:Int):Rat:=Rat.normalize (YW c) (Ug c) (by have:=IP c;omega)
def Ud(c:Int):1<=YW c/\YW c<=10^30:=by have:=fm (c*48271) (10^30) (by decide);unfold YW;omega
def Ue(c:Int):(Eb (YW c) (Ug c),EN (YW c) (Ug c))=Jm (YX c):=Pf _ _ _
def adN(c:Int):Sz 100 1 (YX c)/\0<(YX c).num:=by
 obtain ⟨b1,b2,b3⟩:=IP c;have t:=Ud c;have e:=Ue c;have hb:((Ug c:Nat):Int)≠0:=by omega
 have nn:=Vl e (by omega) (by omega);refine ⟨⟨nn,?_,?_⟩,?_⟩
 ·refine Nat.lt_of_le_of_lt (Vm e hb) ?_;have:(YW c).natAbs<=10^30:=by omega
  exact Nat.lt_of_le_of_lt this (by decide)
 ·refine Nat.lt_of_le_of_lt (W9 e hb) ?_;have:((Ug c:Nat):Int).natAbs<=97:=by omega
  exact Nat.lt_of_le_of_lt this (by decide)
 ·rcases Int.lt_or_eq_of_le nn with h|h
  ·exact h
  ·have:=Ea (YW c) (Ug c);rw[D9 e, <-h,Int.zero_mul] at this;omega
def Ga{α:Type} [DecidableEq α]:∀{l m:List α},l.Nodup->(∀x∈l,x∈m)->l.length<=m.length
 |[],m,_,_=>Nat.zero_le _
 |x::l,m,h,hs=>by rw[List.nodup_cons] at h;have hx:=hs x (.head _);have:=Ga (l:=l) (m:=m.erase x) h.2 λ y hy=>(List.mem_erase_of_ne (λ e:y=x=>h.1 (by rw[<-e];exact hy))).mpr (hs y (.tail _ hy));rw[List.length_erase_of_mem hx] at this;have:=List.length_pos_of_mem hx;rw[List.length_cons];omega
structure SW(Q:List (List Int))(l:Lt):Prop where
 nd:(l.map (·.1)).Nodup
 sub:∀p∈l,p.1∈Q
def SW.len{Q:List (List Int)}{l:Lt}(h:SW Q l):l.length<=Q.length:=by
 have:=Ga h.nd (m:=Q) λ x hx=>by obtain ⟨p,hp,rfl⟩:=List.mem_map.mp hx;exact h.sub p hp
 simpa using this
def SW.good{Q:List (List Int)}{l:Lt}(h:SW Q l)(h3:∀k∈Q,k.length=3)(hQ:Q.length<4096):Good l:=⟨λ p hp=>h3 _ (h.sub p hp),h.nd,Nat.lt_of_le_of_lt h.len hQ⟩
def SW.sj{Q:List (List Int)}{l:Lt}(h:∀p∈l,p.1∈Q):SW Q (sj [] l):=by
 refine ⟨Co _ _ (by simp),λ p hp=>?_⟩;have:=(GV l [] p.1).mp (List.mem_map.mpr ⟨p,hp,rfl⟩);rcases this with z|z
 ·simp at z
 ·obtain ⟨q,hq,e⟩:=List.mem_map.mp z;rw[<-e];exact h q hq
def pO(l:Lt):PyData.eqvAll (Ag (eD l)) (Ag (eD l))=true:=by
 induction l with
 |nil=>simp[eD,Ag,PyData.eqvAll]
 |cons p l ih=>
  have k:∀k:List Int,PyData.eqvAll (Ag (k.map D.int)) (Ag (k.map D.int))=true:=by
   intro k;induction k with
   |nil=>simp[Ag,PyData.eqvAll]
   |cons x k ih=>simp[Ag,py,PyData.eqv,PyData.eqvAll,ih]
  rw[show eD (p::l)= .tup [tupI p.1,rq p.2]::eD l from rfl];simp[Ag,py,PyData.eqv,PyData.eqvAll,tupI,rq,fq,k,ih]
def Dp(l:Lt)(n:Nat):(eD l).all (fW (n+3))=true:=by
 simp only[eD,List.all_map,List.all_eq_true,Function.comp];intro p _;have:(p.1.map D.int).all (fW (n+1))=true:=by simp[List.all_map,fW]
 simp[fW,tupI,rq,fq]
def aft(cs:List Int)(lo hi:Option Int):∃o:List Int,Ho (cs.map D.int) lo hi=o.map D.int/\(∀c∈o,c∈cs)/\o.length<=cs.length:=by
 refine ⟨Ho cs lo hi,?_,?_,?_⟩
 ·unfold Ho;simp[List.map_take,List.map_drop]
 ·intro c hc;exact List.mem_of_mem_drop (List.mem_of_mem_take hc)
 ·unfold Ho;rw[List.length_take,List.length_drop];omega
def rq0:rq 0=zt:=rfl
def VH{r s:Rat}{c d k j:Nat}(h:Sz c k r)(g:Sz d j s)(hk:k+j<=1200):eE [.val (.int (r.num*s.den+s.num*r.den)),.val (.int ((r.den:Int)*s.den))]= .ok (rq (r+s)):=by rw[acf (Int.add_nonneg (Int.mul_nonneg h.nn (by omega)) (Int.mul_nonneg g.nn (by omega))) (Int.mul_pos (dpos r) (dpos s)) (acq h g hk),Lc r s];rfl
def W5(a s4 s5:Slot){d:Lt}{k:List Int}{r:Rat}{c m:Nat}(hd:∀p∈d,Sz c m p.2)(hr:Sz c 1 r)(hm:1<=m)(hm2:m<=1000)(hc:c<=1000)(hl:d.length<1000000):
  ∃t4 t5,p6 0 [a,.own (dR d),.val (tupI k),.val (rq r),s4,s5]= .nx [a,.own (dR (kT d k (lW d k+r))),.val (tupI k),.val (rq r),t4,t5]:=by
 have hv:=IJ hd hm k;have gv:((rP d k).map rq).getD zt=rq (lW d k):=by
  rcases qU d k with ⟨h1,h2⟩|⟨p,_,h1,h2⟩
  ·rw[h1,h2,rq0];rfl
  ·rw[h1,h2];rfl
 generalize lW d k=v at*;have p:=UA (k:=k) (v:=v+r) hl;have e0:lend (dR d)= .oq true (.t (zh d)) (BD d):=by simp[dR,lend]
 have e1:Cn (.oq true (.t (zh d)) (BD d)) (tupI k) zt= .ok (rq v):=by simp only[Cn,R7,zm,Kf,gv]
 have eg:vS (bN 1) (ao 2) (fj (ai (dC (.int 0)) (ai (dC (.int 1)) aB))) [a,.own (dR d),.val (tupI k),.val (rq r),s4,s5]= .ok (rq v):=by rw[<-e1];simp[vS,e0,R7,zt]
 have m1:=JJ hv.top (Bj hr) (by omega) (by omega);have m2:=JJ hr.top (Bj hv) (by omega) (by omega);have m3:=JJ (Bj hv) (Bj hr) (by omega) (by omega);have lo:=VH hv hr (by omega);refine ⟨.val (.int v.num),.val (.int (v.den:Int)),?_⟩;have tg:gU 2 (aW (aG 4) (aW (aG 5) iB)) (rq v) [a,.own (dR d),.val (tupI k),.val (rq r),s4,s5]=some [a,.own (dR d),.val (tupI k),.val (rq r),.val (.int v.num),.val (.int (v.den:Int))]:=rfl;simp only[p6,aN,BX,eg];simp[tg,tH,yq,(zx r).i0,(zx r).i1,m1,m2,m3,lo,kU,zm,yb,p]
def G4(a:Slot){c:Nat}(hc:c<=1000):∀(l d:Lt) (m:Nat) (s2 s3 s4 s5:Slot),(∀p∈d,Sz c m p.2)->(∀p∈l,Sz c 1 p.2)->1<=m->m+l.length<=1000->d.length+l.length<1000000->∃t2 t3 t4 t5,fM (gU 2 (aW (aG 2) (aW (aG 3) iB))) (p6 0) (eD l) [a,.own (dR d),s2,s3,s4,s5]= .nx [a,.own (dR (sj d l)),t2,t3,t4,t5]
 |[],d,m,s2,s3,s4,s5,_,_,_,_,_=>⟨s2,s3,s4,s5,rfl⟩
 |p::l,d,m,s2,s3,s4,s5,hd,hl,hm,hs,hn=>by simp only[List.length_cons] at hs hn;obtain ⟨u4,u5,st⟩:=W5 a s4 s5 (k:=p.1) hd (hl p (.head _)) hm (by omega) hc (by omega);have hlen:=GA d p.1 (lW d p.1+p.2);obtain ⟨t2,t3,t4,t5,e⟩:=G4 a hc l (kT d p.1 (lW d p.1+p.2)) (m+1) (.val (tupI p.1)) (.val (rq p.2)) u4 u5 (Uc hd (hl p (.head _)) hm) (λ q hq=>hl q (.tail _ hq)) (by omega) (by omega) (by omega);refine ⟨t2,t3,t4,t5,?_⟩;rw[GW, <-e];simp only[eD,List.map_cons,fM];simp[st]
def Kg{x:D}{l:Lt}{c:Nat}(hx:jK x= .ok (eD l))(hc:c<=1000)(hl:∀p∈l,Sz c 1 p.2)(hn:l.length<=200)(hg:Good (sj [] l)):gC [.val x]= .new (.l (eD (qm (sj [] l)))):=by obtain ⟨t2,t3,e⟩:=qM (.val x) hc l [] 1 .no .no (λ _ z=>nomatch z) hl (Nat.le_refl _) (by omega) (by simp;omega);have e':(M.k (.t []) [])=dR []:=rfl;have s:=ZE hg.k3 hg.nd hg.ln true;simp only[gC,fu,dg];simp[e',Vp,hx,e,Pw,s,rE]
def aiF{x:D}{l:Lt}{c:Nat}(hx:jK x= .ok (eD l))(hc:c<=1000)(hl:∀p∈l,Sz c 1 p.2)(hn:l.length<=200)(hg:Good (sj [] l)):iz [.val x]= .new (.l (eD (qm (sj [] l)))):=by
 obtain ⟨t2,t3,t4,t5,e⟩:=G4 (.val x) hc l [] 1 .no .no .no .no (λ _ z=>nomatch z) hl (Nat.le_refl _) (by omega) (by simp;omega);have e':(M.k (.t []) [])=dR []:=rfl;have s:=ZD hg.k3 hg.nd hg.ln true;have cm:=Xn hg.nd (qm (sj [] l)) λ p hp=>(p9 _).mem_iff.mp hp;have hl':(qm (sj [] l)).length<1000000:=by rw[(p9 _).length_eq];have:=hg.ln;omega
 simp only[iz,jT,dg];simp[e',Vp,hx,e,Pw,CU,s,hl',v5,abE,cm,rE]
def Zo(x:Int):i8 [.val (.int x)]= .ok (.bl true):=by simp only[i8,gG,dg];simp[vh]
def J2(a:Slot)(p:List Int×Rat)(h3:p.1.length=3):kY 0 [a,.val (.tup [tupI p.1,rq p.2])]= .nx [a,.val (.tup [tupI p.1,rq p.2])]:=by
 obtain ⟨k,r⟩:=p;match k,h3 with
 |[x,y,z],_=>
  have hz:5<=sizeLine:=by unfold sizeLine;omega
  simp only[kY,tupI,rq,fq,Jm];simp[hz,vh,kC,fQ,Ah,xC,Xs,jK,uA,Y6,v5,abE,Zo,abK,Xs,bools]
def zk(a:Slot):∀(l:Lt) (s1:Slot),K3 l->∃t1,fM (aG 1) (kY 0) (eD l) [a,s1]= .nx [a,t1]
 |[],s1,_=>⟨s1,rfl⟩
 |p::l,s1,h=>by have st:=J2 a p (h p (.head _));obtain ⟨t1,e⟩:=zk a l (.val (.tup [tupI p.1,rq p.2])) λ q hq=>h q (.tail _ hq);refine ⟨t1,?_⟩;rw[<-e];simp only[eD,List.map_cons,fM];simp[st]
def aaM{l:Lt}(h:K3 l):gO [.val (.bor false (eD l))]= .ok (.bl true):=by obtain ⟨t1,e⟩:=zk (.val (.bor false (eD l))) l .no h;simp only[gO,gI,dg];simp[vh,jK,e]
structure Tb(t:D)(w h:Int):Prop where
 shape:∃xs,t= .obj "Table" ["grid","ends"] xs
 width:cX [.val t]= .ok (.int w)
 height:cH [.val t]= .ok (.int h)
 nb:nb t=true
 nt:nt t=true
def SR(w h x y:Int):Bool:=decide (0<=x)&&decide (x<w)&&(decide (0<=y)&&decide (y<h))
def Tb.rw{t:D}{w h:Int}(T:Tb t w h):yt 0 sI t (.ok [])= .ok (.d (.int w)):=by have:=T.width;obtain ⟨xs,rfl⟩:=T.shape;simp only[yt,qI,sI];simp[List.lookup,this]
def Tb.rh{t:D}{w h:Int}(T:Tb t w h):yt 0 oS t (.ok [])= .ok (.d (.int h)):=by have:=T.height;obtain ⟨xs,rfl⟩:=T.shape;simp only[yt,qI,oS];simp[List.lookup,this]
def Z0{t:D}{w h:Int}(T:Tb t w h)(x y:Int):bL [.val t,.val (.int x),.val (.int y)]= .ok (.bl (SR w h x y)):=by simp only[bL,bA,dg];by_cases a:0<=x<;>by_cases b:x<w<;>by_cases c:0<=y<;>by_cases d:y<h<;>simp[a,b,c,d,leI,ltI,pR,T.rw,T.rh,SR]
def Tb.rp{t:D}{w h:Int}(T:Tb t w h)(x y:Int):yt 2 lu t (.ok [.int x,.int y])= .ok (.d (.bl (SR w h x y))):=by have:=Z0 T x y;obtain ⟨xs,rfl⟩:=T.shape;simp only[yt,qI,lu];simp[List.lookup,this]
def aip{t:D}{w h:Int}(T:Tb t w h)(x y z:Int):fH [.val t,.val (tupI [x,y,z])]= .ok (.bl (SR w h x y)):=by simp only[fH,dI,dg,tupI];simp[T.rp,fQ,Ah,xC]
def bk(x y z:Int):List Int:=if z=0 then [x- 1,y,2] else if z=1 then [x,y+1,3] else if z=2 then [x+1,y,0] else [x,y- 1,1]
def ahV(z:Int)(hz:z=0\/z=1\/z=2\/z=3):i7 [.val (.int z)]= .ok (.int (if z=0 then 2 else if z=1 then 3 else if z=2 then 0 else 1)):=by rcases hz with rfl|rfl|rfl|rfl<;>rfl
def ai0(x y z:Int):kQ [.val (.int x),.val (.int y),.val (.int z)]= .ok (if z=0 then tupI [x+1,y] else if z=1 then tupI [x,y- 1] else if z=2 then tupI [x- 1,y] else tupI [x,y+1]):=by
 simp only[kQ,jA,dg];by_cases a:z=0
 ·simp[a,tupI,xK]
 ·by_cases b:z=1
  ·simp[b,tupI,xK]
  ·by_cases c:z=2
   ·simp[c,tupI,xK]
   ·simp[a,b,c,tupI,xK]
def afD(x y z:Int)(hz:z=0\/z=1\/z=2\/z=3):gQ [.val (tupI [x,y,z])]= .ok (tupI (bk x y z)):=by have e1:=ahV z hz;simp only[gQ,fO,dg];rcases hz with rfl|rfl|rfl|rfl<;>simp[e1,ai0,fQ,Ah,xC,bk,tupI]
def EL(w h:Int):List Int->Bool
 |[x,y,z]=>(decide (z=0)||decide (z=1)||decide (z=2)||decide (z=3))&&(SR w h x y||match bk x y z with
  |[u,v,_]=>SR w h u v
  |_=>false)
 |_=>false
def ahU{t:D}{w h:Int}(T:Tb t w h)(x y z:Int)(hz:z=0\/z=1\/z=2\/z=3):dj [.val t,.val (tupI [x,y,z])]= .ok (.bl (match bk x y z with
  |[u,v,_]=>SR w h u v
  |_=>false)):=by
 have e1:=afD x y z hz;simp only[dj,cP,dg];rcases hz with rfl|rfl|rfl|rfl<;>simp[e1,bk,aip T]
def U5{t:D}{w h:Int}(T:Tb t w h)(x y z:Int):bX [.val t,.val (tupI [x,y,z])]=if EL w h [x,y,z]=true then .ok .dY else .err "NoPass":=by
 have i2:fQ (tupI [x,y,z]) (.int 2)= .ok (.int z):=rfl;by_cases hz:z=0\/z=1\/z=2\/z=3
 ·have nz:rF (.int z) (.gt [.int 0,.int 1,.int 2,.int 3])= .ok (.bl false):=by rcases hz with rfl|rfl|rfl|rfl<;>rfl
  have e1:=aip T x y z;have e2:=ahU T x y z hz;have wz:(decide (z=0)||decide (z=1)||decide (z=2)||decide (z=3))=true:=by rcases hz with rfl|rfl|rfl|rfl<;>rfl
  simp only[bX,b8,dg,EL,wz,Bool.true_and];generalize (match bk x y z with
   |[u,v,_]=>SR w h u v
   |_=>false)=o at*
  generalize SR w h x y=i at*;cases i<;>cases o<;>simp[i2,nz,e1,e2]
 ·have nz:rF (.int z) (.gt [.int 0,.int 1,.int 2,.int 3])= .ok (.bl true):=by simp only[not_or] at hz;simp[rF,C6,t7,inF,eqF,hz.1,hz.2.1,hz.2.2.1,hz.2.2.2];omega
  have wz:(decide (z=0)||decide (z=1)||decide (z=2)||decide (z=3))=false:=by simp only[not_or] at hz;simp[hz.1,hz.2.1,hz.2.2.1,hz.2.2.2]
  simp only[bX,b8,dg,EL,wz,Bool.false_and];simp[i2,nz]
def mkT(w h:Int):Res D:=(Hi 1 "Table" ["grid","ends"] bU (ai (sr (iC false (pM (ai (ao 2) aB)) 1 [1] (aG 0) uH (sr (iC false (pM (ai (ao 1) aB)) 1 [] (aG 0) uH (dC (.obj "Empty" [] [])))))) aB)) [.no,.val (.int w),.val (.int h)]
def isI(n:Int):cJ->Bool
 | .ok (.int m)=>decide (m=n)
 |_=>false
def d3P(w h:Int)(x:D):Bool:=match d3 x with
 |some p=>EL w h p
 |none=>false
def okT(w h:Int):Bool:=match mkT w h with
 | .ok (.obj "Table" ["grid","ends"] xs)=>isI w (cX [.val (.obj "Table" ["grid","ends"] xs)])&&isI h (cH [.val (.obj "Table" ["grid","ends"] xs)])&&nb (.obj "Table" ["grid","ends"] xs)&&nt (.obj "Table" ["grid","ends"] xs)&&(match cR [.val (.obj "Table" ["grid","ends"] xs)] with
  | .new (.l ps)=>decide (0<ps.length)&&decide (ps.length<1000)&&ps.all (d3P w h)
  |_=>false)
 |_=>false
def ahX:([1,2,3,4]:List Int).all (λ w=>([1,2,3,4]:List Int).all λ h=>okT w h)=true:=by decide+kernel
def Wj{n:Int}{a:cJ}(h:isI n a=true):a= .ok (.int n):=by
 unfold isI at h;split at h
 ·rw[of_decide_eq_true h]
 ·cases h
def Xf{w h:Int}:∀{xs:List D},xs.all (d3P w h)=true->∃ns:List (List Int),xs=ns.map tupI/\∀n∈ns,EL w h n=true/\n.length=3
 |[],_=>⟨[],rfl,λ _ z=>nomatch z⟩
 |x::xs,e=>by
  rw[List.all_cons,Bool.and_eq_true] at e;obtain ⟨ns,e1,e2⟩:=Xf e.2;have e0:=e.1;unfold d3P at e0;split at e0
  ·rename_i p hp;obtain ⟨a1,a2⟩:=acw hp;refine ⟨p::ns,by rw[a1,e1];rfl,λ n hn=>?_⟩;rcases List.mem_cons.mp hn with rfl|hn
   ·exact ⟨e0,a2⟩
   ·exact e2 n hn
  ·cases e0
def tables(w h:Int)(hw:1<=w/\w<=4)(hh:1<=h/\h<=4):∃(t:D) (ns:List (List Int)),mkT w h= .ok t/\Tb t w h/\cR [.val t]= .new (.l (ns.map tupI))/\0<ns.length/\ns.length<1000/\∀n∈ns,EL w h n=true/\n.length=3:=by
 have e:okT w h=true:=by
  have f:∀z:Int,1<=z/\z<=4->z∈([1,2,3,4]:List Int):=λ z hz=>by
   have:z=1\/z=2\/z=3\/z=4:=by omega
   rcases this with rfl|rfl|rfl|rfl<;>simp
  exact List.all_eq_true.mp (List.all_eq_true.mp ahX w (f w hw)) h (f h hh)
 unfold okT at e;split at e
 ·rename_i xs em;simp only[Bool.and_eq_true] at e;obtain ⟨⟨⟨⟨e1,e2⟩,e3⟩,e4⟩,e5⟩:=e;split at e5
  ·rename_i ps ep;simp only[Bool.and_eq_true] at e5;obtain ⟨⟨f1,f2⟩,f3⟩:=e5;obtain ⟨ns,g1,g2⟩:=Xf f3;subst g1;refine ⟨_,ns,em,⟨⟨xs,rfl⟩,Wj e1,Wj e2,e3,e4⟩,ep,?_,?_,g2⟩
   ·simpa using of_decide_eq_true f1
   ·simpa using of_decide_eq_true f2
  ·cases e5
 ·cases e
mutual
def acs:∀(d:D),nb d=true->dn d=d
 | .tup xs,h=>by simp only[dn];rw[pP xs (by simpa[nb] using h)]
 | .gt xs,h=>by simp only[dn];rw[pP xs (by simpa[nb] using h)]
 | .lst xs,h=>by simp only[dn];rw[pP xs (by simpa[nb] using h)]
 | .obj c ns xs,h=>by simp only[dn];rw[pP xs (by simpa[nb] using h)]
 | .uh ks xs,h=>by simp only[dn];rw[pP xs (by simpa[nb] using h)]
 | .bor _ _,h=>by simp[nb] at h
 | .oq _ _ _,h=>by simp[nb] at h
 | .vp _ _ _ _,h=>by simp[nb] at h
 | .dY,_=>by simp[dn]
 | .bl _,_=>by simp[dn]
 | .int _,_=>by simp[dn]
 | .str _,_=>by simp[dn]
 | .exc _,_=>by simp[dn]
def pP:∀(xs:List D),oj xs=true->oH xs=xs
 |[],_=>by simp[oH]
 |x::xs,h=>by simp only[oj,Bool.and_eq_true] at h;simp only[oH];rw[acs x h.1,pP xs h.2]
end
def DI:∀k:List Int,oj (k.map D.int)=true
 |[]=>by simp[oj]
 |x::k=>by simp[oj,nb,DI k]
def uZ:∀l:Lt,oj (eD l)=true
 |[]=>by simp[eD,oj]
 |p::l=>by rw[show eD (p::l)= .tup [tupI p.1,rq p.2]::eD l from rfl];simp[oj,nb,Pj,tupI,DI,uZ l]
def Ko(l:Lt):oH (eD l)=eD l:=pP _ (uZ l)
noncomputable def ixL(c:Int)(n:Nat):Int:=((c.fdiv 3).fmod (if (c.fmod 3).fmod 2=0 then 5 else (n:Int))).fmod (n:Int)
def Wb(c:Int)(n:Nat)(h:0<n):0<=ixL c n/\ixL c n<n:=fm _ _ (by omega)
def U6(c:Int)(ns:List (List Int)):List Int:=ns.getD (ixL c ns.length).toNat []
def aab(c:Int){ns:List (List Int)}(h:0<ns.length):U6 c ns∈ns:=by have:=Wb c ns.length h;unfold U6;rw[List.getD_eq_getElem?_getD,List.getElem?_eq_getElem (by omega)];exact List.getElem_mem _
def qK(ns:List (List Int))(cs:List Int):Lt:=cs.map λ c=>(U6 c ns,YX c)
def IL(c:Int):eE [.val (.int (1+(c*48271).fmod (10^30))),.val (.int (1+(c.fdiv 7).fmod 97))]= .ok (rq (YX c)):=by obtain ⟨b1,b2,b3⟩:=IP c;have t:=Ud c;have e:=acf (a:=YW c) (b:=(Ug c:Int)) (by omega) (by omega) (alH (by simp;omega));rw[Ue] at e;rw[b1] at e;unfold YW at e;exact e
def amS{ns:List (List Int)}{i:Int}(h0:0<=i)(h1:i<ns.length):Ah (ns.map tupI) i=some (tupI (ns.getD i.toNat [])):=by unfold Ah xC;simp only[List.length_map];rw[if_pos h0,if_pos h1];simp only[Option.bind_some,List.getElem?_map];rw[List.getElem?_eq_getElem (by omega:i.toNat<ns.length),List.getD_eq_getElem?_getD,List.getElem?_eq_getElem (by omega:i.toNat<ns.length)];rfl
def JV(s0:Slot){ns:List (List Int)}(h0:0<ns.length){xs:List D}(hl:xs.length<1000000)(c:Int)(s4:Slot):
  kX 0 [s0,.val (.lst (ns.map tupI)),.own (.l xs),.val (.int c),s4]= .nx [s0,.val (.lst (ns.map tupI)),.own (.l (xs++[.tup [tupI (U6 c ns),rq (YX c)]])),.val (.int c),.val (tupI (U6 c ns))]:=by
 have n0:(ns.length:Int)≠0:=by omega
 have hi:=Wb c ns.length h0;have e:=amS hi.1 hi.2;have st:=IL c;rw[show (10:Int)^30=1000000000000000000000000000000 by decide] at st;have hm:=fm c 3 (by decide);have k:fQ (.lst [.int 5,.int (ns.length:Int)]) (.int ((c.fmod 3).fmod 2))= .ok (.int (if (c.fmod 3).fmod 2=0 then 5 else (ns.length:Int))):=by
  have h2:=fm (c.fmod 3) 2 (by decide);have:(c.fmod 3).fmod 2=0\/(c.fmod 3).fmod 2=1:=by omega
  rcases this with z|z<;>rw[z]<;>rfl
 have m1:iL (.int (c.fdiv 3)) (.int (if (c.fmod 3).fmod 2=0 then 5 else (ns.length:Int)))= .ok (.int ((c.fdiv 3).fmod (if (c.fmod 3).fmod 2=0 then 5 else (ns.length:Int)))):=kr _ _ (by split<;>omega);have m2:iL (.int ((c.fdiv 3).fmod (if (c.fmod 3).fmod 2=0 then 5 else (ns.length:Int)))) (.int (ns.length:Int))= .ok (.int (ixL c ns.length)):=kr _ _ n0;have ix:fQ (.lst (ns.map tupI)) (.int (ixL c ns.length))= .ok (tupI (U6 c ns)):=by simp only[fQ,e];rfl
 simp only[kX];simp[k,m1,m2,ix,kC,st,kU,yN,Wi,yb,Sy,hl,tH,nj]
def zc(s0:Slot){ns:List (List Int)}(h0:0<ns.length):∀(cs:List Int) (l:Lt) (s3 s4:Slot),l.length+cs.length<1000000->∃t3 t4,fM (aG 3) (kX 0) (cs.map D.int) [s0,.val (.lst (ns.map tupI)),.own (.l (eD l)),s3,s4]= .nx [s0,.val (.lst (ns.map tupI)),.own (.l (eD (l++qK ns cs))),t3,t4]
 |[],l,s3,s4,_=>⟨s3,s4,by simp[qK,fM]⟩
 |c::cs,l,s3,s4,h=>by
  rw[List.length_cons] at h;have st:=JV s0 h0 (xs:=eD l) (by simp[eD];omega) c s4;have ea:eD l++[.tup [tupI (U6 c ns),rq (YX c)]]=eD (l++[(U6 c ns,YX c)]):=by simp[eD]
  rw[ea] at st;obtain ⟨t3,t4,e⟩:=zc s0 h0 cs (l++[(U6 c ns,YX c)]) (.val (.int c)) (.val (tupI (U6 c ns))) (by simp;omega);refine ⟨t3,t4,?_⟩;have el:l++qK ns (c::cs)=l++[(U6 c ns,YX c)]++qK ns cs:=by simp[qK]
  rw[el, <-e];simp only[List.map_cons,fM];simp[st]
def aaH{zs:List Int}{ns:List (List Int)}(h0:0<ns.length)(cs:List Int)(hc:Ho (zs.map D.int) (some 2) (some 62)=cs.map D.int)(hn:cs.length<=1000):gM [.val (.lst (zs.map D.int)),.val (.lst (ns.map tupI))]= .new (.l (eD (qK ns cs))):=by obtain ⟨t3,t4,e⟩:=zc (.val (.lst (zs.map D.int))) h0 cs [] .no .no (by simp;omega);rw[show eD []=[] from rfl,List.nil_append] at e;simp only[gM,gH,dg];simp[aeN,hc,jK,e,yo]
structure Lp(w h:Int)(l:Lt):Prop where
 p:∀q∈l,EL w h q.1=true/\q.1.length=3
 s:∀q∈l,Sz 100 1 q.2/\0<q.2.num
def VU{w h:Int}{ns:List (List Int)}(h0:0<ns.length)(hp:∀n∈ns,EL w h n=true/\n.length=3)(cs:List Int):Lp w h (qK ns cs):=by
 refine ⟨λ q hq=>?_,λ q hq=>?_⟩
 ·obtain ⟨c,_,rfl⟩:=List.mem_map.mp hq;exact hp _ (aab c h0)
 ·obtain ⟨c,_,rfl⟩:=List.mem_map.mp hq;exact adN c
def Pc{t:D}{w h:Int}(T:Tb t w h){k:List Int}(hp:EL w h k=true):bX [.val t,.val (tupI k)]= .ok .dY:=by
 match k,hp with
 |[x,y,z],hp=>rw[U5 T,if_pos hp]
def aaD{t:D}{w h:Int}(T:Tb t w h)(s1:Slot){k:List Int}{r:Rat}(hp:EL w h k=true)(hs:Sz 100 1 r)(h0:0<r.num):bV 0 [.val t,s1,.val (tupI k),.val (rq r)]= .nx [.val t,s1,.val (tupI k),.val (rq r)]:=by have e1:=Pc T hp;have e2:=abw (zx r) hs h0;simp only[bV];simp[e1,e2]
def DR{t:D}{w h:Int}(T:Tb t w h)(s1:Slot):∀(l:Lt) (s2 s3:Slot),Lp w h l->∀(rest:List D),∃t2 t3,fM (gU 2 (aW (aG 2) (aW (aG 3) iB))) (bV 0) (eD l++rest) [.val t,s1,s2,s3]=fM (gU 2 (aW (aG 2) (aW (aG 3) iB))) (bV 0) rest [.val t,s1,t2,t3]
 |[],s2,s3,_,rest=>⟨s2,s3,rfl⟩
 |p::l,s2,s3,hl,rest=>by have st:=aaD T s1 (hl.p p (.head _)).1 (hl.s p (.head _)).1 (hl.s p (.head _)).2;obtain ⟨t2,t3,e⟩:=DR T s1 l (.val (tupI p.1)) (.val (rq p.2)) ⟨λ q hq=>hl.p q (.tail _ hq),λ q hq=>hl.s q (.tail _ hq)⟩ rest;refine ⟨t2,t3,?_⟩;rw[<-e];simp only[eD,List.map_cons,List.cons_append,fM];simp[st]
def Pq{t x:D}{w h:Int}(T:Tb t w h){l:Lt}(hx:jK x= .ok (eD l))(hnt:nt x=true)(L:Lp w h l)(hn:l.length<=200):bw [.val t,.val x]= .new (.l (eD (qm (sj [] l)))):=by
 obtain ⟨t2,t3,e⟩:=DR T (.val x) l .no .no L [];rw[List.append_nil] at e;have hg:Good (sj [] l):=by have g:SW (l.map (·.1)) (sj [] l):=SW.sj λ p hp=>List.mem_map.mpr ⟨p,hp,rfl⟩;exact g.good (λ k hk=>by obtain ⟨q,hq,rfl⟩:=List.mem_map.mp hk;exact (L.p q hq).2) (by simp;omega)
 have ge:=Kg hx (c:=100) (by decide) (λ p hp=>(L.s p hp).1) hn hg;simp only[bw,b5,dg];simp[hx,e,fM,hnt,ge,rE]
def afn{w h:Int}{x:D}{l:Lt}(hx:jK x= .ok (eD l))(L:Lp w h l)(hn:l.length<=200):iz [.val x]= .new (.l (eD (qm (sj [] l)))):=by
 have hg:Good (sj [] l):=by have g:SW (l.map (·.1)) (sj [] l):=SW.sj λ p hp=>List.mem_map.mpr ⟨p,hp,rfl⟩;exact g.good (λ k hk=>by obtain ⟨q,hq,rfl⟩:=List.mem_map.mp hk;exact (L.p q hq).2) (by simp;omega)
 exact aiF hx (c:=100) (by decide) (λ p hp=>(L.s p hp).1) hn hg
def Rq{t x:D}{w h:Int}(T:Tb t w h){l:Lt}{bad:D}{rest:List D}{c:String}(hx:jK x= .ok (eD l++bad::rest))(L:Lp w h l) (hb:∀s1 s2 s3,∃Γ,fM (gU 2 (aW (aG 2) (aW (aG 3) iB))) (bV 0) (bad::rest) [.val t,s1,s2,s3]= .err c Γ):bw [.val t,.val x]= .err c:=by obtain ⟨t2,t3,e⟩:=DR T (.val x) l .no .no L (bad::rest);obtain ⟨Γ,e2⟩:=hb (.val x) t2 t3;simp only[bw,b5,dg];simp[hx,e,e2]
noncomputable def pN(c:Int):Int:=(c.fdiv 9).fmod 1000000000000000000000000000000
def P7(c:Int):0<=pN c/\pN c<1000000000000000000000000000000:=fm _ _ (by decide)
def qx(w h c:Int):List Int:=if (c.fdiv 27).fmod 5=0 then [w+1+pN c,0,0] else if (c.fdiv 27).fmod 5=1 then [0, -2- pN c,1] else if (c.fdiv 27).fmod 5=2 then [0,0,4] else if (c.fdiv 27).fmod 5=3 then [0,0, -1] else [w,h,0]
def jF(c:Int):Int×Int:=if (c.fdiv 135).fmod 3=0 then (0,1) else if (c.fdiv 135).fmod 3=1 then (0- 1- pN c,1) else (-1,1+pN c)
def aar{w h:Int}(hw:1<=w)(hh:1<=h)(c:Int):EL w h (qx w h c)=false:=by
 have f:=P7 c;unfold qx;split
 ·simp[EL,SR,bk];omega
 ·split
  ·simp[EL,SR,bk];omega
  ·split
   ·simp[EL]
   ·split
    ·simp[EL]
    ·simp[EL,SR,bk]
def Vr(w h c:Int):(qx w h c).length=3:=by
 unfold qx
 repeat' split
 all_goals rfl
def Za(c:Int):(jF c).1<=0/\1<=(jF c).2/\(jF c).2<=1000000000000000000000000000000:=by
 have f:=P7 c;unfold jF
 repeat' split
 all_goals (dsimp only;omega)
def aaa{t:D}{w h:Int}(T:Tb t w h){k:List Int}(h3:k.length=3)(hp:EL w h k=false):bX [.val t,.val (tupI k)]= .err "NoPass":=by
 match k,h3 with
 |[x,y,z],_=>rw[U5 T,if_neg (by rw[hp];decide)]
def Fb(c:Int):bf [.val (fq (jF c))]= .err "NoStrength":=by
 have z:=Za c;have zn:(jF c).2.natAbs<2^100:=by
  have:(jF c).2.natAbs<=1000000000000000000000000000000:=by omega
  exact Nat.lt_of_le_of_lt this (by decide)
 have m1:qy (.int 0) (.int (jF c).2)= .ok (.int (0*(jF c).2)):=JJ (n:=1) (m:=100) (by decide) zn (by decide) (by decide);have z0:fQ zr (.int 0)= .ok (.int 0):=rfl;have z1:fQ zr (.int 1)= .ok (.int 1):=rfl;have u:jU [.val zr,.val (fq (jF c))]= .ok (.bl false):=by simp only[jU,jR,dg];simp[z0,z1,ix0,ix1,m1];omega
 unfold zr at u;simp only[bf,aZ,dg];simp[u]
def ou(w h c:Int)(p:List Int×Rat):D:=if (c.fdiv 9).fmod 3=0 then .tup [tupI (qx w h c),rq p.2] else if (c.fdiv 9).fmod 3=1 then .tup [tupI p.1,fq (jF c)] else .tup [tupI (qx w h c),fq (jF c)]
def lU(c:Int):Str:=if (c.fdiv 9).fmod 3=1 then "strength" else "pass"
def wM(c:Int):String:=if (c.fdiv 9).fmod 3=1 then "NoStrength" else "NoPass"
def abF{t:D}{w h:Int}(T:Tb t w h)(hw:1<=w)(hh:1<=h){p:List Int×Rat}(hp:EL w h p.1=true)(c:Int)(rest:List D)(s1 s2 s3:Slot):∃Γ,fM (gU 2 (aW (aG 2) (aW (aG 3) iB))) (bV 0) (ou w h c p::rest) [.val t,s1,s2,s3]= .err (wM c) Γ:=by
 have e1:=aaa T (Vr w h c) (aar hw hh c);have e2:=Pc T hp;have e3:=Fb c;have h3:=fm (c.fdiv 9) 3 (by decide);have:(c.fdiv 9).fmod 3=0\/(c.fdiv 9).fmod 3=1\/(c.fdiv 9).fmod 3=2:=by omega
 rcases this with z|z|z
 ·have b:ou w h c p= .tup [tupI (qx w h c),rq p.2]:=by unfold ou;rw[if_pos z]
  have er:wM c="NoPass":=by unfold wM;rw[if_neg (by rw[z];decide)]
  rw[b,er];refine ⟨[.val t,s1,.val (tupI (qx w h c)),.val (rq p.2)],?_⟩;simp only[fM,bV];simp[e1]
 ·have b:ou w h c p= .tup [tupI p.1,fq (jF c)]:=by unfold ou;rw[if_neg (by rw[z];decide),if_pos z]
  have er:wM c="NoStrength":=by unfold wM;rw[if_pos z]
  rw[b,er];refine ⟨[.val t,s1,.val (tupI p.1),.val (fq (jF c))],?_⟩;simp only[fM,bV];simp[e2,e3]
 ·have b:ou w h c p= .tup [tupI (qx w h c),fq (jF c)]:=by unfold ou;rw[if_neg (by rw[z];decide),if_neg (by rw[z];decide)]
  have er:wM c="NoPass":=by unfold wM;rw[if_neg (by rw[z];decide)]
  rw[b,er];refine ⟨[.val t,s1,.val (tupI (qx w h c)),.val (fq (jF c))],?_⟩;simp only[fM,bV];simp[e1]
def ix3{a b c:D}{k:Int}(h:0<=k/\k<3):fQ (.lst [a,b,c]) (.int k)= .ok (if k=0 then a else if k=1 then b else c):=by
 have:k=0\/k=1\/k=2:=by omega
 rcases this with rfl|rfl|rfl<;>rfl
def ix5{a b c d e:D}{k:Int}(h:0<=k/\k<5):fQ (.lst [a,b,c,d,e]) (.int k)= .ok (if k=0 then a else if k=1 then b else if k=2 then c else if k=3 then d else e):=by
 have:k=0\/k=1\/k=2\/k=3\/k=4:=by omega
 rcases this with rfl|rfl|rfl|rfl|rfl<;>rfl
def atS(c:Int)(n:Nat):Nat:=((c.fdiv 3).fmod (n:Int)).toNat
def K5(c:Int){n:Nat}(h:0<n):atS c n<n/\(atS c n:Int)=(c.fdiv 3).fmod (n:Int):=by have:=fm (c.fdiv 3) (n:Int) (by omega);unfold atS;omega
def afm{l:Lt}{i:Nat}(h:i<l.length):(eD l)[i]? =some (.tup [tupI l[i].1,rq l[i].2]):=by simp[eD,h]
def aaq(w h c:Int)(p:List Int×Rat):nt (ou w h c p)=true:=by
 unfold ou
 repeat' split
 all_goals simp[nj,tH,fq]
def aey(w h c:Int):(if (c.fdiv 27).fmod 5=0 then D.tup [.int (w+1+pN c),.int 0,.int 0] else if (c.fdiv 27).fmod 5=1 then .tup [.int 0,.int (-2- pN c),.int 1] else if (c.fdiv 27).fmod 5=2 then .tup [.int 0,.int 0,.int 4] else if (c.fdiv 27).fmod 5=3 then .tup [.int 0,.int 0,.int (-1)] else .tup [.int w,.int h,.int 0])=tupI (qx w h c):=by
 unfold qx
 repeat' split
 all_goals rfl
def adf(c:Int):(if (c.fdiv 135).fmod 3=0 then D.tup [.int 0,.int 1] else if (c.fdiv 135).fmod 3=1 then .tup [.int (0- 1- pN c),.int 1] else .tup [.int (-1),.int (1+pN c)])=fq (jF c):=by
 unfold jF
 repeat' split
 all_goals rfl
def Uq{A R:List D}{b o:D}{a:Nat}(h:A.length=a):(A++b::R).set (a+1) o=A++b::R.set 0 o:=by rw[List.set_append_right _ _ (by omega),show a+1- A.length=1 by omega];cases R<;>rfl
def adS{l:Lt}{a:Nat}(h:a<l.length)(b:D):(eD l).set a b=eD (l.take a)++b::eD (l.drop (a+1)):=by rw[List.set_eq_take_append_cons_drop,if_pos (by simpa[eD] using h)];simp[eD,List.map_take,List.map_drop]
def Ph(k:List Int):nb (tupI k)=true:=by simp[tupI,nb,DI]
def Vt{xs:List D}{q:D}(hq:nb q=true)(h:oj xs=true):oj (xs.set 0 q)=true:=by
 cases xs with
 |nil=>exact h
 |cons x xs=>simp only[oj,Bool.and_eq_true,List.set_cons_zero] at h ⊢;exact ⟨hq,h.2⟩
def aau(w h c:Int)(p:List Int×Rat):nb (ou w h c p)=true:=by
 unfold ou
 repeat' split
 all_goals simp[nb,oj,Ph,Pj,fq]
def QF{l:Lt}(h0:0<l.length)(c w h:Int):∃rest,oj rest=true/\cQ [.par (.l (eD l)),.val (.int c),.val (.int w),.val (.int h)]= .QY (.str (lU c)) [(0,.l (eD (l.take (atS c l.length))++ou w h c (l[atS c l.length]'(K5 c h0).1)::rest))]:=by
 obtain ⟨ha,ea⟩:=K5 c h0;have le:(eD l).length=l.length:=by simp[eD]
 have m1:iL (.int (c.fdiv 3)) (.int (l.length:Int))= .ok (.int (atS c l.length:Nat)):=by rw[ea];exact kr _ _ (by omega)
 have el:∀xs:List D,kC [.bor true xs]= .ok (.int (xs.length:Int)):=λ xs=>rfl;have g:=afm ha;generalize hp:l[atS c l.length]'ha=p at*;have k9:=fm (c.fdiv 9) 3 (by decide);have k5:=fm (c.fdiv 27) 5 (by decide);have k3:=fm (c.fdiv 135) 3 (by decide);have sa:=adS ha (ou w h c p);generalize ha':atS c l.length=a at*;have ix:fQ (.bor true (eD l)) (.int (a:Nat))= .ok (.tup [tupI p.1,rq p.2]):=by simp only[fQ,Ah,xC,le];rw[if_pos (by omega),if_pos (by omega)];simp only[Int.toNat_natCast,Option.bind_some,g]
 have n1:=ix5 (a:= .tup [.int (w+1+pN c),.int 0,.int 0]) (b:= .tup [.int 0,.int (-2- pN c),.int 1]) (c:= .tup [.int 0,.int 0,.int 4]) (d:= .tup [.int 0,.int 0,.int (-1)]) (e:= .tup [.int w,.int h,.int 0]) k5;rw[aey] at n1;have n2:=ix3 (a:= .tup [.int 0,.int 1]) (b:= .tup [.int (0- 1- pN c),.int 1]) (c:= .tup [.int (-1),.int (1+pN c)]) k3;rw[adf,show (0:Int) - 1- pN c= -1- pN c by omega] at n2;have n3:=ix3 (a:= .tup [tupI (qx w h c),rq p.2]) (b:= .tup [tupI p.1,fq (jF c)]) (c:= .tup [tupI (qx w h c),fq (jF c)]) k9;have n4:=ix3 (a:= .tup [tupI p.1,fq (jF c)]) (b:= .tup [tupI (qx w h c),rq p.2]) (c:= .tup [tupI p.1,fq (jF c)]) k9;have n5:fQ (.lst [.str "pass",.str "strength",.str "pass"]) (.int ((c.fdiv 9).fmod 3))= .ok (.str (lU c)):=by
  have:(c.fdiv 9).fmod 3=0\/(c.fdiv 9).fmod 3=1\/(c.fdiv 9).fmod 3=2:=by omega
  unfold lU;rcases this with z|z|z<;>rw[z]<;>rfl
 change fQ _ _= .ok (ou w h c p) at n3;generalize hq:(if (c.fdiv 9).fmod 3=0 then D.tup [tupI p.1,fq (jF c)] else if (c.fdiv 9).fmod 3=1 then .tup [tupI (qx w h c),rq p.2] else .tup [tupI p.1,fq (jF c)])=q at n4;have nq:nt q=true:=by
  rw[<-hq]
  repeat' split
  all_goals simp[nj,tH,fq]
 have bq:nb q=true:=by
  rw[<-hq]
  repeat' split
  all_goals simp[nb,oj,Ph,Pj,fq]
 have nbd:=aaq w h c p;have i1:xC l.length (a:Nat)=some a:=by unfold xC;rw[if_pos (by omega),if_pos (by omega)];rfl
 have l2:((eD l).set a (ou w h c p)).length=l.length:=by rw[List.length_set,le]
 have ftg:gU 2 (aW (aG 6) (aW (aG 7) iB)) (.tup [tupI p.1,rq p.2])=λ Γ=>some ((Γ.set 6 (.val (tupI p.1))).set 7 (.val (rq p.2))):=rfl;unfold pN at n1 n2;by_cases lst:a+1<l.length
 ·have i2:xC l.length ((a:Int)+1)=some (a+1):=by unfold xC;rw[if_pos (by omega),if_pos (by omega)];rfl
  have lt1:decide ((a:Int)+1<(l.length:Int))=true:=decide_eq_true (by omega);refine ⟨(eD (l.drop (a+1))).set 0 q,Vt bq (uZ _),?_⟩;rw[<-Uq (by simp[eD];omega:(eD (l.take a)).length=a), <-sa];simp only[cQ,cO,dg];simp[m1,el,le,ix,ftg,nj,tH,n1,n2,n3,n4,n5,kU,yb,QI,setM,nbd,i1,l2,i2,nq,lt1,lend,ym,BX,O0,b7]
 ·have lt1:decide ((a:Int)+1<(l.length:Int))=false:=decide_eq_false (by omega);refine ⟨eD (l.drop (a+1)),uZ _,?_⟩;rw[<-sa];simp only[cQ,cO,dg];simp[m1,el,le,ix,ftg,nj,tH,n1,n2,n3,n4,n5,kU,yb,QI,setM,nbd,i1,l2,nq,lt1,lend,ym,BX,O0,b7]
def abj{t x:D}{c:Int}(h:bw [.val t,.val x]= .err (wM c)):gP [.val t,.val x]= .ok (.tup [.str (lU c),.dY]):=by
 simp only[gP,gJ,dg];by_cases z:(c.fdiv 9).fmod 3=1
 ·have e1:wM c="NoStrength":=by unfold wM;rw[if_pos z]
  have e2:lU c="strength":=by unfold lU;rw[if_pos z]
  rw[e1] at h;rw[e2];have hh:qL mt "BeamError" "NoStrength"=some true:=by decide
  simp[h];rw[F7 (e:=hh)];simp[vh,mt,List.lookup]
 ·have e1:wM c="NoPass":=by unfold wM;rw[if_neg z]
  have e2:lU c="pass":=by unfold lU;rw[if_neg z]
  rw[e1] at h;rw[e2];have hh:qL mt "BeamError" "NoPass"=some true:=by decide
  simp[h];rw[F7 (e:=hh)];simp[vh,mt,List.lookup]
def Xp(ns:List Int)(k:Int)(hk:k=0\/k=1):∃x,aR [.val (.lst (ns.map D.int)),.val (.int k)]= .ok (.int x):=by
 rcases hk with rfl|rfl
 ·cases ns with
  |nil=>exact ⟨0,by simp[aR,bz,dg,kC]⟩
  |cons x ns=>exact ⟨x,by simp[aR,bz,dg,kC,fQ,Ah,xC]⟩
 ·match ns with
  |[]=>exact ⟨0,by simp[aR,bz,dg,kC]⟩
  |[x]=>exact ⟨0,by simp[aR,bz,dg,kC]⟩
  |x::y::ns=>
   refine ⟨y,?_⟩;have l1:decide ((1:Int)<((x::y::ns).map D.int).length)=true:=by simp;omega
   have i1:fQ (.lst ((x::y::ns).map D.int)) (.int 1)= .ok (.int y):=by simp only[fQ,Ah,xC];rw[if_pos (by decide),if_pos (by simp;omega)];rfl
   have l2:kC [.lst ((x::y::ns).map D.int)]= .ok (.int (((x::y::ns).map D.int).length:Int)):=rfl;generalize (x::y::ns).map D.int=zs at*;simp only[aR,bz,dg];simp[l2,i1];simp only[decide_eq_true_eq] at l1;simp[l1,i1]
def tM:Sg->Res D:=(Hi 1 "Table" ["grid","ends"] bU (ai (sr (iC false (pM (ai (ao 2) aB)) 1 [1] (aG 0) uH (sr (iC false (pM (ai (ao 1) aB)) 1 [] (aG 0) uH (dC (.obj "Empty" [] [])))))) aB))
def EA(n:Nat):Sg->Out:=(aN (gR 1 (aO oz (dC (.int 1)) (aO iL (ez 2 aR (ai (ao 0) (ai (dC (.int 0)) aB))) (dC (.int 4)))))
  (aN (gR 2 (aO oz (dC (.int 1)) (aO iL (ez 2 aR (ai (ao 0) (ai (dC (.int 1)) aB))) (dC (.int 4)))))
  (aN (gR 3 tM)
  (aN (lz 4 (pI 2 gM (ai (ao 0) (ai (fT 1 cR (ai (ao 3) aB)) aB))))
  (aN (gR 5 (aO fZ (ez 2 aR (ai (ao 0) (ai (dC (.int 0)) aB))) (dC (.int 4))))
  (aN (uQ (Sv (dT (aO zI (aO iL (ao 5) (dC (.int 3))) (dC (.int 0)))) (dT (aO xu (bN 4) (sr (pQ aB))))) (aN (OZ 6 (ES 4 4 0 cQ (ai (dC .dY) (ai (aO fZ (ao 5) (dC (.int 3))) (ai (ao 1) (ai (ao 2) aB))))))
  (BU (aO zI (d7 2 gP (ai (ao 3) (ai (bN 4) aB))) (fj (ai (ao 6) (ai (dC .dY) aB)))))) dh)
  (aN (lz 7 (mL (Y3 Gy (ai (bN 4) aB))))
  (aN (lz 8 (rJ 2 bw (ai (ao 3) (ai (bN 7) aB))))
  (aN (uQ (Y7 (dT (aO xu (bN 7) (bN 4))) (Y7 (dT (aO xu (bN 8) (d7 1 iz (ai (bN 4) aB)))) (qE (dT (d7 1 gO (ai (bN 8) aB)))))) (gZ (dC (.bl false))) dh)
  (aN (uR 7 (kU 7))
  (aN (uR 8 (kU 8))
  (BU (Kz (aO zI (fT 2 bw (ai (ao 3) (ai (sr (pQ aB)) aB))) (sr (pQ aB))) (aO zI (d7 2 bw (ai (ao 3) (ai (bN 4) aB))) (d7 1 iz (ai (bN 4) aB))))))))))))))))
def Sx:z7 0=EA 0:=rfl
def abU(s0:Slot)(w h:Int)(r:List Slot):tM (s0:: .val (.int w):: .val (.int h)::r)=mkT w h:=rfl
def abk(c:Int):zI (.tup [.str (lU c),.dY]) (.tup [.str (lU c),.dY])= .ok (.bl true):=by
 have s1:PyData.strOk (lU c)=true:=by unfold lU;split<;>decide+kernel
 generalize lU c=w at*;simp[zI,fW,W8,py,Ag,PyData.eqv,PyData.eqvAll,s1]
def ah9(l:Lt):xu (.bor true (eD l)) (.bor true (eD l))= .ok (.bl false):=by simp[xu,fW,Dp l 8,W8,py,PyData.eqv,pO]
def acd(l:Lt):xu (.bor true (eD l)) (.lst (eD l))= .ok (.bl false):=by simp[xu,fW,Dp l 8,W8,py,PyData.eqv,pO]
def aco(l:Lt):zI (.lst (eD l)) (.lst (eD l))= .ok (.bl true):=by simp[zI,fW,Dp l 8,W8,py,PyData.eqv,pO]
def ne_nil(l:Lt)(h:0<l.length):xu (.bor true (eD l)) (.lst [])= .ok (.bl true):=by
 match l,h with
 |p::l,_=>have e:=Dp (p::l) 8;rw[show eD (p::l)= .tup [tupI p.1,rq p.2]::eD l from rfl] at e ⊢;simp only[xu,fW,W8,py];simp[e,Ag,PyData.eqv,PyData.eqvAll]
def Vn(ns:List (List Int)):kR (ns.map tupI)=true:=qc _ nj ns
def aap(zs:List Int):kR (zs.map D.int)=true:=qc _ (λ x=>by simp) zs
def Pg:∀{a b:List D},oj a=true->oj b=true->oj (a++b)=true
 |[],b,_,h=>h
 |x::a,b,h,h2=>by simp only[oj,Bool.and_eq_true,List.cons_append] at h ⊢;exact ⟨h.1,Pg h.2 h2⟩
def VR(zs:List Int)(hl:zs.length<=63):v8 [.val (.lst (zs.map D.int))]= .ok (.bl true):=by
 obtain ⟨x0,hx0⟩:=Xp zs 0 (.inl rfl);obtain ⟨x1,hx1⟩:=Xp zs 1 (.inr rfl);obtain ⟨cs,hcs,_,hcl⟩:=aft zs (some 2) (some 62);have w4:=fm x0 4 (by decide);have h4:=fm x1 4 (by decide);have ew:∃w,w=1+x0.fmod 4:=⟨_,rfl⟩;have eh:∃h,h=1+x1.fmod 4:=⟨_,rfl⟩;obtain ⟨w,ew⟩:=ew;obtain ⟨h,eh⟩:=eh;obtain ⟨t,ns,e1,T,e2,n0,n1,hp⟩:=tables w h (by omega) (by omega);have L:=VU n0 hp cs;have lr:=aaH n0 cs hcs (by omega);have ln:(qK ns cs).length<=200:=by simp[qK];omega
 generalize qK ns cs=l at*;have dt:dn t=t:=acs t T.nb;have nt0:=T.nt;have nb0:=T.nb;have F1:=Pq T (x:= .bor false (eD l)) rfl (by simp[nt,rE]) L ln;have F2:=Pq T (x:= .lst []) (l:=[]) rfl (by simp[nt,kR]) ⟨λ _ z=>(nomatch z),λ _ z=>(nomatch z)⟩ (by simp);rw[show eD (qm (sj [] []))=[] from rfl] at F2;have F3:=afn (x:= .bor false (eD l)) rfl L ln;have k3:K3 (qm (sj [] l)):=by have g:SW (l.map (·.1)) (sj [] l):=SW.sj λ p hp=>List.mem_map.mpr ⟨p,hp,rfl⟩;intro q hq;obtain ⟨r,hr,e⟩:=List.mem_map.mp (g.sub q ((p9 _).mem_iff.mp hq));rw[<-e];exact (L.p r hr).2
 have F4:=aaM k3;generalize qm (sj [] l)=G at*;have fzl:∀xs:List D,fzR (.l xs)= .ok (.lst xs):=λ xs=>rfl;have sb:∀(b:Bool) (xs:List D),C6 (.bor b xs)=some xs:=λ b xs=>rfl;have alX:∀y:Int,iL (.int y) (.int 3)= .ok (.int (y.fmod 3)):=λ y=>kr _ _ (by decide);have dbl:oH [t,.bor true (eD l)]=[t,.bor false (eD l)]:=by simp[oH,dn,dt,Ko]
 have dbg:oH [.bor true (eD G)]=[.bor false (eD G)]:=by simp[oH,dn,Ko]
 have amL:oH [.bor true (eD l)]=[.bor false (eD l)]:=by simp[oH,dn,Ko]
 have ntz:kR [D.lst (zs.map D.int),D.lst (ns.map tupI)]=true:=by simp[kR,aap,Vn]
 have nt1:kR [t]=true:=by simp[kR,nt0]
 have nt2:kR [t,.lst []]=true:=by simp[kR,nt0]
 have lds:∀xs:List D,lend (.l xs)= .bor true xs:=λ xs=>rfl;have bnd:v8 [.val (.lst (zs.map D.int))]=mX (EA 0 (dg ace [.val (.lst (zs.map D.int))])):=by unfold v8;rw[Sx]
 rw[bnd];by_cases sp:(x0.fdiv 4).fmod 3=0/\0<l.length
 ·obtain ⟨rest,nr,S⟩:=QF sp.2 ((x0.fdiv 4).fdiv 3) w h;obtain ⟨ha,_⟩:=K5 ((x0.fdiv 4).fdiv 3) sp.2;have nn:=ne_nil l sp.2;have bad:=abF T (by omega) (by omega) (L.p _ (List.getElem_mem ha)).1 ((x0.fdiv 4).fdiv 3) rest;have LT:Lp w h (l.take (atS ((x0.fdiv 4).fdiv 3) l.length)):=⟨λ q hq=>L.p q (List.mem_of_mem_take hq),λ q hq=>L.s q (List.mem_of_mem_take hq)⟩;have E:=Rq T (x:= .bor false (eD (l.take (atS ((x0.fdiv 4).fdiv 3) l.length))++ou w h ((x0.fdiv 4).fdiv 3) l[atS ((x0.fdiv 4).fdiv 3) l.length]::rest)) rfl LT bad;have fo:=abj E;have nL:oj (eD (l.take (atS ((x0.fdiv 4).fdiv 3) l.length))++ou w h ((x0.fdiv 4).fdiv 3) l[atS ((x0.fdiv 4).fdiv 3) l.length]::rest)=true:=Pg (uZ _) (by simp[oj,aau,nr]);generalize eD (l.take (atS ((x0.fdiv 4).fdiv 3) l.length))++ou w h ((x0.fdiv 4).fdiv 3) l[atS ((x0.fdiv 4).fdiv 3) l.length]::rest=L' at*;have dL:oH [t,.bor true L']=[t,.bor false L']:=by simp[oH,dn,dt,pP L' nL]
  have ew2:=abk ((x0.fdiv 4).fdiv 3);simp only[EA,dg];simp[hx0,hx1, <-ew, <-eh,abU,e1,e2,nt1,fzl,ntz,lr,alX,sp.1,lds,nn,OZ,ES,Te,QI,Uw,Y0,S,dL,fo,ew2,Vv,nb,oj,rE]
 ·have hc:¬(x0.fdiv 4).fmod 3=0\/l=[]:=by
   by_cases a:(x0.fdiv 4).fmod 3=0
   ·right;match l,sp with
    |[],_=>rfl
    |p::l,sp=>exact absurd ⟨a,by simp⟩ sp
   ·exact .inl a
  have li:Gy [.bor true (eD l)]= .ok (eD l):=rfl;have b1:=ah9 l;have b2:=acd G;have b3:=aco G;have b4:zI (.lst []) (.lst [])= .ok (.bl true):=aco [];have nG:oj (eD G)=true:=uZ G;have ra:ZR (Res.ok (decide ((x0.fdiv 4).fmod 3=0))) (dT (aO xu (bN 4) (sr (pQ aB)))) [.val (.lst (zs.map D.int)),.val (.int w),.val (.int h),.val t,.own (.l (eD l)),.val (.int (x0.fdiv 4)),.no,.no,.no]= .ok false:=by
   rcases hc with a|a
   ·simp[a]
   ·subst a;have nn:xu (.bor true (eD [])) (.lst [])= .ok (.bl false):=acd [];by_cases a:(x0.fdiv 4).fmod 3=0
    ·simp[a,lds,nn]
    ·simp[a]
  simp only[EA,dg];simp[hx0,hx1, <-ew, <-eh,abU,e1,e2,nt1,fzl,ntz,lr,rE];rw[ra];simp[lds,li,rE,dbl,F1,Vv,JB,nG,b1,amL,F3,b2,dbg,F4,kU,yb,QI,Uw,afx,uR,nt2,F2,b3,b4,fzl,nb,oj]
end K23
end
section
namespace K23
open PySem PySem.Spec PyProof.Rows L2 L4
def top(i:Nat):Stmt:=PySem.Challenge.pw_beamtable_k23_light_of_lamps.main.body.getD i (.Pass ⟨0,0,0,0⟩)
def PU(s:Stmt)(j:Nat):Stmt:=match s with
 | .ClassDef _ _ _ b _ _ _ _ _ _ _=>b.getD j (.Pass ⟨0,0,0,0⟩)
 |_=>s
abbrev jr:Stmt:=top 49
abbrev fU:Stmt:=top 44
abbrev eN:Stmt:=top 45
abbrev gW:Stmt:=top 46
abbrev c8:Stmt:=PU (top 47) 0
abbrev fV:Stmt:=PU (top 47) 1
abbrev eO:Stmt:=PU (top 47) 2
abbrev jo:Stmt:=top 27
abbrev kg:Stmt:=top 20
abbrev oW:Stmt:=top 21
abbrev mC:Stmt:=top 22
abbrev cL:Stmt:=PU (top 47) 3
abbrev ko:Stmt:=top 24
abbrev jt:Stmt:=top 25
abbrev oV:Stmt:=top 28
abbrev mh:Stmt:=top 29
abbrev gY:Stmt:=top 30
abbrev sN:Stmt:=top 51
abbrev mq:Stmt:=top 52
abbrev jq:Stmt:=top 53
abbrev gX:Stmt:=top 26
abbrev sM:Stmt:=top 14
abbrev cZ:Stmt:=top 32
abbrev ck:Stmt:=top 11
abbrev kj:Stmt:=top 12
abbrev yl:Stmt:=top 13
abbrev ki:Stmt:=top 33
abbrev kh:Stmt:=top 34
abbrev mz:Stmt:=top 54
abbrev mj:Stmt:=top 50
abbrev mw:Stmt:=top 56
abbrev sO:Stmt:=top 55
abbrev Fl:Stmt:=top 57
set_option genInjectivity false in
structure Tx(K:W.Frag)(mg:Str->Option Value)(cb:Cb) where
 fD:Addr
 jP:FuncData
 lC:mg "_law_cell_at"=some (.ref fD)
 eW:W.keepIn K (.ref fD)=true
 ff:lT K "_law_cell_at" "_law_cell_at" jr fD jP
 bz:Binds K jP o8 []
 cV:Addr
 ig:FuncData
 qJ:mg "check_sides"=some (.ref cV)
 fX:W.keepIn K (.ref cV)=true
 cS:lT K "check_sides" "check_sides" fU cV ig
 cT:Binds K ig lO []
 cC:Addr
 gi:FuncData
 pG:mg "fibre_places"=some (.ref cC)
 eX:W.keepIn K (.ref cC)=true
 cz:lT K "fibre_places" "fibre_places" eN cC gi
 cA:Binds K gi kq []
 dM:Addr
 jf:FuncData
 tN:mg "fibre_ends"=some (.ref dM)
 g8:W.keepIn K (.ref dM)=true
 dB:lT K "fibre_ends" "fibre_ends" gW dM jf
 dH:Binds K jf m8 []
 cj:Addr
 ef:FuncData
 fL:W.keepIn K (.ref cj)=true
 aY:lT K "__init__" "Table.__init__" c8 cj ef
 bS:Binds K ef iK []
 cW:Addr
 eZ:FuncData
 fY:W.keepIn K (.ref cW)=true
 bW:lT K "width" "Table.width" fV cW eZ
 cU:Binds K eZ jb []
 cD:Addr
 dW:FuncData
 eY:W.keepIn K (.ref cD)=true
 bJ:lT K "height" "Table.height" eO cD dW
 cB:Binds K dW g6 []
 fB:Addr
 jN:FuncData
 pF:mg "passes_in"=some (.ref fB)
 gE:W.keepIn K (.ref fB)=true
 e8:lT K "passes_in" "passes_in" jo fB jN
 di:Binds K jN o6 []
 gx:Addr
 lD:FuncData
 yU:mg "opposite"=some (.ref gx)
 kD:W.keepIn K (.ref gx)=true
 gj:lT K "opposite" "opposite" kg gx lD
 gw:Binds K lD qZ []
 kO:Addr
 qj:FuncData
 Gx:mg "beyond"=some (.ref kO)
 pL:W.keepIn K (.ref kO)=true
 kI:lT K "beyond" "beyond" oW kO qj
 jA:Binds K qj yD []
 iZ:Addr
 nN:FuncData
 u9:mg "back_of"=some (.ref iZ)
 jX:W.keepIn K (.ref iZ)=true
 iS:lT K "back_of" "back_of" mC iZ nN
 fO:Binds K nN uX []
 bK:Addr
 cy:FuncData
 cN:W.keepIn K (.ref bK)=true
 aU:lT K "has_place" "Table.has_place" cL bK cy
 bA:Binds K cy d8 []
 gB:Addr
 lH:FuncData
 rH:mg "comes_in"=some (.ref gB)
 iM:W.keepIn K (.ref gB)=true
 gu:lT K "comes_in" "comes_in" ko gB lH
 dI:Binds K lH rA []
 fE:Addr
 jQ:FuncData
 pH:mg "comes_out"=some (.ref fE)
 gF:W.keepIn K (.ref fE)=true
 fh:lT K "comes_out" "comes_out" jt fE jQ
 cP:Binds K jQ o9 []
 kM:Addr
 qi:FuncData
 Gw:mg "inlets"=some (.ref kM)
 pK:W.keepIn K (.ref kM)=true
 kH:lT K "inlets" "inlets" oV kM qi
 kL:Binds K qi yC []
 iU:Addr
 nH:FuncData
 B7:mg "outlets"=some (.ref iU)
 mJ:W.keepIn K (.ref iU)=true
 iN:lT K "outlets" "outlets" mh iU nH
 iT:Binds K nH uS []
 dO:Addr
 jh:FuncData
 tP:mg "all_passes"=some (.ref dO)
 ie:W.keepIn K (.ref dO)=true
 dF:lT K "all_passes" "all_passes" gY dO jh
 dJ:Binds K jh ng []
 nS:Addr
 uc:FuncData
 DP:mg "_law_low"=some (.ref nS)
 qf:W.keepIn K (.ref nS)=true
 nP:lT K "_law_low" "_law_low" sN nS uc
 jS:Binds K uc xo []
 iW:Addr
 nJ:FuncData
 B9:mg "_law_lamps"=some (.ref iW)
 mO:W.keepIn K (.ref iW)=true
 iP:lT K "_law_lamps" "_law_lamps" mq iW nJ
 gH:Binds K nJ uU []
 fC:Addr
 jO:FuncData
 vI:mg "_law_spoiled"=some (.ref fC)
 jy:W.keepIn K (.ref fC)=true
 fc:lT K "_law_spoiled" "_law_spoiled" jq fC jO
 cO:Binds K jO o7 []
 dN:Addr
 jg:FuncData
 tO:mg "check_pass"=some (.ref dN)
 g9:W.keepIn K (.ref dN)=true
 dD:lT K "check_pass" "check_pass" gX dN jg
 b8:Binds K jg m9 []
 nR:Addr
 t9:FuncData
 Po:mg "under"=some (.ref nR)
 tU:W.keepIn K (.ref nR)=true
 nO:lT K "under" "under" sM nR t9
 jR:Binds K t9 Dk []
 bT:Addr
 d9:FuncData
 mH:mg "check_strength"=some (.ref bT)
 c9:W.keepIn K (.ref bT)=true
 bR:lT K "check_strength" "check_strength" cZ bT d9
 aZ:Binds K d9 iJ []
 bD:Addr
 cY:FuncData
 kB:mg "greatest_divisor"=some (.ref bD)
 cu:W.keepIn K (.ref bD)=true
 bC:lT K "greatest_divisor" "greatest_divisor" ck bD cY
 aX:Binds K cY dw []
 gA:Addr
 lG:FuncData
 yW:mg "fraction"=some (.ref gA)
 kF:W.keepIn K (.ref gA)=true
 gr:lT K "fraction" "fraction" kj gA lG
 dG:Binds K lG rm []
 r9:Addr
 xJ:FuncData
 VE:mg "plus"=some (.ref r9)
 zp:W.keepIn K (.ref r9)=true
 rT:lT K "plus" "plus" yl r9 xJ
 pU:Binds K xJ Jf []
 gz:Addr
 lF:FuncData
 yV:mg "gathered"=some (.ref gz)
 kE:W.keepIn K (.ref gz)=true
 gq:lT K "gathered" "gathered" ki gz lF
 fu:Binds K lF rj []
 gy:Addr
 lE:FuncData
 ku:mg "light_of"=some (.ref gy)
 eV:W.keepIn K (.ref gy)=true
 gp:lT K "light_of" "light_of" kh gy lE
 b5:Binds K lE q8 []
 iY:Addr
 nM:FuncData
 Cc:mg "_law_found"=some (.ref iY)
 mQ:W.keepIn K (.ref iY)=true
 iR:lT K "_law_found" "_law_found" mz iY nM
 gJ:Binds K nM uW []
 iV:Addr
 nI:FuncData
 B8:mg "_law_whole"=some (.ref iV)
 mK:W.keepIn K (.ref iV)=true
 iO:lT K "_law_whole" "_law_whole" mj iV nI
 gG:Binds K nI uT []
 iX:Addr
 nK:FuncData
 Ca:mg "_law_kinds"=some (.ref iX)
 mP:W.keepIn K (.ref iX)=true
 iQ:lT K "_law_kinds" "_law_kinds" mw iX nK
 gI:Binds K nK uV []
 nT:Addr
 ue:FuncData
 DQ:mg "_law_due"=some (.ref nT)
 qg:W.keepIn K (.ref nT)=true
 nQ:lT K "_law_due" "_law_due" sO nT ue
 jT:Binds K ue Dl []
 v7:Addr
 Ed:FuncData
 aii:mg "law"=some (.ref v7)
 Py:W.keepIn K (.ref v7)=true
 vR:lT K "law" "law" Fl v7 Ed
 z7:Binds K Ed U7 []
 ER:mg "abs"=none
 OR:mg "all"=none
 CG:mg "bool"=none
 jj:mg "enumerate"=none
 OQ:mg "int"=none
 aS:mg "isinstance"=none
 jC:mg "len"=none
 xQ:mg "list"=none
 mY:mg "range"=none
 ji:mg "sorted"=none
 kW:mg "tuple"=none
 Iz:Value
 TN:mg "EAST"=some Iz
 WU:Y9 K Iz (.int 0)
 j5:Value
 j0:mg "LONGEST_SIDE"=some j5
 kG:Y9 K j5 (.int 16)
 CN:Value
 OV:mg "NORTH"=some CN
 P1:Y9 K CN (.int 1)
 Iw:Value
 Ir:mg "WAYS"=some Iw
 Km:Y9 K Iw (.gt [.int 0,.int 1,.int 2,.int 3])
 Iv:Value
 TM:mg "WEST"=some Iv
 WR:Y9 K Iv (.int 2)
 Iu:Value
 Iq:mg "ZERO"=some Iu
 Kl:Y9 K Iu (.gt [.int 0,.int 1])
 bO:Addr
 vP:mg "BeamError"=some (.ref bO)
 aI:Addr
 D8:mg "NoFraction"=some (.ref aI)
 br:Addr
 zG:mg "NoCell"=some (.ref br)
 aV:Addr
 RZ:mg "NoTable"=some (.ref aV)
 bh:Addr
 zF:mg "NoPass"=some (.ref bh)
 aF:Addr
 nF:mg "NoStrength"=some (.ref aF)
 bB:Addr
 P5:mg "Empty"=some (.ref bB)
 nV:Addr
 P4:mg "Fibre"=some (.ref nV)
 aK:Addr
 PZ:mg "Table"=some (.ref aK)
 O4:cb.cls "Empty"=some (bB,([]:List Str))
 aay:cb.ins "Empty"=some bB
 mS:HV K bB
 Gm:Mk0 K bB
 sR:cb.cls "Table"=some (aK,(["grid","ends"]:List Str))
 Pk:cb.ins "Table"=some aK
 iw:HV K aK
 Gk:Mk K aK cj
 g7:Meth K aK "width" cW
 gg:Meth K aK "height" cD
 dz:Meth K aK "has_place" bK
 ft:afZ cb ae8
 P8:FA K cb "ends"
 qk:FA K cb "grid"
 jI:XC K mg cb "NoFraction" "NoFraction" aI
 su:XC K mg cb "NoPass" "NoPass" bh
 jH:XC K mg cb "NoStrength" "NoStrength" aF
 xS:XC K mg cb "NoCell" "NoCell" br
 jV:XC K mg cb "NoTable" "NoTable" aV
 vN:ajJ K cb (.ref bO) (qL mt "BeamError")
 xt:XTs K cb mt
 PV:Ql K cb mt (.ref nV) "Fibre"
 nA:Ql K cb mt (.ref aF) "NoStrength"
 zC:Ql K cb mt (.ref br) "NoCell"
 zB:Ql K cb mt (.ref bh) "NoPass"
 Ww:Ql K cb mt (.type "list") "list"
 xE:Ql K cb mt (.type "tuple") "tuple"
 Wx:Ql K cb mt (.type "bool") "bool"
 aci:Ql K cb mt (.type "int") "int"
section
variable{P:Program}{w:World}{K:W.Frag}{mg:Str->Option Value}{cb:Cb}{base:Heap}
def ni(M:Tx K mg cb):i6 P w K mg base cb 1 M.fD M.jP o8 aR:=by
 refine qT bz M.ff (λ as _ _=>⟨0,rfl⟩) (λ c cdv A outer s H E hcb hr g n=>?_);subst hcb;exact (ak (b6 (Ih (ah 1) (iF M.jC (aa (ah 0) aj))) (ay (bx (bI (ah 0) (ah 1)))) bg)
  (ay (bx az)))
def yE(M:Tx K mg cb):i6 P w K mg base cb 1 M.cV M.ig lO gf:=by
 refine qT cT M.cS (λ as _ _=>⟨0,rfl⟩) (λ c cdv A outer s H E hcb hr g n=>?_);subst hcb;have hu:=hr.units;exact (ak (b6 (fJ (BE (nW BZ) (nW BZ) B3 B3 az (iF M.jC (aa (ah 0) aj)) (gT M.j0 M.kG))) (ay (jW g M.jV (aa iE aj))) bg)
  (ay (eK g (dU (ah 0)) (aL 1 g.nd) (ak (b6 (fJ (BE (nW BZ) (nW BZ) B3 B3 az (iF M.jC (aa (ah 1) aj)) (gT M.j0 M.kG))) (ay (jW g M.jV (aa iE aj))) bg)
  (ay (b6 (oM hu (iF M.jC (aa (ah 1) aj)) (iF M.jC (aa (bI (ah 0) az) aj))) (ay (jW g M.jV (aa iE aj))) bg))))))
def wo(M:Tx K mg cb):i6 P w K mg base cb 1 M.cC M.gi kq fG:=by
 refine qT cA M.cz (λ as _ _=>⟨0,rfl⟩) (λ c cdv A outer s H E hcb hr g n=>?_);subst hcb;exact (ak (gS 1 g.nd (λ B=>wX))
  (ak (eK g (EV M.jj (aa (ah 0) aj)) (kZ rfl (bM (aL 2 g.nd) (bM (aL 3 g.nd) jm))) (ay (eK g (EV M.jj (aa (ah 3) aj)) (kZ rfl (bM (aL 4 g.nd) (bM (aL 5 g.nd) jm))) (ay (b6 (dm (m6 M.aS M.xt M.PV (kJ M.P4) (ah 5))) (ay OT) bg)))))
  (ay (sC 1))))
def AA(M:Tx K mg cb):i6 P w K mg base cb 2 M.dM M.jf m8 iA:=by
 refine qT dH M.dB (λ as _ _=>⟨0,rfl⟩) (λ c cdv A outer s H E hcb hr g n=>?_);subst hcb;have hu:=hr.units;have hu1:=hU1 hr.units;exact (ak (gS 1 g.nd (λ B=>wX))
  (ak (eK g (Ig (jn (wo M) (hr.mono (by decide)) M.pG M.eX M.cA (aa (ah 0) aj))) (kZ rfl (bM (aL 2 g.nd) (bM (aL 3 g.nd) jm))) (ak (b6 (oM hu (iF M.jC (aa (ah 3) aj)) az) (ay OT) bg)
  (ak (sD hu1 (λ B=>(i9 1)) (λ B=>(bI (ah 3) az)) (λ B=>(bI (ah 3) az)))
  (ay (sD hu1 (λ B=>(i9 1)) (λ B=>(bI (ah 3) az)) (λ B=>(bI (ah 3) az)))))))
  (ay (sC 1))))
def sZ(M:Tx K mg cb):i6 P w K mg base cb 3 M.cj M.ef iK bU:=by
 refine wfG bS M.aY (λ as _ _=>⟨0,rfl⟩) (λ c cdv A outer s H E hcb hr g n=>?_);subst hcb;exact (ak (EW 0 M.qk M.ft (λ B=>(E0 M.kW (aa (bQ (jl (tm:=false) (k:=1) (caps:=[]) (N':=["cells"]) (λ h=>nomatch h) rfl (dU (ah 1)) ⟨rfl,by decide+kernel,rfl,by decide+kernel,rfl,(λ i c y h=>by simp at h)⟩ (by decide+kernel) (λ C s₀ H₀ ex=>(aL 0 (by decide+kernel:(["cells"]:List Str).Nodup))) (λ C s₀ H₀ ex=>mZ) (λ C s₀ H₀ ex=>(E0 M.kW (aa (ah 0) aj))) (k6 (by decide)))) aj))))
  (ak (Tu (λ B=>(oO (yE M) (hr.mono (by decide)) M.qJ M.fX M.cT (aa (CL M.qk (bZ 0)) aj))))
  (ay (EW 0 M.P8 M.ft (λ B=>(oO (AA M) (hr.mono (by decide)) M.tN M.g8 M.dH (aa (CL M.qk (bZ 0)) aj)))))))
def yG(M:Tx K mg cb):i6 P w K mg base cb 1 M.cW M.eZ jb cX:=by refine qT cU M.bW (λ as _ _=>⟨0,rfl⟩) (λ c cdv A outer s H E hcb hr g n=>?_);subst hcb;exact (ay (bx (iF M.jC (aa (bI (CL M.qk (ah 0)) az) aj))))
def Gj{X:Cx}(M:Tx K mg cb)(hP:X.prog=P)(hw:X.w=w)(hK:X.K=K)(hm:X.mg=mg)(hb:X.base=base)(hr:dQ 1 X.A):SJ X cb "width" 0 sI:=by
 subst hP hw hK hm hb;exact JK (bG (mt1 M.sR ⟨1,M.cW,M.eZ,jb,M.iw,M.g7,yG M,hr.mono (by decide),M.cU,rfl,by decide⟩)
  jB)
def wu(M:Tx K mg cb):i6 P w K mg base cb 1 M.cD M.dW g6 cH:=by refine qT cB M.bJ (λ as _ _=>⟨0,rfl⟩) (λ c cdv A outer s H E hcb hr g n=>?_);subst hcb;exact (ay (bx (iF M.jC (aa (CL M.qk (ah 0)) aj))))
def B5{X:Cx}(M:Tx K mg cb)(hP:X.prog=P)(hw:X.w=w)(hK:X.K=K)(hm:X.mg=mg)(hb:X.base=base)(hr:dQ 1 X.A):SJ X cb "height" 0 oS:=by
 subst hP hw hK hm hb;exact JK (bG (mt1 M.sR ⟨1,M.cD,M.dW,g6,M.iw,M.gg,wu M,hr.mono (by decide),M.cB,rfl,by decide⟩)
  jB)
def sW(M:Tx K mg cb):i6 P w K mg base cb 2 M.fB M.jN o6 gK:=by
 refine qT di M.e8 (λ as _ _=>⟨0,rfl⟩) (λ c cdv A outer s H E hcb hr g n=>?_);subst hcb;exact (ak (gS 1 g.nd (λ B=>(jk (jZ aj))))
  (ak (eK g (sy M.mY (aa (oN (oK (p7 (eU _) (Gj M rfl rfl rfl rfl rfl (hr.mono (by decide))) (ah 0)))) aj)) (aL 2 g.nd) (ay (eK g (sy M.mY (aa (oN (oK (p7 (eU _) (B5 M rfl rfl rfl rfl rfl (hr.mono (by decide))) (ah 0)))) aj)) (aL 3 g.nd) (ay (Ij (λ B=>(i9 1)) (λ B=>(jl (tm:=false) (k:=1) (caps:=[2,3]) (N':=["way","x","y"]) (λ h=>nomatch h) rfl (dU (gT M.Ir M.Km)) ⟨rfl,by decide+kernel,rfl,by decide+kernel,rfl,(aby (bG (Xu rfl) (bG (Xu rfl) jB)))⟩ (by decide+kernel) (λ C s₀ H₀ ex=>(aL 0 (by decide+kernel:(["way","x","y"]:List Str).Nodup))) (λ C s₀ H₀ ex=>mZ) (λ C s₀ H₀ ex=>(bH (aa (ah 1) (aa (ah 2) (aa (ah 0) aj))))) (k6 (by decide)))))))))
  (ay (sC 1))))
def FH(M:Tx K mg cb):i6 P w K mg base cb 1 M.gx M.lD qZ i7:=by refine qT gw M.gj (λ as _ _=>⟨0,rfl⟩) (λ c cdv A outer s H E hcb hr g n=>?_);subst hcb;exact (ay (bx (adz (ah 0) az)))
def QX(M:Tx K mg cb):i6 P w K mg base cb 1 M.kO M.qj yD kQ:=by
 refine qT jA M.kI (λ as _ _=>⟨0,rfl⟩) (λ c cdv A outer s H E hcb hr g n=>?_);subst hcb;have hu:=hr.units;exact (ak (b6 (xU hu (ah 2) (gT M.TN M.WU)) (ay (bx (bH (aa (iG (ah 0) az) (aa (ah 1) aj))))) bg)
  (ak (b6 (xU hu (ah 2) (gT M.OV M.P1)) (ay (bx (bH (aa (ah 0) (aa (xW (ah 1) az) aj))))) bg)
  (ak (b6 (xU hu (ah 2) (gT M.TM M.WR)) (ay (bx (bH (aa (xW (ah 0) az) (aa (ah 1) aj))))) bg)
  (ay (bx (bH (aa (ah 0) (aa (iG (ah 1) az) aj))))))))
def yF(M:Tx K mg cb):i6 P w K mg base cb 2 M.iZ M.nN uX gQ:=by
 refine qT fO M.iS (λ as _ _=>⟨0,rfl⟩) (λ c cdv A outer s H E hcb hr g n=>?_);subst hcb;exact (ak (bF 1 g.nd (jn (FH M) (hr.mono (by decide)) M.yU M.kD M.gw (aa (bI (ah 0) az) aj)))
  (ak (bF 2 g.nd (jn (QX M) (hr.mono (by decide)) M.Gx M.pL M.jA (aa (bI (ah 0) az) (aa (bI (ah 0) az) (aa (ah 1) aj)))))
  (ay (bx (bH (aa (bI (ah 2) az) (aa (bI (ah 2) az) (aa (ah 1) aj))))))))
def rB(M:Tx K mg cb):i6 P w K mg base cb 2 M.bK M.cy d8 bL:=by refine qT bA M.aU (λ as _ _=>⟨0,rfl⟩) (λ c cdv A outer s H E hcb hr g n=>?_);subst hcb;exact (ay (bx (Io (E3 (nW BZ) (nW Pe) B3 ab8 az (ah 1) (oN (oK (p7 (eU _) (Gj M rfl rfl rfl rfl rfl (hr.mono (by decide))) (ah 0))))) (Im (E3 (nW BZ) (nW Pe) B3 ab8 az (ah 2) (oN (oK (p7 (eU _) (B5 M rfl rfl rfl rfl rfl (hr.mono (by decide))) (ah 0)))))))))
def DN{X:Cx}(M:Tx K mg cb)(hP:X.prog=P)(hw:X.w=w)(hK:X.K=K)(hm:X.mg=mg)(hb:X.base=base)(hr:dQ 2 X.A):SJ X cb "has_place" 2 lu:=by
 subst hP hw hK hm hb;exact JK (bG (mt1 M.sR ⟨2,M.bK,M.cy,d8,M.iw,M.dz,rB M,hr.mono (by decide),M.bA,rfl,by decide⟩)
  jB)
def vH(M:Tx K mg cb):i6 P w K mg base cb 3 M.gB M.lH rA fH:=by refine qT dI M.gu (λ as _ _=>⟨0,rfl⟩) (λ c cdv A outer s H E hcb hr g n=>?_);subst hcb;exact (ay (bx (oN (oK (Tn (eU _) (DN M rfl rfl rfl rfl rfl (hr.mono (by decide))) (ah 0) (aa (bI (ah 1) az) (aa (bI (ah 1) az) aj)))))))
def sX(M:Tx K mg cb):i6 P w K mg base cb 4 M.fE M.jQ o9 dj:=by refine qT cP M.fh (λ as _ _=>⟨0,rfl⟩) (λ c cdv A outer s H E hcb hr g n=>?_);subst hcb;exact (ay (bx (jn (vH M) (hr.mono (by decide)) M.rH M.iM M.dI (aa (ah 0) (aa (jn (yF M) (hr.mono (by decide)) M.u9 M.jX M.fO (aa (ah 1) aj)) aj)))))
def QW(M:Tx K mg cb):i6 P w K mg base cb 5 M.kM M.qi yC pY:=by refine qT kL M.kH (λ as _ _=>⟨0,rfl⟩) (λ c cdv A outer s H E hcb hr g n=>?_);subst hcb;exact (ay (lV (λ B=>(jk (qS M.ji (aa (bQ (jl (tm:=false) (k:=1) (caps:=[0]) (N':=["p","table"]) (λ h=>nomatch h) rfl (dU (lN (sW M) (hr.mono (by decide)) M.pF M.gE M.di (aa (ah 0) aj))) ⟨rfl,by decide+kernel,rfl,by decide+kernel,rfl,(aby (bG (Xu rfl) jB))⟩ (by decide+kernel) (λ C s₀ H₀ ex=>(aL 0 (by decide+kernel:(["p","table"]:List Str).Nodup))) (λ C s₀ H₀ ex=>(Zl (fJ (dm (lN (sX M) (hr.mono (by decide)) M.pH M.gF M.cP (aa (ah 1) (aa (ah 0) aj))))))) (λ C s₀ H₀ ex=>(ah 0)) (k6 (by decide)))) aj))))))
def Jh(M:Tx K mg cb):i6 P w K mg base cb 6 M.iU M.nH uS mV:=by refine qT iT M.iN (λ as _ _=>⟨0,rfl⟩) (λ c cdv A outer s H E hcb hr g n=>?_);subst hcb;exact (ay (lV (λ B=>(jk (qS M.ji (aa (bQ (jl (tm:=false) (k:=1) (caps:=[]) (N':=["p"]) (λ h=>nomatch h) rfl (dU (lN (QW M) (hr.mono (by decide)) M.Gw M.pK M.kL (aa (ah 0) aj))) ⟨rfl,by decide+kernel,rfl,by decide+kernel,rfl,(λ i c y h=>by simp at h)⟩ (by decide+kernel) (λ C s₀ H₀ ex=>(aL 0 (by decide+kernel:(["p"]:List Str).Nodup))) (λ C s₀ H₀ ex=>mZ) (λ C s₀ H₀ ex=>(lN (yF M) (hr.mono (by decide)) M.u9 M.jX M.fO (aa (ah 0) aj))) (k6 (by decide)))) aj))))))
def AD(M:Tx K mg cb):i6 P w K mg base cb 7 M.dO M.jh ng cR:=by refine qT dJ M.dF (λ as _ _=>⟨0,rfl⟩) (λ c cdv A outer s H E hcb hr g n=>?_);subst hcb;exact (ay (lV (λ B=>(jk (qS M.ji (aa (bQ (ady (lN (sW M) (hr.mono (by decide)) M.pF M.gE M.di (aa (ah 0) aj)) (lN (Jh M) (hr.mono (by decide)) M.B7 M.mJ M.iT (aa (ah 0) aj)))) aj))))))
def FI(M:Tx K mg cb):i6 P w K mg base cb 1 M.nS M.uc xo eE:=by
 refine qT jS M.nP aa6 (λ c cdv A outer s H E hcb hr g n=>?_);subst hcb;have hu:=hr.units;exact (ak (bF 2 g.nd (ah 0))
  (ak (bF 3 g.nd (ah 1))
  (ak (xV n g (oM hu (ah 3) az) (ay (Zr 2 3 g.calm g.nd (aa (ah 3) (aa (fS (ah 2) (ah 3)) aj)))))
  (ay (bx (bH (aa (fK (ah 0) (ah 2)) (aa (fK (ah 1) (ah 2)) aj))))))))
def Jj(M:Tx K mg cb):i6 P w K mg base cb 2 M.iW M.nJ uU gM:=by
 refine qT gH M.iP (λ as _ _=>⟨0,rfl⟩) (λ c cdv A outer s H E hcb hr g n=>?_);subst hcb;exact (ak (gS 2 g.nd (λ B=>(jk (jZ aj))))
  (ak (eK g (dU (bQ (adx (ah 0) (EZ az) (EZ az)))) (aL 3 g.nd) (ak (bF 4 g.nd (bI (ah 1) (fS (fS (fK (ah 3) az) (bI (bQ (jZ (aa az (aa (iF M.jC (aa (ah 1) aj)) aj)))) (fS (fS (ah 3) az) az))) (iF M.jC (aa (ah 1) aj)))))
  (ay (Ik (λ B=>(i9 2)) (λ B=>(bH (aa (ah 4) (aa (lN (FI M) (hr.mono (by decide)) M.DP M.qf M.jS (aa (iG az (fS (m5 (ah 3) az) (Tv az az))) (aa (iG az (fS (fK (ah 3) az) az)) aj))) aj))))))))
  (ay (sC 2))))
def Dq(M:Tx K mg cb):i6 P w K mg base cb 1 M.fC M.jO o7 cQ:=by
 refine wfG cO M.fc (λ as _ _=>⟨0,rfl⟩) (λ c cdv A outer s H E hcb hr g n=>?_);subst hcb;exact (ak (bF 4 g.nd (fS (fK (ah 1) az) (Tv az az)))
  (ak (Tr 5 g.nd (λ B=>(fS (fK (ah 1) az) (iF M.jC (aa (bZ 0) aj)))))
  (ak (EY (λ B=>(bI (bZ 0) (ah 5))) (kZ rfl (bM (aL 6 g.nd) (bM (aL 7 g.nd) jm))))
  (ak (bF 8 g.nd (bI (bQ (jZ (aa (bH (aa (iG (iG (ah 2) az) (ah 4)) (aa az (aa az aj)))) (aa (bH (aa az (aa (xW (CK az) (ah 4)) (aa az aj)))) (aa (bH (aa az (aa az (aa az aj)))) (aa (bH (aa az (aa az (aa (CK az) aj)))) (aa (bH (aa (ah 2) (aa (ah 3) (aa az aj)))) aj))))))) (fS (fK (ah 1) az) az)))
  (ak (bF 9 g.nd (bI (bQ (jZ (aa (bH (aa az (aa az aj))) (aa (bH (aa (xW (xW az az) (ah 4)) (aa az aj))) (aa (bH (aa (CK az) (aa (iG az (ah 4)) aj))) aj))))) (fS (fK (ah 1) az) az)))
  (ak (bF 10 g.nd (fS (fK (ah 1) az) az))
  (ak (BF (λ B=>(i9 0)) (λ B=>(ah 5)) (λ B=>(bI (bQ (jZ (aa (bH (aa (ah 8) (aa (ah 7) aj))) (aa (bH (aa (ah 6) (aa (ah 9) aj))) (aa (bH (aa (ah 8) (aa (ah 9) aj))) aj))))) (ah 10))))
  (ak (Ii (λ B=>(Ih (iG (ah 5) az) (iF M.jC (aa (bZ 0) aj)))) (ay (BF (λ B=>(i9 0)) (λ B=>(iG (ah 5) az)) (λ B=>(bI (bQ (jZ (aa (bH (aa (ah 6) (aa (ah 9) aj))) (aa (bH (aa (ah 8) (aa (ah 7) aj))) (aa (bH (aa (ah 6) (aa (ah 9) aj))) aj))))) (ah 10))))) bg)
  (ay (Tt (bI (bQ (jZ (aa iE (aa iE (aa iE aj))))) (ah 10))))))))))))
def AB(M:Tx K mg cb):i6 P w K mg base cb 5 M.dN M.jg m9 bX:=by refine qT b8 M.dD (λ as _ _=>⟨0,rfl⟩) (λ c cdv A outer s H E hcb hr g n=>?_);subst hcb;exact (ay (b6 (vD (uO (Qx (bI (ah 1) az) (gT M.Ir M.Km)) (sA (fJ (vD (uO (dm (jn (vH M) (hr.mono (by decide)) M.rH M.iM M.dI (aa (ah 0) (aa (ah 1) aj)))) (sA (dm (jn (sX M) (hr.mono (by decide)) M.pH M.gF M.cP (aa (ah 0) (aa (ah 1) aj))))))))))) (ay (jW g M.su (aa iE aj))) bg))
def Vb(M:Tx K mg cb):i6 P w K mg base cb 1 M.nR M.t9 Dk jU:=by refine qT jR M.nO (λ as _ _=>⟨0,rfl⟩) (λ c cdv A outer s H E hcb hr g n=>?_);subst hcb;exact (ay (bx (ahf (m5 (bI (ah 0) az) (bI (ah 1) az)) (m5 (bI (ah 1) az) (bI (ah 0) az)))))
def sY(M:Tx K mg cb):i6 P w K mg base cb 2 M.bT M.d9 iJ bf:=by refine qT aZ M.bR (λ as _ _=>⟨0,rfl⟩) (λ c cdv A outer s H E hcb hr g n=>?_);subst hcb;exact (ay (b6 (fJ (dm (jn (Vb M) (hr.mono (by decide)) M.Po M.tU M.jR (aa (gT M.Iq M.Kl) (aa (ah 0) aj))))) (ay (jW g M.jH (aa iE aj))) bg))
def qt(M:Tx K mg cb):i6 P w K mg base cb 1 M.bD M.cY dw aM:=by
 refine qT aX M.bC rM (λ c cdv A outer s H E hcb hr g n=>?_);subst hcb;have hu:=hr.units;exact (ak (bF 2 g.nd (TH M.ER (aa (ah 0) aj)))
  (ak (bF 3 g.nd (TH M.ER (aa (ah 1) aj)))
  (ak (xV n g (oM hu (ah 3) az) (ak (bF 4 g.nd (fS (ah 2) (ah 3)))
  (ak (bF 2 g.nd (ah 3))
  (ay (bF 3 g.nd (ah 4))))))
  (ay (bx (ah 2))))))
def FN(M:Tx K mg cb):i6 P w K mg base cb 2 M.gA M.lG rm fF:=by
 refine qT dG M.gr (λ as _ _=>⟨0,rfl⟩) (λ c cdv A outer s H E hcb hr g n=>?_);subst hcb;have hu:=hr.units;exact (ak (b6 (xU hu (ah 1) az) (ay (jW g M.jI (aa iE aj))) bg)
  (ak (bF 2 g.nd (jn (qt M) (hr.mono (by decide)) M.kB M.cu M.aX (aa (ah 0) (aa (ah 1) aj))))
  (ak (b6 (Ih (ah 1) az) (ay (bF 2 g.nd (CK (ah 2)))) bg)
  (ay (bx (bH (aa (fK (ah 0) (ah 2)) (aa (fK (ah 1) (ah 2)) aj))))))))
def aah(M:Tx K mg cb):i6 P w K mg base cb 3 M.r9 M.xJ Jf pX:=by refine qT pU M.rT (λ as _ _=>⟨0,rfl⟩) (λ c cdv A outer s H E hcb hr g n=>?_);subst hcb;exact (ay (bx (jn (FN M) (hr.mono (by decide)) M.yW M.kF M.dG (aa (iG (m5 (bI (ah 0) az) (bI (ah 1) az)) (m5 (bI (ah 1) az) (bI (ah 0) az))) (aa (m5 (bI (ah 0) az) (bI (ah 1) az)) aj)))))
def FL(M:Tx K mg cb):i6 P w K mg base cb 4 M.gz M.lF rj gC:=by
 refine qT fu M.gq (λ as _ _=>⟨0,rfl⟩) (λ c cdv A outer s H E hcb hr g n=>?_);subst hcb;have hu1:=hU1 hr.units;have hu8:=hU8 hr.units;exact (ak (gS 1 g.nd (λ B=>wX))
  (ak (eK g (dU (ah 0)) (kZ rfl (bM (aL 2 g.nd) (bM (aL 3 g.nd) jm))) (ay (sD hu1 (λ B=>(i9 1)) (λ B=>(ah 2)) (λ B=>(oO (aah M) (hr.mono (by decide)) M.VE M.zp M.pU (aa (E2 hu1 (bZ 1) (ah 2) (gT M.Iq M.Kl)) (aa (ah 3) aj)))))))
  (ay (lV (λ B=>(jk (Ie g.calm hu8 M.ji (bZ 1))))))))
def lA(M:Tx K mg cb):i6 P w K mg base cb 6 M.gy M.lE q8 bw:=by
 refine qT b5 M.gp (λ as _ _=>⟨0,rfl⟩) (λ c cdv A outer s H E hcb hr g n=>?_);subst hcb;exact (ak (eK g (dU (ah 1)) (kZ rfl (bM (aL 2 g.nd) (bM (aL 3 g.nd) jm))) (ak (BG (jn (AB M) (hr.mono (by decide)) M.tO M.g9 M.b8 (aa (ah 0) (aa (ah 2) aj))))
  (ay (BG (jn (sY M) (hr.mono (by decide)) M.mH M.c9 M.aZ (aa (ah 3) aj))))))
  (ay (lV (λ B=>(Tj (FL M) (hr.mono (by decide)) M.yV M.kE M.fu (aa (ah 1) aj))))))
def Jl(M:Tx K mg cb):i6 P w K mg base cb 7 M.iY M.nM uW gP:=by
 refine qT gJ M.iR (λ as _ _=>⟨0,rfl⟩) (λ c cdv A outer s H E hcb hr g n=>?_);subst hcb;exact (ak (bF 2 g.nd (bH (aa iE (aa CJ aj))))
  (ak (Qy 3 g M.vP M.vN (λ pn xe g=>(ay (bF 2 g.nd (bH (aa iE (aa (jn (lA M) (hr.mono (by decide)) M.ku M.eV M.b5 (aa (ah 0) (aa (ah 1) aj))) aj)))))) (λ ev pn=>(ak (b6 (vD (CI (dm (m6 M.aS M.xt M.zB (kJ M.zF) (ah 3))) (xT (fJ (dm (OU M.aS M.xt (.cons M.nA (.cons M.zC .nil)) (CM (CM TL)) (ah 3) (wY (CH (kJ M.nF)) (wY (CH (kJ M.zG)) TJ)) (λ _ _ _ q=>q) (by simp))))))) (ay (bF 2 g.nd (bH (aa iE (aa CJ aj))))) bg)
  (ay (b6 (vD (CI (dm (m6 M.aS M.xt M.nA (kJ M.nF) (ah 3))) (xT (fJ (dm (OU M.aS M.xt (.cons M.zB (.cons M.zC .nil)) (CM (CM TL)) (ah 3) (wY (CH (kJ M.zF)) (wY (CH (kJ M.zG)) TJ)) (λ _ _ _ q=>q) (by simp))))))) (ay (bF 2 g.nd (bH (aa iE (aa CJ aj))))) bg)))))
  (ay (bx (ah 2)))))
def Ji(M:Tx K mg cb):i6 P w K mg base cb 1 M.iV M.nI uT i8:=by refine qT gG M.iO (λ as _ _=>⟨0,rfl⟩) (λ c cdv A outer s H E hcb hr g n=>?_);subst hcb;exact (ay (bx (Io (m6 M.aS M.xt M.aci (ql M.OQ afA (by decide)) (ah 0)) (Im (adA (m6 M.aS M.xt M.Wx (ql M.CG abD (by decide)) (ah 0)))))))
def Jk(M:Tx K mg cb):i6 P w K mg base cb 2 M.iX M.nK uV gO:=by
 refine qT gI M.iQ (λ as _ _=>⟨0,rfl⟩) (λ c cdv A outer s H E hcb hr g n=>?_);subst hcb;have hu:=hr.units;exact (ak (b6 (fJ (dm (m6 M.aS M.xt M.Ww (ql M.xQ abC (by decide)) (ah 0)))) (ay (bx BI)) bg)
  (ak (eK g (dU (ah 0)) (aL 1 g.nd) (ak (b6 (vD (uO (fJ (dm (m6 M.aS M.xt M.xE (ql M.kW z6 (by decide)) (ah 1)))) (sA (oM hu (iF M.jC (aa (ah 1) aj)) az)))) (ay (bx BI)) bg)
  (ak (b6 (vD (uO (fJ (dm (m6 M.aS M.xt M.xE (ql M.kW z6 (by decide)) (bI (ah 1) az)))) (sA (fJ (dm (m6 M.aS M.xt M.xE (ql M.kW z6 (by decide)) (bI (ah 1) az))))))) (ay (bx BI)) bg)
  (ay (b6 (fJ (dm (adB rfl M.OR (aa (bQ (jl (tm:=false) (k:=1) (caps:=[]) (N':=["_law_part"]) (λ h=>nomatch h) rfl (dU (Zt (bI (ah 1) az) (bI (ah 1) az))) ⟨rfl,by decide+kernel,rfl,by decide+kernel,rfl,(λ i c y h=>by simp at h)⟩ (by decide+kernel) (λ C s₀ H₀ ex=>(aL 0 (by decide+kernel:(["_law_part"]:List Str).Nodup))) (λ C s₀ H₀ ex=>mZ) (λ C s₀ H₀ ex=>(jn (Ji M) (hr.mono (by decide)) M.B8 M.mK M.gG (aa (ah 0) aj))) (k6 (by decide)))) aj)))) (ay (bx BI)) bg)))))
  (ay (bx BI))))
def FJ(M:Tx K mg cb):i6 P w K mg base cb 2 M.nT M.ue Dl iz:=by
 refine qT jT M.nQ (λ as _ _=>⟨0,rfl⟩) (λ c cdv A outer s H E hcb hr g n=>?_);subst hcb;have hu1:=hU1 hr.units;exact (ak (gS 1 g.nd (λ B=>wX))
  (ak (eK g (dU (ah 0)) (kZ rfl (bM (aL 2 g.nd) (bM (aL 3 g.nd) jm))) (ak (EY (λ B=>(E2 hu1 (bZ 1) (ah 2) (bH (aa az (aa az aj))))) (kZ rfl (bM (aL 4 g.nd) (bM (aL 5 g.nd) jm))))
  (ay (sD hu1 (λ B=>(i9 1)) (λ B=>(ah 2)) (λ B=>(lN (FI M) (hr.mono (by decide)) M.DP M.qf M.jS (aa (iG (m5 (ah 4) (bI (ah 3) az)) (m5 (bI (ah 3) az) (ah 5))) (aa (m5 (ah 5) (bI (ah 3) az)) aj))))))))
  (ay (lV (λ B=>(jk (jl (tm:=true) (k:=1) (caps:=[1]) (N':=["_law_p","_law_kept"]) (λ _=>rfl) rfl (dU (bQ (Ic g.calm M.ji (aa (bZ 1) aj)))) ⟨rfl,by decide+kernel,rfl,by decide+kernel,rfl,(aby (bG (Xu rfl) jB))⟩ (by decide+kernel) (λ C s₀ H₀ ex=>(aL 0 (by decide+kernel:(["_law_p","_law_kept"]:List Str).Nodup))) (λ C s₀ H₀ ex=>mZ) (λ C s₀ H₀ ex=>(bH (aa (ah 0) (aa (Zs hu1 (ah 1) (ah 0)) aj)))) (k6 (by decide)))))))))
def aes(M:Tx K mg cb):i6 P w K mg base cb 8 M.v7 M.Ed U7 v8:=by
 refine qT z7 M.vR (λ as _ _=>⟨0,rfl⟩) (λ c cdv A outer s H E hcb hr g n=>?_);subst hcb;have hu:=hr.units;exact (ak (bF 1 g.nd (iG az (fS (jn (ni M) (hr.mono (by decide)) M.lC M.eW M.bz (aa (ah 0) (aa az aj))) az)))
  (ak (bF 2 g.nd (iG az (fS (jn (ni M) (hr.mono (by decide)) M.lC M.eW M.bz (aa (ah 0) (aa az aj))) az)))
  (ak (bF 3 g.nd (Tw (To (eU _) M.Gk (sZ M) (hr.mono (by decide)) M.bS M.Pk M.sR M.PZ (aa (bQ (jl (tm:=false) (k:=1) (caps:=[1]) (N':=["_law_y","_law_wide"]) (λ h=>nomatch h) rfl (sy M.mY (aa (ah 2) aj)) ⟨rfl,by decide+kernel,rfl,by decide+kernel,rfl,(aby (bG (Xu rfl) jB))⟩ (by decide+kernel) (λ C s₀ H₀ ex=>(aL 0 (by decide+kernel:(["_law_y","_law_wide"]:List Str).Nodup))) (λ C s₀ H₀ ex=>mZ) (λ C s₀ H₀ ex=>(bQ (jl (tm:=false) (k:=1) (caps:=[]) (N':=["_law_x"]) (λ h=>nomatch h) rfl (sy M.mY (aa (ah 1) aj)) ⟨rfl,by decide+kernel,rfl,by decide+kernel,rfl,(λ i c y h=>by simp at h)⟩ (by decide+kernel) (λ C s₀ H₀ ex=>(aL 0 (by decide+kernel:(["_law_x"]:List Str).Nodup))) (λ C s₀ H₀ ex=>mZ) (λ C s₀ H₀ ex=>(Tz M.Gm M.O4 M.P5)) (k6 (by decide))))) (k6 (by decide)))) aj) rfl)))
  (ak (gS 4 g.nd (λ B=>(Tj (Jj M) (hr.mono (by decide)) M.B9 M.mO M.gH (aa (ah 0) (aa (lN (AD M) (hr.mono (by decide)) M.tP M.ie M.dJ (aa (ah 3) aj)) aj)))))
  (ak (bF 5 g.nd (fK (jn (ni M) (hr.mono (by decide)) M.lC M.eW M.bz (aa (ah 0) (aa az aj))) az))
  (ak (Ii (λ B=>(vD (CI (xU hu (fS (ah 5) az) az) (xT (oM hu (bZ 4) (bQ (jZ aj))))))) (ak (Tq 6 g.nd (Tp (Dq M) (hr.mono (by decide)) M.vI M.jy M.cO (Qz 4 (aa (fK (ah 5) az) (aa (ah 1) (aa (ah 2) aj))))))
  (ay (EX (λ B=>(TF hu (oO (Jl M) (hr.mono (by decide)) M.Cc M.mQ M.gJ (aa (ah 3) (aa (bZ 4) aj))) (bH (aa (ah 6) (aa CJ aj)))))))) bg)
  (ak (gS 7 g.nd (λ B=>(jk (Zn M.xQ (aa (bZ 4) aj)))))
  (ak (gS 8 g.nd (λ B=>(adw (lA M) (hr.mono (by decide)) M.ku M.eV M.b5 (aa (ah 3) (aa (bZ 7) aj)))))
  (ak (Ii (λ B=>(vD (uO (oM hu (bZ 7) (bZ 4)) (uO (oM hu (bZ 8) (oO (FJ M) (hr.mono (by decide)) M.DQ M.qg M.jT (aa (bZ 4) aj))) (sA (fJ (dm (oO (Jk M) (hr.mono (by decide)) M.Ca M.mP M.gI (aa (bZ 8) aj))))))))) (ay (bx BI)) bg)
  (ak (BH (λ B=>(i9 7)))
  (ak (BH (λ B=>(i9 8)))
  (ay (EX (λ B=>(Io (TF hu (lN (lA M) (hr.mono (by decide)) M.ku M.eV M.b5 (aa (ah 3) (aa (bQ (jZ aj)) aj))) (bQ (jZ aj))) (Im (TF hu (oO (lA M) (hr.mono (by decide)) M.ku M.eV M.b5 (aa (ah 3) (aa (bZ 4) aj))) (oO (FJ M) (hr.mono (by decide)) M.DQ M.qg M.jT (aa (bZ 4) aj)))))))))))))))))))
end
def all_mk{P:Program}{w:World}{K:W.Frag}{h:Heap}{mg:Str->Option Value}{fa:Addr}(X:K.In h)(G:h.Ns mainGlobals mg)(hfa:mg "law"=some (.ref fa)) {bO:Addr} {aI:Addr} {br:Addr} {aV:Addr} {bh:Addr} {aF:Addr} {bB:Addr} {nV:Addr} {aK:Addr} {ff:Addr} {Dw EG:Option Addr} {C3:Array (Option Value)} {DC D0 Ei Dg uE Em:Value} {cS:Addr} {yH z8:Option Addr} {yi:Array (Option Value)} {yJ zq zM yw pS zP:Value} {cz:Addr} {wA wV:Option Addr} {we:Array (Option Value)} {wC wF wN wj nZ wR:Value} {dB:Addr} {AE By:Option Addr} {Ar:Array (Option Value)} {AI A3 Bf Ax qP Bl:Value} {aY:Addr} {tE uJ:Option Addr} {sL:Array (Option Value)} {tG tW ur sV lK uz:Value} {bW:Addr} {yI z9:Option Addr} {yj:Array (Option Value)} {yK zu zN yx pT zQ:Value} {bJ:Addr} {wB wW:Option Addr} {wg:Array (Option Value)} {wD wG wO wm n6 wU:Value} {e8:Addr} {Du EE:Option Addr} {CY:Array (Option Value)} {DA DY Eg De uC Ek:Value} {gj:Addr} {FO HJ:Option Addr} {Fc:Array (Option Value)} {FY GK G8 Ft vV Hq:Value} {kI:Addr} {Q2 SE:Option Addr} {QH:Array (Option Value)} {Q4 RH R6 QS Cw Sd:Value} {iS:Addr} {Jt Lb:Option Addr} {IY:Array (Option Value)} {JA J8 Kw Je zY KL:Value} {aU:Addr} {rC r6:Option Addr} {qW:Array (Option Value)} {rD rL rV qX kK rY:Value} {gu:Addr} {FU HN:Option Addr} {Fg:Array (Option Value)} {F6 GP Hh FD vZ Hu:Value} {fh:Addr} {Dy EH:Option Addr} {C4:Array (Option Value)} {DE D3 Ej Dh uF En:Value} {kH:Addr} {Q0 SD:Option Addr} {QG:Array (Option Value)} {Q3 RG R5 QO Cv Sb:Value} {iN:Addr} {Jo K6:Option Addr} {IT:Array (Option Value)} {Ju J3 Kp I0 zT KC:Value} {dF:Addr} {AH BB:Option Addr} {Au:Array (Option Value)} {AK A5 Bh Az qR Bo:Value} {nP:Addr} {Vf XJ:Option Addr} {Um:Array (Option Value)} {Vi V7 Xc UM Hz Xk:Value} {iP:Addr} {Jq K8:Option Addr} {IV:Array (Option Value)} {Jw J5 Kr Jb zV KH:Value} {fc:Addr} {Dv EF:Option Addr} {CZ:Array (Option Value)} {DB DZ Eh Df uD El:Value} {dD:Addr} {AG BA:Option Addr} {As:Array (Option Value)} {AJ A4 Bg Ay qQ Bm:Value} {nO:Addr} {Ve XI:Option Addr} {Ul:Array (Option Value)} {Vh V6 Xa UK Hy Xj:Value} {bR:Addr} {tD uI:Option Addr} {sJ:Array (Option Value)} {tF tV uq sU lJ uw:Value} {bC:Addr} {qu qF:Option Addr} {qo:Array (Option Value)} {qw qz qC qq jE qD:Value} {gr:Addr} {FT HM:Option Addr} {Ff:Array (Option Value)} {F5 GO Hg Fy vY Ht:Value} {rT:Addr} {aak abI:Option Addr} {ZF:Array (Option Value)} {aal aaQ abt ZY Qa abv:Value} {gq:Addr} {FQ HL:Option Addr} {Fe:Array (Option Value)} {F0 GN Hf Fx vX Hs:Value} {gp:Addr} {FP HK:Option Addr} {Fd:Array (Option Value)} {FZ GL G9 Fw vW Hr:Value} {iR:Addr} {Js La:Option Addr} {IX:Array (Option Value)} {Jz J7 Kv Jd zX KJ:Value} {iO:Addr} {Jp K7:Option Addr} {IU:Array (Option Value)} {Jv J4 Kq Ja zU KG:Value} {iQ:Addr} {Jr K9:Option Addr} {IW:Array (Option Value)} {Jy J6 Ku Jc zW KI:Value} {nQ:Addr} {Vg XM:Option Addr} {Uo:Array (Option Value)} {Vj V8 Xd UN HA Xl:Value} {vR:Addr} {aet afF:Option Addr} {adR:Array (Option Value)} {aeu aeT afp ad7 Xq afv:Value} {E9:Tok} {lY:Tok} {BR:Tok} {Ua:Tok} {TZ:Tok} {TY:Tok} {TX:Tok} {Ad:Addr} {FW:Option Addr} {Gb:Nat} {Fi:Array (Option Value)} {E8:Tok} {QD:Tok} {QC:Tok} {vC:Addr} {Dz:Option Addr} {DG:Nat} {C5:Array (Option Value)} (G3:W.nsIn K mainGlobals "BeamError"=some (some (.ref bO))) (ug:W.nsIn K mainGlobals "NoFraction"=some (some (.ref aI))) (G2:W.nsIn K mainGlobals "NoCell"=some (some (.ref br))) (Cs:W.nsIn K mainGlobals "NoTable"=some (some (.ref aV))) (G1:W.nsIn K mainGlobals "NoPass"=some (some (.ref bh))) (uf:W.nsIn K mainGlobals "NoStrength"=some (some (.ref aF))) (abr:W.nsIn K mainGlobals "Empty"=some (some (.ref bB))) (abq:W.nsIn K mainGlobals "Fibre"=some (some (.ref nV))) (abp:W.nsIn K mainGlobals "Table"=some (some (.ref aK))) (fD:W.nsIn K mainGlobals "_law_cell_at"=some (some (.ref ff))) (GF:K.lookup ff=some ⟨DC,Dw,.func (W.fnOf "_law_cell_at" "_law_cell_at" (aJ jr) (aH jr) (aA jr) .none D0 Ei Dg EG uE Em),C3⟩) (HD:W.codeIn K uE "_law_cell_at"=true) (eW:W.keepIn K (.ref ff)=true) (cV:W.nsIn K mainGlobals "check_sides"=some (some (.ref cS))) (A1:K.lookup cS=some ⟨yJ,yH,.func (W.fnOf "check_sides" "check_sides" (aJ fU) (aH fU) (aA fU) .none zq zM yw z8 pS zP),yi⟩) (Bw:W.codeIn K pS "check_sides"=true) (fX:W.keepIn K (.ref cS)=true) (cC:W.nsIn K mainGlobals "fibre_places"=some (some (.ref cz))) (zd:K.lookup cz=some ⟨wC,wA,.func (W.fnOf "fibre_places" "fibre_places" (aJ eN) (aH eN) (aA eN) .none wF wN wj wV nZ wR),we⟩) (zZ:W.codeIn K nZ "fibre_places"=true) (eX:W.keepIn K (.ref cz)=true) (dM:W.nsIn K mainGlobals "fibre_ends"=some (some (.ref dB))) (DT:K.lookup dB=some ⟨AI,AE,.func (W.fnOf "fibre_ends" "fibre_ends" (aJ gW) (aH gW) (aA gW) .none A3 Bf Ax By qP Bl),Ar⟩) (Ex:W.codeIn K qP "fibre_ends"=true) (g8:W.keepIn K (.ref dB)=true) (cj:W.findIn K (.ref aK) "__init__"=some (some (.ref aY))) (vf:K.lookup aY=some ⟨tG,tE,.func (W.fnOf "__init__" "Table.__init__" (aJ c8) (aH c8) (aA c8) .none tW ur sV uJ lK uz),sL⟩) (vo:W.codeIn K lK "Table.__init__"=true) (fL:W.keepIn K (.ref aY)=true) (cW:W.findIn K (.ref aK) "width"=some (some (.ref bW))) (A2:K.lookup bW=some ⟨yK,yI,.func (W.fnOf "width" "Table.width" (aJ fV) (aH fV) (aA fV) .none zu zN yx z9 pT zQ),yj⟩) (Bx:W.codeIn K pT "Table.width"=true) (fY:W.keepIn K (.ref bW)=true) (cD:W.findIn K (.ref aK) "height"=some (some (.ref bJ))) (ze:K.lookup bJ=some ⟨wD,wB,.func (W.fnOf "height" "Table.height" (aJ eO) (aH eO) (aA eO) .none wG wO wm wW n6 wU),wg⟩) (z5:W.codeIn K n6 "Table.height"=true) (eY:W.keepIn K (.ref bJ)=true) (fB:W.nsIn K mainGlobals "passes_in"=some (some (.ref e8))) (GC:K.lookup e8=some ⟨DA,Du,.func (W.fnOf "passes_in" "passes_in" (aJ jo) (aH jo) (aA jo) .none DY Eg De EE uC Ek),CY⟩) (HB:W.codeIn K uC "passes_in"=true) (gE:W.keepIn K (.ref e8)=true) (gx:W.nsIn K mainGlobals "opposite"=some (some (.ref gj))) (JW:K.lookup gj=some ⟨FY,FO,.func (W.fnOf "opposite" "opposite" (aJ kg) (aH kg) (aA kg) .none GK G8 Ft HJ vV Hq),Fc⟩) (KY:W.codeIn K vV "opposite"=true) (kD:W.keepIn K (.ref gj)=true) (kO:W.nsIn K mainGlobals "beyond"=some (some (.ref kI))) (VW:K.lookup kI=some ⟨Q4,Q2,.func (W.fnOf "beyond" "beyond" (aJ oW) (aH oW) (aA oW) .none RH R6 QS SE Cw Sd),QH⟩) (XA:W.codeIn K Cw "beyond"=true) (pL:W.keepIn K (.ref kI)=true) (iZ:W.nsIn K mainGlobals "back_of"=some (some (.ref iS))) (Ry:K.lookup iS=some ⟨JA,Jt,.func (W.fnOf "back_of" "back_of" (aJ mC) (aH mC) (aA mC) .none J8 Kw Je Lb zY KL),IY⟩) (Su:W.codeIn K zY "back_of"=true) (jX:W.keepIn K (.ref iS)=true) (bK:W.findIn K (.ref aK) "has_place"=some (some (.ref aU))) (tR:K.lookup aU=some ⟨rD,rC,.func (W.fnOf "has_place" "Table.has_place" (aJ cL) (aH cL) (aA cL) .none rL rV qX r6 kK rY),qW⟩) (uG:W.codeIn K kK "Table.has_place"=true) (cN:W.keepIn K (.ref aU)=true) (gB:W.nsIn K mainGlobals "comes_in"=some (some (.ref gu))) (J0:K.lookup gu=some ⟨F6,FU,.func (W.fnOf "comes_in" "comes_in" (aJ ko) (aH ko) (aA ko) .none GP Hh FD HN vZ Hu),Fg⟩) (K2:W.codeIn K vZ "comes_in"=true) (iM:W.keepIn K (.ref gu)=true) (fE:W.nsIn K mainGlobals "comes_out"=some (some (.ref fh))) (GG:K.lookup fh=some ⟨DE,Dy,.func (W.fnOf "comes_out" "comes_out" (aJ jt) (aH jt) (aA jt) .none D3 Ej Dh EH uF En),C4⟩) (HE:W.codeIn K uF "comes_out"=true) (gF:W.keepIn K (.ref fh)=true) (kM:W.nsIn K mainGlobals "inlets"=some (some (.ref kH))) (VV:K.lookup kH=some ⟨Q3,Q0,.func (W.fnOf "inlets" "inlets" (aJ oV) (aH oV) (aA oV) .none RG R5 QO SD Cv Sb),QG⟩) (Xz:W.codeIn K Cv "inlets"=true) (pK:W.keepIn K (.ref kH)=true) (iU:W.nsIn K mainGlobals "outlets"=some (some (.ref iN))) (Rt:K.lookup iN=some ⟨Ju,Jo,.func (W.fnOf "outlets" "outlets" (aJ mh) (aH mh) (aA mh) .none J3 Kp I0 K6 zT KC),IT⟩) (Sm:W.codeIn K zT "outlets"=true) (mJ:W.keepIn K (.ref iN)=true) (dO:W.nsIn K mainGlobals "all_passes"=some (some (.ref dF))) (DV:K.lookup dF=some ⟨AK,AH,.func (W.fnOf "all_passes" "all_passes" (aJ gY) (aH gY) (aA gY) .none A5 Bh Az BB qR Bo),Au⟩) (Ez:W.codeIn K qR "all_passes"=true) (ie:W.keepIn K (.ref dF)=true) (nS:W.nsIn K mainGlobals "_law_low"=some (some (.ref nP))) (aaJ:K.lookup nP=some ⟨Vi,Vf,.func (W.fnOf "_law_low" "_law_low" (aJ sN) (aH sN) (aA sN) .none V7 Xc UM XJ Hz Xk),Um⟩) (abA:W.codeIn K Hz "_law_low"=true) (qf:W.keepIn K (.ref nP)=true) (iW:W.nsIn K mainGlobals "_law_lamps"=some (some (.ref iP))) (Rv:K.lookup iP=some ⟨Jw,Jq,.func (W.fnOf "_law_lamps" "_law_lamps" (aJ mq) (aH mq) (aA mq) .none J5 Kr Jb K8 zV KH),IV⟩) (So:W.codeIn K zV "_law_lamps"=true) (mO:W.keepIn K (.ref iP)=true) (fC:W.nsIn K mainGlobals "_law_spoiled"=some (some (.ref fc))) (GD:K.lookup fc=some ⟨DB,Dv,.func (W.fnOf "_law_spoiled" "_law_spoiled" (aJ jq) (aH jq) (aA jq) .none DZ Eh Df EF uD El),CZ⟩) (HC:W.codeIn K uD "_law_spoiled"=true) (jy:W.keepIn K (.ref fc)=true) (dN:W.nsIn K mainGlobals "check_pass"=some (some (.ref dD))) (DU:K.lookup dD=some ⟨AJ,AG,.func (W.fnOf "check_pass" "check_pass" (aJ gX) (aH gX) (aA gX) .none A4 Bg Ay BA qQ Bm),As⟩) (Ey:W.codeIn K qQ "check_pass"=true) (g9:W.keepIn K (.ref dD)=true) (nR:W.nsIn K mainGlobals "under"=some (some (.ref nO))) (aaI:K.lookup nO=some ⟨Vh,Ve,.func (W.fnOf "under" "under" (aJ sM) (aH sM) (aA sM) .none V6 Xa UK XI Hy Xj),Ul⟩) (abz:W.codeIn K Hy "under"=true) (tU:W.keepIn K (.ref nO)=true) (bT:W.nsIn K mainGlobals "check_strength"=some (some (.ref bR))) (ve:K.lookup bR=some ⟨tF,tD,.func (W.fnOf "check_strength" "check_strength" (aJ cZ) (aH cZ) (aA cZ) .none tV uq sU uI lJ uw),sJ⟩) (vn:W.codeIn K lJ "check_strength"=true) (c9:W.keepIn K (.ref bR)=true) (bD:W.nsIn K mainGlobals "greatest_divisor"=some (some (.ref bC))) (rK:K.lookup bC=some ⟨qw,qu,.func (W.fnOf "greatest_divisor" "greatest_divisor" (aJ ck) (aH ck) (aA ck) .none qz qC qq qF jE qD),qo⟩) (rZ:W.codeIn K jE "greatest_divisor"=true) (cu:W.keepIn K (.ref bC)=true) (gA:W.nsIn K mainGlobals "fraction"=some (some (.ref gr))) (JZ:K.lookup gr=some ⟨F5,FT,.func (W.fnOf "fraction" "fraction" (aJ kj) (aH kj) (aA kj) .none GO Hg Fy HM vY Ht),Ff⟩) (K1:W.codeIn K vY "fraction"=true) (kF:W.keepIn K (.ref gr)=true) (r9:W.nsIn K mainGlobals "plus"=some (some (.ref rT))) (aeM:K.lookup rT=some ⟨aal,aak,.func (W.fnOf "plus" "plus" (aJ yl) (aH yl) (aA yl) .none aaQ abt ZY abI Qa abv),ZF⟩) (afz:W.codeIn K Qa "plus"=true) (zp:W.keepIn K (.ref rT)=true) (gz:W.nsIn K mainGlobals "gathered"=some (some (.ref gq))) (JY:K.lookup gq=some ⟨F0,FQ,.func (W.fnOf "gathered" "gathered" (aJ ki) (aH ki) (aA ki) .none GN Hf Fx HL vX Hs),Fe⟩) (K0:W.codeIn K vX "gathered"=true) (kE:W.keepIn K (.ref gq)=true) (gy:W.nsIn K mainGlobals "light_of"=some (some (.ref gp))) (JX:K.lookup gp=some ⟨FZ,FP,.func (W.fnOf "light_of" "light_of" (aJ kh) (aH kh) (aA kh) .none GL G9 Fw HK vW Hr),Fd⟩) (KZ:W.codeIn K vW "light_of"=true) (eV:W.keepIn K (.ref gp)=true) (iY:W.nsIn K mainGlobals "_law_found"=some (some (.ref iR))) (Rx:K.lookup iR=some ⟨Jz,Js,.func (W.fnOf "_law_found" "_law_found" (aJ mz) (aH mz) (aA mz) .none J7 Kv Jd La zX KJ),IX⟩) (Ss:W.codeIn K zX "_law_found"=true) (mQ:W.keepIn K (.ref iR)=true) (iV:W.nsIn K mainGlobals "_law_whole"=some (some (.ref iO))) (Ru:K.lookup iO=some ⟨Jv,Jp,.func (W.fnOf "_law_whole" "_law_whole" (aJ mj) (aH mj) (aA mj) .none J4 Kq Ja K7 zU KG),IU⟩) (Sn:W.codeIn K zU "_law_whole"=true) (mK:W.keepIn K (.ref iO)=true) (iX:W.nsIn K mainGlobals "_law_kinds"=some (some (.ref iQ))) (Rw:K.lookup iQ=some ⟨Jy,Jr,.func (W.fnOf "_law_kinds" "_law_kinds" (aJ mw) (aH mw) (aA mw) .none J6 Ku Jc K9 zW KI),IW⟩) (Sq:W.codeIn K zW "_law_kinds"=true) (mP:W.keepIn K (.ref iQ)=true) (nT:W.nsIn K mainGlobals "_law_due"=some (some (.ref nQ))) (aaK:K.lookup nQ=some ⟨Vj,Vg,.func (W.fnOf "_law_due" "_law_due" (aJ sO) (aH sO) (aA sO) .none V8 Xd UN XM HA Xl),Uo⟩) (abB:W.codeIn K HA "_law_due"=true) (qg:W.keepIn K (.ref nQ)=true) (v7:W.nsIn K mainGlobals "law"=some (some (.ref vR))) (aik:K.lookup vR=some ⟨aeu,aet,.func (W.fnOf "law" "law" (aJ Fl) (aH Fl) (aA Fl) .none aeT afp ad7 afF Xq afv),adR⟩) (aiV:W.codeIn K Xq "law"=true) (Py:W.keepIn K (.ref vR)=true) (ER:W.nsIn K mainGlobals "abs"=some none) (OR:W.nsIn K mainGlobals "all"=some none) (CG:W.nsIn K mainGlobals "bool"=some none) (jj:W.nsIn K mainGlobals "enumerate"=some none) (OQ:W.nsIn K mainGlobals "int"=some none) (aS:W.nsIn K mainGlobals "isinstance"=some none) (jC:W.nsIn K mainGlobals "len"=some none) (xQ:W.nsIn K mainGlobals "list"=some none) (mY:W.nsIn K mainGlobals "range"=some none) (ji:W.nsIn K mainGlobals "sorted"=some none) (kW:W.nsIn K mainGlobals "tuple"=some none) (abd:W.nsIn K mainGlobals "EAST"=some (some (.int 0 E9))) (wJ:W.nsIn K mainGlobals "LONGEST_SIDE"=some (some (.int 16 lY))) (WQ:W.nsIn K mainGlobals "NORTH"=some (some (.int 1 BR))) (abc:W.nsIn K mainGlobals "WAYS"=some (some (.ref Ad))) (Rz:K.lookup Ad=some ⟨.type "tuple",FW,.seq [.int 0 Ua,.int 1 TZ,.int 2 TY,.int 3 TX].toArray Gb,Fi⟩) (abb:W.nsIn K mainGlobals "WEST"=some (some (.int 2 E8))) (aba:W.nsIn K mainGlobals "ZERO"=some (some (.ref vC))) (J1:K.lookup vC=some ⟨.type "tuple",Dz,.seq [.int 0 QD,.int 1 QC].toArray DG,C5⟩) (US:W.plainGet K bB Str.empty=true) (WJ:W.hasDictIn K bB=true) (UJ:W.plainOver K bB=true) (Us:W.findIn K (.ref bB) "__setattr__"=some (some (.builtin "object.__setattr__"))) (RQ:W.findIn K (.ref bB) "__class__"=some (some (.builtin "object.__class__"))) (RO:W.mroIn K bB (.type "object")=some true) (VB:W.makesIn K bB=true) (V1:W.keepIn K (.ref bB)=true) (Wu:W.findIn K (.ref bB) "__init__"=some (some (.builtin "object.__init__"))) (AO:W.findIn K (.ref bB) "ends"=some none) (AN:W.findIn K (.ref bB) "grid"=some none) (UR:W.plainGet K aK Str.empty=true) (WH:W.hasDictIn K aK=true) (UI:W.plainOver K aK=true) (Ur:W.findIn K (.ref aK) "__setattr__"=some (some (.builtin "object.__setattr__"))) (RP:W.findIn K (.ref aK) "__class__"=some (some (.builtin "object.__class__"))) (RN:W.mroIn K aK (.type "object")=some true) (VA:W.makesIn K aK=true) (V0:W.keepIn K (.ref aK)=true) (Ws:W.findIn K (.ref aK) "__init__"=some (some (.ref aY))) (g7:W.findIn K (.ref aK) "width"=some (some (.ref bW))) (gg:W.findIn K (.ref aK) "height"=some (some (.ref bJ))) (dz:W.findIn K (.ref aK) "has_place"=some (some (.ref aU))) (AM:W.findIn K (.ref aK) "ends"=some none) (AL:W.findIn K (.ref aK) "grid"=some none) (ic2:W.specialIn K (.builtin "object.__class__") "__get__"=some (some (.builtin "getset_descriptor.__get__"))) (ic3:W.takesIn K (.builtin "object.__class__")=some true) (nd:([bB,aK]:List Addr).Nodup) (tZ:W.isFn K (.ref aY)=true) (zH:W.isFn K (.ref bW)=true) (wL:W.isFn K (.ref bJ)=true) (rR:W.isFn K (.ref aU)=true) (jI:W.excIn K aI HG "ValueError.__new__"=true) (Bb:W.findIn K (.ref aI) "__getattribute__"=some (some (.builtin "BaseException.__getattribute__"))) (A8:W.findIn K (.ref aI) "__getattr__"=some none) (Bv:W.findIn K (.ref aI) "__class__"=some (some (.builtin "object.__class__"))) (AU:W.mroIn K aI (.type "object")=some true) (AW:W.subIn K (.ref aI) (.type "BaseException")=some true) (Bs:W.isClsIn K aI=true) (nD:W.exmOne K (.ref aI) (.ref bO)=some true) (su:W.excIn K bh HG "ValueError.__new__"=true) (RX:W.findIn K (.ref bh) "__getattribute__"=some (some (.builtin "BaseException.__getattribute__"))) (RV:W.findIn K (.ref bh) "__getattr__"=some none) (Sj:W.findIn K (.ref bh) "__class__"=some (some (.builtin "object.__class__"))) (Rj:W.mroIn K bh (.type "object")=some true) (Rn:W.subIn K (.ref bh) (.type "BaseException")=some true) (Sf:W.isClsIn K bh=true) (rN:W.exmOne K (.ref bh) (.ref bO)=some true) (jH:W.excIn K aF HG "ValueError.__new__"=true) (Ba:W.findIn K (.ref aF) "__getattribute__"=some (some (.builtin "BaseException.__getattribute__"))) (A7:W.findIn K (.ref aF) "__getattr__"=some none) (Bu:W.findIn K (.ref aF) "__class__"=some (some (.builtin "object.__class__"))) (AS:W.mroIn K aF (.type "object")=some true) (AV:W.subIn K (.ref aF) (.type "BaseException")=some true) (Br:W.isClsIn K aF=true) (nB:W.exmOne K (.ref aF) (.ref bO)=some true) (xS:W.excIn K br HG "ValueError.__new__"=true) (RY:W.findIn K (.ref br) "__getattribute__"=some (some (.builtin "BaseException.__getattribute__"))) (RW:W.findIn K (.ref br) "__getattr__"=some none) (Sk:W.findIn K (.ref br) "__class__"=some (some (.builtin "object.__class__"))) (Rk:W.mroIn K br (.type "object")=some true) (Ro:W.subIn K (.ref br) (.type "BaseException")=some true) (Sh:W.isClsIn K br=true) (rO:W.exmOne K (.ref br) (.ref bO)=some true) (jV:W.excIn K aV HG "ValueError.__new__"=true) (Kh:W.findIn K (.ref aV) "__getattribute__"=some (some (.builtin "BaseException.__getattribute__"))) (Kc:W.findIn K (.ref aV) "__getattr__"=some none) (KW:W.findIn K (.ref aV) "__class__"=some (some (.builtin "object.__class__"))) (JL:W.mroIn K aV (.type "object")=some true) (JO:W.subIn K (.ref aV) (.type "BaseException")=some true) (KS:W.isClsIn K aV=true) (qA:W.exmOne K (.ref aV) (.ref bO)=some true) (ik:isAll K mt [("NoFraction",aI),("NoPass",bh),("NoStrength",aF),("NoCell",br),("NoTable",aV)] ([("Empty",(bB,[])),("Table",(aK,["grid","ends"]))]:mW) [(.ref nV,"Fibre"),(.ref aF,"NoStrength"),(.ref br,"NoCell"),(.ref bh,"NoPass"),(.type "list","list"),(.type "tuple","tuple"),(.type "bool","bool"),(.type "int","int")]=true):
  ∃(cb:Cb) (fd:FuncData),(∀(s:Shared) (u:Value),BindsTo s fd ⟨[u],[]⟩ [("_law_script",u)])/\∀base:Heap,i6 P w K mg base cb 8 fa fd ["_law_script"] v8:=by
 have e:fa=vR:=Value.ref.inj (Option.some.inj (hfa.symm.trans (W.mg_of X G v7)));rw[e];have aR:=bu (st:=jr) GF HD eW;have bz:=aR.binds (ps:=o8) λ _ _ _ _ _ _ us hl=>by obtain ⟨u0,u1,rfl⟩:=tQ hl;rfl
 have gf:=bu (st:=fU) A1 Bw fX;have cT:=gf.binds (ps:=lO) λ _ _ _ _ _ _ us hl=>by obtain ⟨u0,rfl⟩:=om hl;rfl
 have fG:=bu (st:=eN) zd zZ eX;have cA:=fG.binds (ps:=kq) λ _ _ _ _ _ _ us hl=>by obtain ⟨u0,rfl⟩:=om hl;rfl
 have iA:=bu (st:=gW) DT Ex g8;have dH:=iA.binds (ps:=m8) λ _ _ _ _ _ _ us hl=>by obtain ⟨u0,rfl⟩:=om hl;rfl
 have bU:=bu (st:=c8) vf vo fL;have bS:=bU.binds (ps:=iK) λ _ _ _ _ _ _ us hl=>by obtain ⟨u0,u1,rfl⟩:=tQ hl;rfl
 have cX:=bu (st:=fV) A2 Bx fY;have cU:=cX.binds (ps:=jb) λ _ _ _ _ _ _ us hl=>by obtain ⟨u0,rfl⟩:=om hl;rfl
 have cH:=bu (st:=eO) ze z5 eY;have cB:=cH.binds (ps:=g6) λ _ _ _ _ _ _ us hl=>by obtain ⟨u0,rfl⟩:=om hl;rfl
 have gK:=bu (st:=jo) GC HB gE;have di:=gK.binds (ps:=o6) λ _ _ _ _ _ _ us hl=>by obtain ⟨u0,rfl⟩:=om hl;rfl
 have i7:=bu (st:=kg) JW KY kD;have gw:=i7.binds (ps:=qZ) λ _ _ _ _ _ _ us hl=>by obtain ⟨u0,rfl⟩:=om hl;rfl
 have kQ:=bu (st:=oW) VW XA pL;have jA:=kQ.binds (ps:=yD) λ _ _ _ _ _ _ us hl=>by obtain ⟨u0,u1,u2,rfl⟩:=aeK hl;rfl
 have gQ:=bu (st:=mC) Ry Su jX;have fO:=gQ.binds (ps:=uX) λ _ _ _ _ _ _ us hl=>by obtain ⟨u0,rfl⟩:=om hl;rfl
 have bL:=bu (st:=cL) tR uG cN;have bA:=bL.binds (ps:=d8) λ _ _ _ _ _ _ us hl=>by obtain ⟨u0,u1,u2,rfl⟩:=aeK hl;rfl
 have fH:=bu (st:=ko) J0 K2 iM;have dI:=fH.binds (ps:=rA) λ _ _ _ _ _ _ us hl=>by obtain ⟨u0,u1,rfl⟩:=tQ hl;rfl
 have dj:=bu (st:=jt) GG HE gF;have cP:=dj.binds (ps:=o9) λ _ _ _ _ _ _ us hl=>by obtain ⟨u0,u1,rfl⟩:=tQ hl;rfl
 have pY:=bu (st:=oV) VV Xz pK;have kL:=pY.binds (ps:=yC) λ _ _ _ _ _ _ us hl=>by obtain ⟨u0,rfl⟩:=om hl;rfl
 have mV:=bu (st:=mh) Rt Sm mJ;have iT:=mV.binds (ps:=uS) λ _ _ _ _ _ _ us hl=>by obtain ⟨u0,rfl⟩:=om hl;rfl
 have cR:=bu (st:=gY) DV Ez ie;have dJ:=cR.binds (ps:=ng) λ _ _ _ _ _ _ us hl=>by obtain ⟨u0,rfl⟩:=om hl;rfl
 have eE:=bu (st:=sN) aaJ abA qf;have jS:=eE.binds (ps:=xo) λ _ _ _ _ _ _ us hl=>by obtain ⟨u0,u1,rfl⟩:=tQ hl;rfl
 have gM:=bu (st:=mq) Rv So mO;have gH:=gM.binds (ps:=uU) λ _ _ _ _ _ _ us hl=>by obtain ⟨u0,u1,rfl⟩:=tQ hl;rfl
 have cQ:=bu (st:=jq) GD HC jy;have cO:=cQ.binds (ps:=o7) λ _ _ _ _ _ _ us hl=>by obtain ⟨u0,u1,u2,u3,rfl⟩:=al4 hl;rfl
 have bX:=bu (st:=gX) DU Ey g9;have b8:=bX.binds (ps:=m9) λ _ _ _ _ _ _ us hl=>by obtain ⟨u0,u1,rfl⟩:=tQ hl;rfl
 have jU:=bu (st:=sM) aaI abz tU;have jR:=jU.binds (ps:=Dk) λ _ _ _ _ _ _ us hl=>by obtain ⟨u0,u1,rfl⟩:=tQ hl;rfl
 have bf:=bu (st:=cZ) ve vn c9;have aZ:=bf.binds (ps:=iJ) λ _ _ _ _ _ _ us hl=>by obtain ⟨u0,rfl⟩:=om hl;rfl
 have aM:=bu (st:=ck) rK rZ cu;have aX:=aM.binds (ps:=dw) λ _ _ _ _ _ _ us hl=>by obtain ⟨u0,u1,rfl⟩:=tQ hl;rfl
 have fF:=bu (st:=kj) JZ K1 kF;have dG:=fF.binds (ps:=rm) λ _ _ _ _ _ _ us hl=>by obtain ⟨u0,u1,rfl⟩:=tQ hl;rfl
 have pX:=bu (st:=yl) aeM afz zp;have pU:=pX.binds (ps:=Jf) λ _ _ _ _ _ _ us hl=>by obtain ⟨u0,u1,rfl⟩:=tQ hl;rfl
 have gC:=bu (st:=ki) JY K0 kE;have fu:=gC.binds (ps:=rj) λ _ _ _ _ _ _ us hl=>by obtain ⟨u0,rfl⟩:=om hl;rfl
 have bw:=bu (st:=kh) JX KZ eV;have b5:=bw.binds (ps:=q8) λ _ _ _ _ _ _ us hl=>by obtain ⟨u0,u1,rfl⟩:=tQ hl;rfl
 have gP:=bu (st:=mz) Rx Ss mQ;have gJ:=gP.binds (ps:=uW) λ _ _ _ _ _ _ us hl=>by obtain ⟨u0,u1,rfl⟩:=tQ hl;rfl
 have i8:=bu (st:=mj) Ru Sn mK;have gG:=i8.binds (ps:=uT) λ _ _ _ _ _ _ us hl=>by obtain ⟨u0,rfl⟩:=om hl;rfl
 have gO:=bu (st:=mw) Rw Sq mP;have gI:=gO.binds (ps:=uV) λ _ _ _ _ _ _ us hl=>by obtain ⟨u0,rfl⟩:=om hl;rfl
 have iz:=bu (st:=sO) aaK abB qg;have jT:=iz.binds (ps:=Dl) λ _ _ _ _ _ _ us hl=>by obtain ⟨u0,rfl⟩:=om hl;rfl
 have v8:=bu (st:=Fl) aik aiV Py;have z7:=v8.binds (ps:=U7) λ _ _ _ _ _ _ us hl=>by obtain ⟨u0,rfl⟩:=om hl;rfl
 have Al:XT K aI:=⟨Bb,A8,Bv,AU,AW,Bs⟩;have Qm:XT K bh:=⟨RX,RV,Sj,Rj,Rn,Sf⟩;have Ak:XT K aF:=⟨Ba,A7,Bu,AS,AV,Br⟩;have Qn:XT K br:=⟨RY,RW,Sk,Rk,Ro,Sh⟩;have Ia:XT K aV:=⟨Kh,Kc,KW,JL,JO,KS⟩;have mS:HV K bB:=⟨US,WJ,UJ,Us⟩;have iw:HV K aK:=⟨UR,WH,UI,Ur⟩;let M:Tx K mg (Xr [("NoFraction",aI),("NoPass",bh),("NoStrength",aF),("NoCell",br),("NoTable",aV)] ([("Empty",(bB,[])),("Table",(aK,["grid","ends"]))]:mW)):={
  fD:=ff,jP:=_,eW:=eW,ff:=aR,bz:=bz,
  lC:=W.mg_of X G fD,
  cV:=cS,ig:=_,fX:=fX,cS:=gf,cT:=cT,
  qJ:=W.mg_of X G cV,
  cC:=cz,gi:=_,eX:=eX,cz:=fG,cA:=cA,
  pG:=W.mg_of X G cC,
  dM:=dB,jf:=_,g8:=g8,dB:=iA,dH:=dH,
  tN:=W.mg_of X G dM,
  cj:=aY,ef:=_,fL:=fL,aY:=bU,bS:=bS,
  cW:=bW,eZ:=_,fY:=fY,bW:=cX,cU:=cU,
  cD:=bJ,dW:=_,eY:=eY,bJ:=cH,cB:=cB,
  fB:=e8,jN:=_,gE:=gE,e8:=gK,di:=di,
  pF:=W.mg_of X G fB,
  gx:=gj,lD:=_,kD:=kD,gj:=i7,gw:=gw,
  yU:=W.mg_of X G gx,
  kO:=kI,qj:=_,pL:=pL,kI:=kQ,jA:=jA,
  Gx:=W.mg_of X G kO,
  iZ:=iS,nN:=_,jX:=jX,iS:=gQ,fO:=fO,
  u9:=W.mg_of X G iZ,
  bK:=aU,cy:=_,cN:=cN,aU:=bL,bA:=bA,
  gB:=gu,lH:=_,iM:=iM,gu:=fH,dI:=dI,
  rH:=W.mg_of X G gB,
  fE:=fh,jQ:=_,gF:=gF,fh:=dj,cP:=cP,
  pH:=W.mg_of X G fE,
  kM:=kH,qi:=_,pK:=pK,kH:=pY,kL:=kL,
  Gw:=W.mg_of X G kM,
  iU:=iN,nH:=_,mJ:=mJ,iN:=mV,iT:=iT,
  B7:=W.mg_of X G iU,
  dO:=dF,jh:=_,ie:=ie,dF:=cR,dJ:=dJ,
  tP:=W.mg_of X G dO,
  nS:=nP,uc:=_,qf:=qf,nP:=eE,jS:=jS,
  DP:=W.mg_of X G nS,
  iW:=iP,nJ:=_,mO:=mO,iP:=gM,gH:=gH,
  B9:=W.mg_of X G iW,
  fC:=fc,jO:=_,jy:=jy,fc:=cQ,cO:=cO,
  vI:=W.mg_of X G fC,
  dN:=dD,jg:=_,g9:=g9,dD:=bX,b8:=b8,
  tO:=W.mg_of X G dN,
  nR:=nO,t9:=_,tU:=tU,nO:=jU,jR:=jR,
  Po:=W.mg_of X G nR,
  bT:=bR,d9:=_,c9:=c9,bR:=bf,aZ:=aZ,
  mH:=W.mg_of X G bT,
  bD:=bC,cY:=_,cu:=cu,bC:=aM,aX:=aX,
  kB:=W.mg_of X G bD,
  gA:=gr,lG:=_,kF:=kF,gr:=fF,dG:=dG,
  yW:=W.mg_of X G gA,
  r9:=rT,xJ:=_,zp:=zp,rT:=pX,pU:=pU,
  VE:=W.mg_of X G r9,
  gz:=gq,lF:=_,kE:=kE,gq:=gC,fu:=fu,
  yV:=W.mg_of X G gz,
  gy:=gp,lE:=_,eV:=eV,gp:=bw,b5:=b5,
  ku:=W.mg_of X G gy,
  iY:=iR,nM:=_,mQ:=mQ,iR:=gP,gJ:=gJ,
  Cc:=W.mg_of X G iY,
  iV:=iO,nI:=_,mK:=mK,iO:=i8,gG:=gG,
  B8:=W.mg_of X G iV,
  iX:=iQ,nK:=_,mP:=mP,iQ:=gO,gI:=gI,
  Ca:=W.mg_of X G iX,
  nT:=nQ,ue:=_,qg:=qg,nQ:=iz,jT:=jT,
  DQ:=W.mg_of X G nT,
  v7:=vR,Ed:=_,Py:=Py,vR:=v8,z7:=z7,
  aii:=W.mg_of X G v7,
  ER:=W.mg_none_of X G ER,
  OR:=W.mg_none_of X G OR,
  CG:=W.mg_none_of X G CG,
  jj:=W.mg_none_of X G jj,
  OQ:=W.mg_none_of X G OQ,
  aS:=W.mg_none_of X G aS,
  jC:=W.mg_none_of X G jC,
  xQ:=W.mg_none_of X G xQ,
  mY:=W.mg_none_of X G mY,
  ji:=W.mg_none_of X G ji,
  kW:=W.mg_none_of X G kW,
  Iz:=(.int 0 E9),TN:=W.mg_of X G abd,WU:=je,
  j5:=(.int 16 lY),j0:=W.mg_of X G wJ,kG:=je,
  CN:=(.int 1 BR),OV:=W.mg_of X G WQ,P1:=je,
  Iw:=(.ref Ad),Ir:=W.mg_of X G abc,Km:=(PY Rz (by simp) (jY je (jY je (jY je (jY je GS))))),
  Iv:=(.int 2 E8),TM:=W.mg_of X G abb,WR:=je,
  Iu:=(.ref vC),Iq:=W.mg_of X G aba,Kl:=(PY J1 (by simp) (jY je (jY je GS))),
  bO:=bO,vP:=W.mg_of X G G3,
  aI:=aI,D8:=W.mg_of X G ug,
  br:=br,zG:=W.mg_of X G G2,
  aV:=aV,RZ:=W.mg_of X G Cs,
  bh:=bh,zF:=W.mg_of X G G1,
  aF:=aF,nF:=W.mg_of X G uf,
  bB:=bB,P5:=W.mg_of X G abr,
  nV:=nV,P4:=W.mg_of X G abq,
  aK:=aK,PZ:=W.mg_of X G abp,
  O4:=rfl,aay:=rfl,mS:=mS,
  Gm:=⟨VB,Wu,V1⟩,
  sR:=rfl,Pk:=rfl,iw:=iw,
  Gk:=⟨VA,Ws,tZ,V0⟩,
  g7:=⟨g7,zH,fY⟩,
  gg:=⟨gg,wL,eY⟩,
  dz:=⟨dz,rR,cN⟩,
  ft:=abf nd,
  P8:=acn (bG ⟨mS,AO⟩ (bG ⟨iw,AM⟩ jB)),
  qk:=acn (bG ⟨mS,AN⟩ (bG ⟨iw,AL⟩ jB)),
  jI:=⟨W.mg_of X G ug,jI,rfl⟩,
  su:=⟨W.mg_of X G G1,su,rfl⟩,
  jH:=⟨W.mg_of X G uf,jH,rfl⟩,
  xS:=⟨W.mg_of X G G2,xS,rfl⟩,
  jV:=⟨W.mg_of X G Cs,jV,rfl⟩,
  vN:=λ c C b hc hb=>W2 (E:=[("NoFraction",aI),("NoPass",bh),("NoStrength",aF),("NoCell",br),("NoTable",aV)]) (P:=λ c C=>∀b,qL mt "BeamError" c=some b->W.exmOne K (.ref C) (.ref bO)=some b) (bG (hb1 (show qL mt "BeamError" "NoFraction"=some true from by decide) nD) (bG (hb1 (show qL mt "BeamError" "NoPass"=some true from by decide) rN) (bG (hb1 (show qL mt "BeamError" "NoStrength"=some true from by decide) nB) (bG (hb1 (show qL mt "BeamError" "NoCell"=some true from by decide) rO) (bG (hb1 (show qL mt "BeamError" "NoTable"=some true from by decide) qA) jB))))) hc b hb,
  xt:=⟨λ c C hc _=>W2 (E:=[("NoFraction",aI),("NoPass",bh),("NoStrength",aF),("NoCell",br),("NoTable",aV)]) (P:=λ _ C=>XT K C) (bG Al (bG Qm (bG Ak (bG Qn (bG Ia jB))))) hc,λ c C ns hc=>ae1 (T:=([("Empty",(bB,[])),("Table",(aK,["grid","ends"]))]:mW)) (P:=λ _ C=>IC K C) (bG ⟨mS,RQ,ic2,ic3,RO⟩ (bG ⟨iw,RP,ic2,ic3,RN⟩ jB)) hc⟩,
  PV:=GQ ik (.head _),
  nA:=GQ ik (.tail _ (.head _)),
  zC:=GQ ik (.tail _ (.tail _ (.head _))),
  zB:=GQ ik (.tail _ (.tail _ (.tail _ (.head _)))),
  Ww:=GQ ik (.tail _ (.tail _ (.tail _ (.tail _ (.head _))))),
  xE:=GQ ik (.tail _ (.tail _ (.tail _ (.tail _ (.tail _ (.head _)))))),
  Wx:=GQ ik (.tail _ (.tail _ (.tail _ (.tail _ (.tail _ (.tail _ (.head _))))))),
  aci:=GQ ik (.tail _ (.tail _ (.tail _ (.tail _ (.tail _ (.tail _ (.tail _ (.head _))))))))}
 refine ⟨(Xr [("NoFraction",aI),("NoPass",bh),("NoStrength",aF),("NoCell",br),("NoTable",aV)] ([("Empty",(bB,[])),("Table",(aK,["grid","ends"]))]:mW)),_,?_,λ base=>aes M⟩;exact λ s v=> .of_eq rfl
end K23
end
open PySem PySem.W PyProof.Rows
theorem PySem.Challenge.cw_beamtable_k23_light_of_lamps_holds : PySem.Challenge.rw_beamtable_k23_light_of_lamps.Holds := by
 refine KO.looked λ said=>?_
 refine W.holds_openX (q:=W.view PySem.Challenge.pw_beamtable_k23_light_of_lamps [57]) (loose:=KO.LZ) (Xt:=λ _=>true) (XP:=λ _ _=>True) (Yf:=W.X.obsZ KO.AF)
  (Ya:=W.X.valZ KO.KF 451 779) (N:=7702) KO.hl (λ _ _=>trivial) (λ _ _ _ _ _=>trivial) (by rfl) (by rfl) (by rfl)
  (λ _ _=>W.recFacts_nil rfl) (by rfl) said (by decide+kernel) ⟨rfl,rfl,rfl,rfl,rfl,by decide+kernel⟩ ?hw ?hc
 case hw=>w_witness2
 k_fill
 refine L4.walkZ (l:=PySem.Challenge.rw_beamtable_k23_light_of_lamps) (k:=8) rfl rfl (by decide) (by decide) (λ _=>by kernel_rfl) ?F K23.VR
 case F=>
  intro w mg fa h KX G hmg
  apply K23.all_mk KX G hmg
  any_goals first|k_is|kernel_rfl|decide
