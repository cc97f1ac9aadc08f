import PyProof.Rows.All
import Wide.All
import OpenK.AllK
import Wide.FinOn
import Lean
import PyProof.EqAt
import PyProof.EqKinds
import PyProof.TupleCall
import PyProof.P3Statements
import PyProof.NoPylong
import PySem.Builtin.Int.W1All
import PyProof.StrBlockI
import KE.KSortTup
import PyProof.EnumMake
import PyProof.Draws
import KE.KSortAsk
import KE.KItemsList
import PyProof.P3In
import PyProof.DictWalks
import KE.KRevIter
import KE.KLam
import KE.KMinKey
import PyProof.Rows.SeqMore
import PyProof.ZipIter
import PyProof.SumWalk
import PySem.Challenge.RW_beamtable_k29_loose
set_option Elab.async false
set_option linter.all false
set_option maxRecDepth 100000
set_option maxHeartbeats 0
set_option exponentiation.threshold 10000
noncomputable section
section
def KO.looked(h:PySem.Challenge.rw_beamtable_k29_loose.row.wellSaid=true->PySem.Challenge.rw_beamtable_k29_loose.row.Holds):PySem.Challenge.rw_beamtable_k29_loose.Holds:=by w_on;o_law;exact h (by assumption)
namespace KO
open PySem PySem.W PySem.Calls
noncomputable abbrev pq:Program:=W.Fast.tw6634092921215699879
def bE:List Stmt:=behindTheImports pq
noncomputable def g0(l:List Stmt)(i:Nat):Stmt:=(List.drop i l).headD (.Pass ⟨0,0,0,0⟩)
def g1(i:Nat):Stmt:=g0 pq.main.body i
noncomputable def gb:Stmt->List Stmt| .ClassDef _ _ _ b _ _ _ _ _ _ _=>b| .FunctionDef _ _ b _ _ _ _ _ _ _=>b|_=>[]
def g2(i j:Nat):Stmt:=g0 (gb (g1 i)) j
def fo(s:Stmt)(q:Str)(g:Addr)(cl:List (Str×Addr))(d kd doc md:Value)(an:Option Addr)(code ct:Value)(b:Addr):Data:=match s with| .FunctionDef n a bd _ _ _ sc _ _ _=> .func ⟨n,q,a,.stmts bd,sc,g,cl,d,kd,doc,md,an,code,ct,b⟩|_=> .plain
def e(P:Params)(s:Str)(t:Nat)(v:Value):DictEntry:=⟨PySem.PyData.keyHash P s,.str s t,v⟩
def ud(o:Obj)(ch:List (Nat×DictEntry))(m:List DictEntry)(n:Nat):Obj:=match o with|⟨c,d,.dict es _,s⟩=>⟨c,d,.dict ⟨(ch.foldl (λ l p=>l.set p.1 p.2) es.toList)++m⟩ n,s⟩|o=>o
noncomputable abbrev r(a:Nat):Value:= .ref a
noncomputable abbrev z:Value:= .int 0 0
noncomputable abbrev v:Value:= .none
noncomputable abbrev s(x:Str)(t:Nat):Value:= .str x t
noncomputable abbrev y(x:String):Value:= .type x
noncomputable abbrev F(c:Value)(xs:Array Value):Obj:=⟨c,none,.fields xs, #[]⟩
noncomputable abbrev Q(c:Value)(xs:Array Value):Obj:=⟨c,none,.seq xs 0, #[]⟩
noncomputable abbrev lf:Life:=⟨[],[],[],0,[],[],false, #[],[],0,false,false,false,0,[2000,10,10],false,0,true,[],[],0,false⟩
noncomputable abbrev I:=BT.ins
@[reducible]noncomputable def ß(l:List Nat):Str:=⟨⟨l⟩⟩
@[reducible]noncomputable def þ(l:List Nat):Str:=⟨⟨95::108::97::119::95::l⟩⟩
def x0:=ß [60,109,111,100,117,108,101,62]
def x1:=ß [47,99,108,97,105,109,47,99,117,116,46,112,121]
def x2:=ß [95,95,109,97,105,110,95,95]
def x3:=ß [95,95,110,97,109,101,95,95]
def x4:=ß [98,101,97,109,116,97,98,108,101,46,101,114,114,111,114,115]
def x5:=ß [66,101,97,109,69,114,114,111,114]
def x6:=ß [95,95,109,111,100,117,108,101,95,95]
def x7:=ß [95,95,113,117,97,108,110,97,109,101,95,95]
def x8:=ß [95,95,102,105,114,115,116,108,105,110,101,110,111,95,95]
def x9:=ß [95,95,115,116,97,116,105,99,95,97,116,116,114,105,98,117,116,101,115,95,95]
def YY:=ß [95,95,119,101,97,107,114,101,102,95,95]
def RA:=ß [95,95,100,111,99,95,95]
def Lp:=ß [78,111,70,114,97,99,116,105,111,110]
def Lo:=ß [76,111,111,115,101]
def Ln:=ß [67,114,111,115,115,101,100]
def Iq:=ß [98,101,97,109,116,97,98,108,101,46,98,97,108,97,110,99,101,115]
def Lm:=ß [82,105,110,103]
def YX:=ß [90,69,82,79]
def YW:=ß [79,78,69]
def QF:=ß [103,114,101,97,116,101,115,116,95,100,105,118,105,115,111,114]
def QE:=ß [102,114,97,99,116,105,111,110]
def QD:=ß [109,105,110,117,115]
def Wu:=ß [95,95,105,110,105,116,95,95]
def x23:=ß [115,101,108,102]
def YV:=ß [114,105,110,103]
def Ws:=ß [82,105,110,103,46,95,95,105,110,105,116,95,95]
def Wr:=ß [111,110,101]
def Vj:=ß [111,116,104,101,114]
def x28:=ß [108,97,114,103,101,114]
def x29:=ß [115,109,97,108,108,101,114]
def x30:=ß [114,101,115,116]
def Wq:=ß [98,101,97,109,116,97,98,108,101,46,114,97,116,105,111,115]
def YU:=ß [116,111,112]
def YT:=ß [98,111,116,116,111,109]
def x34:=ß [100,105,118,105,115,111,114]
def Ip:=ß [108,97,119,95,98,101,97,109,116,97,98,108,101,95,107,50,57,95,108,111,111,115,101]
def QC:=ß [108,101,97,115,116,95,109,117,108,116,105,112,108,101]
def QB:=ß [101,113,117,97,116,105,111,110,95,111,102]
def QA:=ß [108,111,119,101,115,116]
def Qz:=ß [119,105,116,104,111,117,116]
def Qy:=ß [116,105,109,101,115,95,110,97,109,101,100]
def Qx:=ß [108,101,97,115,116,95,110,97,109,101,100]
def Qw:=ß [117,110,102,111,108,100,101,100]
def Qv:=ß [118,97,108,117,101,95,111,102]
def Qu:=ß [115,111,108,118,101,100]
def Qt:=þ [99,101,108,108,95,97,116]
def Qs:=þ [108,111,119]
def Qq:=þ [112,108,117,115]
def Qp:=þ [114,105,110,103]
def x49:=ß [110,117,109,98,101,114]
def x50:=ß [101,113,117,97,116,105,111,110]
def x51:=ß [118,97,108,117,101,115]
def x52:=ß [118,97,108,117,101]
def x53:=ß [106,111,105,110,116]
def x54:=þ [115,99,114,105,112,116]
def YS:=þ [107]
def x56:=þ [116,111,112]
def Z9:=þ [98,111,116,116,111,109]
def YR:=þ [111,110,101]
def YQ:=þ [111,116,104,101,114]
def Qo:=þ [119,101,105,103,104,116,115]
def Qn:=þ [114,111,119,115]
def Qm:=þ [114,101,102,117,115,101,100]
def Ql:=þ [102,117,108,102,105,108,108,101,100]
def Rz:=ß [108,97,119]
def YO:=þ [114,111,119,115,95,104,101,114,101]
def Z8:=þ [114,101,102,117,115,101,100,95,104,101,114,101]
def Z7:=ß [101]
def Z6:=þ [102,111,117,110,100]
def Z5:=þ [116,111,116,97,108]
def Z4:=þ [110,117,109,98,101,114]
def Z3:=þ [115,104,97,114,101]
noncomputable abbrev l0:String:=W.SL.s2766695959194262286x5
noncomputable abbrev l1:String:=W.SL.s5856160107412720595x4
noncomputable abbrev l2:String:=W.SL.s658472552662922059x5
noncomputable abbrev l3:String:=W.SL.s6070975301684473832x10
noncomputable abbrev l4:String:=W.SL.s10062305145149207511x16
noncomputable abbrev l5:String:=W.SL.s17162191345867700912x4
noncomputable abbrev l6:String:=W.SL.s11030030927630378310x26
noncomputable abbrev l7:String:=W.SL.s14018661285674007319x4
noncomputable abbrev l8:String:=W.SL.s5946037652744460706x9
noncomputable abbrev l9:String:=W.SL.s4278001404047624695x13
noncomputable abbrev J9:String:=W.SL.s2742458400755230247x6
noncomputable abbrev J8:String:=W.SL.s4209523147560561109x18
noncomputable abbrev l12:String:=W.SL.s10220274742760427390x26
noncomputable abbrev l13:String:=W.SL.s14755015743595814543x17
noncomputable abbrev TM:String:=W.SL.s4290257624100764138x5
noncomputable abbrev TL:String:=W.SL.s4860613602091757760x24
noncomputable abbrev rP:String:=W.SL.s7174869446012820540x8
def cf(n q:Str)(t:Nat)(l:Int)(k:Value)(a:Nat)(u:Int)(w:Nat):Obj:=F (y l1) #[s n t,s q (t+1),s x1 (t+2),.int l 0,k,z,z,.int 3 0,r a,.bool true,.int 181 0,r (a+1),v,r (a+2),r (a+3),r (a+4),.int u 0,.int l 0,s x1 w]
def cl(n:Str)(t:Nat)(l:Int)(a:Nat)(u:Int)(w:Nat):Obj:=F (y l1) #[s n t,s n (t+1),s x1 (t+2),.int l 0,z,z,z,z,r a,.bool false,.int 181 0,r (a+1),v,v,v,v,.int u 0,.int l 0,s x1 w]
def fa(s:Stmt)(q:Str):Obj:=⟨v,none,fo s q 0 [] v v v v none v v 0, #[]⟩
def fb(m:Str)(t:Nat)(s:Stmt)(q:Str)(a:Nat):Obj:=⟨y l3,none,fo s q 3 [] v v v (.str m t) none (r a) v 0, #[]⟩
def ap(o:Obj)(l:List Value):Obj:=match o with|⟨c,d,.fields ⟨x⟩,s⟩=>⟨c,d,.fields ⟨x++l⟩,s⟩|o=>o
noncomputable def il(t:BT):List (Nat×Obj)->BT|[]=>t|p::l=>il (BT.ins t p.1 p.2) l
noncomputable def ir(t:BT)(a:Nat):List Obj->BT|[]=>t|o::l=>ir (BT.ins t a o) (a+1) l
def au:Obj:=Q (y l0) #[]
def aH:Obj:=F v #[]
def De:Obj:=cl x0 182 1 11 185 186
def Dd:Obj:=⟨y l2,none,.plain, #[(some (r 13)),(some (r 3)),(some (r 3)),none,(some (s x2 164)),none,(some (r 0))]⟩
def T0(P:Params):BT:=(.node (boot_o_0 P) (.node (boot_o_1 P) (.node (boot_o_3 P) (.node (boot_o_7 P) .nil .nil) (.node au .nil .nil)) (.node (boot_o_5 P) (.node (boot_o_9 P) .nil .nil) (.node De .nil .nil))) (.node (boot_o_2 P) (.node (boot_o_4 P) (.node (boot_o_8 P) .nil .nil) (.node aH .nil .nil)) (.node (boot_o_6 P) (.node (boot_o_10 P) .nil .nil) (.node Dd .nil .nil))))
def S0(P:Params)(os:OsState):SharedT:=⟨T0 P,15,lf, #[],⟨0,0,0,0⟩,187,os⟩
def T1(P:Params):BT:=(T0 P)
def S1(P:Params)(os:OsState):SharedT:=⟨T1 P,15,lf, #[],⟨0,0,0,0⟩,187,os⟩
def UU(P:Params):Obj:=ud (boot_o_3 P) [(0,e P x3 165 (s x4 187))] [e P x5 206 (r 24)] 10
def U0:Obj:=F v #[.int 2 0,z,r 20]
def Dc:Obj:=Q (y l0) #[y l3]
def kZ:Obj:=F (y l6) #[.builtin l4,y l5]
def ME(P:Params):Obj:=⟨y l7,none,(.dict #[e P x6 196 (s x4 187),e P x7 198 (s x5 197),e P x8 200 (.int 2 199),e P x9 201 (r 22)] 4), #[]⟩
def MD:Obj:=cl x5 191 2 18 194 195
def MC:Obj:=⟨y l2,none,.plain, #[(some (r 20)),(some (r 3)),(some (r 17)),none,(some (s x4 187)),none,(some (r 0))]⟩
def C9(P:Params):Obj:=⟨y l7,none,(.dict #[e P x6 196 (s x4 187),e P x8 200 (.int 2 199),e P x9 201 (r 22),e P YY 203 (r 25),e P RA 204 v] 3), #[]⟩
def UZ:Obj:=⟨y l5,none,(.cls ⟨x5,[y l3],[r 24,y l3,y l8,y l9,y J9],23,x5,true,[],[],false,none,false⟩), #[(some (r 15)),none,(some (s x5 189)),(some (s x5 197)),(some (.builtin J8)),(some (.bool true))]⟩
def C7:Obj:=F (y l13) #[s YY 202,r 24,.builtin l12,v]
def MB:Obj:=F (y TM) #[r 24,r 24,r 24]
def MA:Obj:=F (y l6) #[.builtin TL,r 24]
def T2(P:Params):BT:=(ir (il (T1 P) [(3,UU P),(12,U0)]) 15 [Dc,kZ,ME P,au,aH,MD,MC,au,C9 P,UZ,C7,MB,MA])
def S2(P:Params)(os:OsState):SharedT:=⟨T2 P,28,lf, #[],⟨0,0,0,0⟩,207,os⟩
def UT(P:Params):Obj:=ud (UU P) [] [e P Lp 222 (r 37)] 11
def MJ:Obj:=F v #[.int 2 0,z,r 20,.int 4 0,z,r 33]
def UY:Obj:=⟨y l5,none,(.cls ⟨x5,[y l3],[r 24,y l3,y l8,y l9,y J9],23,x5,true,[],[r 37],false,none,false⟩), #[(some (r 15)),none,(some (s x5 189)),(some (s x5 197)),(some (.builtin J8)),(some (.bool true))]⟩
def fU:Obj:=Q (y l0) #[r 24]
def Mz(P:Params):Obj:=⟨y l7,none,(.dict #[e P x6 214 (s x4 187),e P x7 216 (s Lp 215),e P x8 218 (.int 4 217),e P x9 219 (r 35)] 4), #[]⟩
def My:Obj:=cl Lp 209 4 31 212 213
def Mx:Obj:=⟨y l2,none,.plain, #[(some (r 33)),(some (r 3)),(some (r 30)),none,(some (s x4 187)),none,(some (r 0))]⟩
def C6(P:Params):Obj:=⟨y l7,none,(.dict #[e P x6 214 (s x4 187),e P x8 218 (.int 4 217),e P x9 219 (r 35),e P RA 220 v] 2), #[]⟩
def C5:Obj:=⟨y l5,none,(.cls ⟨Lp,[r 24],[r 37,r 24,y l3,y l8,y l9,y J9],36,Lp,true,[],[],false,none,false⟩), #[(some (r 28)),none,(some (s Lp 207)),(some (s Lp 215)),(some (.builtin J8)),(some (.bool true))]⟩
def Mw:Obj:=F (y TM) #[r 37,r 37,r 37]
def Mv:Obj:=F (y l6) #[.builtin TL,r 37]
def T3(P:Params):BT:=(ir (il (T2 P) [(3,UT P),(12,MJ),(24,UY)]) 28 [fU,kZ,Mz P,au,aH,My,Mx,au,C6 P,C5,Mw,Mv])
def S3(P:Params)(os:OsState):SharedT:=⟨T3 P,40,lf, #[],⟨0,0,0,0⟩,223,os⟩
def US(P:Params):Obj:=ud (UT P) [] [e P Lo 238 (r 49)] 12
def MI:Obj:=ap MJ [.int 6 0,z,r 45]
def UX:Obj:=⟨y l5,none,(.cls ⟨x5,[y l3],[r 24,y l3,y l8,y l9,y J9],23,x5,true,[],[r 37,r 49],false,none,false⟩), #[(some (r 15)),none,(some (s x5 189)),(some (s x5 197)),(some (.builtin J8)),(some (.bool true))]⟩
def Mu(P:Params):Obj:=⟨y l7,none,(.dict #[e P x6 230 (s x4 187),e P x7 232 (s Lo 231),e P x8 234 (.int 6 233),e P x9 235 (r 47)] 4), #[]⟩
def Mt:Obj:=cl Lo 225 6 43 228 229
def Ms:Obj:=⟨y l2,none,.plain, #[(some (r 45)),(some (r 3)),(some (r 42)),none,(some (s x4 187)),none,(some (r 0))]⟩
def C4(P:Params):Obj:=⟨y l7,none,(.dict #[e P x6 230 (s x4 187),e P x8 234 (.int 6 233),e P x9 235 (r 47),e P RA 236 v] 2), #[]⟩
def C3:Obj:=⟨y l5,none,(.cls ⟨Lo,[r 24],[r 49,r 24,y l3,y l8,y l9,y J9],48,Lo,true,[],[],false,none,false⟩), #[(some (r 40)),none,(some (s Lo 223)),(some (s Lo 231)),(some (.builtin J8)),(some (.bool true))]⟩
def Mr:Obj:=F (y TM) #[r 49,r 49,r 49]
def Mq:Obj:=F (y l6) #[.builtin TL,r 49]
def T4(P:Params):BT:=(ir (il (T3 P) [(3,US P),(12,MI),(24,UX)]) 40 [fU,kZ,Mu P,au,aH,Mt,Ms,au,C4 P,C3,Mr,Mq])
def S4(P:Params)(os:OsState):SharedT:=⟨T4 P,52,lf, #[],⟨0,0,0,0⟩,239,os⟩
def UR(P:Params):Obj:=ud (US P) [] [e P Ln 254 (r 61)] 13
def MH:Obj:=ap MI [.int 8 0,z,r 57]
def UW:Obj:=⟨y l5,none,(.cls ⟨x5,[y l3],[r 24,y l3,y l8,y l9,y J9],23,x5,true,[],[r 37,r 49,r 61],false,none,false⟩), #[(some (r 15)),none,(some (s x5 189)),(some (s x5 197)),(some (.builtin J8)),(some (.bool true))]⟩
def Mp(P:Params):Obj:=⟨y l7,none,(.dict #[e P x6 246 (s x4 187),e P x7 248 (s Ln 247),e P x8 250 (.int 8 249),e P x9 251 (r 59)] 4), #[]⟩
def Mn:Obj:=cl Ln 241 8 55 244 245
def Mm:Obj:=⟨y l2,none,.plain, #[(some (r 57)),(some (r 3)),(some (r 54)),none,(some (s x4 187)),none,(some (r 0))]⟩
def C2(P:Params):Obj:=⟨y l7,none,(.dict #[e P x6 246 (s x4 187),e P x8 250 (.int 8 249),e P x9 251 (r 59),e P RA 252 v] 2), #[]⟩
def C1:Obj:=⟨y l5,none,(.cls ⟨Ln,[r 24],[r 61,r 24,y l3,y l8,y l9,y J9],60,Ln,true,[],[],false,none,false⟩), #[(some (r 52)),none,(some (s Ln 239)),(some (s Ln 247)),(some (.builtin J8)),(some (.bool true))]⟩
def Ml:Obj:=F (y TM) #[r 61,r 61,r 61]
def Mj:Obj:=F (y l6) #[.builtin TL,r 61]
def T5(P:Params):BT:=(ir (il (T4 P) [(3,UR P),(12,MH),(24,UW)]) 52 [fU,kZ,Mp P,au,aH,Mn,Mm,au,C2 P,C1,Ml,Mj])
def S5(P:Params)(os:OsState):SharedT:=⟨T5 P,64,lf, #[],⟨0,0,0,0⟩,255,os⟩
def UQ(P:Params):Obj:=ud (UR P) [(0,e P x3 165 (s Iq 316))] [e P Lm 279 (r 80),e P YX 284 (r 83),e P YW 287 (r 84),e P QF 298 (r 91),e P QE 307 (r 98),e P QD 315 (r 105)] 19
def MG:Obj:=ap MH [.int 10 0,z,r 69,.int 18 0,z,r 90,.int 26 0,z,r 97,.int 33 0,z,r 104]
def C8:Obj:=⟨y l5,none,(.cls ⟨x5,[y l3],[r 24,y l3,y l8,y l9,y J9],23,x5,true,[],[r 37,r 49,r 61,r 80],false,none,false⟩), #[(some (r 15)),none,(some (s x5 189)),(some (s x5 197)),(some (.builtin J8)),(some (.bool true))]⟩
def Mi(P:Params):Obj:=⟨y l7,none,(.dict #[e P x6 262 (s x4 187),e P x7 264 (s Lm 263),e P x8 266 (.int 10 265),e P Wu 274 (r 77),e P x9 276 (r 78)] 5), #[]⟩
def Mh:Obj:=F v #[.int 12 0,.int 4 0,r 76]
def Mf:Obj:=cl Lm 257 10 67 260 261
def Me:Obj:=⟨y l2,none,.plain, #[(some (r 69)),(some (r 3)),(some (r 66)),none,(some (s x4 187)),none,(some (r 0))]⟩
def C0:Obj:=Q (y l0) #[s x23 270,s YV 271]
def CZ:Obj:=fa (g2 5 0) Ws
def CY:Obj:=cf Wu Ws 267 12 (.int 2 0) 71 272 273
def CW:Obj:=⟨y rP,none,(fo (g2 5 0) Ws 3 [] v v v (s x4 187) none (r 76) v 0), #[]⟩
def CV:Obj:=Q (y l0) #[s YV 275]
def CU(P:Params):Obj:=⟨y l7,none,(.dict #[e P x6 262 (s x4 187),e P x8 266 (.int 10 265),e P Wu 274 (r 77),e P x9 276 (r 78),e P RA 277 v] 2), #[]⟩
def CT:Obj:=⟨y l5,none,(.cls ⟨Lm,[r 24],[r 80,r 24,y l3,y l8,y l9,y J9],79,Lm,true,[],[],false,none,false⟩), #[(some (r 64)),none,(some (s Lm 255)),(some (s Lm 263)),(some (.builtin J8)),(some (.bool true))]⟩
def Mc:Obj:=F (y TM) #[r 80,r 80,r 80]
def Mb:Obj:=F (y l6) #[.builtin TL,r 80]
def CS:Obj:=Q (y l0) #[.int 0 282,.int 1 283]
def CP:Obj:=Q (y l0) #[.int 1 285,.int 1 286]
def CO:Obj:=Q (y l0) #[s Wr 291,s Vj 292,s x28 293,s x29 294,s x30 295]
def CN:Obj:=fa (g1 9) QF
def CM:Obj:=cf QF QF 288 18 (.int 2 0) 85 296 297
def CL:Obj:=⟨y rP,none,(fo (g1 9) QF 3 [] v v v (s Wq 280) none (r 90) v 0), #[]⟩
def CJ:Obj:=Q (y l0) #[s YU 302,s YT 303,s x34 304]
def CI:Obj:=fa (g1 10) QE
def CH:Obj:=cf QE QE 299 26 (.int 2 0) 92 305 306
def CG:Obj:=⟨y rP,none,(fo (g1 10) QE 3 [] v v v (s Wq 280) none (r 97) v 0), #[]⟩
def xw:Obj:=Q (y l0) #[s Wr 311,s Vj 312]
def xu:Obj:=fa (g1 11) QD
def xq:Obj:=cf QD QD 308 33 (.int 2 0) 99 313 314
def xo:Obj:=⟨y rP,none,(fo (g1 11) QD 3 [] v v v (s Wq 280) none (r 104) v 0), #[]⟩
def T6(P:Params):BT:=(ir (il (T5 P) [(3,UQ P),(12,MG),(24,C8)]) 64 [fU,kZ,Mi P,au,Mh,Mf,Me,au,aH,C0,au,CZ,CY,CW,CV,CU P,CT,Mc,Mb,CS,CP,au,aH,CO,au,CN,CM,CL,au,aH,CJ,au,CI,CH,CG,au,aH,xw,au,xu,xq,xo])
def S6(P:Params)(os:OsState):SharedT:=⟨T6 P,106,lf, #[],⟨0,0,0,0⟩,318,os⟩
def UP(P:Params):Obj:=ud (UQ P) [(0,e P x3 165 (s Ip 382))] [e P QC 325 (r 112),e P QB 331 (r 117),e P QA 337 (r 122),e P Qz 343 (r 127),e P Qy 349 (r 132),e P Qx 355 (r 137),e P Qw 361 (r 142),e P Qv 375 (r 149),e P Qu 381 (r 154),e P Qt 391 (r 161),e P Qs 401 (r 168),e P Qq 409 (r 175),e P Qp 415 (r 180)] 32
def MF:Obj:=ap MG [.int 36 0,z,r 111,.int 38 0,z,r 116,.int 47 0,z,r 121,.int 56 0,z,r 126,.int 63 0,z,r 131,.int 65 0,z,r 136,.int 70 0,z,r 141,.int 80 0,z,r 148,.int 89 0,z,r 153,.int 96 0,z,r 160,.int 100 0,z,r 167,.int 106 0,z,r 174,.int 108 0,z,r 179]
def xm:Obj:=Q (y l0) #[s Wr 321,s Vj 322]
def xj:Obj:=fa (g1 13) QC
def xh:Obj:=cf QC QC 318 36 (.int 2 0) 106 323 324
def xg:Obj:=⟨y rP,none,(fo (g1 13) QC 3 [] v v v (s Iq 316) none (r 111) v 0), #[]⟩
def w9:Obj:=fa (g1 14) QB
def w6:Obj:=F (y l1) #[s QB 326,s QB 327,s x1 328,.int 38 0,.int 3 0,z,z,.int 3 0,r 113,.bool true,.int 181 0,r 114,v,v,v,r 115,.int 329 0,.int 38 0,s x1 330]
def wZ:Obj:=⟨y rP,none,(fo (g1 14) QB 3 [] v v v (s Iq 316) none (r 116) v 0), #[]⟩
def wY:Obj:=fa (g1 15) QA
def wX:Obj:=F (y l1) #[s QA 332,s QA 333,s x1 334,.int 47 0,.int 1 0,z,z,.int 3 0,r 118,.bool true,.int 181 0,r 119,v,v,v,r 120,.int 335 0,.int 47 0,s x1 336]
def wW:Obj:=⟨y rP,none,(fo (g1 15) QA 3 [] v v v (s Iq 316) none (r 121) v 0), #[]⟩
def wV:Obj:=fa (g1 16) Qz
def wU:Obj:=F (y l1) #[s Qz 338,s Qz 339,s x1 340,.int 56 0,.int 3 0,z,z,.int 3 0,r 123,.bool true,.int 181 0,r 124,v,v,v,r 125,.int 341 0,.int 56 0,s x1 342]
def wR:Obj:=⟨y rP,none,(fo (g1 16) Qz 3 [] v v v (s Iq 316) none (r 126) v 0), #[]⟩
def wQ:Obj:=fa (g1 17) Qy
def wO:Obj:=F (y l1) #[s Qy 344,s Qy 345,s x1 346,.int 63 0,.int 2 0,z,z,.int 3 0,r 128,.bool true,.int 181 0,r 129,v,v,v,r 130,.int 347 0,.int 63 0,s x1 348]
def wN:Obj:=⟨y rP,none,(fo (g1 17) Qy 3 [] v v v (s Iq 316) none (r 131) v 0), #[]⟩
def wM:Obj:=fa (g1 18) Qx
def wL:Obj:=F (y l1) #[s Qx 350,s Qx 351,s x1 352,.int 65 0,.int 2 0,z,z,.int 3 0,r 133,.bool true,.int 181 0,r 134,v,v,v,r 135,.int 353 0,.int 65 0,s x1 354]
def wK:Obj:=⟨y rP,none,(fo (g1 18) Qx 3 [] v v v (s Iq 316) none (r 136) v 0), #[]⟩
def wJ:Obj:=fa (g1 19) Qw
def wI:Obj:=F (y l1) #[s Qw 356,s Qw 357,s x1 358,.int 70 0,.int 1 0,z,z,.int 3 0,r 138,.bool true,.int 181 0,r 139,v,v,v,r 140,.int 359 0,.int 70 0,s x1 360]
def wH:Obj:=⟨y rP,none,(fo (g1 19) Qw 3 [] v v v (s Iq 316) none (r 141) v 0), #[]⟩
def wG:Obj:=Q (y l0) #[s x49 365,s x50 366,s x51 367,s YU 368,s YT 369,s Vj 370,s x52 371,s x53 372]
def wF:Obj:=fa (g1 20) Qv
def wD:Obj:=cf Qv Qv 362 80 (.int 3 0) 143 373 374
def wC:Obj:=⟨y rP,none,(fo (g1 20) Qv 3 [] v v v (s Iq 316) none (r 148) v 0), #[]⟩
def wB:Obj:=fa (g1 21) Qu
def wA:Obj:=F (y l1) #[s Qu 376,s Qu 377,s x1 378,.int 89 0,.int 1 0,z,z,.int 3 0,r 150,.bool true,.int 181 0,r 151,v,v,v,r 152,.int 379 0,.int 89 0,s x1 380]
def wz:Obj:=⟨y rP,none,(fo (g1 21) Qu 3 [] v v v (s Iq 316) none (r 153) v 0), #[]⟩
def wu:Obj:=Q (y l0) #[s x54 387,s YS 388]
def wm:Obj:=fa (g1 23) Qt
def wk:Obj:=cf Qt Qt 384 96 (.int 2 0) 155 389 390
def wj:Obj:=⟨y rP,none,(fo (g1 23) Qt 3 [] v v v (s Ip 382) none (r 160) v 0), #[]⟩
def wg:Obj:=Q (y l0) #[s x56 395,s Z9 396,s YR 397,s YQ 398]
def we:Obj:=fa (g1 24) Qs
def wc:Obj:=cf Qs Qs 392 100 (.int 2 0) 162 399 400
def v9:Obj:=⟨y rP,none,(fo (g1 24) Qs 3 [] v v v (s Ip 382) none (r 167) v 0), #[]⟩
def v8:Obj:=Q (y l0) #[s YR 405,s YQ 406]
def v5:Obj:=fa (g1 25) Qq
def vZ:Obj:=cf Qq Qq 402 106 (.int 2 0) 169 407 408
def vY:Obj:=⟨y rP,none,(fo (g1 25) Qq 3 [] v v v (s Ip 382) none (r 174) v 0), #[]⟩
def vX:Obj:=fa (g1 26) Qp
def vW:Obj:=F (y l1) #[s Qp 410,s Qp 411,s x1 412,.int 108 0,.int 2 0,z,z,.int 3 0,r 176,.bool true,.int 181 0,r 177,v,v,v,r 178,.int 413 0,.int 108 0,s x1 414]
def vU:Obj:=⟨y rP,none,(fo (g1 26) Qp 3 [] v v v (s Ip 382) none (r 179) v 0), #[]⟩
def T7(P:Params):BT:=(ir (il (T6 P) [(3,UP P),(12,MF)]) 106 [au,aH,xm,au,xj,xh,xg,au,aH,w9,w6,wZ,au,aH,wY,wX,wW,au,aH,wV,wU,wR,au,aH,wQ,wO,wN,au,aH,wM,wL,wK,au,aH,wJ,wI,wH,au,aH,wG,au,wF,wD,wC,au,aH,wB,wA,wz,au,aH,wu,au,wm,wk,wj,au,aH,wg,au,we,wc,v9,au,aH,v8,au,v5,vZ,vY,au,aH,vX,vW,vU])
def S7(P:Params)(os:OsState):SharedT:=⟨T7 P,181,lf, #[],⟨0,0,0,0⟩,416,os⟩
def La(P:Params):Obj:=ud (UP P) [] [e P Qo 421 (r 185),e P Qn 427 (r 190),e P Qm 436 (r 197),e P Ql 448 (r 204),e P Rz 454 (r 209)] 37
def Df:Obj:=ap MF [.int 113 0,z,r 184,.int 124 0,z,r 189,.int 138 0,z,r 196,.int 145 0,z,r 203,.int 155 0,z,r 208]
def vS:Obj:=fa (g1 27) Qo
def vR:Obj:=F (y l1) #[s Qo 416,s Qo 417,s x1 418,.int 113 0,.int 3 0,z,z,.int 3 0,r 181,.bool true,.int 181 0,r 182,v,v,v,r 183,.int 419 0,.int 113 0,s x1 420]
def vQ:Obj:=⟨y rP,none,(fo (g1 27) Qo 3 [] v v v (s Ip 382) none (r 184) v 0), #[]⟩
def vP:Obj:=fa (g1 28) Qn
def vO:Obj:=F (y l1) #[s Qn 422,s Qn 423,s x1 424,.int 124 0,.int 4 0,z,z,.int 3 0,r 186,.bool true,.int 181 0,r 187,v,v,v,r 188,.int 425 0,.int 124 0,s x1 426]
def vN:Obj:=⟨y rP,none,(fo (g1 28) Qn 3 [] v v v (s Ip 382) none (r 189) v 0), #[]⟩
def vM:Obj:=Q (y l0) #[s YO 431,s Z8 432,s Z7 433]
def vL:Obj:=fa (g1 29) Qm
def vK:Obj:=cf Qm Qm 428 138 (.int 1 0) 191 434 435
def vJ:Obj:=⟨y rP,none,(fo (g1 29) Qm 3 [] v v v (s Ip 382) none (r 196) v 0), #[]⟩
def vI:Obj:=Q (y l0) #[s YO 440,s Z6 441,s YS 442,s Z5 443,s Z4 444,s Z3 445]
def vH:Obj:=fa (g1 30) Ql
def vG:Obj:=cf Ql Ql 437 145 (.int 2 0) 198 446 447
def vF:Obj:=⟨y rP,none,(fo (g1 30) Ql 3 [] v v v (s Ip 382) none (r 203) v 0), #[]⟩
def vE:Obj:=fa (g1 31) Rz
def vC:Obj:=F (y l1) #[s Rz 449,s Rz 450,s x1 451,.int 155 0,.int 1 0,z,z,.int 3 0,r 205,.bool true,.int 181 0,r 206,v,v,v,r 207,.int 452 0,.int 155 0,s x1 453]
def vB:Obj:=⟨y rP,none,(fo (g1 31) Rz 3 [] v v v (s Ip 382) none (r 208) v 0), #[]⟩
def T8(P:Params):BT:=(ir (il (T7 P) [(3,La P),(12,Df)]) 181 [au,aH,vS,vR,vQ,au,aH,vP,vO,vN,au,aH,vM,au,vL,vK,vJ,au,aH,vI,au,vH,vG,vF,au,aH,vE,vC,vB])
def S8(P:Params)(os:OsState):SharedT:=⟨T8 P,210,lf, #[],⟨0,0,0,0⟩,455,os⟩
def HF(P:Params):Heap:=⟨⟨[boot_o_0 P,boot_o_1 P,boot_o_2 P,La P,boot_o_4 P,boot_o_5 P,boot_o_6 P,boot_o_7 P,boot_o_8 P,boot_o_9 P,boot_o_10 P,au,Df,De,Dd,Dc,kZ,ME P,au,aH,MD,MC,au,C9 P,C8,C7,MB,MA,fU,kZ,Mz P,au,aH,My,Mx,au,C6 P,C5,Mw,Mv,fU,kZ,Mu P,au,aH,Mt,Ms,au,C4 P,C3,Mr,Mq,fU,kZ,Mp P,au,aH,Mn,Mm,au,C2 P,C1,Ml,Mj,fU,kZ,Mi P,au,Mh,Mf,Me,au,aH,C0,au,CZ,CY,CW,CV,CU P,CT,Mc,Mb,CS,CP,au,aH,CO,au,CN,CM,CL,au,aH,CJ,au,CI,CH,CG,au,aH,xw,au,xu,xq,xo,au,aH,xm,au,xj,xh,xg,au,aH,w9,w6,wZ,au,aH,wY,wX,wW,au,aH,wV,wU,wR,au,aH,wQ,wO,wN,au,aH,wM,wL,wK,au,aH,wJ,wI,wH,au,aH,wG,au,wF,wD,wC,au,aH,wB,wA,wz,au,aH,wu,au,wm,wk,wj,au,aH,wg,au,we,wc,v9,au,aH,v8,au,v5,vZ,vY,au,aH,vX,vW,vU,au,aH,vS,vR,vQ,au,aH,vP,vO,vN,au,aH,vM,au,vL,vK,vJ,au,aH,vI,au,vH,vG,vF,au,aH,vE,vC,vB]⟩,lf⟩
def KF(P:Params):Frag:=(nat_lit 0,(boot_o_0 P))::(nat_lit 1,(boot_o_1 P))::(nat_lit 2,(boot_o_2 P))::(nat_lit 3,(La P))::(nat_lit 4,(boot_o_4 P))::(nat_lit 5,(boot_o_5 P))::(nat_lit 6,(boot_o_6 P))::(nat_lit 7,(boot_o_7 P))::(nat_lit 8,(boot_o_8 P))::(nat_lit 9,(boot_o_9 P))::(nat_lit 10,(boot_o_10 P))::(nat_lit 11,au)::(nat_lit 12,Df)::(nat_lit 13,De)::(nat_lit 14,Dd)::(nat_lit 15,Dc)::(nat_lit 22,au)::(nat_lit 23,(C9 P))::(nat_lit 24,C8)::(nat_lit 25,C7)::(nat_lit 28,fU)::(nat_lit 35,au)::(nat_lit 36,(C6 P))::(nat_lit 37,C5)::(nat_lit 40,fU)::(nat_lit 47,au)::(nat_lit 48,(C4 P))::(nat_lit 49,C3)::(nat_lit 52,fU)::(nat_lit 59,au)::(nat_lit 60,(C2 P))::(nat_lit 61,C1)::(nat_lit 64,fU)::(nat_lit 71,au)::(nat_lit 72,aH)::(nat_lit 73,C0)::(nat_lit 74,au)::(nat_lit 75,CZ)::(nat_lit 76,CY)::(nat_lit 77,CW)::(nat_lit 78,CV)::(nat_lit 79,(CU P))::(nat_lit 80,CT)::(nat_lit 83,CS)::(nat_lit 84,CP)::(nat_lit 85,au)::(nat_lit 86,aH)::(nat_lit 87,CO)::(nat_lit 88,au)::(nat_lit 89,CN)::(nat_lit 90,CM)::(nat_lit 91,CL)::(nat_lit 92,au)::(nat_lit 93,aH)::(nat_lit 94,CJ)::(nat_lit 95,au)::(nat_lit 96,CI)::(nat_lit 97,CH)::(nat_lit 98,CG)::(nat_lit 99,au)::(nat_lit 100,aH)::(nat_lit 101,xw)::(nat_lit 102,au)::(nat_lit 103,xu)::(nat_lit 104,xq)::(nat_lit 105,xo)::(nat_lit 106,au)::(nat_lit 107,aH)::(nat_lit 108,xm)::(nat_lit 109,au)::(nat_lit 110,xj)::(nat_lit 111,xh)::(nat_lit 112,xg)::(nat_lit 113,au)::(nat_lit 114,aH)::(nat_lit 115,w9)::(nat_lit 116,w6)::(nat_lit 117,wZ)::(nat_lit 118,au)::(nat_lit 119,aH)::(nat_lit 120,wY)::(nat_lit 121,wX)::(nat_lit 122,wW)::(nat_lit 123,au)::(nat_lit 124,aH)::(nat_lit 125,wV)::(nat_lit 126,wU)::(nat_lit 127,wR)::(nat_lit 128,au)::(nat_lit 129,aH)::(nat_lit 130,wQ)::(nat_lit 131,wO)::(nat_lit 132,wN)::(nat_lit 133,au)::(nat_lit 134,aH)::(nat_lit 135,wM)::(nat_lit 136,wL)::(nat_lit 137,wK)::(nat_lit 138,au)::(nat_lit 139,aH)::(nat_lit 140,wJ)::(nat_lit 141,wI)::(nat_lit 142,wH)::(nat_lit 143,au)::(nat_lit 144,aH)::(nat_lit 145,wG)::(nat_lit 146,au)::(nat_lit 147,wF)::(nat_lit 148,wD)::(nat_lit 149,wC)::(nat_lit 150,au)::(nat_lit 151,aH)::(nat_lit 152,wB)::(nat_lit 153,wA)::(nat_lit 154,wz)::(nat_lit 155,au)::(nat_lit 156,aH)::(nat_lit 157,wu)::(nat_lit 158,au)::(nat_lit 159,wm)::(nat_lit 160,wk)::(nat_lit 161,wj)::(nat_lit 162,au)::(nat_lit 163,aH)::(nat_lit 164,wg)::(nat_lit 165,au)::(nat_lit 166,we)::(nat_lit 167,wc)::(nat_lit 168,v9)::(nat_lit 169,au)::(nat_lit 170,aH)::(nat_lit 171,v8)::(nat_lit 172,au)::(nat_lit 173,v5)::(nat_lit 174,vZ)::(nat_lit 175,vY)::(nat_lit 176,au)::(nat_lit 177,aH)::(nat_lit 178,vX)::(nat_lit 179,vW)::(nat_lit 180,vU)::(nat_lit 181,au)::(nat_lit 182,aH)::(nat_lit 183,vS)::(nat_lit 184,vR)::(nat_lit 185,vQ)::(nat_lit 186,au)::(nat_lit 187,aH)::(nat_lit 188,vP)::(nat_lit 189,vO)::(nat_lit 190,vN)::(nat_lit 191,au)::(nat_lit 192,aH)::(nat_lit 193,vM)::(nat_lit 194,au)::(nat_lit 195,vL)::(nat_lit 196,vK)::(nat_lit 197,vJ)::(nat_lit 198,au)::(nat_lit 199,aH)::(nat_lit 200,vI)::(nat_lit 201,au)::(nat_lit 202,vH)::(nat_lit 203,vG)::(nat_lit 204,vF)::(nat_lit 205,au)::(nat_lit 206,aH)::(nat_lit 207,vE)::(nat_lit 208,vC)::(nat_lit 209,vB)::[]
def KG(P:Params):Frag:=(nat_lit 0,(boot_o_0 P))::(nat_lit 1,(boot_o_1 P))::(nat_lit 2,(boot_o_2 P))::(nat_lit 3,(La P))::(nat_lit 4,(boot_o_4 P))::(nat_lit 5,(boot_o_5 P))::(nat_lit 6,(boot_o_6 P))::(nat_lit 7,(boot_o_7 P))::(nat_lit 8,(boot_o_8 P))::(nat_lit 9,(boot_o_9 P))::(nat_lit 10,(boot_o_10 P))::(nat_lit 11,au)::(nat_lit 12,Df)::(nat_lit 13,De)::(nat_lit 14,Dd)::(nat_lit 15,Dc)::(nat_lit 22,au)::(nat_lit 23,(C9 P))::(nat_lit 24,C8)::(nat_lit 25,C7)::(nat_lit 28,fU)::(nat_lit 35,au)::(nat_lit 36,(C6 P))::(nat_lit 37,C5)::(nat_lit 40,fU)::(nat_lit 47,au)::(nat_lit 48,(C4 P))::(nat_lit 49,C3)::(nat_lit 52,fU)::(nat_lit 59,au)::(nat_lit 60,(C2 P))::(nat_lit 61,C1)::(nat_lit 64,fU)::(nat_lit 71,au)::(nat_lit 72,aH)::(nat_lit 73,C0)::(nat_lit 74,au)::(nat_lit 75,CZ)::(nat_lit 76,CY)::(nat_lit 77,CW)::(nat_lit 78,CV)::(nat_lit 79,(CU P))::(nat_lit 80,CT)::(nat_lit 83,CS)::(nat_lit 84,CP)::(nat_lit 85,au)::(nat_lit 86,aH)::(nat_lit 87,CO)::(nat_lit 88,au)::(nat_lit 89,CN)::(nat_lit 90,CM)::(nat_lit 91,CL)::(nat_lit 92,au)::(nat_lit 93,aH)::(nat_lit 94,CJ)::(nat_lit 95,au)::(nat_lit 96,CI)::(nat_lit 97,CH)::(nat_lit 98,CG)::(nat_lit 99,au)::(nat_lit 100,aH)::(nat_lit 101,xw)::(nat_lit 102,au)::(nat_lit 103,xu)::(nat_lit 104,xq)::(nat_lit 105,xo)::(nat_lit 106,au)::(nat_lit 107,aH)::(nat_lit 108,xm)::(nat_lit 109,au)::(nat_lit 110,xj)::(nat_lit 111,xh)::(nat_lit 112,xg)::(nat_lit 113,au)::(nat_lit 114,aH)::(nat_lit 115,w9)::(nat_lit 116,w6)::(nat_lit 117,wZ)::(nat_lit 118,au)::(nat_lit 119,aH)::(nat_lit 120,wY)::(nat_lit 121,wX)::(nat_lit 122,wW)::(nat_lit 123,au)::(nat_lit 124,aH)::(nat_lit 125,wV)::(nat_lit 126,wU)::(nat_lit 127,wR)::(nat_lit 128,au)::(nat_lit 129,aH)::(nat_lit 130,wQ)::(nat_lit 131,wO)::(nat_lit 132,wN)::(nat_lit 133,au)::(nat_lit 135,wM)::(nat_lit 136,wL)::(nat_lit 137,wK)::(nat_lit 138,au)::(nat_lit 140,wJ)::(nat_lit 141,wI)::(nat_lit 142,wH)::(nat_lit 143,au)::(nat_lit 144,aH)::(nat_lit 145,wG)::(nat_lit 146,au)::(nat_lit 147,wF)::(nat_lit 148,wD)::(nat_lit 149,wC)::(nat_lit 150,au)::(nat_lit 151,aH)::(nat_lit 152,wB)::(nat_lit 153,wA)::(nat_lit 154,wz)::(nat_lit 155,au)::(nat_lit 156,aH)::(nat_lit 157,wu)::(nat_lit 158,au)::(nat_lit 159,wm)::(nat_lit 160,wk)::(nat_lit 161,wj)::(nat_lit 162,au)::(nat_lit 163,aH)::(nat_lit 164,wg)::(nat_lit 165,au)::(nat_lit 166,we)::(nat_lit 167,wc)::(nat_lit 168,v9)::(nat_lit 169,au)::(nat_lit 170,aH)::(nat_lit 171,v8)::(nat_lit 172,au)::(nat_lit 173,v5)::(nat_lit 174,vZ)::(nat_lit 175,vY)::(nat_lit 176,au)::(nat_lit 177,aH)::(nat_lit 178,vX)::(nat_lit 179,vW)::(nat_lit 180,vU)::(nat_lit 181,au)::(nat_lit 182,aH)::(nat_lit 183,vS)::(nat_lit 184,vR)::(nat_lit 185,vQ)::(nat_lit 186,au)::(nat_lit 187,aH)::(nat_lit 188,vP)::(nat_lit 189,vO)::(nat_lit 190,vN)::(nat_lit 191,au)::(nat_lit 192,aH)::(nat_lit 193,vM)::(nat_lit 194,au)::(nat_lit 195,vL)::(nat_lit 196,vK)::(nat_lit 197,vJ)::(nat_lit 198,au)::(nat_lit 199,aH)::(nat_lit 200,vI)::(nat_lit 201,au)::(nat_lit 202,vH)::(nat_lit 203,vG)::(nat_lit 204,vF)::(nat_lit 205,au)::(nat_lit 206,aH)::(nat_lit 207,vE)::(nat_lit 208,vC)::(nat_lit 209,vB)::[]
noncomputable def AF:List Nat:=[0,1,2,3,4,5,6,7,8,9,10,11,12,13,14,15,22,23,24,25,28,35,36,37,40,47,48,49,52,59,60,61,64,71,72,73,74,75,76,77,78,79,80,83,84,85,86,87,88,89,90,91,92,93,94,95,96,97,98,99,100,101,102,103,104,105,106,107,108,109,110,111,112,113,114,115,116,117,118,119,120,121,122,123,124,125,126,127,128,129,130,131,132,133,134,135,136,137,138,139,140,141,142,143,144,145,146,147,148,149,150,151,152,153,154,155,156,157,158,159,160,161,162,163,164,165,166,167,168,169,170,171,172,173,174,175,176,177,178,179,180,181,182,183,184,185,186,187,188,189,190,191,192,193,194,195,196,197,198,199,200,201,202,203,204,205,206,207,208,209]
def LZ:List Str:=[x5,Lp,Lo,Ln,Lm,YX,YW,QF,QE,QD,QC,QB,QA,Qz,Qy,Qx,Qw,Qv,Qu,Qt,Qs,Qq,Qp,Qo,Qn,Qm,Ql]
def ev:Env:={scope:=pq.main.scope,locals:=mainNs,globals:=mainNs,cells:=[],code:=(.ref 13),frame:=some 14}
noncomputable abbrev cE:Code:= .body bE ev
noncomputable abbrev Bq:List Frame:=[topFrame ⟨0,0,0,0⟩]
def sl(i n:Nat):List Stmt:=(bE.drop i).take n
noncomputable abbrev an:Option Value:=(some (.ref 6))
def lg{w:World}{n:Nat}{s s':SharedT}{t:Thread}{f:Flow}{c:Code}{q:Pos}(h:W.Fast.tw10110043849684766642 W.Fast.tw14364793385576792824 pq w 11 an 1 n s t=some (f,s',c,q)):segRun treeTable pq w 11 an 1 n s.abs t=some (f,s'.abs,c,q):=segRun_of (by rw[W.Fast.te10110043849684766642,W.Fast.te14364793385576792824];exact h)
def lt{w:World}{n:Nat}{s:Shared}{t:Thread}{r:Option Shared}(h:W.Fast.tw14082659384304107361 W.Fast.tw14364793385576792824 pq w 11 an n s t=r):topRun treeTable pq w 11 an n s t=r:=by rw[W.Fast.te14082659384304107361,W.Fast.te14364793385576792824];exact h
def lp{w:World}{n:Nat}{s s':Shared}{p:Pos}(h:W.Fast.tw15667345088766844465 W.Fast.tw14364793385576792824 pq w 11 an n s (W.topStub pq)=some (s',⟨W.Fast.tw11892475500146522536 W.Fast.tw14364793385576792824 cE,cE,p,Bq⟩)):topGo treeTable pq w 11 an n s (topStub pq)=some (s',⟨denote treeTable cE,cE,p,Bq⟩):=by rw[W.Fast.te15667345088766844465,W.Fast.te11892475500146522536,W.Fast.te14364793385576792824];exact h
def pre(w:World)(os:OsState):topGo treeTable pq w 11 an 12 ⟨boot_heap w.params,Array.mk [],boot_drawn,boot_toks,os⟩ (topStub pq)=some ((S0 w.params os).abs,⟨denote treeTable cE,cE,⟨0,0,0,0⟩,Bq⟩):=lp (by kernel_rfl)
def gO(w:World)(os:OsState):segRun treeTable pq w 11 an 1 1 (S0 w.params os).abs (blockOf bE ev cE ⟨0,0,0,0⟩ Bq)=some (.next,(S1 w.params os).abs,cE,⟨0,0,0,0⟩):=lg (by kernel_rfl)
def g_1(w:World)(os:OsState):segRun treeTable pq w 11 an 1 196 (S1 w.params os).abs (piecesOf (sl 0 2) ev cE ⟨0,0,0,0⟩ Bq)=some (.next,(S2 w.params os).abs,cE,⟨2,0,3,8⟩):=lg (by kernel_rfl)
def g_2(w:World)(os:OsState):segRun treeTable pq w 11 an 1 214 (S2 w.params os).abs (piecesOf (sl 2 1) ev cE ⟨2,0,3,8⟩ Bq)=some (.next,(S3 w.params os).abs,cE,⟨4,0,5,8⟩):=lg (by kernel_rfl)
def g_3(w:World)(os:OsState):segRun treeTable pq w 11 an 1 214 (S3 w.params os).abs (piecesOf (sl 3 1) ev cE ⟨4,0,5,8⟩ Bq)=some (.next,(S4 w.params os).abs,cE,⟨6,0,7,8⟩):=lg (by kernel_rfl)
def g_4(w:World)(os:OsState):segRun treeTable pq w 11 an 1 214 (S4 w.params os).abs (piecesOf (sl 4 1) ev cE ⟨6,0,7,8⟩ Bq)=some (.next,(S5 w.params os).abs,cE,⟨8,0,9,8⟩):=lg (by kernel_rfl)
def g_5(w:World)(os:OsState):segRun treeTable pq w 11 an 1 382 (S5 w.params os).abs (piecesOf (sl 5 8) ev cE ⟨8,0,9,8⟩ Bq)=some (.next,(S6 w.params os).abs,cE,⟨35,0,35,8⟩):=lg (by kernel_rfl)
def g_6(w:World)(os:OsState):segRun treeTable pq w 11 an 1 376 (S6 w.params os).abs (piecesOf (sl 13 14) ev cE ⟨35,0,35,8⟩ Bq)=some (.next,(S7 w.params os).abs,cE,⟨108,0,112,25⟩):=lg (by kernel_rfl)
def g_7(w:World)(os:OsState):segRun treeTable pq w 11 an 1 144 (S7 w.params os).abs (piecesOf (sl 27 5) ev cE ⟨108,0,112,25⟩ Bq)=some (.next,(S8 w.params os).abs,cE,⟨155,0,163,76⟩):=lg (by kernel_rfl)
def fin(w:World)(os:OsState):topRun treeTable pq w 11 an 2 (S8 w.params os).abs ⟨doneF .next,cE,⟨155,0,163,76⟩,Bq⟩=some ⟨HF w.params, #[],⟨0,0,0,0⟩,455,os⟩:=lt (by kernel_rfl)
def UM:bE=sl 0 2++(sl 2 1++(sl 3 1++(sl 4 1++(sl 5 8++(sl 13 14++(sl 27 5++[])))))):=by kernel_rfl
def rest(w:World)(os:OsState):topRun treeTable pq w 11 an (196+(214+(214+(214+(382+(376+(144+(2)))))))) (S1 w.params os).abs (restOf bE ev cE ⟨0,0,0,0⟩ Bq)=some ⟨HF w.params, #[],⟨0,0,0,0⟩,455,os⟩:=(congrArg (λ l=>topRun treeTable pq w 11 an (196+(214+(214+(214+(382+(376+(144+(2)))))))) (S1 w.params os).abs (restOf l ev cE ⟨0,0,0,0⟩ Bq)) UM).trans (piece_app (g_1 w os) (piece_app (g_2 w os) (piece_app (g_3 w os) (piece_app (g_4 w os) (piece_app (g_5 w os) (piece_app (g_6 w os) (piece_app (g_7 w os) (piece_nil (fin w os)))))))))
def run(w:World)(os:OsState):topRun treeTable pq w 11 an (12+(1+(196+(214+(214+(214+(382+(376+(144+(2)))))))))) ⟨boot_heap w.params,Array.mk [],boot_drawn,boot_toks,os⟩ (topStub pq)=some ⟨HF w.params, #[],⟨0,0,0,0⟩,455,os⟩:=go_top (pre w os) (piece_block (gO w os) (rest w os))
noncomputable abbrev qv:Program:=view pq [31]
def lk1(w:World)(os:OsState):(staticsOk (importedModules pq.main.body) (boot_heap w.params) (HF w.params)&&namesBound pq (HF w.params)&&gensDone (Shared.mk (HF w.params) #[] ⟨0,0,0,0⟩ 455 os)&&laidKept (boot_heap w.params) (HF w.params))=true:=by kernel_rfl
def lk2(w:World)(os:OsState):openSeen qv LZ (importedModules pq.main.body) (λ _=>true) true (Shared.mk (HF w.params) #[] ⟨0,0,0,0⟩ 455 os)=openGood qv LZ:=by rw[W.Fast.te4187177175401517315];kernel_rfl
def lk3(w:World)(os:OsState):X.obsZ AF (Shared.mk (HF w.params) #[] ⟨0,0,0,0⟩ 455 os)=X.valZ KF 210 455 w:=by kernel_rfl
def hl1:LeftO pq qv LZ (λ _=>true) (X.obsZ AF) (X.valZ KF 210 455) 3592:=LeftO.of_pieces (boot_open (by kernel_rfl) (by kernel_rfl) (λ s=>by kernel_rfl)) (m₀:=11) (ann:=an) (λ w=>by kernel_rfl) run (by kernel_rfl) (λ w=>funext λ os=>looks_pair (lk1 w os) (looks_pair (lk2 w os) (lk3 w os)))
def hl:LeftO PySem.Challenge.pw_beamtable_k29_loose (view PySem.Challenge.pw_beamtable_k29_loose [31]) LZ (λ _=>true) (X.obsZ AF) (X.valZ KF 210 455) 3592:=by rw[W.Fast.te6634092921215699879];exact hl1
end KO
end
section
def bS{p q:Prop}{G:Prop}(j:p->q->G):(p/\q)->G:=by rintro ⟨x,y⟩;exact j x y
def aW{p q r:Prop}{G:Prop}(j:p->q->r->G):(p/\q/\r)->G:=by rintro ⟨x,y,z⟩;exact j x y z
def aS{p q r:Prop}(x:p)(y:q)(z:r):p/\q/\r:=⟨x,y,z⟩
def iU{p q r s:Prop}{G:Prop}(j:p->q->r->s->G):(p/\q/\r/\s)->G:=by rintro ⟨x,y,z,k⟩;exact j x y z k
def gz{p q r s:Prop}(x:p)(y:q)(z:r)(k:s):p/\q/\r/\s:=⟨x,y,z,k⟩
def iT{p q r s t:Prop}{G:Prop}(j:p->q->r->s->t->G):(p/\q/\r/\s/\t)->G:=by rintro ⟨x,y,z,k,l⟩;exact j x y z k l
def lH{p q r s t:Prop}(x:p)(y:q)(z:r)(k:s)(l:t):p/\q/\r/\s/\t:=⟨x,y,z,k,l⟩
def eO{p q r s t u:Prop}{G:Prop}(j:p->q->r->s->t->u->G):(p/\q/\r/\s/\t/\u)->G:=by rintro ⟨x,y,z,k,l,m⟩;exact j x y z k l m
def An{p q r s t u:Prop}(x:p)(y:q)(z:r)(k:s)(l:t)(m:u):p/\q/\r/\s/\t/\u:=⟨x,y,z,k,l,m⟩
def ah{A:Sort _}{p q:A->Prop}{G:Prop}(j:∀a,p a->q a->G):(∃a,p a/\q a)->G:=by rintro ⟨a,x,y⟩;exact j a x y
def af{A:Sort _}{p q:A->Prop}(a)(x:p a)(y:q a):∃a,p a/\q a:=⟨a,x,y⟩
def aD{A:Sort _}{p q r:A->Prop}{G:Prop}(j:∀a,p a->q a->r a->G):(∃a,p a/\q a/\r a)->G:=by rintro ⟨a,x,y,z⟩;exact j a x y z
def aX{A:Sort _}{p q r:A->Prop}(a)(x:p a)(y:q a)(z:r a):∃a,p a/\q a/\r a:=⟨a,x,y,z⟩
def dc{A:Sort _}{p q r s:A->Prop}{G:Prop}(j:∀a,p a->q a->r a->s a->G):(∃a,p a/\q a/\r a/\s a)->G:=by rintro ⟨a,x,y,z,k⟩;exact j a x y z k
def bY{A:Sort _}{p q r s:A->Prop}(a)(x:p a)(y:q a)(z:r a)(k:s a):∃a,p a/\q a/\r a/\s a:=⟨a,x,y,z,k⟩
def NG{A:Sort _}{p q r s u:A->Prop}{G:Prop}(j:∀a,p a->q a->r a->s a->u a->G):(∃a,p a/\q a/\r a/\s a/\u a)->G:=by rintro ⟨a,x,y,z,k,l⟩;exact j a x y z k l
def Am{A:Sort _}{p q r s u:A->Prop}(a)(x:p a)(y:q a)(z:r a)(k:s a)(l:u a):∃a,p a/\q a/\r a/\s a/\u a:=⟨a,x,y,z,k,l⟩
def Aj{A B:Sort _}{p:A->B->Prop}{G:Prop}(j:∀a b,p a b->G):(∃a b,p a b)->G:=by rintro ⟨a,b,x⟩;exact j a b x
def lG{A B:Sort _}{p:A->B->Prop}(a)(b)(x:p a b):∃a b,p a b:=⟨a,b,x⟩
def aQ{A B:Sort _}{p q:A->B->Prop}{G:Prop}(j:∀a b,p a b->q a b->G):(∃a b,p a b/\q a b)->G:=by rintro ⟨a,b,x,y⟩;exact j a b x y
def aM{A B:Sort _}{p q:A->B->Prop}(a)(b)(x:p a b)(y:q a b):∃a b,p a b/\q a b:=⟨a,b,x,y⟩
def ak{A B:Sort _}{p q r:A->B->Prop}{G:Prop}(j:∀a b,p a b->q a b->r a b->G):(∃a b,p a b/\q a b/\r a b)->G:=by rintro ⟨a,b,x,y,z⟩;exact j a b x y z
def ao{A B:Sort _}{p q r:A->B->Prop}(a)(b)(x:p a b)(y:q a b)(z:r a b):∃a b,p a b/\q a b/\r a b:=⟨a,b,x,y,z⟩
def aN{A B:Sort _}{p q r s:A->B->Prop}{G:Prop}(j:∀a b,p a b->q a b->r a b->s a b->G):(∃a b,p a b/\q a b/\r a b/\s a b)->G:=by rintro ⟨a,b,x,y,z,k⟩;exact j a b x y z k
def bg{A B:Sort _}{p q r s:A->B->Prop}(a)(b)(x:p a b)(y:q a b)(z:r a b)(k:s a b):∃a b,p a b/\q a b/\r a b/\s a b:=⟨a,b,x,y,z,k⟩
def cC{A B:Sort _}{p q r s t:A->B->Prop}{G:Prop}(j:∀a b,p a b->q a b->r a b->s a b->t a b->G):(∃a b,p a b/\q a b/\r a b/\s a b/\t a b)->G:=by rintro ⟨a,b,x,y,z,k,l⟩;exact j a b x y z k l
def bG{A B:Sort _}{p q r s t:A->B->Prop}(a)(b)(x:p a b)(y:q a b)(z:r a b)(k:s a b)(l:t a b):∃a b,p a b/\q a b/\r a b/\s a b/\t a b:=⟨a,b,x,y,z,k,l⟩
def qb{A B C:Sort _}{p:A->B->C->Prop}{G:Prop}(j:∀a b c,p a b c->G):(∃a b c,p a b c)->G:=by rintro ⟨a,b,c,x⟩;exact j a b c x
def bN{A B C:Sort _}{p q:A->B->C->Prop}{G:Prop}(j:∀a b c,p a b c->q a b c->G):(∃a b c,p a b c/\q a b c)->G:=by rintro ⟨a,b,c,x,y⟩;exact j a b c x y
def g8{A B C:Sort _}{p q:A->B->C->Prop}(a)(b)(c)(x:p a b c)(y:q a b c):∃a b c,p a b c/\q a b c:=⟨a,b,c,x,y⟩
def dO{A B C:Sort _}{p q r:A->B->C->Prop}{G:Prop}(j:∀a b c,p a b c->q a b c->r a b c->G):(∃a b c,p a b c/\q a b c/\r a b c)->G:=by rintro ⟨a,b,c,x,y,z⟩;exact j a b c x y z
def jy{A B C:Sort _}{p q r:A->B->C->Prop}(a)(b)(c)(x:p a b c)(y:q a b c)(z:r a b c):∃a b c,p a b c/\q a b c/\r a b c:=⟨a,b,c,x,y,z⟩
def nQ{A B C:Sort _}{p q r s:A->B->C->Prop}{G:Prop}(j:∀a b c,p a b c->q a b c->r a b c->s a b c->G):(∃a b c,p a b c/\q a b c/\r a b c/\s a b c)->G:=by rintro ⟨a,b,c,x,y,z,k⟩;exact j a b c x y z k
def g7{A B C:Sort _}{p q r s:A->B->C->Prop}(a)(b)(c)(x:p a b c)(y:q a b c)(z:r a b c)(k:s a b c):∃a b c,p a b c/\q a b c/\r a b c/\s a b c:=⟨a,b,c,x,y,z,k⟩
def p8{A B C:Sort _}{p q r s t:A->B->C->Prop}{G:Prop}(j:∀a b c,p a b c->q a b c->r a b c->s a b c->t a b c->G):(∃a b c,p a b c/\q a b c/\r a b c/\s a b c/\t a b c)->G:=by rintro ⟨a,b,c,x,y,z,k,l⟩;exact j a b c x y z k l
def lF{A B C:Sort _}{p q r s t:A->B->C->Prop}(a)(b)(c)(x:p a b c)(y:q a b c)(z:r a b c)(k:s a b c)(l:t a b c):∃a b c,p a b c/\q a b c/\r a b c/\s a b c/\t a b c:=⟨a,b,c,x,y,z,k,l⟩
def NF{A B C D:Sort _}{p:A->B->C->D->Prop}{G:Prop}(j:∀a b c d,p a b c d->G):(∃a b c d,p a b c d)->G:=by rintro ⟨a,b,c,d,x⟩;exact j a b c d x
def NI{A B C D:Sort _}{p:A->B->C->D->Prop}(a)(b)(c)(d)(x:p a b c d):∃a b c d,p a b c d:=⟨a,b,c,d,x⟩
def Ai{A B C D:Sort _}{p q:A->B->C->D->Prop}{G:Prop}(j:∀a b c d,p a b c d->q a b c d->G):(∃a b c d,p a b c d/\q a b c d)->G:=by rintro ⟨a,b,c,d,x,y⟩;exact j a b c d x y
def NH{A B C D:Sort _}{p q:A->B->C->D->Prop}(a)(b)(c)(d)(x:p a b c d)(y:q a b c d):∃a b c d,p a b c d/\q a b c d:=⟨a,b,c,d,x,y⟩
def uF{A B C D:Sort _}{p q r s:A->B->C->D->Prop}{G:Prop}(j:∀a b c d,p a b c d->q a b c d->r a b c d->s a b c d->G):(∃a b c d,p a b c d/\q a b c d/\r a b c d/\s a b c d)->G:=by rintro ⟨a,b,c,d,x,y,z,k⟩;exact j a b c d x y z k
def Al{A B C D:Sort _}{p q r s:A->B->C->D->Prop}(a)(b)(c)(d)(x:p a b c d)(y:q a b c d)(z:r a b c d)(k:s a b c d):∃a b c d,p a b c d/\q a b c d/\r a b c d/\s a b c d:=⟨a,b,c,d,x,y,z,k⟩
def cA{A B C D:Sort _}{p q r s t:A->B->C->D->Prop}{G:Prop}(j:∀a b c d,p a b c d->q a b c d->r a b c d->s a b c d->t a b c d->G):(∃a b c d,p a b c d/\q a b c d/\r a b c d/\s a b c d/\t a b c d)->G:=by rintro ⟨a,b,c,d,x,y,z,k,l⟩;exact j a b c d x y z k l
def bT{A B C D:Sort _}{p q r s t:A->B->C->D->Prop}(a)(b)(c)(d)(x:p a b c d)(y:q a b c d)(z:r a b c d)(k:s a b c d)(l:t a b c d):∃a b c d,p a b c d/\q a b c d/\r a b c d/\s a b c d/\t a b c d:=⟨a,b,c,d,x,y,z,k,l⟩
def cz{A B C D:Sort _}{p q r s t u:A->B->C->D->Prop}{G:Prop}(j:∀a b c d,p a b c d->q a b c d->r a b c d->s a b c d->t a b c d->u a b c d->G):(∃a b c d,p a b c d/\q a b c d/\r a b c d/\s a b c d/\t a b c d/\u a b c d)->G:=by rintro ⟨a,b,c,d,x,y,z,k,l,m⟩;exact j a b c d x y z k l m
def dg{A B C D:Sort _}{p q r s t u:A->B->C->D->Prop}(a)(b)(c)(d)(x:p a b c d)(y:q a b c d)(z:r a b c d)(k:s a b c d)(l:t a b c d)(m:u a b c d):∃a b c d,p a b c d/\q a b c d/\r a b c d/\s a b c d/\t a b c d/\u a b c d:=⟨a,b,c,d,x,y,z,k,l,m⟩
def jx{A B C D E:Sort _}{p q r s t u:A->B->C->D->E->Prop}(a)(b)(c)(d)(e)(x:p a b c d e)(y:q a b c d e)(z:r a b c d e)(k:s a b c d e)(l:t a b c d e)(m:u a b c d e):∃a b c d e,p a b c d e/\q a b c d e/\r a b c d e/\s a b c d e/\t a b c d e/\u a b c d e:=⟨a,b,c,d,e,x,y,z,k,l,m⟩
def Ak{A B C D E:Sort _}{p q r s t u v w:A->B->C->D->E->Prop}(a)(b)(c)(d)(e)(x:p a b c d e)(y:q a b c d e)(z:r a b c d e)(k:s a b c d e)(l:t a b c d e)(m:u a b c d e)(n:v a b c d e)(o:w a b c d e):∃a b c d e,p a b c d e/\q a b c d e/\r a b c d e/\s a b c d e/\t a b c d e/\u a b c d e/\v a b c d e/\w a b c d e:=⟨a,b,c,d,e,x,y,z,k,l,m,n,o⟩
end
section
namespace L2
open PySem PySem.Spec PyProof.Rows
noncomputable abbrev Key:=Sum Int Str
def oW:Key->Value->Bool
 | .inl k,v=>Value.isInt k v
 | .inr x,v=>Value.isStrOf x v
def XJ(w:World):Key->Int
 | .inl k=>hashInt k
 | .inr x=>hashStr w x
def bJ:∀{k:Key} {v:Value},oW k v=true->(∃i t,k=Sum.inl i/\v=Value.int i t)\/(∃x t,k=Sum.inr x/\v=Value.str x t)
 | .inl i,v,h=>by obtain ⟨t,e⟩:=Value.isInt_shape (k:=i) (v:=v) h;exact .inl (aM i t rfl e)
 | .inr x,v,h=>by obtain ⟨t,e⟩:=Value.isStrOf_shape (x:=x) (v:=v) h;exact .inr (aM x t rfl e)
def DX(i:Int)(t:Tok):oW (.inl i) (.int i t)=true:=by simp[oW,Value.isInt]
def DW(x:Str)(t:Tok):oW (.inr x) (.str x t)=true:=by simp[oW,Value.isStrOf]
def OR(a b:Int):decide ((Sum.inl a:Key)=Sum.inl b)=(a==b):=by
 by_cases e:a=b
 ·subst e;simp
 ·have h:¬(Sum.inl a:Key)=Sum.inl b:=λ q=>e (Sum.inl.inj q);rw[decide_eq_false h];exact (beq_eq_false_iff_ne.mpr e).symm
def OO(a b:Str):decide ((Sum.inr a:Key)=Sum.inr b)=decide (a=b):=by
 by_cases e:a=b
 ·subst e;simp
 ·have h:¬(Sum.inr a:Key)=Sum.inr b:=λ q=>e (Sum.inr.inj q);rw[decide_eq_false h,decide_eq_false e]
def OQ(a:Int)(b:Str):decide ((Sum.inl a:Key)=Sum.inr b)=false:=decide_eq_false (λ q=>nomatch q)
def OP(a:Str)(b:Int):decide ((Sum.inr a:Key)=Sum.inl b)=false:=decide_eq_false (λ q=>nomatch q)
def cI(prog:Program)(w:World):PySem.KeyKind prog w Key where
 is:=oW
 hash:=XJ w
 inj:=λ v a b ha hb=>by
  rcases bJ ha with ⟨i,t,rfl,rfl⟩|⟨x,t,rfl,rfl⟩
  ·rcases bJ hb with ⟨j,u,rfl,e⟩|⟨y,u,rfl,e⟩
   ·injection e with e1 _;rw[e1]
   ·exact nomatch e
  ·rcases bJ hb with ⟨j,u,rfl,e⟩|⟨y,u,rfl,e⟩
   ·exact nomatch e
   ·injection e with e1 _;rw[e1]
 byValue:=λ k v h=>by
  rcases bJ h with ⟨i,t,rfl,rfl⟩|⟨x,t,rfl,rfl⟩<;>rfl
 pyHash:=λ hv h=>by
  rcases bJ hv with ⟨i,t,rfl,rfl⟩|⟨x,t,rfl,rfl⟩
  ·exact wpAny_pyHash_int h
  ·exact wpAny_pyHash_str h
 eqBool:=λ hu hv h=>by
  rcases bJ hu with ⟨i,t,rfl,rfl⟩|⟨x,t,rfl,rfl⟩
  ·rcases bJ hv with ⟨j,u,rfl,rfl⟩|⟨y,u,rfl,rfl⟩
   ·rw[OR] at h;exact wpAny_eqBool_int h
   ·rw[OQ] at h;exact SeqAt.EqAt.int_str i t y u _ _ _ _ h
  ·rcases bJ hv with ⟨j,u,rfl,rfl⟩|⟨y,u,rfl,rfl⟩
   ·rw[OP] at h;exact SeqAt.EqAt.str_int x t j u _ _ _ _ h
   ·rw[OO] at h;exact wpAny_eqBool_str h
 «strs»:=λ k x t v h=>by
  rcases bJ h with ⟨i,u,rfl,e⟩|⟨y,u,rfl,e⟩
  ·exact nomatch e
  ·injection e with e1 _
   subst e1
   cases v<;>rfl
def OG(prog:Program)(w:World)(k:Key)(v:Value):(cI prog w).is k v=oW k v:=rfl
def yI(prog:Program)(w:World)(i:Int)(t:Tok):(cI prog w).is (.inl i) (.int i t)=true:=DX i t
def yH(prog:Program)(w:World)(x:Str)(t:Tok):(cI prog w).is (.inr x) (.str x t)=true:=DW x t
inductive V where
 |eU|bl (b:Bool)|int (i:Int)|str (x:Str)|UL (b:Array UInt8)|Ug (b:UInt64)|ref (a:Addr)|ty (n:String)
 deriving DecidableEq
noncomputable def RelV:V->Value->Prop
 | .eU,u=>u=Value.none
 | .bl b,u=>u=Value.bool b
 | .int i,u=>∃t,u=Value.int i t
 | .str x,u=>∃t,u=Value.str x t
 | .UL b,u=>∃t,u=Value.bytes b t
 | .Ug b,u=>∃t,u=Value.float b t
 | .ref a,u=>u=Value.ref a
 | .ty n,u=>u=Value.type n
abbrev Vals:List V->List Value->Prop:=Paired RelV
theorem Vals.length{xs:List V}{us:List Value}(r:Vals xs us):xs.length=us.length:=Paired.length r
theorem Vals.get:∀{xs:List V} {us:List Value} {i:Nat} {x:V},Vals xs us->xs[i]? =some x->∃u,us[i]? =some u/\RelV x u
 |_,_,_,_,.nil,e=>by simp at e
 |_,_,0,_,.cons r _,e=>by simp at e;subst e;exact af _ rfl r
 |_,_,i+1,x,.cons _ t,e=>by refine ah (λ u h1 h2=>?_) (Vals.get (i:=i) (x:=x) t (by simpa using e));exact af u (by simpa using h1) h2
theorem Vals.set(r:RelV x u):∀{xs:List V} {us:List Value} (i:Nat),Vals xs us->Vals (xs.set i x) (us.set i u)
 |_,_,_,.nil=> .nil
 |_,_,0,.cons _ t=> .cons r t
 |_,_,i+1,.cons q t=> .cons q (Vals.set r i t)
theorem Vals.append:∀{xs ys:List V} {us ws:List Value},Vals xs us->Vals ys ws->Vals (xs++ys) (us++ws)
 |_,_,_,_,.nil,s=>s
 |_,_,_,_,.cons r t,s=> .cons r (Vals.append t s)
theorem Vals.take:∀{xs:List V} {us:List Value} (n:Nat),Vals xs us->Vals (xs.take n) (us.take n)
 |_,_,0,_=> .nil
 |_,_,_+1,.nil=> .nil
 |_,_,n+1,.cons r t=> .cons r (Vals.take n t)
theorem Vals.drop:∀{xs:List V} {us:List Value} (n:Nat),Vals xs us->Vals (xs.drop n) (us.drop n)
 |_,_,0,r=>r
 |_,_,_+1,.nil=> .nil
 |_,_,n+1,.cons _ t=>Vals.drop n t
def rG:Option V->Option Value->Prop
 |some v,some u=>RelV v u
 |none,none=>True
 |_,_=>False
def KV{κ:Type}:List (κ×V)->List (κ×Value)->Prop:=Paired λ(p:κ×V) (q:κ×Value)=>p.1=q.1/\RelV p.2 q.2
def kV:Key->V
 | .inl i=> .int i
 | .inr x=> .str x
inductive HO where
 /-- a list -/
 |lst (xs:List V)
 /-- a tuple (never changes) -/
 |tup (xs:List V)
 /-- a dict RB keys are ints and texts;one RB keys are tuples of ints and texts (zP empty one is both) -/
 |dK (kvs:List (Key×V))|dT (kvs:List (List Key×V))
 /-- a set of ints:its members,its size -/
 |set (S:Int->Bool) (n:Nat)
 /-- an instance of zP class at C,its dict at dx,its attributes -/
 |ins (C dx:Addr) (fs:List (Str×V))
 /-- zP dict of zP instance at x -/
 |own (x:Addr)
 /-- zP dict of an exception -/
 |xd (fs:List (Str×V))
 /-- a bound method,f of x -/
 |met (f x:Addr)
 /-- a range object lo,lo+1,.. below hi -/
 |Vu (lo hi:Int)
 /-- a thing xZ is known to zP object (zP script;a dict while a loop walks it):read,never written while it is so -/
 |jI (o:Obj) (u:HO)
 /-- a code SW table -/
 |Jb (ps:Array Value)
 /-- any other thing,by what is true of its one object (a def of Zm own:ab8 a S n:=HO.ext λ h=> ..) -/
 |ext (φ:Heap->Prop)
 /-- zP table of a code object within which one ON is made,at p,of zP long name q -/
 |Ei (p:Pos) (q:Str)
noncomputable abbrev Hp:=Addr->Option HO
def upd(H:Hp)(a:Addr)(o:HO):Hp:=λ b=>if b=a then some o else H b
def aI{H:Hp}{a:Addr}{o:HO}:upd H a o a=some o:=by unfold upd;rw[if_pos rfl]
def aB{H:Hp}{a b:Addr}{o:HO}(h:b≠a):upd H a o b=H b:=by unfold upd;rw[if_neg h]
def To{H:Hp}{a b:Addr}{o u:HO}(h:H a=some o)(h':H b=some u)(d:o≠u):a≠b:=by intro e;subst e;rw[h] at h';exact d (Option.some.inj h')
def bO{H:Hp}{a b:Addr}{o:HO}(h:H a=some o)(h':H b=none):a≠b:=by intro e;subst e;rw[h] at h';cases h'
section
variable(P:Program)(w:World)
noncomputable def Il(q:Str)(oc:Obj):Prop:=∃vs t,oc.data= .fields vs/\vs[1]? =some (.str q t)
def bQ(H:Hp)(h:Heap)(a:Addr):HO->Prop
 | .lst xs=>xs.length<=sizeLine/\∃(its:List Value) (n:Nat),Vals xs its/\h.get? a=some {cls:= .type "list",data:= .seq its.toArray n}
 | .tup xs=>xs.length<=sizeLine/\∃its:List Value,Vals xs its/\IsTup h a its.toArray
 | .dK kvs=>kvs.length<=sizeLine/\(a==sysModules)=false/\∃vs,KV kvs vs/\h.DictOf (cI P w) a vs
 | .dT kvs=>kvs.length<=sizeLine/\(a==sysModules)=false/\∃xs:List (List Key×Addr×Value),Paired (λ(p:List Key×V) (q:List Key×Addr×Value)=>p.1=q.1/\H q.2.1=some (.tup (p.1.map kV))/\RelV p.2 q.2.2) kvs xs/\∃o es ep,h.get? a=some o/\o.ExactDict/\o.data= .dict es ep/\es.toList=xs.map (entryOfKey (tupleKind (cI P w)))/\(xs.map (·.1)).Nodup
 | .set S n=>h.SetOf (intKind P w) a S n
 | .ins C dx fs=>H dx=some (.own a)/\fs.length<=1000/\dx≠a/\h.get? a=some (W.instObj C dx)/\∃mA,h.Ns1 dx mA/\(∀f,rG (fs.lookup f) (mA f))/\PySem.Within mA (fs.map (·.1))
 | .own _=>∃o,h.get? a=some o
 | .xd fs=>∃mA,h.Ns1 a mA/\∀f,rG (fs.lookup f) (mA f)
 | .Vu lo hi=>∃t u v,h.get? a=some {cls:= .type "range",data:= .fields #[.int lo t,.int hi u,.int 1 v]}
 | .jI o u=>h.get? a=some o/\bQ H h a u
 | .Jb ps=>h.get? a=some {cls:= .none,data:= .fields ps}
 | .met f x=>h.get? a=some (W.methodObj (.ref f) (.ref x))
 | .ext φ=>φ h/\(∃o,h.get? a=some o)/\∀h1 h2:Heap,φ h1->(∀o,h1.get? a=some o->h2.get? a=some o)->φ h2
 | .Ei p q=>∃ps:Array Value,h.get? a=some {cls:= .none,data:= .fields ps}/\TriplesOk ps.toList/\∀cv,codeAmong p ps.toList=some cv->∃c' oc,cv= .ref c'/\H c'=some (.jI oc (.own a))/\Il q oc
def kh(H:Hp)(h:Heap):Prop:=∀a o,H a=some o->bQ P w H h a o
end
section
variable{P:Program}{w:World}{H H':Hp}{h h':Heap}{a:Addr}{o:HO}
theorem bQ.lt(x:bQ P w H h a o):a<h.objs.size:=by
 cases o with
 |lst xs=>refine bS (λ _=>aQ λ _ _ _ e=>?_) x;exact Heap.lt_size e
 |tup xs=>refine bS (λ _=>ah λ _ _ p=>?_) x;exact p.lt
 |dK kvs=>refine aW (λ _ _=>ah λ _ _=>bN λ o _ _ e _=>?_) x;exact Heap.lt_size e
 |dT kvs=>refine aW (λ _ _=>ah λ _ _=>bN λ o _ _ e _=>?_) x;exact Heap.lt_size e
 |set S n=>refine Ai (λ o _ _ _ e _=>?_) x;exact Heap.lt_size e
 |ins C dx fs=>refine iT (λ _ _ _ e _=>?_) x;exact Heap.lt_size e
 |own y=>obtain ⟨_,e⟩:=x;exact Heap.lt_size e
 |xd fs=>revert x;refine ah λ _ z _=>?_;revert z;refine bN λ _ _ _ e _=>?_;exact Heap.lt_size e
 |Vu lo hi=>refine qb (λ _ _ _ e=>?_) x;exact Heap.lt_size e
 |jI ob u=>obtain ⟨e,_⟩:=x;exact Heap.lt_size e
 |Jb ps=>exact Heap.lt_size (show h.get? a=some _ from x)
 |met f y=>exact Heap.lt_size (show h.get? a=some _ from x)
 |ext φ=>revert x;refine aW λ _ z _=>?_;obtain ⟨_,e⟩:=z;exact Heap.lt_size e
 |Ei p q=>obtain ⟨_,e,_⟩:=x;exact Heap.lt_size e
theorem Paired.J3{F G:α->β->Prop}:∀{l₁:List α} {l₂:List β},Paired F l₁ l₂->(∀a b,F a b->G a b)->Paired G l₁ l₂
 |_,_,.nil,_=> .nil
 |_,_,.cons r t,f=> .cons (f _ _ r) (Paired.J3 t f)
def bQ.stay(x:bQ P w H h a o)(k:∀b u,(b=a\/H b=some (.own a))->h.get? b=some u->h'.get? b=some u) (ho:∀b,H b=some (.own a)->H' b=some (.own a)) (ht:∀b xs,H b=some (.tup xs)->H' b=some (.tup xs)) (hz:∀b ob y,H b=some (.jI ob (.own y))->H' b=some (.jI ob (.own y))):bQ P w H' h' a o:=by
 induction o with
 |lst xs=>revert x;refine bS λ z=>aQ λ its n r e=>?_;exact ⟨z,aM its n r (k _ _ (.inl rfl) e)⟩
 |tup xs=>revert x;refine bS λ z=>ah λ its r=>ah λ ob e c=>?_;exact ⟨z,af its r (af ob (k _ _ (.inl rfl) e) c)⟩
 |dK kvs=>revert x;refine aW λ z y=>ah λ vs r=>bN λ ob es ep e c=>?_;exact aS z y (af vs r (g8 ob es ep (k _ _ (.inl rfl) e) c))
 |dT kvs=>
  revert x;refine aW λ z y=>ah λ xs r=>bN λ ob es ep e c=>?_
  exact aS z y (af xs (Paired.J3 r λ p q z=>aS z.1 (ht _ _ z.2.1) z.2.2) (g8 ob es ep (k _ _ (.inl rfl) e) c))
 |set S n=>revert x;refine Ai λ ob es ep t e c=>?_;exact NH ob es ep t (k _ _ (.inl rfl) e) c
 |ins C dx fs=>
  revert x;refine iT λ d z ne e=>ah λ mA z1 r=>?_;revert z1;refine bN λ od es ep e2 c=>?_
  exact lH (ho _ d) z ne (k _ _ (.inl rfl) e) (af mA (g8 od es ep (k _ _ (.inr d) e2) c) r)
 |own y=>obtain ⟨ob,e⟩:=x;exact ⟨ob,k _ _ (.inl rfl) e⟩
 |xd fs=>revert x;refine ah λ mA z1 r=>?_;revert z1;refine bN λ od es ep e c=>?_;exact af mA (g8 od es ep (k _ _ (.inl rfl) e) c) r
 |Vu lo hi=>revert x;refine qb λ t u v e=>?_;exact ⟨t,u,v,k _ _ (.inl rfl) e⟩
 |jI ob u ih=>obtain ⟨e,q⟩:=x;exact ⟨k _ _ (.inl rfl) e,ih q⟩
 |Jb ps=>have e:h.get? a=some {cls:= .none,data:= .fields ps}:=x;show h'.get? a=some {cls:= .none,data:= .fields ps};exact k a _ (.inl rfl) e
 |met f y=>have e:h.get? a=some (W.methodObj (.ref f) (.ref y)):=x;show h'.get? a=some (W.methodObj (.ref f) (.ref y));exact k a _ (.inl rfl) e
 |ext φ=>revert x;refine aW λ p z1 st=>?_;obtain ⟨o,e⟩:=z1;exact aS (st _ _ p λ o q=>k _ _ (.inl rfl) q) ⟨o,k _ _ (.inl rfl) e⟩ st
 |Ei p q=>obtain ⟨ps,e,t,f⟩:=x;refine ⟨ps,k _ _ (.inl rfl) e,t,λ cv hc=>?_⟩;obtain ⟨c',oc,e1,e2,e3⟩:=f cv hc;exact ⟨c',oc,e1,hz _ _ _ e2,e3⟩
theorem kh.lt(x:kh P w H h)(e:H a=some o):a<h.objs.size:=(x a o e).lt
def kh.fresh(x:kh P w H h)(e:h.objs.size<=a):H a=none:=by
 cases q:H a with
 |none=>rfl
 |some u=>exact absurd (Nat.lt_of_lt_of_le (x.lt q) e) (Nat.lt_irrefl _)
def kh.kept(x:kh P w H h)(k:∀b u,h.get? b=some u->h'.get? b=some u):kh P w H h':=λ a o e=>(x a o e).stay (λ b u _ q=>k b u q) (λ _ q=>q) (λ _ _ q=>q) λ _ _ _ q=>q
def kh.laid(x:kh P w H h)(k:∀b u,h.get? b=some u->h'.get? b=some u)(hp:h.objs.size<=a)(new:bQ P w (upd H a o) h' a o):kh P w (upd H a o) h':=λ b u e=>by
 have hn:=x.fresh hp;by_cases hb:b=a
 ·subst hb;rw[aI] at e;cases e;exact new
 ·rw[aB hb] at e;exact (x b u e).stay (λ c v _ q=>k c v q) (λ c q=>by rw[aB (bO q hn)];exact q) (λ c xs q=>by rw[aB (bO q hn)];exact q) λ c ob y q=>by rw[aB (bO q hn)];exact q
end
def Rd(H:Hp)(a:Addr)(u:HO):Prop:=H a=some u\/∃o,H a=some (.jI o u)
def Rd.ok{P:Program}{w:World}{H:Hp}{h:Heap}{a:Addr}{u:HO}(r:Rd H a u)(x:kh P w H h):bQ P w H h a u:=by
 rcases r with r|⟨o,r⟩
 ·exact x a u r
 ·obtain ⟨_,q⟩:=x a _ r;exact q
def U7:Option HO->Prop
 |some (.lst _)=>True
 |some (.dK _)=>True
 |some (.dT _)=>True
 |some (.set _ _)=>True
 |some (.ins _ _ _)=>True
 |some (.ext _)=>True
 |_=>False
section
variable{P:Program}{w:World}{H:Hp}{h h':Heap}{x e:Addr}{o':HO}
def kh.write(ok:kh P w H h)(mu:U7 (H x))(he:e=x\/H e=some (.own x))(k:∀b u,b≠e->h.get? b=some u->h'.get? b=some u)(Rb:∃u,h'.get? e=some u) (new:bQ P w (upd H x o') h' x o'):kh P w (upd H x o') h':=λ b u q=>by
 have Ti:∀c y,H c=some (.own y)->c≠x:=λ c y r z=>by subst z;rw[r] at mu;exact mu
 have Xm:∀c xs,H c=some (.tup xs)->c≠x:=λ c xs r z=>by subst z;rw[r] at mu;exact mu
 by_cases hb:b=x
 ·subst hb;rw[aI] at q;cases q;exact new
 ·rw[aB hb] at q;by_cases Pb:b=e
  ·have q':H b=some (.own x):=by
    rcases he with z|z
    ·exact absurd (Pb.trans z) hb
    ·rw[Pb];exact z
   rw[q] at q';cases q';obtain ⟨v,hv⟩:=Rb;exact ⟨v,by rw[Pb];exact hv⟩
  ·refine (ok b u q).stay (λ c v hc r=>k c v ?_ r) (λ c r=>by rw[aB (Ti c b r)];exact r) (λ c xs r=>by rw[aB (Xm c xs r)];exact r) λ c ob y r=>by rw[aB λ z=>by subst z;rw[r] at mu;exact mu];exact r
   rcases hc with rfl|hc
   ·exact Pb
   ·rintro rfl
    rcases he with z|z
    ·exact Ti c b hc z
    ·rw[hc] at z;cases z;exact hb rfl
end
structure Un(fs ex:List Addr)(H H':Hp)(h h':Heap):Prop where
 keep:∀b o,h.get? b=some o->H b=none->b∉fs->b∉ex->h'.get? b=some o
 slot:∀b o,h.get? b=some o->H b=none->b∈fs->b∉ex->∃sl,h'.get? b=some {o with slots:=sl}
 free:∀b o,h.get? b=some o->H b=none->b∉ex->H' b=none
 there:∀b o,h.get? b=some o->b∉ex->∃o',h'.get? b=some o'
 tups:∀b xs,H b=some (.tup xs)->H' b=some (.tup xs)
 lR:∀b o u,H b=some (.jI o u)->H' b=some (.jI o u)
 mw:∀b ps,H b=some (.Jb ps)->∃more,H' b=some (.Jb (ps++more))
section
variable{fs fs' ex ex':List Addr}{H H1 H2:Hp}{h h1 h2 h':Heap}{a x e:Addr}{o:HO}
def Un.any(u:Un fs ex H H1 h h1){b:Addr}{ob:Obj}(q:h.get? b=some ob)(n:H b=none)(hx:b∉ex):∃sl,h1.get? b=some {ob with slots:=sl}:=by
 by_cases hb:b∈fs
 ·exact u.slot b ob q n hb hx
 ·exact ⟨ob.slots,u.keep b ob q n hb hx⟩
def Un.kept(k:∀b u,h.get? b=some u->h'.get? b=some u):Un fs ex H H h h':=⟨λ b ob q _ _ _=>k b ob q,λ b ob q _ _ _=>⟨ob.slots,k b ob q⟩,λ _ _ _ n _=>n,λ b ob q _=>⟨ob,k b ob q⟩,λ _ _ q=>q,λ _ _ _ q=>q,λ _ ps q=>⟨#[],by rw[q];simp⟩⟩
def Un.refl:Un fs ex H H h h:=Un.kept λ _ _ q=>q
def Un.laid(k:∀b u,h.get? b=some u->h'.get? b=some u)(hp:h.objs.size<=a)(hn:H a=none):Un fs ex H (upd H a o) h h' where
 keep:=λ b u q _ _ _=>k b u q
 slot:=λ b u q _ _ _=>⟨u.slots,k b u q⟩
 free:=λ b u q n _=>by rw[aB (Nat.ne_of_lt (Nat.lt_of_lt_of_le (Heap.lt_size q) hp))];exact n
 there:=λ b u q _=>⟨u,k b u q⟩
 tups:=λ b xs q=>by rw[aB (bO q hn)];exact q
 lR:=λ b u xs q=>by rw[aB (bO q hn)];exact q
 mw:=λ b ps q=>⟨#[],by rw[aB (bO q hn),q];simp⟩
def Un.write(mu:U7 (H x))(he:e=x\/H e=some (.own x))(k:∀b u,b≠e->h.get? b=some u->h'.get? b=some u)(Rb:∃u,h'.get? e=some u):Un fs ex H (upd H x o) h h':=by
 have hx:∀b,H b=none->b≠x:=λ b n z=>by subst z;rw[n] at mu;exact mu
 have hb:∀b,H b=none->b≠e:=λ b n z=>by
  subst z;rcases he with r|r
  ·exact hx b n r
  ·rw[n] at r;cases r
 have hm:∀b u,H b=some u->¬U7 (some u)->b≠x:=λ b u q nm z=>by subst z;rw[q] at mu;exact nm mu
 refine ⟨λ b u q n _ _=>k b u (hb b n) q,λ b u q n _ _=>⟨u.slots,k b u (hb b n) q⟩,λ b u q n _=>by rw[aB (hx b n)];exact n,λ b u q _=>?_,λ b xs q=>by rw[aB (hm b _ q λ z=>z)];exact q,λ b u xs q=>by rw[aB (hm b _ q λ z=>z)];exact q,λ b ps q=>⟨#[],by rw[aB (hm b _ q λ z=>z),q];simp⟩⟩;by_cases Pb:b=e
 ·subst Pb;exact Rb
 ·exact ⟨u,k b u Pb q⟩
end
def Vl(h:Heap)(H:Hp):List Addr:=(List.range h.objs.size).filter λ a=>(H a).isSome
def uV(h:Heap)(H:Hp):Heap:=W.hideAll h (Vl h H)
def D8(h:Heap)(H:Hp):(uV h H).objs.size=h.objs.size:=W.hideAll_size _ _
def G8(e:h.get? b=some o)(n:H b=none):(uV h H).get? b=some o:=W.hideAll_get _ e λ hm=>by have q:(H b).isSome=true:=(List.mem_filter.mp hm).2;rw[n] at q;simp at q
def JU(e:(uV h H).get? b=some o):h.get? b=some o/\H b=none:=by
 have e':h.get? b=some o:=W.of_hideAll (Vl h H) e;refine ⟨e',?_⟩;cases q:H b with
 |none=>rfl
 |some x=>have hm:b∈Vl h H:=List.mem_filter.mpr ⟨List.mem_range.mpr (Heap.lt_size e'),by simp[q]⟩;have z:(uV h H).get? b=none:=W.hideAll_none (Vl h H) hm;rw[z] at e;cases e
noncomputable def K6(g h:Heap)(L:Addr):List (Addr×Obj):=(List.range h.objs.size).filterMap λ a=>if a=L\/(g.get? a).isSome=true then none else (h.get? a).map λ o=>(a,o)
def rest(g h:Heap)(L d:Addr):List (Addr×Obj):=(K6 g h L).filter λ p=>decide (p.1≠d)
structure Mod(K:W.Frag)(mg:Str->Option Value)(base:Heap):Prop where
 Q3:K.In base
 glob:base.Ns mainGlobals mg
 blt:∃mb,base.Ns builtinsNs mb/\∀x:Str,x≠"__name__"->mb x=bootBuiltins x
 nolimit:base.NoLimit
set_option genInjectivity false in
structure Cx where
 prog:Program
 w:World
 K:W.Frag
 mg:Str->Option Value
 base:Heap
 A:Around
 N:List Str
 s₀:Shared
 H₀:Hp
 env:Env
 outer:List Env
 stack:List Env
 ex:List Addr
 fn:Str->Bool
 calm:Bool
 pn:List (Addr×Obj)
 xe:Value->Shared->Prop
noncomputable def frs(l:List Env):List Addr:=l.filterMap (·.frame)
abbrev Cx.fs(X:Cx):List Addr:=frs X.outer
noncomputable def Ic(sc:Scope)(x:Str):Prop:=sc.names.lookup x=some .local\/sc.names.lookup x=some .cell\/sc.names.lookup x=some .free
noncomputable def Loc(sc:Scope)(x:Str):Prop:=sc.names.lookup x=some .local\/sc.names.lookup x=some .cell
noncomputable def Look(env:Env)(h:Heap)(m:Str->Option Value)(x:Str)(u:Value):Prop:=(env.kindOf x=some .local/\m x=some u)\/((env.kindOf x=some .cell\/env.kindOf x=some .free)/\∃c,env.cells.lookup x=some c/\h.IsCell c (some u))
set_option genInjectivity false in
structure Cx.Ok(X:Cx):Prop where
 mod:Mod X.K X.mg X.base
 kind:X.env.scope.kind= .function
 glob:X.env.globals=mainGlobals
 blt:X.env.builtins=builtinsNs
 above:X.s₀.heap.objs.size<=X.env.locals
 inj:∀x y c,X.env.cells.lookup x=some c->X.env.cells.lookup y=some c->x=y
 has:∀x,(X.env.kindOf x=some .cell\/X.env.kindOf x=some .free)->∃c,X.env.cells.lookup x=some c
 UI:∀x c,X.fn x=true->X.env.cells.lookup x=some c->X.s₀.heap.objs.size<=c
 hd:X.calm=true->X.A.handled=none
 frames:X.A.frames=some X.stack
 stk:X.stack=X.outer\/(X.stack=X.env::X.outer/\X.env.frame=some X.env.locals)
 Yo:∀b∈X.ex,b≠X.env.locals/\∀x c,X.env.cells.lookup x=some c->c≠b
 bs:∀b o,X.base.get? b=some o->X.s₀.heap.get? b=some o/\X.H₀ b=none
 Ma:X.base.objs.size<=X.s₀.heap.objs.size
 Gk:∀b o,X.base.get? b=some o->b∉X.ex
 Ho:∀b∈X.ex,b∉X.fs
 qS:X.s₀.heap.FunFrames X.base X.outer
 Rf:∀b∈X.fs,X.H₀ b=none
structure Inv(X:Cx)(pins:List (Addr×Obj))(σ:List (Option V))(H:Hp)(s:Shared):Prop where
 ok:X.Ok
 os:s.os=X.s₀.os
 bare:AllBare s.gens
 base:Un X.fs X.ex X.H₀ H X.s₀.heap s.heap
 loc:∃m,s.heap.Ns X.env.locals m/\∀(i:Nat) (x:Str) (v:V),X.N[i]? =some x->σ[i]? =some (some v)->Ic X.env.scope x->∃u,RelV v u/\Look X.env s.heap m x u
 cell:∀x c,X.env.cells.lookup x=some c->∃v,s.heap.IsCell c v
 free:H X.env.locals=none
 dX:∀x c,X.env.cells.lookup x=some c->H c=none
 pin:∀p∈X.pn++pins,s.heap.get? p.1=some p.2/\H p.1=none/\p.1≠X.env.locals/\p.1∉X.fs/\∀v,p.2.data≠.cell v
 hok:kh X.prog X.w H s.heap
 len:σ.length=X.N.length
section
variable{X:Cx}{pins:List (Addr×Obj)}{σ:List (Option V)}{H H':Hp}{s:Shared}{h':Heap}
def Cx.Ok.Xs(ok:X.Ok)(e:X.base.get? b=some o):b∉X.fs:=λ hb=>by have:=(ok.qS.mem hb).1;rw[e] at this;cases this
theorem Inv.bs(I:Inv X pins σ H s):∀b o,X.base.get? b=some o->s.heap.get? b=some o/\H b=none:=λ b o e=>⟨I.base.keep b o (I.ok.bs b o e).1 (I.ok.bs b o e).2 (I.ok.Xs e) (I.ok.Gk b o e),I.base.free b o (I.ok.bs b o e).1 (I.ok.bs b o e).2 (I.ok.Gk b o e)⟩
def Inv.bk(I:Inv X pins σ H s):∀b o,X.base.get? b=some o->s.heap.get? b=some o:=λ b o e=>(I.bs b o e).1
theorem Inv.mod(I:Inv X pins σ H s):Mod X.K X.mg X.base:=I.ok.mod
def Inv.DY(I:Inv X pins σ H s):X.K.In s.heap:=I.ok.mod.Q3.keeps I.bk
theorem Inv.nolimit(I:Inv X pins σ H s):s.heap.NoLimit:=I.ok.mod.nolimit.keeps I.bk
theorem Inv.lt(I:Inv X pins σ H s):X.env.locals<s.heap.objs.size:=let ⟨_,hn,_⟩:=I.loc;hn.lt
def Inv.sz(I:Inv X pins σ H s):X.s₀.heap.objs.size<=s.heap.objs.size:=Nat.le_trans I.ok.above (Nat.le_of_lt I.lt)
def Inv.Xr(I:Inv X pins σ H s)(h:s.heap.objs.size<=a):a∉X.fs:=λ hb=>by refine bS (λ _=>ah λ o ho _=>?_) (I.ok.qS.mem hb);exact absurd (Nat.lt_of_lt_of_le (Heap.lt_size ho) (Nat.le_trans I.sz h)) (Nat.lt_irrefl _)
def Inv.HC(I:Inv X pins σ H s):∀x c,X.env.cells.lookup x=some c->c≠X.env.locals:=λ x c e z=>by refine aQ (λ v o ho hd=>?_) (I.cell x c e);refine ah (λ m y _=>?_) I.loc;revert y;refine dO λ o' es ep ho' hd' _=>?_;rw[z,ho'] at ho;cases ho;rw[hd'] at hd;cases hd
theorem Inv.qS(I:Inv X pins σ H s):s.heap.FunFrames X.base X.outer:=by
 have all:∀(l:List Env),(∀b∈frs l,b∈X.fs)->X.s₀.heap.FunFrames X.base l->s.heap.FunFrames X.base l:=by
  intro l;induction l with
  |nil=>intro _ _;trivial
  |cons env r ih=>
   intro hs hl
   revert hl;refine aW λ hk y hr=>?_;revert y;refine aN λ L o hf hn ho hd=>?_
   have hL:L∈X.fs:=hs L (by unfold frs;rw[List.filterMap_cons,hf];exact List.mem_cons_self);obtain ⟨sl,e⟩:=I.base.slot L o ho (I.ok.Rf L hL) hL λ z=>I.ok.Ho L z hL;exact aS hk (bg L _ hf hn e hd) (ih (λ b hb=>hs b (by unfold frs;rw[List.filterMap_cons,hf];exact List.mem_cons_of_mem _ hb)) hr)
 exact all X.outer (λ _ hb=>hb) I.ok.qS
theorem Inv.stack(I:Inv X pins σ H s):s.heap.FunFrames X.base X.stack:=by
 rcases I.ok.stk with e|⟨e,hf⟩
 ·rw[e];exact I.qS
 ·rw[e];refine ah (λ m hn _=>?_) I.loc;refine .cons (by rw[I.ok.kind];decide) hf hn ?_ I.qS;exact Heap.get?_none_of_le (Nat.le_trans I.ok.Ma I.ok.above)
def Inv.Ab(I:Inv X pins σ H s):∀b∈frs X.stack,b∈X.env.locals::X.fs:=λ b hb=>by
 rcases I.ok.stk with e|⟨e,hf⟩
 ·rw[e] at hb;exact List.mem_cons_of_mem _ hb
 ·rw[e] at hb;unfold frs at hb;rw[List.filterMap_cons,hf] at hb;exact hb
def Inv.mz(I:Inv X pins σ H s):∀b∈frs X.stack,H b=none:=λ b hb=>by
 rcases List.mem_cons.mp (I.Ab b hb) with e|hb
 ·rw[e];exact I.free
 ·refine bS (λ _=>ah λ o ho _=>?_) (I.ok.qS.mem hb);exact I.base.free b o ho (I.ok.Rf b hb) λ z=>I.ok.Ho b z hb
def Inv.step{g':Array GenState}{t':Nat}{d':Drawn}{ch:List Addr}(I:Inv X pins σ H s) (hch:∀b∈ch,(b∈X.ex\/X.s₀.heap.objs.size<=b)/\b≠X.env.locals/\(∀x c,X.env.cells.lookup x=some c->c≠b)/\∀p∈X.pn++pins,p.1≠b) (keep:∀b o,b≠X.env.locals->b∉X.fs->b∉ch->s.heap.get? b=some o->H b=none->h'.get? b=some o) (slot:∀b o,b≠X.env.locals->b∈X.fs->b∉ch->s.heap.get? b=some o->H b=none->∃sl,h'.get? b=some {o with slots:=sl}) (free:∀b o,b∉ch->s.heap.get? b=some o->H b=none->H' b=none) (there:∀b o,b∉ch->s.heap.get? b=some o->∃o',h'.get? b=some o') (tups:∀b xs,H b=some (.tup xs)->H' b=some (.tup xs)) (lR:∀b o u,H b=some (.jI o u)->H' b=some (.jI o u)) (mw:∀b ps,H b=some (.Jb ps)->∃more,H' b=some (.Jb (ps++more))) (ns:∀m,s.heap.Ns X.env.locals m->h'.Ns X.env.locals m) (hok:kh X.prog X.w H' h') (hg:AllBare g'):
  Inv X pins σ H' {s with heap:=h',gens:=g',drawn:=d',toks:=t'}:=by
 have Zr:∀b o,X.s₀.heap.get? b=some o->b≠X.env.locals:=λ b o e=>Nat.ne_of_lt (Nat.lt_of_lt_of_le (Heap.lt_size e) I.ok.above);have VI:∀b o,X.s₀.heap.get? b=some o->b∉X.ex->b∉ch:=λ b o e hx hb=>by
  rcases (hch b hb).1 with z|z
  ·exact hx z
  ·exact absurd (Nat.lt_of_lt_of_le (Heap.lt_size e) z) (Nat.lt_irrefl _)
 have cellK:∀x c,X.env.cells.lookup x=some c->∀v,s.heap.IsCell c v->h'.IsCell c v:=λ x c e v ⟨o,ho,hd⟩=>by
  have Tr:c∉ch:=λ z=>(hch c z).2.2.1 x c e rfl;by_cases hc:c∈X.fs
  ·obtain ⟨sl,q⟩:=slot c o (I.HC x c e) hc Tr ho (I.dX x c e);exact af _ q hd
  ·exact af o (keep c o (I.HC x c e) hc Tr ho (I.dX x c e)) hd
 refine ⟨I.ok,I.os,hg,⟨λ b o e n hb hx=>?_,λ b o e n hb hx=>?_,λ b o e n hx=>?_,λ b o e hx=>?_,λ b xs e=>tups b xs (I.base.tups b xs e),λ b o xs e=>lR b o xs (I.base.lR b o xs e),λ b ps e=>?_⟩,?_,λ x c e=>?_,?_,λ x c e=>?_,λ p hp=>?_,hok,I.len⟩
 ·exact keep b o (Zr b o e) hb (VI b o e hx) (I.base.keep b o e n hb hx) (I.base.free b o e n hx)
 ·obtain ⟨sl,e1⟩:=I.base.slot b o e n hb hx;obtain ⟨Ex,e2⟩:=slot b _ (Zr b o e) hb (VI b o e hx) e1 (I.base.free b o e n hx);exact ⟨Ex,e2⟩
 ·obtain ⟨o',e1⟩:=I.base.there b o e hx;exact free b o' (VI b o e hx) e1 (I.base.free b o e n hx)
 ·obtain ⟨o',e1⟩:=I.base.there b o e hx;exact there b o' (VI b o e hx) e1
 ·obtain ⟨m1,e1⟩:=I.base.mw b ps e;obtain ⟨m2,e2⟩:=mw b _ e1;exact ⟨m1++m2,by rw[e2,Array.append_assoc]⟩
 ·refine ah (λ m hn hl=>?_) I.loc;refine af m (ns m hn) (λ i x v e1 e2 e3=>?_);refine ah (λ u r l=>?_) (hl i x v e1 e2 e3);refine af u r ?_;rcases l with l|⟨k,c,e,z⟩
  ·exact .inl l
  ·exact .inr (⟨k,af c e (cellK x c e _ z)⟩)
 ·obtain ⟨v,z⟩:=I.cell x c e;exact ⟨v,cellK x c e v z⟩
 ·refine ah (λ m y _=>?_) I.loc;revert y;refine bN λ o _ _ ho _=>?_;exact free _ o (λ z=>(hch _ z).2.1 rfl) ho I.free
 ·refine aQ (λ v o ho hd=>?_) (I.cell x c e);exact free c o (λ z=>(hch c z).2.2.1 x c e rfl) ho (I.dX x c e)
 ·refine iT (λ e n ne nf d=>?_) (I.pin p hp);have Tr:p.1∉ch:=λ z=>(hch p.1 z).2.2.2 p hp rfl;exact lH (keep p.1 p.2 ne nf Tr e n) (free p.1 p.2 Tr e n) ne nf d
def Inv.un{t':Nat}(I:Inv X pins σ H s)(u:Un X.fs [] H H' s.heap h')(hok:kh X.prog X.w H' h'):Inv X pins σ H' {s with heap:=h',toks:=t'}:=by
 refine ah (λ m y _=>?_) (id I.loc);revert y;refine bN λ o es ep ho r=>?_;obtain ⟨sl,hL⟩:=u.any ho I.free (by simp);exact I.step (g':=s.gens) (d':=s.drawn) (ch:=[]) (λ _ z=>nomatch z) (λ b o _ hb _ e n=>u.keep b o e n hb (by simp)) (λ b o _ hb _ e n=>u.slot b o e n hb (by simp)) (λ b o _ e n=>u.free b o e n (by simp)) (λ b o _ e=>u.there b o e (by simp)) u.tups u.lR u.mw (λ m' hm=>by
  revert hm;refine bN λ o' es' Yq ho' r'=>?_
  rw[ho] at ho';cases ho';exact g8 _ es' Yq hL r') hok I.bare
def Inv.call{g':Array GenState}{t':Nat}{d':Drawn}{ch:List Addr}(I:Inv X pins σ H s)(u:Un (frs X.stack) ch H H' s.heap h')(hok:kh X.prog X.w H' h')(hg:AllBare g') (hch:∀b∈ch,(b∈X.ex\/X.s₀.heap.objs.size<=b)/\b≠X.env.locals/\(∀x c,X.env.cells.lookup x=some c->c≠b)/\∀p∈X.pn++pins,p.1≠b):
  Inv X pins σ H' {s with heap:=h',gens:=g',drawn:=d',toks:=t'}:=by
 refine ah (λ m y _=>?_) (id I.loc);revert y;refine bN λ o es ep ho r=>?_;obtain ⟨sl,hL⟩:=u.any ho I.free λ z=>(hch _ z).2.1 rfl;exact I.step (ch:=ch) hch (λ b o hL hb hc e n=>u.keep b o e n (λ z=>(List.mem_cons.mp (I.Ab b z)).elim hL hb) hc) (λ b o _ _ hc e n=>u.any e n hc) (λ b o hc e n=>u.free b o e n hc) (λ b o hc e=>u.there b o e hc) u.tups u.lR u.mw (λ m' hm=>by
  revert hm;refine bN λ o' es' Yq ho' r'=>?_
  rw[ho] at ho';cases ho';exact g8 _ es' Yq hL r') hok hg
def Inv.turned{t':Nat}{it:Addr}(I:Inv X pins σ H s)(k:∀b o,b≠it->s.heap.get? b=some o->h'.get? b=some o)(hn:H it=none)(hL:it≠X.env.locals) (h1:it∈X.ex\/X.s₀.heap.objs.size<=it) (h2:∀x c,X.env.cells.lookup x=some c->c≠it) (h3:∀p∈X.pn++pins,p.1≠it):Inv X pins σ H {s with heap:=h',toks:=t'}:=by
 have LK:∀b u,H b=some u->b≠it:=λ b u e z=>by rw[z,hn] at e;cases e
 refine I.step (g':=s.gens) (d':=s.drawn) (ch:=[it]) (λ b hb=>?_) (λ b o _ _ hc e _=>k b o (λ z=>hc (by simp[z])) e) (λ b o _ _ hc e _=>⟨o.slots,k b o (λ z=>hc (by simp[z])) e⟩) (λ _ _ _ _ n=>n)
  (λ b o hc e=>⟨o,k b o (λ z=>hc (by simp[z])) e⟩) (λ _ _ e=>e) (λ _ _ _ e=>e) (λ b ps e=>⟨#[],by rw[e];simp⟩) (λ m hm=>?_) (λ b u e=>?_) I.bare
 ·have e:b=it:=by simpa using hb
  subst e;exact gz h1 hL h2 h3
 ·revert hm;refine bN λ o es ep ho r=>?_
  exact g8 o es ep (k _ o (Ne.symm hL) ho) r
 ·refine (I.hok b u e).stay (λ c v hc q=>k c v ?_ q) (λ _ q=>q) (λ _ _ q=>q) λ _ _ _ q=>q;rcases hc with z|z
  ·rw[z];exact LK b u e
  ·exact LK c _ z
def Inv.tok(I:Inv X pins σ H s)(t:Nat):Inv X pins σ H {s with toks:=t}:=I.un (h':=s.heap) (t':=t) Un.refl I.hok
theorem Inv.kept(I:Inv X pins σ H s)(k:∀b u,s.heap.get? b=some u->h'.get? b=some u):Inv X pins σ H {s with heap:=h',toks:=t'}:=I.un (Un.kept k) (I.hok.kept k)
theorem Inv.laid{a:Addr}{o:HO}{t':Nat}(I:Inv X pins σ H s)(k:∀b u,s.heap.get? b=some u->h'.get? b=some u)(hp:s.heap.objs.size<=a)(new:bQ X.prog X.w (upd H a o) h' a o):
  Inv X pins σ (upd H a o) {s with heap:=h',toks:=t'}:=I.un (Un.laid k hp (I.hok.fresh hp)) (I.hok.laid k hp new)
theorem Inv.write{x e:Addr}(I:Inv X pins σ H s)(mu:U7 (H x))(he:e=x\/H e=some (.own x))(k:∀b u,b≠e->s.heap.get? b=some u->h'.get? b=some u)(Rb:∃u,h'.get? e=some u)(new:bQ X.prog X.w (upd H x o) h' x o):Inv X pins σ (upd H x o) {s with heap:=h',toks:=t'}:=I.un (Un.write mu he k Rb) (I.hok.write mu he k Rb new)
def Inv.eu(I:Inv X pins σ H s)(h:∀p∈sS,s.heap.get? p.1=some p.2/\H p.1=none/\p.1≠X.env.locals/\p.1∉X.fs/\∀v,p.2.data≠.cell v):Inv X sS σ H s:=⟨I.ok,I.os,I.bare,I.base,I.loc,I.cell,I.free,I.dX,λ p hp=>(List.mem_append.mp hp).elim (λ z=>I.pin p (List.mem_append_left _ z)) (h p),I.hok,I.len⟩
def qA{N:List Str}(hN:N.Nodup){i j:Nat}{x:Str}(a:N[i]? =some x)(b:N[j]? =some x):i=j:=by obtain ⟨h1,e1⟩:=List.getElem?_eq_some_iff.mp a;obtain ⟨h2,e2⟩:=List.getElem?_eq_some_iff.mp b;exact (List.getElem_inj hN).mp (e1.trans e2.symm)
def sO{M:Model}{A:Around}{E:Value->Shared->Prop}{i:Nat}{x:Str}{v:V}{u:Value}{Q:Unit->Shared->Prop}(I:Inv X pins σ H s)(hN:X.N.Nodup)(hi:X.N[i]? =some x)(hx:Loc X.env.scope x)(r:RelV v u)
  (h:∀s',Inv X pins (σ.set i (some v)) H s'->(∃a,Heap.SameBut a s.heap s'.heap/\(a=X.env.locals\/X.env.cells.lookup x=some a))->Q () s') (hf:X.fn x=true\/X.env.scope.names.lookup x=some .local:=by first|exact .inl rfl|exact .inr rfl|assumption):wpAny M A (storeName X.env x u) Q E s:=by
 refine ah (λ m hn hl=>?_) (id I.loc)
 have hcls:(X.env.scope.kind== .class||(X.env.scope.kind== .module&&X.env.locals !=X.env.globals))=false:=by rw[I.ok.kind];rfl
 have Ua:i<σ.length:=by rw[I.len];exact (List.getElem?_eq_some_iff.mp hi).1
 have HC:=I.HC
 have tracked:∀{a:Addr} {h':Heap},(∃o,s.heap.get? a=some o/\H a=none)->Heap.SameBut a s.heap h'->kh X.prog X.w H h':=λ{a h'} ha hs b ob e=>by
  revert ha;refine ah λ _ _ hfree=>?_
  refine (I.hok b ob e).stay (λ c w' hc q=>(hs.2 c ?_).trans q) (λ _ q=>q) (λ _ _ q=>q) λ _ _ _ q=>q
  rintro rfl
  rcases hc with rfl|hc
  ·rw[hfree] at e;cases e
  ·rw[hfree] at hc;cases hc
 rcases hx with hk|hk
 ·refine wpAny_storeName_local hk hn (λ h' hn' hs=>?_) hcls
  refine bN (λ oL _ _ LU _=>?_) (id hn)
  refine h _ ⟨I.ok,I.os,I.bare,⟨λ b o e n hb hx=>?_,λ b o e n hb hx=>?_,I.base.free,λ b o e hx=>?_,I.base.tups,I.base.lR,I.base.mw⟩,af _ hn' (λ j y v' e1 e2 e3=>?_),λ y c e=>?_,I.free,I.dX,λ p hp=>?_,tracked (af oL LU I.free) hs,by simpa using I.len⟩ (af _ hs (.inl rfl))
  ·exact (hs.2 b (Nat.ne_of_lt (Nat.lt_of_lt_of_le (Heap.lt_size e) I.ok.above))).trans (I.base.keep b o e n hb hx)
  ·obtain ⟨sl,e1⟩:=I.base.slot b o e n hb hx
   exact ⟨sl,(hs.2 b (Nat.ne_of_lt (Nat.lt_of_lt_of_le (Heap.lt_size e) I.ok.above))).trans e1⟩
  ·obtain ⟨o',e1⟩:=I.base.there b o e hx
   exact ⟨o',(hs.2 b (Nat.ne_of_lt (Nat.lt_of_lt_of_le (Heap.lt_size e) I.ok.above))).trans e1⟩
  ·by_cases hj:j=i
   ·subst hj
    rw[hi] at e1;cases e1
    rw[List.getElem?_set_self Ua] at e2
    cases e2
    exact af u r (.inl ⟨hk,by simp⟩)
   ·rw[List.getElem?_set_ne (Ne.symm hj)] at e2
    refine ah (λ u' r' q=>?_) (hl j y v' e1 e2 e3)
    refine af u' r' ?_
    rcases q with ⟨k,e⟩|⟨k,c,e,z⟩
    ·refine .inl ⟨k,?_⟩
     have:y≠x:=λ e=>hj (qA hN e1 (e▸hi))
     simp[this,e]
    ·exact .inr (⟨k,af c e (z.sameBut hs (HC y c e))⟩)
  ·obtain ⟨w',z⟩:=I.cell y c e
   exact ⟨w',z.sameBut hs (HC y c e)⟩
  ·refine iT (λ e n ne nf d=>?_) (I.pin p hp)
   exact lH ((hs.2 p.1 ne).trans e) n ne nf d
 ·have hfn:X.fn x=true:=by
   rcases hf with z|z
   ·exact z
   ·rw[z] at hk;cases hk
  obtain ⟨c,hc⟩:=I.ok.has x (.inl hk)
  obtain ⟨w',z⟩:=I.cell x c hc
  refine wpAny_storeName_cell I.ok.kind hk hc z (λ h' hc' hs=>?_)
  refine ah (λ oc hoc X3=>?_) (id z)
  refine h {s with heap:=h'} ⟨I.ok,I.os,I.bare,⟨λ b o e n hb hx=>?_,λ b o e n hb hx=>?_,I.base.free,λ b o e hx=>?_,I.base.tups,I.base.lR,I.base.mw⟩,af m (hn.sameBut hs (Ne.symm (HC x c hc))) (λ j y v' e1 e2 e3=>?_),λ y c' e=>?_,I.free,I.dX,λ p hp=>?_,tracked (af oc hoc (I.dX x c hc)) hs,by simpa using I.len⟩ (af c hs (.inr hc))
  ·exact (hs.2 b (Nat.ne_of_lt (Nat.lt_of_lt_of_le (Heap.lt_size e) (I.ok.UI x c hfn hc)))).trans (I.base.keep b o e n hb hx)
  ·obtain ⟨sl,e1⟩:=I.base.slot b o e n hb hx
   exact ⟨sl,(hs.2 b (Nat.ne_of_lt (Nat.lt_of_lt_of_le (Heap.lt_size e) (I.ok.UI x c hfn hc)))).trans e1⟩
  ·obtain ⟨o',e1⟩:=I.base.there b o e hx
   exact ⟨o',(hs.2 b (Nat.ne_of_lt (Nat.lt_of_lt_of_le (Heap.lt_size e) (I.ok.UI x c hfn hc)))).trans e1⟩
  ·by_cases hj:j=i
   ·subst hj
    rw[hi] at e1;cases e1
    rw[List.getElem?_set_self Ua] at e2
    cases e2
    exact af u r (.inr (⟨.inl hk,af c hc hc'⟩))
   ·rw[List.getElem?_set_ne (Ne.symm hj)] at e2
    refine ah (λ u' r' q=>?_) (hl j y v' e1 e2 e3)
    refine af u' r' ?_
    rcases q with q|⟨k,c',e,z'⟩
    ·exact .inl q
    ·refine .inr (⟨k,af c' e (z'.sameBut hs ?_)⟩)
     rintro rfl
     exact hj (qA hN e1 (I.ok.inj _ _ _ e hc▸hi))
  ·by_cases hcc:c'=c
   ·subst hcc;exact ⟨_,hc'⟩
   ·obtain ⟨w2,z2⟩:=I.cell y c' e
    exact ⟨w2,z2.sameBut hs hcc⟩
  ·refine iT (λ e n ne nf d=>?_) (I.pin p hp)
   refine lH ((hs.2 p.1 ?_).trans e) n ne nf d
   intro q
   rw[q,hoc] at e
   have q':oc=p.2:=Option.some.inj e
   exact d w' (by rw[<-q'];exact X3)
def jv{M:Model}{v:V}{Q:Unit->Shared->Prop}(I:Inv X pins σ H s)(hN:X.N.Nodup)(hi:X.N[i]? =some x)(hx:Loc X.env.scope x)(r:RelV v u)(h:∀s',Inv X pins (σ.set i (some v)) H s'->Q () s')(hf:X.fn x=true\/X.env.scope.names.lookup x=some .local:=by first|exact .inl rfl|exact .inr rfl|assumption):wpAny M A (storeName X.env x u) Q E s:=sO I hN hi hx r (λ s' I' _=>h s' I') hf
def Inv.CB(I:Inv X pins σ H s)(ho:s'.os=s.os)(u:Un (frs X.stack) ch H H' s.heap s'.heap)(hok:kh X.prog X.w H' s'.heap)(hg:AllBare s'.gens)(hch:∀b∈ch,(b∈X.ex\/X.s₀.heap.objs.size<=b)/\b≠X.env.locals/\(∀x c,X.env.cells.lookup x=some c->c≠b)/\∀p∈X.pn++pins,p.1≠b):Inv X pins σ H' s':=by obtain ⟨h',g',d',t',o'⟩:=s';have e:o'=s.os:=ho;subst e;exact I.call (g':=g') (t':=t') (d':=d') u hok hg hch
end
abbrev XK:=Value->Option Addr->Hp->Prop
noncomputable abbrev St:=List (Option V)
abbrev VK:=V->Hp->Prop
abbrev TE:=St->Hp->VK->Prop
abbrev TT:=St->Hp->(Bool->Hp->Prop)->Prop
abbrev TA:=St->Hp->(List V->Hp->Prop)->Prop
set_option genInjectivity false in
structure Ends where
 nx:St->Hp->Prop
 rt:VK
 bk:St->Hp->Prop:=λ _ _=>False
 ct:St->Hp->Prop:=λ _ _=>False
abbrev TS:=Ends->St->Hp->Prop
def EP(X:Cx)(pins:List (Addr×Obj))(σ:St)(Q:VK)(u:Value)(s':Shared):Prop:=∃v H',Inv X pins σ H' s'/\RelV v u/\Q v H'
def TP(X:Cx)(pins:List (Addr×Obj))(σ:St)(Q:Bool->Hp->Prop)(b:Bool)(s':Shared):Prop:=∃H',Inv X pins σ H' s'/\Q b H'
def AP(X:Cx)(pins:List (Addr×Obj))(σ:St)(Q:List V->Hp->Prop)(us:List Value)(s':Shared):Prop:=∃vs H',Inv X pins σ H' s'/\Vals vs us/\Q vs H'
def SP(X:Cx)(pins:List (Addr×Obj))(D:Ends)(f:Flow)(s':Shared):Prop:=match f with
 | .next=>∃σ' H',Inv X pins σ' H' s'/\D.nx σ' H'
 | .brk=>∃σ' H',Inv X pins σ' H' s'/\D.bk σ' H'
 | .cont=>∃σ' H',Inv X pins σ' H' s'/\D.ct σ' H'
 | .ret u=>∃v σ' H',Inv X pins σ' H' s'/\RelV v u/\D.rt v H'
def PE(X:Cx)(e:Expr)(t:TE):Prop:=∀(pins:List (Addr×Obj)) (s:Shared) (σ:St) (H:Hp) (Q:VK),Inv X pins σ H s->t σ H Q->wpAny (model X.prog X.w) X.A (eval e X.env) (EP X pins σ Q) X.xe s
def PT(X:Cx)(e:Expr)(t:TT):Prop:=∀(pins:List (Addr×Obj)) (s:Shared) (σ:St) (H:Hp) (Q:Bool->Hp->Prop),Inv X pins σ H s->t σ H Q->wpAny (model X.prog X.w) X.A (isTrue e X.env (eval e X.env)) (TP X pins σ Q) X.xe s
def PW(X:Cx)(e:Expr)(t:TT):Prop:=∀(whole:Sem Value) (pins:List (Addr×Obj)) (s:Shared) (σ:St) (H:Hp) (Q:Bool->Hp->Prop),Inv X pins σ H s->t σ H Q->wpAny (model X.prog X.w) X.A (isTrue e X.env whole) (TP X pins σ Q) X.xe s
def PW.pt{e:Expr}(h:PW X e t):PT X e t:=h _
def PA(X:Cx)(es:List Expr)(t:TA):Prop:=∀(pos:Pos) (pins:List (Addr×Obj)) (s:Shared) (σ:St) (H:Hp) (Q:List V->Hp->Prop),Inv X pins σ H s->t σ H Q->wpAny (model X.prog X.w) X.A (spliced (backTo pos (starEach es X.env))) (AP X pins σ Q) X.xe s
def PS(X:Cx)(st:Stmt)(t:TS):Prop:=∀(pins:List (Addr×Obj)) (s:Shared) (σ:St) (H:Hp) (D:Ends),Inv X pins σ H s->t D σ H->wpAny (model X.prog X.w) X.A (exec st X.env) (SP X pins D) X.xe s
def zS(X:Cx)(st:List Stmt)(t:TS):Prop:=∀(pins:List (Addr×Obj)) (s:Shared) (σ:St) (H:Hp) (D:Ends),Inv X pins σ H s->t D σ H->wpAny (model X.prog X.w) X.A (execs st X.env) (SP X pins D) X.xe s
def zR{α:Sort _}{P R:α->Prop}{C:Prop}(h:∃a,P a/\R a)(k:∀a,P a->R a->C):C:=by refine ah (λ a b c=>?_) h;exact k a b c
def vf{α β:Sort _}{P R S:α->β->Prop}{C:Prop}(h:∃a b,P a b/\R a b/\S a b)(k:∀a b,P a b->R a b->S a b->C):C:=by refine ak (λ a b c d e=>?_) h;exact k a b c d e
def dN{α:Type}{t:Sem α}{Q Q':α->Shared->Prop}{M:Model}{A:Around}{E:Value->Shared->Prop}{s:Shared}(h:wpAny M A t Q E s)(hQ:∀a s,Q a s->Q' a s):wpAny M A t Q' E s:=wpAny_mono h hQ λ _ _ x=>x
section
variable{X:Cx}
def WK(i:Nat):TE:=λ σ H Q=>∃v,σ[i]? =some (some v)/\Q v H
def tC(v:V):TE:=λ _ H Q=>Q v H
def uI(hN:X.N[i]? =some x)(hv:Ic X.env.scope x)(hd:(x==("__debug__":Str))=false:=by decide)(hcd:(x==("__classdict__":Str))=false:=by decide):PE X (.Name x pos) (WK i):=by
 intro pins s σ H Q I h
 revert h;refine ah λ v e h=>?_
 refine ah (λ m hn hl=>?_) I.loc;refine ah (λ u r l=>?_) (hl i x v hN e hv);have fin:EP X pins σ Q u s:=ao v H I r h;rcases l with ⟨hk,hm⟩|⟨hk,c,hc,hcell⟩
 ·exact wpAny_Name (wpAny_loadName_local I.ok.kind hk hn hm fin) hd
 ·rcases hk with hk|hk
  ·exact wpAny_Name (wpAny_loadName_cell I.ok.kind hk hc hcell fin) hd
  ·exact wpAny_Name (wpAny_loadName_free I.ok.kind hk hc hcell fin hcd) hd
def N5{i j pos}:PE X (.Constant (.int i) j pos) (tC (.int i)):=λ _ _ _ H _ I h=>wpAny_Constant_int (ao (.int i) H (I.tok _) ⟨_,rfl⟩ h)
def SM{b j pos}:PE X (.Constant (.bool b) j pos) (tC (.bl b)):=λ _ _ _ H _ I h=>Constant_bool (ao (.bl b) H I rfl h)
def N1{x j pos}:PE X (.Constant (.str x) j pos) (tC (.str x)):=λ _ _ _ H _ I h=>Calls.Constant_str (ao (.str x) H (I.tok _) ⟨_,rfl⟩ h)
noncomputable def Gl(X:Cx)(x:Str):Prop:=X.env.kindOf x=some .globalImplicit
def uR{s:Shared}{Q:Value->Shared->Prop}(I:Inv X pins σ H s)(hg:Gl X x)(hm:X.mg x=some u)(h:Q u s)(hd:(x==("__debug__":Str))=false:=by decide):wpAny (model X.prog X.w) X.A (eval (.Name x pos) X.env) Q E s:=Calls.Name_function_global I.ok.kind hg (Calls.loadGlobal_global (by rw[I.ok.glob];exact I.mod.glob.keeps I.bk) hm h) hd
def iY{s:Shared}{Q:Value->Shared->Prop}(I:Inv X pins σ H s)(hg:Gl X x)(hm:X.mg x=none)(hv:bootBuiltins x=some u)(h:Q u s)(hn:x≠"__name__":=by decide)(hd:(x==("__debug__":Str))=false:=by decide):wpAny (model X.prog X.w) X.A (eval (.Name x pos) X.env) Q E s:=by refine ah (λ mb h1 h2=>?_) I.mod.blt;exact Calls.Name_function_global I.ok.kind hg (Calls.loadGlobal_builtin (by rw[I.ok.glob];exact I.mod.glob.keeps I.bk) hm (by rw[I.ok.blt];exact h1.keeps I.bk) ((h2 x hn).trans hv) h) hd
def BK{v:V}(hg:Gl X x)(hm:X.mg x=some u)(r:RelV v u)(hd:(x==("__debug__":Str))=false:=by decide):PE X (.Name x pos) (tC v):=λ _ _ _ H _ I h=>uR I hg hm (ao v H I r h) hd
def JM{v:V}(hg:Gl X x)(hm:X.mg x=none)(hv:bootBuiltins x=some u)(r:RelV v u)(hn:x≠"__name__":=by decide)(hd:(x==("__debug__":Str))=false:=by decide):PE X (.Name x pos) (tC v):=λ _ _ _ H _ I h=>iY I hg hm hv (ao v H I r h) hn hd
variable{a b:Expr}{ta tb:TE}{pos:Pos}
def tB(t:TE):TT:=λ σ H Q=>t σ H λ x H1=>∃c,x= .bl c/\Q c H1
def NK{e:Expr}{t:TE}(h:PE X e t)(he:∀whole,isTrue e X.env whole=(do let v <-whole;standAt e.pos;holding [v] (truthy v)):=by intro _;rfl):PT X e (tB t):=by
 intro pins s σ H Q I hw
 refine isTrue_plain (dN (h pins s σ H _ I hw) λ v s1 z_=>vf z_ λ x H1 I1 r1 q1=>?_) (he _)
 revert q1;refine ah λ d z q=>?_;subst z
 cases r1
 exact wpAny_truthy_bool (af H1 I1 q)
variable{tA Y8:TT}{rest:List Expr}
def tOr(t u:TT):TT:=λ σ H Q=>t σ H λ c H1=>if c=true then Q true H1 else u σ H1 Q
def WV(t:TT):TT:=λ σ H Q=>t σ H λ c H1=>Q (!c) H1
def NJ(ha:PT X a tA):PW X (.BoolOp .Or [a] pos) tA:=by
 intro wh pins s σ H Q I h;refine isTrue_or (dN (ha pins s σ H Q I h) λ c s1 e=>?_);cases c with
 |false=>exact isTrue_or_nil e
 |true=>exact e
def SH(ha:PT X a tA)(hb:PW X (.BoolOp .Or (b::rest) pos) Y8):PW X (.BoolOp .Or (a::b::rest) pos) (tOr tA Y8):=by
 intro wh pins s σ H Q I h;refine isTrue_or (dN (ha pins s σ H _ I h) ?_);refine λ c s1=>ah λ H1 I1 q1=>?_;cases c with
 |true=>exact af H1 I1 q1
 |false=>exact hb wh pins s1 σ H1 Q I1 q1
def NL(ha:PT X a tA):PT X (.UnaryOp .Not a pos) (WV tA):=by intro pins s σ H Q I h;exact isTrue_not (ha pins s σ H (λ c H1=>Q (!c) H1) I h)
def R6(ta tb:TE):TE:=λ σ H Q=>ta σ H λ x H1=>∃c,x= .bl c/\if c=true then tb σ H1 Q else Q (.bl false) H1
def RU(ta:TE):TE:=λ σ H Q=>ta σ H λ x H1=>∃c,x= .bl c/\Q (.bl (!c)) H1
def N2{op}(h:PE X a t):PE X (.BoolOp op [a] pos) t:=λ pins s σ H Q I hw=>BoolOp_one (h pins s σ H Q I hw)
def N6(ha:PE X a ta)(hb:PE X (.BoolOp .And (b::rest) pos) tb):PE X (.BoolOp .And (a::b::rest) pos) (R6 ta tb):=by
 intro pins s σ H Q I h;refine BoolOp_and (dN (ha pins s σ H _ I h) ?_);refine λ v s1=>ak λ x H1 I1 r1 q1=>?_
 revert q1;refine ah λ c z q1=>?_;subst z
 cases r1;refine wpAny_truthy_bool ?_;cases c with
 |true=>exact hb pins s1 σ H1 Q I1 q1
 |false=>exact ao (.bl false) H1 I1 rfl q1
def N3(ha:PE X a ta):PE X (.UnaryOp .Not a pos) (RU ta):=by
 intro pins s σ H Q I h;refine UnaryOp_ (dN (ha pins s σ H _ I h) ?_);refine λ v s1=>ak λ x H1 I1 r1 q1=>?_
 revert q1;refine ah λ c z q1=>?_;subst z
 cases r1;exact not_of (wpAny_truthy_bool (ao (.bl (!c)) H1 I1 rfl q1))
end
def fV(K:W.Frag)(H:Hp)(a:Addr)(xs:List V):Prop:=Rd H a (.lst xs)\/∃(o:Obj) (its:Array Value) (n:Nat),K.lookup a=some o/\o.cls= .type "list"/\o.dict=none/\o.data= .seq its n/\its.size<=sizeLine/\Vals xs its.toList
def rQ(K:W.Frag)(H:Hp)(a:Addr)(xs:List V):Prop:=Rd H a (.tup xs)\/∃(o:Obj) (its:Array Value) (n:Nat),K.lookup a=some o/\o.cls= .type "tuple"/\o.data= .seq its n/\its.size<=sizeLine/\Vals xs its.toList
noncomputable def YB:Value->Option V
 | .none=>some .eU
 | .bool b=>some (.bl b)
 | .int i _=>some (.int i)
 | .str x _=>some (.str x)
 | .bytes b _=>some (.UL b)
 | .float b _=>some (.Ug b)
 | .ref a=>some (.ref a)
 | .type n=>some (.ty n)
 |_=>none
def RelV.abs(r:RelV x u):YB u=some x:=by
 cases x with
 |eU=>cases r;rfl
 |bl _=>cases r;rfl
 |int _=>obtain ⟨t,rfl⟩:=r;rfl
 |str _=>obtain ⟨t,rfl⟩:=r;rfl
 |UL _=>obtain ⟨t,rfl⟩:=r;rfl
 |Ug _=>obtain ⟨t,rfl⟩:=r;rfl
 |ref _=>cases r;rfl
 |ty _=>cases r;rfl
theorem RelV.inj{x y:V}{u:Value}(r:RelV x u)(q:RelV y u):x=y:=Option.some.inj (r.abs.symm.trans q.abs)
theorem Vals.inj:∀{xs ys:List V} {us:List Value},Vals xs us->Vals ys us->xs=ys
 |_,_,_,.nil,.nil=>rfl
 |_,_,_,.cons r t,.cons r' t'=>by rw[r.inj r',Vals.inj t t']
section
variable{X:Cx}{pins:List (Addr×Obj)}{σ:St}{H:Hp}{s:Shared}{a:Addr}{xs ys:List V}
def fV.of{K:W.Frag}(h:H a=some (.lst xs)):fV K H a xs:= .inl (.inl h)
def Inv.list(I:Inv X pins σ H s)(h:fV X.K H a xs):∃its:List Value,Vals xs its/\PlainL s.heap a its.toArray/\xs.length<=sizeLine:=by
 rcases h with h|⟨o,its,n,hk,hc,hd,hs,hz,r⟩
 ·refine bS (λ z=>aQ λ its n r e=>?_) (h.ok I.hok);exact aX its r (bg _ n e rfl rfl rfl) z
 ·refine aX its.toList r (bg o n (I.DY a o hk) hc hd (by simpa using hs)) ?_;have e:=r.length;simp only[Array.length_toList] at e;omega
def Inv.tuple(I:Inv X pins σ H s)(h:rQ X.K H a xs):∃its:List Value,Vals xs its/\IsTup s.heap a its.toArray/\xs.length<=sizeLine:=by
 rcases h with h|⟨o,its,n,hk,hc,hs,hz,r⟩
 ·refine bS (λ z=>ah λ its r p=>?_) (h.ok I.hok);exact aX its r p z
 ·refine aX its.toList r (aX o (I.DY a o hk) hc ⟨n,by simpa using hs⟩) ?_;have e:=r.length;simp only[Array.length_toList] at e;omega
def Inv.jE(I:Inv X pins σ H s)(h:fV X.K H a xs)(h':fV X.K H a ys):xs=ys:=by
 refine aD (λ its r z _=>?_) (I.list h);revert z;refine aN λ o n e _ _ d=>?_;refine aD (λ its' r' z _=>?_) (I.list h');revert z;refine aN λ o' n' e' _ _ d'=>?_;rw[e] at e';cases e';rw[d] at d';injection d' with d1 _
 have:its=its':=by simpa using congrArg Array.toList d1
 subst this;exact r.inj r'
def Inv.sN(I:Inv X pins σ H s)(h:rQ X.K H a xs)(h':rQ X.K H a ys):xs=ys:=by
 refine aD (λ its r z _=>?_) (I.tuple h);revert z;refine aD λ o e _ y=>?_;obtain ⟨n,d⟩:=y;refine aD (λ its' r' z _=>?_) (I.tuple h');revert z;refine aD λ o' e' _ y=>?_;obtain ⟨n',d'⟩:=y;rw[e] at e';cases e';rw[d] at d';injection d' with d1 _
 have:its=its':=by simpa using congrArg Array.toList d1
 subst this;exact r.inj r'
end
section
variable{X:Cx}{pins:List (Addr×Obj)}{σ:St}{H:Hp}{s:Shared}{E:Value->Shared->Prop}
end
section
variable{X:Cx}{st:Stmt}{rest:List Stmt}{t u:TS}{e:Expr}{te:TE}{pos:Pos}
def RW:TS:=λ D σ H=>D.nx σ H
def WQ(t u:TS):TS:=λ D σ H=>t {D with nx:=u D} σ H
def JC:zS X [] RW:=λ _ _ σ H _ I h=>wpAny_execs_nil (aM σ H I h)
def Fq(h1:PS X st t)(h2:zS X rest u):zS X (st::rest) (WQ t u):=by
 intro pins s σ H D I h;refine wpAny_execs_cons (dN (h1 pins s σ H {D with nx:=u D} I h) λ f s1 q=>?_);cases f with
 |next=>refine aQ (λ σ' H' I' q=>?_) q;exact h2 pins s1 σ' H' D I' q
 |ret v=>exact q
 |brk=>exact q
 |cont=>exact q
def JB(h1:PS X st t):zS X [st] t:=by
 intro pins s σ H D I h;refine wpAny_execs_cons (dN (h1 pins s σ H D I h) λ f s1 q=>?_);cases f with
 |next=>exact wpAny_execs_nil q
 |ret v=>exact q
 |brk=>exact q
 |cont=>exact q
def Inv.quiet{pins:List (Addr×Obj)}{σ:St}{H:Hp}{s:Shared}(I:Inv X pins σ H s):interactive X.env=false:=by simp[interactive,I.ok.kind]
def RX(te:TE):TS:=λ D σ H=>te σ H λ _ H1=>D.nx σ H1
def BH(he:PE X e te)(hs:swapsWith e none pos.line X.env=pure false:=by rfl):PS X (.Expr e pos) (RX te):=by intro pins s σ H D I h;exact wpAny_Expr_any (dN (he pins s σ H _ I h) λ v s1 z_=>vf z_ λ x H1 I1 r1 q1=>aM σ H1 I1 q1) I.quiet hs
def WR(te:TE):TS:=λ D σ H=>te σ H D.rt
def Ao(he:PE X e te):PS X (.Return (some e) pos) (WR te):=by intro pins s σ H D I h;exact wpAny_Return_some (dN (he pins s σ H _ I h) λ v s1 z_=>vf z_ λ x H1 I1 r1 q1=>jy x σ H1 I1 r1 q1)
def WY(c:TT)(t u:TS):TS:=λ D σ H=>c σ H λ b H1=>if b=true then t D σ H1 else u D σ H1
def SI{c:Expr}{a b:List Stmt}{tc:TT}(hc:PT X c tc)(ha:zS X a t)(hb:zS X b u):PS X (.If c a b pos) (WY tc t u):=by
 intro pins s σ H D I h;refine wpAny_If (dN (hc pins s σ H _ I h) ?_);refine λ d s1=>ah λ H1 I1 q1=>?_;cases d with
 |true=>exact ha pins s1 σ H1 D I1 q1
 |false=>exact hb pins s1 σ H1 D I1 q1
end
abbrev TG:=V->St->Hp->(St->Hp->Prop)->Prop
abbrev Ld:=List V->St->Hp->(St->Hp->Prop)->Prop
def PG(X:Cx)(target:Expr)(t:TG):Prop:=∀(pins:List (Addr×Obj)) (s:Shared) (σ:St) (H:Hp) (v:V) (u:Value) (Q:St->Hp->Prop),Inv X pins σ H s->RelV v u->t v σ H Q->wpAny (model X.prog X.w) X.A (assign target X.env u) (λ _ s'=>∃σ' H',Inv X pins σ' H' s'/\Q σ' H') X.xe s
def Ij(X:Cx)(ts:List Expr)(t:Ld):Prop:=∀(pins:List (Addr×Obj)) (s:Shared) (σ:St) (H:Hp) (vs:List V) (us:List Value) (Q:St->Hp->Prop),Inv X pins σ H s->Vals vs us->t vs σ H Q->wpAny (model X.prog X.w) X.A (assignInOrder ((assignEach ts X.env).map (·.2)) us) (λ _ s'=>∃σ' H',Inv X pins σ' H' s'/\Q σ' H') X.xe s
abbrev P6:=V->V->V->Hp->(Hp->Prop)->Prop
def U5(X:Cx)(t:P6):Prop:=∀(pins:List (Addr×Obj)) (s:Shared) (σ:St) (H:Hp) (o i v:V) (ov iv u:Value) (Q:Hp->Prop),Inv X pins σ H s->RelV o ov->RelV i iv->RelV v u->t o i v H Q->wpAny (model X.prog X.w) X.A (setItem ov iv u) (λ _ s'=>∃H',Inv X pins σ H' s'/\Q H') X.xe s
section
variable{X:Cx}{pos:Pos}
def LW(i:Nat):TG:=λ v σ H Q=>Q (σ.set i (some v)) H
def JJ(hN:X.N.Nodup)(hi:X.N[i]? =some x)(hx:Loc X.env.scope x)(hf:X.fn x=true\/X.env.scope.names.lookup x=some .local:=by first|exact .inl rfl|exact .inr rfl|assumption):PG X (.Name x pos) (LW i):=by intro pins s σ H v u Q I r h;exact wpAny_assign_Name (jv I hN hi hx r (λ s' I'=>aM _ H I' h) hf)
def Yg:Ld:=λ vs σ H Q=>vs=[]/\Q σ H
def Uc(t:TG)(u:Ld):Ld:=λ vs σ H Q=>∃v r,vs=v::r/\t v σ H λ σ' H'=>u r σ' H' Q
def JI:Ij X [] Yg:=by intro pins s σ H vs us Q I r h;obtain ⟨e,h⟩:=h;subst e;cases r;exact assignInOrder_nil (aM σ H I h)
def FO{e:Expr}{es:List Expr}{t:TG}{u:Ld}(h1:PG X e t)(h2:Ij X es u) (hs:(assignEach (e::es) X.env).map (·.2)=assign e X.env::(assignEach es X.env).map (·.2):=by rfl):Ij X (e::es) (Uc t u):=by
 intro pins s σ H vs us Q I r h
 revert h;refine aQ λ v vr e1 h=>?_
 subst e1;cases r with
 |cons r rr=>rw[hs];refine assignInOrder_cons (dN (h1 pins s σ H _ _ _ I r h) ?_);refine λ _ s1=>aQ λ σ1 H1 I1 q1=>?_;exact h2 pins s1 σ1 H1 _ _ Q I1 rr q1
def Yd(K:W.Frag)(n:Nat)(t:Ld):TG:=λ v σ H Q=>∃a xs,v= .ref a/\rQ K H a xs/\xs.length=n/\t xs σ H Q
def NY(hc:X.calm=true)(h:Ij X es t)(hn:(assignEach es X.env).length=n:=by rfl)(hst:(assignEach es X.env).findIdx? (·.1)=none:=by rfl):PG X (.Tuple es k pos) (Yd X.K n t):=by
 intro pins s σ H v u Q I r hw
 revert hw;refine aN λ a xs e1 hq hl hw=>?_
 subst e1;cases r;refine aD (λ its rv ht hz=>?_) (I.tuple hq);refine assign_Tuple_tuple (I.ok.hd hc) ht (by simp[hn, <-hl,rv.length]) hst λ h' hx=>?_;have I1:Inv X pins σ H {s with heap:=h'}:=I.kept (t':=s.toks) λ b o e=>hx b o (Nat.ne_of_lt (Heap.lt_size e)) e;exact h pins _ σ H xs _ Q I1 (by simpa using rv) hw
def Ye(to ti:TE)(t:P6):TG:=λ v σ H Q=>to σ H λ o H1=>ti σ H1 λ i H2=>t o i v H2 λ H3=>Q σ H3
def NZ{o i:Expr}{to ti:TE}{t:P6}(ho:PE X o to)(hi:PE X i ti)(hs:U5 X t)
  (ha:∀v,assign (.Subscript o i pos) X.env v=(do
   let ov <-holding [v] (eval o X.env)
   let iv <-holding [v,ov] (eval i X.env)
   standAt pos
   holding [v,ov,iv] (setItem ov iv v)
   release [v,ov,iv] []):=by intro _;rfl):PG X (.Subscript o i pos) (Ye to ti t):=by
 intro pins s σ H v u Q I r h
 rw[ha]
 refine wpAny_bind (wpAny_holding (dN (ho pins s σ H _ I h) ?_))
 refine λ ov s1=>ak λ x H1 I1 r1 q1=>?_
 refine wpAny_bind (wpAny_holding (dN (hi pins s1 σ H1 _ I1 q1) ?_))
 refine λ iv s2=>ak λ y H2 I2 r2 q2=>?_
 refine wpAny_bind (wpAny_standAt (wpAny_bind (wpAny_holding (dN (hs pins s2 σ H2 x y v ov iv u _ I2 r1 r2 r q2) ?_))))
 refine λ _ s3=>ah λ H3 I3 q3=>?_
 exact wpAny_release (aM σ H3 I3 q3)
def RZ(te:TE)(g:TG):TS:=λ D σ H=>te σ H λ x H1=>g x σ H1 D.nx
def NR{tg e:Expr}{te:TE}{g:TG}(he:PE X e te)(hg:PG X tg g)(hs:swapsWithSole [tg] e pos.line X.env=pure false:=by rfl)(hw:swappedStores [tg] e X.env=pure none:=by rfl) (h1:(assignEach [tg] X.env).map (·.2)=[assign tg X.env]:=by rfl):PS X (.Assign [tg] e pos) (RZ te g):=by intro pins s σ H D I h;refine wpAny_Assign_stores (dN (he pins s σ H _ I h) λ v s1 z_=>vf z_ λ x H1 I1 r1 q1=>?_) hs hw;rw[h1];exact dN (hg pins s1 σ H1 x v _ I1 r1 q1) λ _ s2 q=>q
def Fv{i:Nat}{x:Str}{e:Expr}{te:TE}{pos':Pos}(hN:X.N.Nodup)(hi:X.N[i]? =some x)(hx:Loc X.env.scope x)(he:PE X e te)(hs:swapsWith e (some (.Name x pos')) pos.line X.env=pure false:=by rfl)(hf:X.fn x=true\/X.env.scope.names.lookup x=some .local:=by first|exact .inl rfl|exact .inr rfl|assumption):
  PS X (.Assign [.Name x pos'] e pos) (RZ te (LW i)):=by
 intro pins s σ H D I h;refine wpAny_Assign_Name (dN (he pins s σ H _ I h) λ v s1 z_=>vf z_ λ y H1 I1 r1 q1=>?_) hs;exact jv I1 hN hi hx r1 (λ s2 I2=>aM _ H1 I2 q1) hf
def WU(i j:Nat)(ta:TA):TS:=λ D σ H=>ta σ H λ vs H1=>∃v w,vs=[v,w]/\D.nx ((σ.set i (some v)).set j (some w)) H1
def NP{i j:Nat}{x y:Str}{a b:Expr}{ta:TA}{px py pt:Pos}{kt k2 NO}(hc:X.calm=true)(hN:X.N.Nodup)(hi:X.N[i]? =some x)(hj:X.N[j]? =some y)(hij:i≠j)
  (hx:X.env.scope.names.lookup x=some .local) (hy:X.env.scope.names.lookup y=some .local) (ha:PA X [a,b] ta)
  (hw:swappedStores [.Tuple [.Name x px,.Name y py] kt pt] (.Tuple [a,b] k2 NO) X.env=pure (some [x,y]))
  (hs:swapsWithSole [.Tuple [.Name x px,.Name y py] kt pt] (.Tuple [a,b] k2 NO) pos.line X.env=pure false:=by rfl):
  PS X (.Assign [.Tuple [.Name x px,.Name y py] kt pt] (.Tuple [a,b] k2 NO) pos) (WU i j ta):=by
 intro pins s σ H D I h
 rw[exec_Assign_arm]
 refine wpAny_bind (wpAny_standAt ?_)
 rw[hs]
 refine wpAny_bind (wpAny_pure ?_)
 rw[if_neg (by decide)]
 refine wpAny_bind (Tuple_ (dN (ha _ pins s σ H _ I h) ?_))
 refine λ us s1=>ak λ vs H1 I1 r1 q1=>?_
 revert q1;refine aQ λ v w e1 q1=>?_
 subst e1
 obtain ⟨u1,u2,rfl,rv,rw'⟩:∃u1 u2,us=[u1,u2]/\RelV v u1/\RelV w u2:=by
  cases r1 with
  |cons p q=>
   cases q with
   |cons p' q'=>
    cases q'
    exact ao _ _ rfl p p'
 refine wpAny_newObj_type ?_ (by show 2<=sizeLine;decide)
 have I2:Inv X pins σ H1 {s1 with heap:=s1.heap.push {cls:= .type "tuple",data:= .seq [u1,u2].toArray}}:=I1.kept (t':=s1.toks) λ b o e=>Heap.get?_push_of_some _ e
 rw[hw]
 refine wpAny_bind (wpAny_pure ?_)
 show wpAny (model X.prog X.w) X.A (do rule "assign.swapped-stores";let items <-unpackItems (.ref s1.heap.objs.size) 2 none;assignInOrder [λ v=>bindName X.env y v,λ v=>bindName X.env x v] items.reverse;pure Flow.next) _ _ _
 refine wpAny_bind (wpAny_rule (wpAny_bind (unpackItems_tuple (items:= #[u1,u2]) (I.ok.hd hc) (IsTup.new s1.heap _) λ h' hx'=>?_)))
 have I3:=I2.kept (h':=h') (t':=s1.toks) λ b o e=>hx' b o (Nat.ne_of_lt (Heap.lt_size e)) e
 show wpAny _ _ (assignInOrder [λ v=>bindName X.env y v,λ v=>bindName X.env x v] [u2,u1]>>=λ _=>pure Flow.next) _ _ _
 refine wpAny_bind (assignInOrder_cons (wpAny_bindName (jv I3 hN hj (.inl hy) rw' (λ s2 I4=>?_) (.inr hy))))
 refine assignInOrder_cons (wpAny_bindName (jv I4 hN hi (.inl hx) rv (λ s3 I5=>assignInOrder_nil (wpAny_pure ?_)) (.inr hx)))
 rw[List.set_comm _ _ (Ne.symm hij)] at I5
 exact aM _ H1 I5 q1
def Ni(c:TT)(tb:TS):TS:=λ D σ H=>∃W:Nat->St->Hp->Prop,(∃m,W m σ H)/\∀m σ H,W m σ H->c σ H λ b H1=>if b=true then ∃N:St->Hp->Prop,(∀σ' H',N σ' H'->∃m',m'<m/\W m' σ' H')/\tb {D with nx:=N,ct:=N,bk:=D.nx} σ H1 else D.nx σ H1
def Ft(hp:PassesOwn (model X.prog X.w) X.A X.env X.xe)(hc:PT X c tc)(hb:zS X body tb):PS X (.While c body [] pos) (Ni tc tb):=by
 intro pins s σ H D I h
 revert h;refine ah λ W z turn=>?_;obtain ⟨m0,w0⟩:=z
 refine wpAny_While (codeAny_whileLoop (λ n s'=>∃σ' H',Inv X pins σ' H' s'/\W n σ' H') ?_ m0 (aM σ H I w0));refine λ n s1=>aQ λ σ1 H1 I1 w1=>?_;refine wpAny_passesOwn hp (dN (hc pins s1 σ1 H1 _ I1 (turn n σ1 H1 w1)) ?_);refine λ b s2=>ah λ H2 I2 q2=>?_;cases b with
 |true=>
  revert q2;refine ah λ N hN q2=>?_
  rw[if_pos rfl];refine wpAny_passesOwn hp (dN (hb pins s2 σ1 H2 _ I2 q2) λ f s3 q3=>?_);cases f with
  |next=>refine aQ (λ σ3 H3 I3 n3=>?_) q3;refine ah (λ m' hm w3=>?_) (hN σ3 H3 n3);exact af m' hm (aM σ3 H3 I3 w3)
  |cont=>refine aQ (λ σ3 H3 I3 n3=>?_) q3;refine ah (λ m' hm w3=>?_) (hN σ3 H3 n3);exact af m' hm (aM σ3 H3 I3 w3)
  |brk=>exact q3
  |ret v=>exact q3
 |false=>rw[if_neg Bool.false_ne_true];exact wpAny_execs_nil (aM σ1 H2 I2 q2)
end
set_option genInjectivity false in
structure It where
 go:Nat->Hp->Prop
 Rx:Nat->Hp->V->Hp->Prop
 stop:Nat->Hp->Prop
def fQ(X:Cx)(pins:List (Addr×Obj))(H:Hp)(b:Addr):Prop:=H b=none/\b≠X.env.locals/\b∉X.fs/\(b∈X.ex\/X.s₀.heap.objs.size<=b)/\(∀x c,X.env.cells.lookup x=some c->c≠b)/\∀p∈X.pn++pins,p.1≠b
def Inv.n5{s:Shared}(I:Inv X pins σ H s)(hb:s.heap.objs.size<=b)(hn:H' b=none):fQ X pins H' b:=by
 refine An hn (Nat.ne_of_gt (Nat.lt_of_lt_of_le I.lt hb)) (I.Xr hb) (.inr (Nat.le_trans I.sz hb)) (λ x c e z=>?_) (λ p hp z=>?_)
 ·obtain ⟨v,q⟩:=I.cell x c e;exact absurd (Nat.lt_of_lt_of_le q.lt (by rw[z];exact hb)) (Nat.lt_irrefl _)
 ·exact absurd (Nat.lt_of_lt_of_le (Heap.lt_size (I.pin p hp).1) (by rw[z];exact hb)) (Nat.lt_irrefl _)
structure Turn(P:Program)(w:World)(K:W.Frag)(tg:Expr)(J:It)(fp:List Addr)(it:Addr)(tn:Nat->Heap->Prop):Prop where
 mem:it∈fp
 obj:∀i h,tn i h->∀b∈fp,∃o,h.get? b=some o/\∀v,o.data≠.cell v
 keep:∀i h h',tn i h->(∀b∈fp,∀o,h.get? b=some o->h'.get? b=some o)->tn i h'
 item:∀(X:Cx),X.prog=P->X.w=w->X.K=K->X.calm=true->∀(i:Nat) (pins:List (Addr×Obj)) (s:Shared) (σ:St) (H:Hp) (E:Value->Shared->Prop),Inv X pins σ H s->(∀b∈fp,fQ X pins H b)->tn i s.heap->J.go i H->
  wpAny (model P w) X.A (pyNext (.ref it)) (λ r s1=>∃u,r=some u/\
   wpAny (model P w) X.A (letOwnedTupleGo tg (.ref it) u) (λ _ s2=>∃x H',Inv X pins σ H' s2/\RelV x u/\J.Rx i H x H'/\tn (i+1) s2.heap/\∀b∈fp,H' b=none) E s1) E s
 done:∀(X:Cx),X.prog=P->X.w=w->X.K=K->X.calm=true->∀(i:Nat) (pins:List (Addr×Obj)) (s:Shared) (σ:St) (H:Hp) (E:Value->Shared->Prop),Inv X pins σ H s->(∀b∈fp,fQ X pins H b)->tn i s.heap->J.stop i H->
  wpAny (model P w) X.A (pyNext (.ref it)) (λ r s1=>r=none/\Inv X pins σ H s1) E s
 self:∀(A:Around) (i:Nat) (s:Shared) (Q:Value->Shared->Prop) (E:Value->Shared->Prop),tn i s.heap->Q (.ref it) s->wpAny (model P w) A (pyIter (.ref it)) Q E s
abbrev TI:=St->Hp->(It->Hp->Prop)->Prop
def ZY(X:Cx)(pins:List (Addr×Obj))(σ:St)(tg:Expr)(R:It->Hp->Prop)(itv:Value)(s2:Shared):Prop:=∃(it:Addr) (fp:List Addr) (tn:Nat->Heap->Prop) (J:It) (H':Hp),itv= .ref it/\Inv X pins σ H' s2/\Turn X.prog X.w X.K tg J fp it tn/\tn 0 s2.heap/\(∀b∈fp,fQ X pins H' b)/\R J H'
def PI(X:Cx)(tg iter:Expr)(wi:TI):Prop:=∀(pins:List (Addr×Obj)) (s:Shared) (σ:St) (H:Hp) (R:It->Hp->Prop),Inv X pins σ H s->wi σ H R->wpAny (model X.prog X.w) X.A (eval iter X.env) (λ v s1=>wpAny (model X.prog X.w) X.A (pyIter v) (ZY X pins σ tg R) X.xe s1) X.xe s
def yX{M:Model}{s:Shared}{Q:Unit->Shared->Prop}(ho:s.heap.get? it=some o)(hc:o.cls= .type n)(hd:o.data= .fields vs)(hn:["enumerate","zip","dict_itemiterator","dict_reverseitemiterator","odict_iterator","itertools.zip_longest","itertools.pairwise"].contains n=false)(hQ:Q () s):wpAny M A (letOwnedTupleGo tg (.ref it) u) Q E s:=by
 unfold letOwnedTupleGo;cases tg<;>first
  |exact wpAny_pure hQ
  |(cases u<;>first
    |exact wpAny_pure hQ
    |(refine wpAny_bind (wpAny_load ho ?_)
      rw[hc,hd]
      show wpAny M A (if (["enumerate","zip","dict_itemiterator","dict_reverseitemiterator","odict_iterator","itertools.zip_longest","itertools.pairwise"].contains n&&vs[0]? ==some (rawInt _))=true then _ else _) Q E s
      rw[if_neg (by intro h;rw[hn,Bool.false_and] at h;cases h)]
      exact wpAny_pure hQ))
def Wi(K:W.Frag)(a:Addr):It:=⟨λ i H=>∃xs x,fV K H a xs/\xs[i]? =some x,λ i H x H'=>H'=H/\∀xs,fV K H a xs->xs[i]? =some x,λ i H=>∃xs,fV K H a xs/\xs.length<=i⟩
def YI(K:W.Frag)(a:Addr):It:=⟨λ i H=>∃xs x,rQ K H a xs/\xs[i]? =some x,λ i H x H'=>H'=H/\∀xs,rQ K H a xs->xs[i]? =some x,λ i H=>∃xs,rQ K H a xs/\xs.length<=i⟩
def Vb(lo:Int)(n:Nat):It:=⟨λ i _=>i<n,λ i H x H'=>H'=H/\x= .int (lo+i),λ i _=>n<=i⟩
def Du{P:Program}{w:World}{K:W.Frag}{tg:Expr}(a it:Addr):Turn P w K tg (Wi K a) [it] it (λ i h=>h.IsListIter it a i) where
 mem:=by simp
 obj:=λ i h st b hb=>by
  have e:b=it:=by simpa using hb
  subst e
  revert st;refine aD λ o e c d=>?_
  exact af o e (λ v z=>by rw[d] at z;cases z)
 keep:=λ i h h' st k=>st.at λ o e=>k it (by simp) o e
 item:=by
  intro X hP hw hK hc i pins s σ H E I hf st hg
  subst hP hw hK
  revert hg;refine aQ λ xs x hq hx=>?_
  refine aD (λ its rv p hz=>?_) (I.list hq)
  refine ah (λ u hu ru=>?_) (rv.get hx)
  refine eO (λ f0 f1 f2 f3 f4 f5=>?_) (hf it (by simp))
  refine wpAny_pyNext_list_item st p.isList (x:=u) (by simpa using hu) λ h' st' sb=>?_
  have I1:Inv X pins σ H {s with heap:=h'}:=I.turned (t':=s.toks) (λ b o hb e=>(sb.2 b hb).trans e) f0 f1 f3 f4 f5
  refine aD (λ o e c d=>?_) (id st')
  exact af u rfl (yX (s:={s with heap:=h'}) e c d (by decide) (bG x H I1 ru ⟨rfl,λ ys hy=>by rw[I.jE hy hq];exact hx⟩ st' (λ b hb=>(hf b hb).1)))
 done:=by
  intro X hP hw hK hc i pins s σ H E I hf st hg
  subst hP hw hK
  revert hg;refine ah λ xs hq hx=>?_
  refine aD (λ its rv p hz=>?_) (I.list hq)
  refine eO (λ f0 f1 f2 f3 f4 f5=>?_) (hf it (by simp))
  have hl:=rv.length
  exact wpAny_pyNext_list_end (I.ok.hd hc) st p.isList (by simp;omega) λ h' eb=>⟨rfl,I.turned (t':=s.toks) (λ b o hb e=>eb b o hb e) f0 f1 f3 f4 f5⟩
 self:=λ _ _ _ _ _ st h=>wpAny_pyIter_listiter st h
def zZ{P:Program}{w:World}{K:W.Frag}{tg:Expr}(a it:Addr):Turn P w K tg (YI K a) [it] it (λ i h=>h.IsTupleIter it a i) where
 mem:=by simp
 obj:=λ i h st b hb=>by
  have e:b=it:=by simpa using hb
  subst e
  revert st;refine aD λ o e c d=>?_
  exact af o e (λ v z=>by rw[d] at z;cases z)
 keep:=λ i h h' st k=>st.at λ o e=>k it (by simp) o e
 item:=by
  intro X hP hw hK hc i pins s σ H E I hf st hg
  subst hP hw hK
  revert hg;refine aQ λ xs x hq hx=>?_
  refine aD (λ its rv p hz=>?_) (I.tuple hq)
  refine ah (λ u hu ru=>?_) (rv.get hx)
  refine eO (λ f0 f1 f2 f3 f4 f5=>?_) (hf it (by simp))
  refine wpAny_pyNext_tuple_item st (show s.heap.IsTuple a its.toArray from p) (x:=u) (by simpa using hu) λ h' st' sb=>?_
  have I1:Inv X pins σ H {s with heap:=h'}:=I.turned (t':=s.toks) (λ b o hb e=>(sb.2 b hb).trans e) f0 f1 f3 f4 f5
  refine aD (λ o e c d=>?_) (id st')
  exact af u rfl (yX (s:={s with heap:=h'}) e c d (by decide) (bG x H I1 ru ⟨rfl,λ ys hy=>by rw[I.sN hy hq];exact hx⟩ st' (λ b hb=>(hf b hb).1)))
 done:=by
  intro X hP hw hK hc i pins s σ H E I hf st hg
  subst hP hw hK
  revert hg;refine ah λ xs hq hx=>?_
  refine aD (λ its rv p hz=>?_) (I.tuple hq)
  refine eO (λ f0 f1 f2 f3 f4 f5=>?_) (hf it (by simp))
  have hl:=rv.length
  exact wpAny_pyNext_tuple_end (I.ok.hd hc) st (show s.heap.IsTuple a its.toArray from p) (by simp;omega) λ h' eb=>⟨rfl,I.turned (t':=s.toks) (λ b o hb e=>eb b o hb e) f0 f1 f3 f4 f5⟩
 self:=λ _ _ _ _ _ st h=>wpAny_pyIter_tupleiter st h
def z5{P:Program}{w:World}{K:PySem.W.Frag}{tg:Expr}(it:Addr)(lo:Int)(n:Nat):Turn P w K tg (Vb lo n) [it] it (λ i h=>IsRangeIter h it (lo+(i:Nat)*1) ((n:Int) -(i:Nat)) 1) where
 mem:=by simp
 obj:=λ i h st b hb=>by
  have e:b=it:=by simpa using hb
  subst e
  exact af _ st (λ v z=>by
   have z':Data.fields _=Data.cell v:=z
   cases z')
 keep:=λ i h h' st k=>k it (by simp) _ st
 item:=by
  intro X hP hw hK hc i pins s σ H E I hf st hg
  subst hP hw hK
  refine eO (λ f0 f1 f2 f3 f4 f5=>?_) (hf it (by simp))
  have W:=Walks.range (prog:=X.prog) (w:=X.w) (I.ok.hd hc) it lo 1 n
  refine W.item i s _ _ hg st λ v h' tk hv st' kk=>?_
  obtain ⟨t,rfl⟩:=hv
  have I1:Inv X pins σ H {s with heap:=h',toks:=tk}:=I.turned (λ b o hb e=>kk b o (by simpa using hb) e) f0 f1 f3 f4 f5
  refine af _ rfl (yX (s:={s with heap:=h',toks:=tk}) (n:="range_iterator") st' rfl rfl (by decide) (bG (.int (lo+i)) H I1 ⟨t,?_⟩ ⟨rfl,rfl⟩ st' (λ b hb=>(hf b hb).1)))
  rw[Int.mul_one]
 done:=by
  intro X hP hw hK hc i pins s σ H E I hf st hg
  subst hP hw hK
  refine eO (λ f0 f1 f2 f3 f4 f5=>?_) (hf it (by simp))
  exact wpAny_pyNext_range_end (I.ok.hd hc) st (by have:n<=i:=hg;omega) λ h' eb=>⟨rfl,I.turned (t':=s.toks) (λ b o hb e=>eb b o hb e) f0 f1 f3 f4 f5⟩
 self:=λ _ _ _ _ _ st h=>wpAny_pyIter_rangeiter st h
section
variable{X:Cx}{tg:Expr}
def TX(K:W.Frag)(tl:TE):TI:=λ σ H R=>tl σ H λ x H1=>∃a,x= .ref a/\(∃xs,fV K H1 a xs)/\R (Wi K a) H1
def XR(K:W.Frag)(tl:TE):TI:=λ σ H R=>tl σ H λ x H1=>∃a,x= .ref a/\(∃xs,rQ K H1 a xs)/\R (YI K a) H1
def uH{l:Expr}{tl:TE}(hl:PE X l tl):PI X tg l (TX X.K tl):=by
 intro pins s σ H R I h;refine dN (hl pins s σ H _ I h) ?_;refine λ v s1=>ak λ x H1 I1 r1 q1=>?_
 revert q1;refine aD λ a e z q=>?_;obtain ⟨xs,hq⟩:=z
 subst e;cases r1;refine aD (λ its rv p hz=>?_) (I1.list hq);refine wpAny_pyIter_list p.isList ?_;refine jx s1.heap.objs.size [s1.heap.objs.size] _ _ H1 rfl (I1.kept (t':=s1.toks) λ b o e=>Heap.get?_push_of_some _ e) (Du a _) (aX _ (Heap.get?_push_size _ rfl) rfl rfl) (λ b hb=>?_) q;have e:b=s1.heap.objs.size:=by simpa using hb
 subst e;exact I1.n5 (Nat.le_refl _) (I1.hok.fresh (Nat.le_refl _))
def FJ{l:Expr}{tl:TE}(hl:PE X l tl):PI X tg l (XR X.K tl):=by
 intro pins s σ H R I h;refine dN (hl pins s σ H _ I h) ?_;refine λ v s1=>ak λ x H1 I1 r1 q1=>?_
 revert q1;refine aD λ a e z q=>?_;obtain ⟨xs,hq⟩:=z
 subst e;cases r1;refine aD (λ its rv p hz=>?_) (I1.tuple hq);refine wpAny_pyIter_tuple (show s1.heap.IsTuple a its.toArray from p) ?_;refine jx s1.heap.objs.size [s1.heap.objs.size] _ _ H1 rfl (I1.kept (t':=s1.toks) λ b o e=>Heap.get?_push_of_some _ e) (zZ a _) (aX _ (Heap.get?_push_size _ rfl) rfl rfl) (λ b hb=>?_) q;have e:b=s1.heap.objs.size:=by simpa using hb
 subst e;exact I1.n5 (Nat.le_refl _) (I1.hok.fresh (Nat.le_refl _))
def ym{pins:List (Addr×Obj)}{σ:St}{H:Hp}{s:Shared}{R:It->Hp->Prop}{E:Value->Shared->Prop}{lo hi:Int}{t u v:Tok}{tk:Nat}(I:Inv X pins σ H s)(h1: -(2^62)<=lo)(h2:lo<2^62)(h3: -(2^62)<=hi)(h4:hi<2^62) (q:R (Vb lo (hi- lo).toNat) H):wpAny (model X.prog X.w) X.A (pyIter (.ref s.heap.objs.size)) (ZY X pins σ tg R) E {s with heap:=s.heap.push {cls:= .type "range",data:= .fields #[.int lo t,.int hi u,.int 1 v]},toks:=tk}:=by
 refine wpAny_pyIter_range (IsRange.new ..) (small_one h1 h2 h3 h4) ?_;have I1:Inv X pins σ H {s with heap:=s.heap.push {cls:= .type "range",data:= .fields #[.int lo t,.int hi u,.int 1 v]},toks:=tk}:=I.kept λ b o e=>Heap.get?_push_of_some _ e;refine jx ((s.heap.push {cls:= .type "range",data:= .fields #[.int lo t,.int hi u,.int 1 v]}).objs.size) [(s.heap.push {cls:= .type "range",data:= .fields #[.int lo t,.int hi u,.int 1 v]}).objs.size] _ _ H rfl (I1.kept (t':=tk) λ b o e=>Heap.get?_push_of_some _ e) (z5 _ lo (hi- lo).toNat) ?_ (λ b hb=>?_) q
 ·have e1:lo+((0:Nat):Int)*1=lo:=by simp
  have e2:(((hi- lo).toNat:Nat):Int) -((0:Nat):Int)=Builtin.Range.rangeSize lo hi 1:=by rw[rangeSize_one];split<;>omega
  show IsRangeIter _ _ (lo+((0:Nat):Int)*1) ((((hi- lo).toNat:Nat):Int) -((0:Nat):Int)) 1;rw[e1,e2];exact Heap.get?_push_size _ rfl
 ·have e:b=(s.heap.push {cls:= .type "range",data:= .fields #[.int lo t,.int hi u,.int 1 v]}).objs.size:=by simpa using hb
  subst e;exact I1.n5 (Nat.le_refl _) (I1.hok.fresh (Nat.le_refl _))
def gX(ta:TA):TI:=λ σ H R=>ta σ H λ vs H1=>∃j:Int,vs=[.int j]/\ -(2^62)<=j/\j<2^62/\R (Vb 0 j.toNat) H1
def yV(ta:TA):TI:=λ σ H R=>ta σ H λ vs H1=>∃i j:Int,vs=[.int i,.int j]/\(-(2^62)<=i/\i<2^62/\ -(2^62)<=j/\j<2^62)/\R (Vb i (j- i).toNat) H1
def DG{a:Expr}{ta:TA}{p pos:Pos}(hg:Gl X "range")(hm:X.mg "range"=none)(ha:PA X [a] ta)(hs:starEach [a] X.env=[(false,eval a X.env)]:=by rfl):PI X tg (.Call (.Name "range" p) [a] [] pos) (gX ta):=by
 intro pins s σ H R I h;refine Call_ (iY I hg hm boot_range (PyProof.Rows.callWith_type1 (dN (ha pos pins s σ H _ I h) λ us s1 z_=>vf z_ λ vs H1 I1 r1 q1=>?_) hs rfl))
 revert q1;refine dc λ j e q1 q2 q=>?_
 subst e;cases r1 with
 |cons r rr=>cases rr;obtain ⟨t,rfl⟩:=r;exact call_range_1 (ym I1 (by omega) (by omega) q1 q2 (by simpa using q))
def DF(hg:Gl X "range")(hm:X.mg "range"=none)(ha:PA X [a,b] ta)(hs:starEach [a,b] X.env=[(false,eval a X.env),(false,eval b X.env)]:=by rfl)(hs2:starEach [b] X.env=[(false,eval b X.env)]:=by rfl):
  PI X tg (.Call (.Name "range" p) [a,b] [] pos) (yV ta):=by
 intro pins s σ H R I h;refine Call_ (iY I hg hm boot_range (PyProof.Rows.callWith_type1 (dN (ha pos pins s σ H _ I h) λ us s1 z_=>vf z_ λ vs H1 I1 r1 q1=>?_) (by rw[hs,hs2]) (by rw[hs2];rfl)))
 revert q1;refine ak λ i j e z q=>?_;revert z;refine iU λ q1 q2 q3 q4=>?_
 subst e;cases r1 with
 |cons r rr=>
  cases rr with
  |cons r' rr=>cases rr;obtain ⟨t,rfl⟩:=r;obtain ⟨t',rfl⟩:=r';exact call_range_2 (ym I1 q1 q2 q3 q4 q)
def WZ(wi:TI)(g:TG)(tb:TS):TS:=λ D σ H=>wi σ H λ J H1=>∃W:Nat->Nat->St->Hp->Prop,(∃m,W 0 m σ H1)/\∀i m σ H,W i m σ H->(J.stop i H/\D.nx σ H)\/(J.go i H/\∃N:St->Hp->Prop,(∀σ' H',N σ' H'->∃m',m'<m/\W (i+1) m' σ' H')/\∀x H',J.Rx i H x H'->g x σ H' λ σ2 H2=>tb {D with nx:=N,ct:=N,bk:=D.nx} σ2 H2)
noncomputable def qh(fp:List Addr)(h:Heap):List (Addr×Obj):=fp.filterMap λ b=>(h.get? b).map λ o=>(b,o)
def iX(hb:b∈fp)(e:h.get? b=some o):(b,o)∈qh fp h:=List.mem_filterMap.mpr (af b hb (by rw[e];rfl))
def DN(hp:p∈qh fp h):p.1∈fp/\h.get? p.1=some p.2:=by
 refine ah (λ b hb e=>?_) (List.mem_filterMap.mp hp);cases q:h.get? b with
 |none=>rw[q] at e;cases e
 |some o=>rw[q] at e;have e':(b,o)=p:=Option.some.inj e;subst e';exact ⟨hb,q⟩
def Inv.pinned{s:Shared}(I:Inv X pins σ H s)(hf:∀b∈fp,fQ X pins H b)(ho:∀b∈fp,∃o,s.heap.get? b=some o/\∀v,o.data≠.cell v):Inv X (pins++qh fp s.heap) σ H s:=I.eu λ p hp=>(List.mem_append.mp hp).elim (λ z=>I.pin p (List.mem_append_right _ z)) λ z=>by obtain ⟨hb,e⟩:=DN z;refine iU (λ f0 f1 f2 _=>?_) (hf p.1 hb);refine ah (λ o e' d=>?_) (ho p.1 hb);rw[e] at e';cases e';exact lH e f0 f1 f2 d
def Inv.ju{pins pl:List (Addr×Obj)}{s:Shared}(I:Inv X (pins++pl) σ H s):Inv X pins σ H s:=I.eu λ p hp=>I.pin p (List.mem_append_right _ (List.mem_append_left _ hp))
def NQ(hp:PassesOwn (model X.prog X.w) X.A X.env X.xe)(hc:X.calm=true)(hi:PI X tg iter wi)(hg:PG X tg g)(hb:zS X body tb)(hs:∀x,foldedSetIterable iter X.env x=pure x:=by intro _;rfl):PS X (.For tg iter body [] pos) (WZ wi g tb):=by
 intro pins s σ H D I h;refine wpAny_For (dN (hi pins s σ H _ I h) λ v s1 h1=>dN h1 λ itv s2 h2=>?_) hs;obtain ⟨it,fp,tn,J,H2,e,I2,T,st2,f2,W,⟨m0,w0⟩,turn⟩:=h2;subst e
 -- what stays true of zP OU objects through zP loop
 have Nm:∀{H':Hp},(∀b∈fp,H' b=none)->∀b∈fp,fQ X pins H' b:=λ hn b hb=>⟨hn b hb,(f2 b hb).2⟩;refine codeAny_forLoop_any (λ n s'=>∃i σ' H',Inv X pins σ' H' s'/\tn i s'.heap/\(∀b∈fp,H' b=none)/\W i n σ' H') ?_ m0 (g7 0 σ H2 I2 st2 (λ b hb=>(f2 b hb).1) w0);refine λ n s3=>nQ λ i σ3 H3 I3 st3 Ud w3=>?_;rcases turn i n σ3 H3 w3 with ⟨stop,qn⟩|⟨go,N,hN,step⟩
 ·refine wpAny_passesOwn hp (dN (T.done X rfl rfl rfl hc i pins s3 σ3 H3 X.xe I3 (Nm Ud) st3 stop) ?_)
  rintro r s4 ⟨hr,I4⟩
  subst hr;exact wpAny_execs_nil (aM σ3 H3 I4 qn)
 ·refine wpAny_passesOwn hp (dN (T.item X rfl rfl rfl hc i pins s3 σ3 H3 X.xe I3 (Nm Ud) st3 go) ?_);refine λ r s4=>ah λ u hr h4=>?_;subst hr;refine wpAny_passesOwn hp (dN h4 ?_);refine λ _ s5=>cC λ x H5 I5 r5 y5 Nn Yi=>?_;have YJ:=I5.pinned (Nm Yi) (T.obj _ _ Nn);refine wpAny_passesOwn hp (dN (hg _ s5 σ3 H5 x u _ YJ r5 (step x H5 y5)) ?_);refine λ _ s6=>aQ λ σ6 H6 I6 q6=>?_;refine wpAny_passesOwn hp (dN (hb _ s6 σ6 H6 _ I6 q6) λ f s7 q7=>?_);have again:∀{σ7:St} {H7:Hp},Inv X (pins++qh fp s5.heap) σ7 H7 s7->N σ7 H7->∃m,m<n/\∃i σ' H',Inv X pins σ' H' s7/\tn i s7.heap/\(∀b∈fp,H' b=none)/\W i m σ' H':=λ{σ7 H7} I7 n7=>by refine ah (λ m' hm w7=>?_) (hN σ7 H7 n7);refine af m' hm (g7 (i+1) σ7 H7 I7.ju (T.keep _ _ _ Nn λ b hb o e=>(I7.pin (b,o) (List.mem_append_right _ (List.mem_append_right _ (iX hb e)))).1) (λ b hb=>?_) w7);refine ah (λ o e d=>?_) (T.obj _ _ Nn b hb);exact (I7.pin (b,o) (List.mem_append_right _ (List.mem_append_right _ (iX hb e)))).2.1
  cases f with
  |next=>refine aQ (λ σ7 H7 I7 n7=>?_) q7;exact again I7 n7
  |cont=>refine aQ (λ σ7 H7 I7 n7=>?_) q7;exact again I7 n7
  |brk=>refine aQ (λ σ7 H7 I7 q7=>?_) q7;exact aM σ7 H7 I7.ju q7
  |ret v=>refine dO (λ x7 σ7 H7 I7 r7 q7=>?_) q7;exact jy x7 σ7 H7 I7.ju r7 q7
end
abbrev R2:=V->V->Hp->VK->Prop
def kF(X:Cx)(f:Value->Value->Sem Value)(r:R2):Prop:=∀(pins:List (Addr×Obj)) (s:Shared) (σ:St) (H:Hp) (x y:V) (v u:Value) (Q:VK),Inv X pins σ H s->RelV x v->RelV y u->r x y H Q->wpAny (model X.prog X.w) X.A (f v u) (EP X pins σ Q) X.xe s
def YC(X:Cx)(f:Value->Sem Value)(r:V->Hp->VK->Prop):Prop:=∀(pins:List (Addr×Obj)) (s:Shared) (σ:St) (H:Hp) (x:V) (v:Value) (Q:VK),Inv X pins σ H s->RelV x v->r x H Q->wpAny (model X.prog X.w) X.A (f v) (EP X pins σ Q) X.xe s
def nD(X:Cx)(f:Value)(r:List V->Hp->VK->Prop):Prop:=∀(pins:List (Addr×Obj)) (s:Shared) (σ:St) (H:Hp) (xs:List V) (us:List Value) (Q:VK),Inv X pins σ H s->Vals xs us->r xs H Q->wpAny (model X.prog X.w) X.A (call f us) (EP X pins σ Q) X.xe s
def RT(r:R2)(ta tb:TE):TE:=λ σ H Q=>ta σ H λ x H1=>tb σ H1 λ y H2=>r x y H2 Q
def tUn(r:V->Hp->VK->Prop)(ta:TE):TE:=λ σ H Q=>ta σ H λ x H1=>r x H1 Q
def rI(C:Int->Int->Prop)(g:Int->Int->V):R2:=λ x y H Q=>∃i j,x= .int i/\y= .int j/\C i j/\Q (g i j) H
def LB(g:Int->Int->V):R2:=λ x y H Q=>∃i j,x= .int i/\y= .int j/\Q (g i j) H
def rU(g:Int->V):V->Hp->VK->Prop:=λ x H Q=>∃i,x= .int i/\Q (g i) H
section
variable{X:Cx}{a b c:Expr}{ta tb tc:TE}{pos:Pos}
def PY(ha:PE X a ta)(hb:PE X b tb){pins:List (Addr×Obj)}{s:Shared}{σ:St}{H:Hp}{R:V->V->Hp->Prop}(I:Inv X pins σ H s) (h:ta σ H λ x H1=>tb σ H1 λ y H2=>R x y H2) {Q:Value->Shared->Prop} {f:Value->Value->Sem Value} (hf:∀v u s2 x y H2,Inv X pins σ H2 s2->RelV x v->RelV y u->R x y H2->wpAny (model X.prog X.w) X.A (f v u) Q X.xe s2):
  wpAny (model X.prog X.w) X.A (eval a X.env) (λ v s₁=>wpAny (model X.prog X.w) X.A (eval b X.env) (λ u s₂=>wpAny (model X.prog X.w) X.A (f v u) Q X.xe s₂) X.xe s₁) X.xe s:=by
 refine dN (ha pins s σ H _ I h) ?_;refine λ v s1=>ak λ x H1 I1 r1 q1=>?_;refine dN (hb pins s1 σ H1 _ I1 q1) ?_;refine λ u s2=>ak λ y H2 I2 r2 q2=>?_;exact hf v u s2 x y H2 I2 r1 r2 q2
def FT{op:Operator}{r:R2}(ho:kF X (binaryOp op) r)(ha:PE X a ta)(hb:PE X b tb):PE X (.BinOp a op b pos) (RT r ta tb):=by intro pins s σ H Q I h;exact wpAny_BinOp (PY ha hb I h λ v u s2 x y H2 I2 rx ry q=>ho pins s2 σ H2 x y v u Q I2 rx ry q)
def SJ{r:V->Hp->VK->Prop}(ho:YC X (unaryOp op) r)(ha:PE X a ta):PE X (.UnaryOp op a pos) (tUn r ta):=by intro pins s σ H Q I h;exact UnaryOp_ (dN (ha pins s σ H _ I h) λ v s1 z_=>vf z_ λ x H1 I1 r1 q1=>ho pins s1 σ H1 x v Q I1 r1 q1)
def SQ{f:Value->Value->Sem Value}{C:Int->Int->Prop}{g:Int->Int->Int} (rule:∀(i j:Int) (t u:Tok) (s:Shared) (Q:Value->Shared->Prop) (E:Value->Shared->Prop),C i j->Q (.int (g i j) s.toks) {s with toks:=s.toks+1}->wpAny (model X.prog X.w) X.A (f (.int i t) (.int j u)) Q E s):
  kF X f (rI C λ i j=> .int (g i j)):=by
 intro pins s σ H x y v u Q I rx ry h
 revert h;refine aN λ i j z w hc q=>?_;subst z;subst w
 obtain ⟨t,rfl⟩:=rx;obtain ⟨t',rfl⟩:=ry;exact rule i j t t' s _ _ hc (ao (.int (g i j)) H (I.tok _) ⟨_,rfl⟩ q)
def Og{f:Value->Value->Sem Value}{g:Int->Int->Int} (rule:∀(i j:Int) (t u:Tok) (s:Shared) (Q:Value->Shared->Prop) (E:Value->Shared->Prop),Q (.int (g i j) s.toks) {s with toks:=s.toks+1}->wpAny (model X.prog X.w) X.A (f (.int i t) (.int j u)) Q E s):
  kF X f (LB λ i j=> .int (g i j)):=by
 intro pins s σ H x y v u Q I rx ry h
 revert h;refine ak λ i j z w q=>?_;subst z;subst w
 obtain ⟨t,rfl⟩:=rx;obtain ⟨t',rfl⟩:=ry;exact rule i j t t' s _ _ (ao (.int (g i j)) H (I.tok _) ⟨_,rfl⟩ q)
def SR{f:Value->Value->Sem Value}{g:Int->Int->Bool} (rule:∀(i j:Int) (t u:Tok) (s:Shared) (Q:Value->Shared->Prop) (E:Value->Shared->Prop),Q (.bool (g i j)) s->wpAny (model X.prog X.w) X.A (f (.int i t) (.int j u)) Q E s):
  kF X f (LB λ i j=> .bl (g i j)):=by
 intro pins s σ H x y v u Q I rx ry h
 revert h;refine ak λ i j z w q=>?_;subst z;subst w
 obtain ⟨t,rfl⟩:=rx;obtain ⟨t',rfl⟩:=ry;exact rule i j t t' s _ _ (ao (.bl (g i j)) H I rfl q)
noncomputable def YL(i j:Int):Prop:=0<=j/\j<=1000000/\i.natAbs<2^64
def Of:kF X (binaryOp .Add) (LB λ i j=> .int (i+j)):=Og λ _ _ _ _ _ _ _ q=>add_int q
def N9:kF X (binaryOp .Sub) (LB λ i j=> .int (i- j)):=Og λ _ _ _ _ _ _ _ q=>sub_int q
def JR:kF X (binaryOp .Mod) (rI (λ _ j=>j≠0) λ i j=> .int (i.fmod j)):=SQ λ _ _ _ _ _ _ _ hc q=>mod_int' hc q
def Oc:kF X (binaryOp .Pow) (rI YL λ i j=> .int (i^j.toNat)):=SQ λ _ _ _ _ _ _ _ hc q=>pow_int_small hc.1 hc.2.1 hc.2.2 q
def Oe:kF X (binaryOp .BitAnd) (LB λ i j=> .int (Builtin.bitAnd i j)):=Og λ _ _ _ _ _ _ _ q=>and_int q
def unI{f:Value->Sem Value}{g:Int->Int} (rule:∀(i:Int) (t:Tok) (s:Shared) (Q:Value->Shared->Prop) (E:Value->Shared->Prop),Q (.int (g i) s.toks) {s with toks:=s.toks+1}->wpAny (model X.prog X.w) X.A (f (.int i t)) Q E s):
  YC X f (rU λ i=> .int (g i)):=by
 intro pins s σ H x v Q I rx h
 revert h;refine ah λ i z q=>?_;subst z
 obtain ⟨t,rfl⟩:=rx;exact rule i t s _ _ (ao (.int (g i)) H (I.tok _) ⟨_,rfl⟩ q)
def M9:YC X (unaryOp .USub) (rU λ i=> .int (-i)):=unI λ _ _ _ _ _ q=>neg_int q
def SN:kF X (compareOp .Lt) (LB λ i j=> .bl (decide (i<j))):=SR λ _ _ _ _ _ _ _ q=>lt_int q
def SO:kF X (compareOp .Gt) (LB λ i j=> .bl (decide (j<i))):=SR λ _ _ _ _ _ _ _ q=>gt_int q
def kF.or{r r':R2}(h:kF X f r)(h':kF X f r'):kF X f (λ x y H Q=>r x y H Q\/r' x y H Q):=by
 intro pins s σ H x y v u Q I rx ry q;rcases q with q|q
 ·exact h pins s σ H x y v u Q I rx ry q
 ·exact h' pins s σ H x y v u Q I rx ry q
def qy(b:Expr)(h:op≠.In:=by decide)(h2:op≠.NotIn:=by decide):behindInMarks op b=false:=by
 have e1:(op==CmpOp.In)=false:=by cases op<;>first|rfl|exact absurd rfl h
 have e2:(op==CmpOp.NotIn)=false:=by cases op<;>first|rfl|exact absurd rfl h2
 cases b<;>simp[behindInMarks,e1,e2]
def JL{op:CmpOp}{r:R2}(ho:kF X (compareOp op) r)(ha:PE X a ta)(hb:PE X b tb)(hm:behindInMarks op b=false):PE X (.Compare a [op] [b] pos) (RT r ta tb):=by intro pins s σ H Q I h;exact wpAny_Compare1 (PY ha hb I h λ v u s2 x y H2 I2 rx ry q=>ho pins s2 σ H2 x y v u Q I2 rx ry q) hm
def Ls(t:TE):TT:=λ σ H Q=>t σ H λ x H'=>∃k,x= .bl k/\Q k H'
def JA{r:R2}(ho:kF X (compareOp op) r)(ha:PE X a ta)(hb:PE X b tb)(hm:behindInMarks op b=false):PT X (.Compare a [op] [b] pos) (Ls (RT r ta tb)):=by intro pins s σ H Q I h;refine wpAny_isTrue_Compare1 (dN (ha pins s σ H _ I h) λ v s1 z_=>vf z_ λ x H1 I1 r1 q1=>dN (hb pins s1 σ H1 _ I1 q1) λ u s2 ⟨y,H2,I2,r2,q2⟩=>dN (ho pins s2 σ H2 x y v u _ I2 r1 r2 q2) λ c s3 ⟨z,H3,I3,r3,k,e,q3⟩=>?_) hm;subst e;cases r3;exact wpAny_truthy_bool (af H3 I3 q3)
def qI:(sizeLine:Nat)<2^63:=by rw[sizeLine_eq];decide
def Ar:kF X (binaryOp .Add) (λ x y H Q=>∃i j,x= .str i/\y= .str j/\i.length+j.length<=sizeLine/\Q (.str (i++j)) H):=by
 intro pins s σ H x y v u Q I rx ry h
 revert h;refine aN λ i j z w hz q=>?_;subst z;subst w
 obtain ⟨t,rfl⟩:=rx;obtain ⟨t',rfl⟩:=ry;exact add_str (λ t' tk=>ao (.str (i++j)) H (I.tok _) ⟨_,rfl⟩ q) hz
def vals1(r:Vals [x] us):∃u,us=[u]/\RelV x u:=by
 cases r with
 |cons r1 r2=>cases r2;exact af _ rfl r1
def vals2{x y:V}(r:Vals [x,y] us):∃u w',us=[u,w']/\RelV x u/\RelV y w':=by
 cases r with
 |cons r1 r2=>
  cases r2 with
  |cons r3 r4=>cases r4;exact ao _ _ rfl r1 r3
def HH:nD X (.builtin "abs") (λ xs H Q=>∃i,xs=[.int i]/\Q (.int (if i<0 then -i else i)) H):=by
 intro pins s σ H xs us Q I r h
 revert h;refine ah λ i z q=>?_;subst z
 refine ah (λ u z y=>?_) (vals1 r);subst z;obtain ⟨t,rfl⟩:=y;exact call_abs_int λ u tk=>ao (.int (if i<0 then -i else i)) H (I.tok _) ⟨_,rfl⟩ q
def El(hc:X.calm=true):nD X (.builtin "min") (λ xs H Q=>∃i j,xs=[.int i,.int j]/\Q (.int (if j<i then j else i)) H):=by
 intro pins s σ H xs us Q I r h
 revert h;refine aQ λ i j z q=>?_;subst z
 refine ak (λ u w' z y w=>?_) (vals2 r);subst z;obtain ⟨t,rfl⟩:=y;obtain ⟨t',rfl⟩:=w;refine min_two_ints (I.ok.hd hc) λ h' tk k=>ao _ H (I.kept k) ?_ q;by_cases hj:j<i
 ·rw[if_pos hj,if_pos hj];exact ⟨_,rfl⟩
 ·rw[if_neg hj,if_neg hj];exact ⟨_,rfl⟩
def YF(K:W.Frag)(x:V)(H:Hp)(n:Nat):Prop:=match x with
 | .str y=>y.length<=sizeLine/\n=y.length
 | .UL y=>y.size<=sizeLine/\n=y.size
 | .ref p=>(∃xs,fV K H p xs/\n=xs.length)\/∃xs,rQ K H p xs/\n=xs.length
 |_=>False
def HE:nD X (.builtin "len") (λ xs H Q=>∃x n,xs=[x]/\YF X.K x H n/\Q (.int n) H):=by
 intro pins s σ H xs us Q I r h
 revert h;refine ak λ x n z e q=>?_;subst z
 refine ah (λ u z rx=>?_) (vals1 r);subst z;have hl:=qI;have hs:sizeLine=16777216:=sizeLine_eq;cases x with
 |str y=>obtain ⟨t,rfl⟩:=rx;obtain ⟨hy,e'⟩:y.length<=sizeLine/\n=y.length:=e;subst e';exact len_str (by omega) (ao (.int _) H (I.tok _) ⟨_,rfl⟩ q)
 |UL y=>obtain ⟨t,rfl⟩:=rx;obtain ⟨hy,e'⟩:y.size<=sizeLine/\n=y.size:=e;subst e';exact W.len_bytes (by omega) (ao (.int _) H (I.tok _) ⟨_,rfl⟩ q)
 |ref p=>
  cases rx;have e':(∃xs,fV X.K H p xs/\n=xs.length)\/∃xs,rQ X.K H p xs/\n=xs.length:=e;rcases e' with ⟨xs,hx,e'⟩|⟨xs,hx,e'⟩
  ·subst e';refine aD (λ its r' pl hz=>?_) (I.list hx);have hlen:=r'.length;exact Calls.call_len_list pl.isList (by simp only[List.size_toArray];omega) (ao (.int xs.length) H (I.tok _) ⟨_,by simp only[List.size_toArray];rw[hlen]⟩ q)
  ·subst e';refine aD (λ its r' pl hz=>?_) (I.tuple hx);have hlen:=r'.length;exact len_tuple pl (by simp only[List.size_toArray];omega) (ao (.int xs.length) H (I.tok _) ⟨_,by simp only[List.size_toArray];rw[hlen]⟩ q)
 |_=>exact (show False from e).elim
end
structure Qa(h:Heap)(x dx C:Addr)(mA:Str->Option Value):Prop where
 obj:h.get? x=some (W.instObj C dx)
 ns:h.Ns1 dx mA
 ne:dx≠x
def DT{h:Heap}{dx:Addr}{mA:Str->Option Value}(n:h.Ns1 dx mA):∃od,h.get? dx=some od/\∀name,W.lookIn name od=some (mA name):=by
 revert n;refine p8 λ o es ep ho hd hk _ hm=>?_
 refine af o ho (λ name=>?_);have e:=hm name;unfold nsFind findBy at e;rw[<-Array.find?_toList] at e;unfold W.lookIn;rw[hd];dsimp only;split
 ·rename_i y q;rw[q] at e;exact congrArg some e
 ·rename_i q;rw[q] at e;have a:es.toList.any (·.refKey)=false:=by rw[List.any_eq_false];intro y hy;refine Aj (λ z t hkey=>?_) (hk y (Array.mem_toList_iff.mp hy));simp[DictEntry.refKey,hkey]
  have a':¬es.toList.any (·.refKey)=true:=by rw[a];exact Bool.false_ne_true
  rw[if_neg a'];exact congrArg some e
def Qa.look(I:Qa h x dx C mA):∃od,W.InstAt h x (W.instObj C dx) C (some od)/\∀name,W.lookIn name od=some (mA name):=let ⟨od,ho,hl⟩:=DT I.ns
 (af od ⟨I.obj,rfl,rfl,ho⟩ hl)
section
variable{prog:Program}{w:World}{A:Around}{E:Value->Shared->Prop}{s:Shared}{K:W.Frag}{x dx C f:Addr}{mA:Str->Option Value}{name:Str}{v:Value}
end
def rG.some_of{v:V}(r:rG (some v) o):∃u,o=some u/\RelV v u:=by
 cases o with
 |none=>exact (show False from r).elim
 |some u=>exact af u rfl r
section
variable{P:Program}{w:World}{H H':Hp}{h h':Heap}{a C dx:Addr}{fs fs':List (Str×V)}
def Kp(hok:kh P w H h)(e:H a=some (.ins C dx fs)):∃mA,Qa h a dx C mA/\(∀f,rG (fs.lookup f) (mA f))/\PySem.Within mA (fs.map (·.1))/\fs.length<=1000/\H dx=some (.own a):=by refine iT (λ d z ne ob=>aD λ mA n r q=>?_) (show bQ P w H h a (.ins C dx fs) from hok a _ e);exact ⟨mA,⟨ob,n,ne⟩,r,q,z,d⟩
end
structure Vg(K:W.Frag)(C:Addr):Prop where
 pg:W.plainGet K C Str.empty=true
 hd:W.hasDictIn K C=true
 po:W.plainOver K C=true
 sa:W.findIn K (.ref C) "__setattr__"=some (some (.builtin "object.__setattr__"))
def Vg.get{K:W.Frag}{C:Addr}(c:Vg K C)(f:Str):W.plainGet K C f=true:=c.pg
structure Con(K:W.Frag)(C:Addr)(f:Str)(v:V)(u:Value):Prop where
 at_:W.findIn K (.ref C) f=some (some u)
 rel:RelV v u
 get:W.specialIn K u "__get__"=some none
 cp:W.copiedNames.contains f=false
structure Meth(K:W.Frag)(C:Addr)(m:Str)(f:Addr):Prop where
 at_:W.findIn K (.ref C) m=some (some (.ref f))
 fn:W.isFn K (.ref f)=true
 kp:W.keepIn K (.ref f)=true
section
variable{X:Cx}{pins:List (Addr×Obj)}{σ:St}{H:Hp}{s:Shared}{a C dx:Addr}{fs:List (Str×V)}{f:Str}{v:V}{A:Around}{E:Value->Shared->Prop}
end
section
variable{X:Cx}{o e value:Expr}{f:Str}{pos pos' tpos:Pos}{ta tv:TE}
end
section
variable{X:Cx}{pins:List (Addr×Obj)}{σ:St}{H:Hp}{s:Shared}{A:Around}{E:Value->Shared->Prop}{Q:Value->Shared->Prop}{c:Value}{b:Bool}
inductive rF(K:W.Frag)(H:Hp):V->Value->Prop where
 |eU:rF K H .eU (.type "NoneType")
 |bl (x:Bool):rF K H (.bl x) (.type "bool")
 |int (i:Int):rF K H (.int i) (.type "int")
 |str (x:Str):rF K H (.str x) (.type "str")
 |Ug (x:UInt64):rF K H (.Ug x) (.type "float")
 |lst {a:Addr} {xs:List V} (e:H a=some (.lst xs)):rF K H (.ref a) (.type "list")
 |jI {a:Addr} {o:Obj} {xs:List V} (e:H a=some (.jI o (.lst xs))):rF K H (.ref a) (.type "list")
 |tup {a:Addr} {xs:List V} (e:H a=some (.tup xs)):rF K H (.ref a) (.type "tuple")
 |dK {a:Addr} {kvs:List (Key×V)} (e:H a=some (.dK kvs)):rF K H (.ref a) (.type "dict")
 |dT {a:Addr} {kvs:List (List Key×V)} (e:H a=some (.dT kvs)):rF K H (.ref a) (.type "dict")
 |ins {a C dx:Addr} {fs:List (Str×V)} (e:H a=some (.ins C dx fs)) (cl:Vg K C) (ha:W.findIn K (.ref C) "__class__"=some (some (.builtin "object.__class__")))
   (hn:W.specialIn K (.builtin "object.__class__") "__get__"=some (some (.builtin "getset_descriptor.__get__"))) (htk:W.takesIn K (.builtin "object.__class__")=some true)
   (hm:W.mroIn K C (.type "object")=some true):rF K H (.ref a) (.ref C)
end
structure dw(k:Nat)(A:Around):Prop where
 hd:A.handled=none
 dp:A.depth+3*k+5<recursionLimit
 un:A.units+16*k+200<cLine
def dw.mono(r:dw k A)(h:j<=k):dw j A:=⟨r.hd,by have:=r.dp;omega,by have:=r.un;omega⟩
theorem dw.deeper(r:dw (k+1) A)(env:Env):dw k (A.deeper env):=⟨r.hd,by have:=r.dp;show A.depth+1+3*k+5<_;omega,by have:=r.un;show A.units+3+16*k+200<_;omega⟩
theorem dw.depth(r:dw k A):A.depth<recursionLimit:=by have:=r.dp;omega
theorem dw.units(r:dw k A):A.units+64<cLine:=by have:=r.un;omega
def RV:TA:=λ _ H Q=>Q [] H
def Lu(ta:TE)(tr:TA):TA:=λ σ H Q=>ta σ H λ x H1=>tr σ H1 λ xs H2=>Q (x::xs) H2
section
variable{X:Cx}{e:Expr}{es:List Expr}{te:TE}{t:TA}{pos:Pos}
def qi:PA X [] RV:=λ _ _ _ _ H Q I h=>Calls.spliced_nil (ao [] H I .nil h)
def iV(ha:PE X e te)(hr:PA X es t)(hs:starEach (e::es) X.env=(false,eval e X.env)::starEach es X.env:=by rfl):PA X (e::es) (Lu te t):=by intro pos pins s σ H Q I h;rw[hs];show wpAny _ _ (spliced ((false,eval e X.env)::backTo pos (starEach es X.env))) _ _ s;refine Calls.spliced_cons (dN (ha pins s σ H _ I h) ?_);refine λ u s1=>ak λ x H1 I1 r1 q1=>?_;exact dN (hr pos pins s1 σ H1 _ I1 q1) λ us s2 z_=>vf z_ λ xs H2 I2 r2 q2=>ao (x::xs) H2 I2 (.cons r1 r2) q2
def WN(t:TA):TE:=λ σ H Q=>t σ H λ xs H1=>xs.length<=sizeLine/\∀p,H1 p=none->Q (.ref p) (upd H1 p (.tup xs))
def WX(t:TA):TE:=λ σ H Q=>t σ H λ xs H1=>xs.length<=sizeLine/\∀p,H1 p=none->Q (.ref p) (upd H1 p (.lst xs))
def FP{x1}(h:PA X es t):PE X (.Tuple es x1 pos) (WN t):=by intro pins s σ H Q I hq;refine wpAny_Tuple_spliced (dN (h pos pins s σ H _ I hq) λ us s1 ⟨xs,H1,I1,r,z,q⟩=>⟨by rw[<-r.length];exact z,?_⟩);have hf:H1 s1.heap.objs.size=none:=I1.hok.fresh (Nat.le_refl _);refine ao (.ref s1.heap.objs.size) (upd H1 s1.heap.objs.size (.tup xs)) (I1.laid (t':=s1.toks) (λ b u e=>Heap.get?_push_of_some _ e) (Nat.le_refl _) ?_) rfl (q _ hf);exact ⟨z,af us r (aX _ (Heap.get?_push_size _ rfl) rfl ⟨_,rfl⟩)⟩
def N4(h:PA X es t):PE X (.List es pos) (WX t):=by intro pins s σ H Q I hq;refine wpAny_List_spliced (dN (h pos pins s σ H _ I hq) λ us s1 ⟨xs,H1,I1,r,z,q⟩=>⟨by rw[<-r.length];exact z,?_⟩);have hf:H1 s1.heap.objs.size=none:=I1.hok.fresh (Nat.le_refl _);refine ao (.ref s1.heap.objs.size) (upd H1 s1.heap.objs.size (.lst xs)) (I1.laid (t':=s1.toks) (λ b u e=>Heap.get?_push_of_some _ e) (Nat.le_refl _) ?_) rfl (q _ hf);exact ⟨z,aM us 0 r (Heap.get?_push_size _ rfl)⟩
end
abbrev Sp:=List V->Hp->VK->XK->Prop
abbrev Ll:=List Env->Hp->Shared->XK->Value->Shared->Prop
structure Lj(P:Program)(w:World)(K:W.Frag)(mg:Str->Option Value)(base:Heap)(A:Around)(outer:List Env)(s:Shared)(H:Hp):Prop where
 frames:A.frames=some outer
 mod:Mod K mg base
 bs:∀b o,base.get? b=some o->s.heap.get? b=some o/\H b=none
 Ma:base.objs.size<=s.heap.objs.size
 qS:s.heap.FunFrames base outer
 Rf:∀b∈frs outer,H b=none
 hok:kh P w H s.heap
 bare:AllBare s.gens
def CE(outer:List Env)(P:Program)(w:World)(H:Hp)(s:Shared)(Q:VK)(u:Value)(s':Shared):Prop:=∃v H',s'.os=s.os/\AllBare s'.gens/\Un (frs outer) [] H H' s.heap s'.heap/\kh P w H' s'.heap/\RelV v u/\Q v H'
def CR(CX:Ll)(outer:List Env)(P:Program)(w:World)(H:Hp)(s:Shared)(Q:VK)(E:XK)(r:Result)(s':Shared):Prop:=match r with
 | .ok (.ret u)=>CE outer P w H s Q u s'
 | .ok _=>False
 | .error e=>CX outer H s E e s'
structure Qg(P:Program)(w:World)(K:W.Frag)(mg:Str->Option Value)(base:Heap)(CX:Ll)(k:Nat)(f:Addr)(fd:FuncData)(ps:List Str)(sp:Sp):Prop where
 len:∀vs H Q E,sp vs H Q E->vs.length=ps.length
 run:∀(A:Around) (outer:List Env) (s:Shared) (H:Hp) (args:Args) (us:List Value) (vs:List V) (Q:VK) (E:XK),dw k A->Lj P w K mg base A outer s H->BindsTo s fd args (ps.zip us)->Vals vs us->sp vs H Q E->
  codeAny (model P w) A (.call (.ref f) args) (CR CX outer P w H s Q E) s
section
variable{X:Cx}{pins:List (Addr×Obj)}{σ:St}{H:Hp}{s s':Shared}
def Inv.Yr(I:Inv X pins σ H s):Lj X.prog X.w X.K X.mg X.base X.A X.stack s H:=⟨I.ok.frames,I.ok.mod,I.bs,Nat.le_trans I.ok.Ma I.sz,I.stack,I.mz,I.hok,I.bare⟩
def Inv.after{Q:VK}(I:Inv X pins σ H s)(h:CE X.stack X.prog X.w H s Q u s'):EP X pins σ Q u s':=by obtain ⟨v,H',os,bare,un,hok,r,q⟩:=h;obtain ⟨hh,g,d,t,os'⟩:=s';obtain rfl:os'=s.os:=os;exact ao v H' (I.call (h':=hh) (g':=g) (d':=d) (t':=t) (ch:=[]) un hok bare (λ b z=>absurd z (by simp))) r q
end
def Binds(K:W.Frag)(fd:FuncData)(ps:List Str)(ds:List Value):Prop:=∀(s:Shared) (us:List Value),K.In s.heap->(us++ds).length=ps.length->BindsTo s fd ⟨us,[]⟩ (ps.zip (us++ds))
def Binds.all{K:W.Frag}{fd:FuncData}{ps:List Str}(h:∀us:List Value,us.length=ps.length->bindArgs fd ⟨us,[]⟩=pure (ps.zip us)):Binds K fd ps []:=λ s us _ hl=>by rw[List.append_nil] at hl ⊢;exact .of_eq (h us hl)
section
variable{X:Cx}{CX:Ll}{k:Nat}{f C:Addr}{fd:FuncData}{ps:List Str}{sp:Sp}{dvs:List V}{ds:List Value}{E:XK}{x m:Str}{p pos apos:Pos}{e o:Expr}{es:List Expr}{ta:TE}{t:TA}
structure Mk(K:W.Frag)(C f:Addr):Prop where
 makes:W.makesIn K C=true
 init:W.findIn K (.ref C) "__init__"=some (some (.ref f))
 fn:W.isFn K (.ref f)=true
 kp:W.keepIn K (.ref C)=true
end
section
variable{X:Cx}{CX:Ll}{k:Nat}{f C:Addr}{fd:FuncData}{ps ks:List Str}{sp:Sp}{E:XK}{x m:Str}{p pos apos kpos:Pos}{e o:Expr}{es:List Expr}{kws:List Keyword}{te ta:TE}{t tk:TA}{nm:Option Str}
structure YH(K:W.Frag)(fd:FuncData)(ps ks:List Str)(g:List Value->List Value->List Value)(gV:List V->List V->List V):Prop where
 to:∀(s:Shared) (us ws:List Value),K.In s.heap->(g us ws).length=ps.length->BindsTo s fd ⟨us,ks.zip ws⟩ (ps.zip (g us ws))
 rel:∀{vs:List V} {us:List Value} {zs:List V} {ws:List Value},Vals vs us->Vals zs ws->Vals (gV vs zs) (g us ws)
variable{g:List Value->List Value->List Value}{gV:List V->List V->List V}
end
structure jc(N P:List Str)(sc:Scope):Prop where
 kind:sc.kind= .function
 co:sc.isCoroutine=false
 gen:sc.isGenerator=false
 nd:N.Nodup
 pre:N.take P.length=P
 par:∀x∈P,sc.names.lookup x=some .local\/sc.names.lookup x=some .cell
 Oz:∀y∈sc.names,y.2≠.free
def En{kindOf:Str->Option NameKind}{x:Str}:∀{binds:List (Str×Value)} {m:Str->Option Value},(∀v,(x,v)∉binds)->bindL kindOf binds m x=m x:=by
 intro v_;induction v_ with
 |nil=>
  rintro _ _
  exact rfl
 |cons e_ r j4=>
  obtain ⟨n,v⟩:=e_
  rintro m h
  unfold bindL;rw[j4 λ w hw=>h w (List.mem_cons_of_mem _ hw)];split
  ·have:x≠n:=by rintro rfl;exact h v List.mem_cons_self
   simp[this]
  ·rfl
def Eo{kindOf:Str->Option NameKind}{x:Str}:∀{binds:List (Str×Value)} {m:Str->Option Value},(∀v,(x,v)∉binds)->bindC kindOf binds m x=m x:=by
 intro v_;induction v_ with
 |nil=>
  rintro _ _
  exact rfl
 |cons e_ r j4=>
  obtain ⟨n,v⟩:=e_
  rintro m h
  unfold bindC;rw[j4 λ w hw=>h w (List.mem_cons_of_mem _ hw)];split
  ·rfl
  ·have:x≠n:=by rintro rfl;exact h v List.mem_cons_self
   simp[this]
theorem tT{kindOf:Str->Option NameKind}{x:Str}{v:Value}:∀{P:List Str} {vs:List Value} {i:Nat} {m:Str->Option Value},P.Nodup->P[i]? =some x->vs[i]? =some v->kindOf x=some .local->bindL kindOf (P.zip vs) m x=some v
 |[],_,_,_,_,h,_,_=>by simp at h
 |_::_,[],_,_,_,_,h,_=>by simp at h
 |p::P,w::vs,0,m,nd,h1,h2,hk=>by simp at h1 h2;subst h1;subst h2;show bindL kindOf ((p,w)::P.zip vs) m p=_;unfold bindL;rw[En λ v hv=>(List.nodup_cons.mp nd).1 (List.of_mem_zip hv).1,if_pos hk];simp
 |p::P,w::vs,i+1,m,nd,h1,h2,hk=>by show bindL kindOf ((p,w)::P.zip vs) m x=_;unfold bindL;exact tT (i:=i) (List.nodup_cons.mp nd).2 (by simpa using h1) (by simpa using h2) hk
theorem tU{kindOf:Str->Option NameKind}{x:Str}{v:Value}:∀{P:List Str} {vs:List Value} {i:Nat} {m:Str->Option Value},P.Nodup->P[i]? =some x->vs[i]? =some v->kindOf x≠some .local->bindC kindOf (P.zip vs) m x=some v
 |[],_,_,_,_,h,_,_=>by simp at h
 |_::_,[],_,_,_,_,h,_=>by simp at h
 |p::P,w::vs,0,m,nd,h1,h2,hk=>by simp at h1 h2;subst h1;subst h2;show bindC kindOf ((p,w)::P.zip vs) m p=_;unfold bindC;rw[Eo λ v hv=>(List.nodup_cons.mp nd).1 (List.of_mem_zip hv).1,if_neg hk];simp
 |p::P,w::vs,i+1,m,nd,h1,h2,hk=>by show bindC kindOf ((p,w)::P.zip vs) m x=_;unfold bindC;exact tU (i:=i) (List.nodup_cons.mp nd).2 (by simpa using h1) (by simpa using h2) hk
def start(N:List Str)(vs:List V):St:=vs.map some++List.replicate (N.length- vs.length) none
def i6(CX:Ll)(P:Program)(w:World)(K:W.Frag)(mg:Str->Option Value)(base:Heap)(N:List Str)(qual:Str)(scope:Scope)(f:Addr)(cd:Value)(A:Around)(outer:List Env)(s:Shared)(H:Hp)(E:XK):Cx where
 prog:=P
 w:=w
 K:=K
 mg:=mg
 base:=base
 A:=A.deeper (envOfC qual scope s.heap.objs.size f cd)
 N:=N
 s₀:=s
 H₀:=H
 env:=envOfC qual scope s.heap.objs.size f cd
 outer:=outer
 stack:=envOfC qual scope s.heap.objs.size f cd::outer
 ex:=[]
 calm:=true
 fn:=λ _=>true
 pn:=[]
 xe:=λ e s'=>wpAny (model P w) (A.deeper (envOfC qual scope s.heap.objs.size f cd)) (leaving (envOfC qual scope s.heap.objs.size f cd) e) (λ _ s''=>CX outer H s E e s'') (λ e' s''=>CX outer H s E e' s'') s'
def zB{sc:Scope}{n:Nat}{x:Str}(h:sc.names.lookup x=some .cell):∃c,(cellsFrom n sc.names []).lookup x=some c:=by have q:=W.cellsFrom_some sc.names n [] (.inl h);exact Option.isSome_iff_exists.mp q
def D4{CX:Ll}{P:Program}{w:World}{K:W.Frag}{mg:Str->Option Value}{base:Heap}{N ps:List Str}{qual:Str}{scope:Scope}{f:Addr}{cd:Value}{A:Around}{outer:List Env}{s s1:Shared}{H:Hp}{E:XK}{us:List Value}{vs:List V} (S:jc N ps scope) (hd:A.handled=none) (e0:Lj P w K mg base A outer s H) (hl:vs.length=ps.length) (r:Vals vs us) (x:InCallC s s.heap.objs.size (bindL (envOfC qual scope s.heap.objs.size f cd).kindOf (ps.zip us) λ _=>none) (cellsFrom (s.heap.objs.size+1) scope.names []) (bindC (envOfC qual scope s.heap.objs.size f cd).kindOf (ps.zip us) λ _=>none) s1):
  Inv (i6 CX P w K mg base N qual scope f cd A outer s H E) [] (start N vs) H s1:=by
 have hpl:ps.length<=N.length:=by have:=congrArg List.length S.pre;rw[List.length_take] at this;omega
 refine aQ (λ h1 tk z1 hk=>?_) x.done;subst z1;have JX:∀b:Addr,b∉(i6 CX P w K mg base N qual scope f cd A outer s H E).ex:=λ b z=>absurd (show b∈([]:List Addr) from z) (by simp);refine ⟨⟨e0.mod,S.kind,rfl,rfl,Nat.le_refl _,λ y z c h1 h2=>?_,λ y hy=>?_,λ y c _ h=>?_,λ _=>hd,Around.frames_deeper e0.frames,.inr ⟨rfl,rfl⟩,λ b z=>absurd z (JX b),e0.bs,e0.Ma,λ b _ _=>JX b,λ b z=>absurd z (JX b),e0.qS,e0.Rf⟩,
  rfl,e0.bare,Un.kept hk,af _ x.toInCall.ns (λ i y v h1 h2 h3=>?_),λ y c h=>⟨_,x.cell y c h⟩,e0.hok.fresh (Nat.le_refl _),λ y c h=>?_,λ p hp=>absurd (show p∈([]:List (Addr×Obj)) from hp) (by simp),e0.hok.kept hk,?_⟩
 ·exact name_of_addr x.apart (PySem.mem_of_lookup h1) (PySem.mem_of_lookup h2)
 ·have hy:scope.names.lookup y=some .cell\/scope.names.lookup y=some .free:=hy;rcases hy with hy|hy
  ·exact zB hy
  ·exact absurd rfl (S.Oz _ (PySem.mem_of_lookup hy))
 ·exact Nat.le_of_lt (x.above y c (PySem.mem_of_lookup h))
 ·have hi:i<vs.length:=by
   unfold start at h2;by_cases hi:i<vs.length
   ·exact hi
   ·rw[List.getElem?_append_right (by simpa using hi)] at h2;rw[List.getElem?_replicate] at h2;split at h2<;>cases h2
  have ha:vs[i]? =some v:=by
   unfold start at h2;rw[List.getElem?_append_left (by simpa using hi),List.getElem?_map] at h2;cases e:vs[i]? with
   |none=>rw[e] at h2;cases h2
   |some a=>rw[e] at h2;cases h2;rfl
  refine ah (λ u hu rv=>?_) (r.get ha);have hp:ps[i]? =some y:=by rw[<-S.pre,List.getElem?_take_of_lt (by omega)];exact h1
  have Zs:ps.Nodup:=by rw[<-S.pre];exact S.nd.sublist (List.take_sublist _ _)
  refine af u rv ?_;rcases S.par y (List.mem_of_getElem? hp) with k|k
  ·exact .inl ⟨k,tT Zs hp hu k⟩
  ·obtain ⟨c,e⟩:=zB (n:=s.heap.objs.size+1) k;refine .inr (⟨.inl k,af c e ?_⟩);have q:=x.cell y c e;rw[tU Zs hp hu (by show scope.names.lookup y≠_;rw[k];decide)] at q;exact q
 ·exact e0.hok.fresh (Nat.le_of_lt (x.above y c (PySem.mem_of_lookup h)))
 ·unfold start;show _=N.length;rw[List.length_append,List.length_map,List.length_replicate];omega
def L1{CX:Ll}{P:Program}{w:World}{K:W.Frag}{mg:Str->Option Value}{base:Heap}{k:Nat}{f:Addr}{name qual:Str}{params:Arguments}{body:List Stmt}{scope:Scope}{dV kV doc pm cdv ct oc:Value}{an od:Option Addr} {osl:Array (Option Value)} {N ps:List Str} {sp:Sp} (lk:K.lookup f=some ⟨oc,od,.func (W.fnOf name qual params body scope dV kV doc pm an cdv ct),osl⟩) (hcd:W.codeIn K cdv qual=true) (S:jc N ps scope) (len:∀vs H Q E,sp vs H Q E->vs.length=ps.length) (hbody:∀(A:Around) (outer:List Env) (s:Shared) (H:Hp) (vs:List V) (Q:VK) (E:XK),dw k (A.deeper (envOfC qual scope s.heap.objs.size f cdv))->sp vs H Q E->∃t,zS (i6 CX P w K mg base N qual scope f cdv A outer s H E) body t/\t {nx:=λ _ H'=>Q .eU H',rt:=Q} (start N vs) H):
  Qg P w K mg base CX (k+1) f (W.fnOf name qual params body scope dV kV doc pm an cdv ct) ps sp:=by
 refine ⟨len,λ A outer s H args us vs Q E hr e0 hb r Ey=>?_⟩;have hl:=len _ _ _ _ Ey;have KX:K.In s.heap:=e0.mod.Q3.keeps λ b o e=>(e0.bs b o e).1;have lim:s.heap.NoLimit:=e0.mod.nolimit.keeps λ b o e=>(e0.bs b o e).1;have hkind:∀y∈ps.zip us,scope.names.lookup y.1=some .local\/(scope.names.lookup y.1=some .cell/\((cellsFrom (s.heap.objs.size+1) scope.names []).lookup y.1).isSome=true):=λ⟨n,v⟩ hy=>by
  rcases S.par n (List.of_mem_zip hy).1 with q|q
  ·exact .inl q
  ·exact .inr ⟨q,W.cellsFrom_some _ _ _ (.inl q)⟩
 refine codeAny_call_function hr.depth (KX _ _ lk) rfl S.co S.gen rfl (W.codeRec_of KX hcd) (hb _ _ _ _ ?_);refine wpAny_newFunctionEnv_cells S.kind hkind λ env he s1 x=>?_;subst he;refine ⟨lim.keeps x.toInCall.keep,codeAny_func ?_⟩;refine ah (λ t ht hq=>?_) (hbody A outer s H vs Q E (hr.deeper _) Ey);have I:Inv (i6 CX P w K mg base N qual scope f cdv A outer s H E) [] (start N vs) H s1:=D4 S hr.hd e0 hl r x;refine wpAny_mono (ht [] s1 (start N vs) H _ I hq) (λ fl s' hs=>?_) λ e s' hs=>hs;have fin:∀{σ':St} {H':Hp} {v:V} {u:Value},Inv (i6 CX P w K mg base N qual scope f cdv A outer s H E) [] σ' H' s'->RelV v u->Q v H'->CE outer P w H s Q u s':=
  λ{σ' H' v u} J rv q=>⟨v,H',J.os,J.bare,J.base,J.hok,rv,q⟩
 cases fl with
 |ret u=>
  revert hs;refine dO λ v σ' H' J rv q=>?_
  exact fin J rv q
 |next=>
  revert hs;refine aQ λ σ' H' J q=>?_
  exact fin (v:=V.eU) (u:=Value.none) J rfl q
 |brk=>refine aQ (λ _ _ _ q=>?_) hs;exact False.elim q
 |cont=>refine aQ (λ _ _ _ q=>?_) hs;exact False.elim q
section
variable{X:Cx}{x:Str}{p pos:Pos}{e:Expr}{es:List Expr}{t:TA}{id T:String}{r:List V->Hp->VK->Prop}
def W3(r:List V->Hp->VK->Prop)(t:TA):TE:=λ σ H Q=>t σ H λ vs H1=>r vs H1 Q
def iG(hc:nD X (.builtin id) r)(hg:Gl X x)(hm:X.mg x=none)(hv:bootBuiltins x=some (.builtin id))(ha:PA X (e::es) t)(hn:x≠"__name__":=by decide)(hdb:(x==("__debug__":Str))=false:=by decide) (he:starEach (e::es) X.env=(false,eval e X.env)::starEach es X.env:=by rfl) (hpl:(backTo pos (starEach es X.env)).any (·.1)=false:=by rfl):PE X (.Call (.Name x p) (e::es) [] pos) (W3 r t):=by intro pins s σ H Q I h;refine wpAny_Call_Name_kw (iY I hg hm hv ?_ hn hdb);exact PyProof.Rows.callWith_builtin1 (dN (ha pos pins s σ H _ I h) λ us s1 z_=>vf z_ λ vs H1 I1 r1 q1=>hc pins s1 σ H1 vs us Q I1 r1 q1) he hpl
def DH(hc:nD X (.type T) r)(hg:Gl X x)(hm:X.mg x=none)(hv:bootBuiltins x=some (.type T))(ha:PA X (e::es) t)(hn:x≠"__name__":=by decide)(hdb:(x==("__debug__":Str))=false:=by decide) (he:starEach (e::es) X.env=(false,eval e X.env)::starEach es X.env:=by rfl) (hpl:(backTo pos (starEach es X.env)).any (·.1)=false:=by rfl):PE X (.Call (.Name x p) (e::es) [] pos) (W3 r t):=by intro pins s σ H Q I h;refine wpAny_Call_Name_kw (iY I hg hm hv ?_ hn hdb);exact PyProof.Rows.callWith_type1 (dN (ha pos pins s σ H _ I h) λ us s1 z_=>vf z_ λ vs H1 I1 r1 q1=>hc pins s1 σ H1 vs us Q I1 r1 q1) he hpl
end
end L2
namespace HT
open PySem PyProof.Rows
def lexLt:List Int->List Int->Bool
 |[],[]=>false
 |[],_::_=>true
 |_::_,[]=>false
 |x::xs,y::ys=>if x=y then lexLt xs ys else decide (x<y)
def OJ(x y:Int)(xs ys:List Int):lexLt (x::xs) (y::ys)=if x=y then lexLt xs ys else decide (x<y):=rfl
def Iu:lexLt [] []=false:=rfl
def GJ(y:Int)(ys:List Int):lexLt [] (y::ys)=true:=rfl
def GK(x:Int)(xs:List Int):lexLt (x::xs) []=false:=rfl
section
open PySem.SeqAt
open PySem.AutoSeq1 (wpAny_loadPart')
open PySem.MeetsSeq PySem.MeetsSeq2 PySem.MeetsSeq3
end
section
variable{prog:Program}{w:World}{A:Around}{E:Value->Shared->Prop}{s:Shared}
def rT(n d:Nat):Option Int->Nat
 |none=>d
 |some v=>if v<0 then (v+(n:Int)).toNat else min v.toNat n
def Sk(n d:Nat):rT n d none=d:=rfl
end
end HT
namespace L2
open PySem PySem.Spec PyProof.Rows
abbrev TO:=St->Hp->(Option Int->Hp->Prop)->Prop
def PO(X:Cx)(e:Option Expr)(t:TO):Prop:=∀(pins:List (Addr×Obj)) (s:Shared) (σ:St) (H:Hp) (Q:Option Int->Hp->Prop),Inv X pins σ H s->t σ H Q->wpAny (model X.prog X.w) X.A (evalPart e X.env) (λ u s'=>∃o H',Inv X pins σ H' s'/\IsPart u o/\Q o H') X.xe s
def Je:TO:=λ _ H Q=>Q none H
def RS(t:TE):TO:=λ σ H Q=>t σ H λ x H1=>∃i,x= .int i/\Q (some i) H1
section
variable{X:Cx}{e:Expr}{te:TE}{lo hi:Option Expr}{tl th:TO}{pos p2:Pos}
def JF:PO X none Je:=by intro pins s σ H Q I h;rw[evalPart_none];exact wpAny_pure (ao none H I .none h)
def JE(h:PE X e te):PO X (some e) (RS te):=by
 intro pins s σ H Q I hw;rw[evalPart_some];refine dN (h pins s σ H _ I hw) ?_;refine λ u s1=>ak λ x H1 I1 r1 q1=>?_
 revert q1;refine ah λ i z q=>?_;subst z
 obtain ⟨t,rfl⟩:=r1;exact ao (some i) H1 I1 (.int i t) q
def ZX(X:Cx)(r:V->Option Int->Option Int->Hp->VK->Prop):Prop:=∀(pins:List (Addr×Obj)) (s:Shared) (σ:St) (H:Hp) (x:V) (v vl vu:Value) (lo hi:Option Int) (sl:Addr) (Q:VK),Inv X pins σ H s->RelV x v->s.heap.IsSliceOf sl vl vu .none->IsPart vl lo->IsPart vu hi->r x lo hi H Q->∃T id,typeLookup (.type T) "__getitem__"=pure (some (.builtin id))/\s.TypeIs v T/\wpAny (model X.prog X.w) X.A (getItem v (.ref sl)) (EP X pins σ Q) X.xe s
def tSl(r:V->Option Int->Option Int->Hp->VK->Prop)(te:TE)(tl th:TO):TE:=λ σ H Q=>te σ H λ x H1=>tl σ H1 λ l H2=>th σ H2 λ u H3=>r x l u H3 Q
def FQ{r:V->Option Int->Option Int->Hp->VK->Prop}(hr:ZX X r)(he:PE X e te)(hl:PO X lo tl)(hu:PO X hi th):PE X (.Subscript e (.Slice lo hi none p2) pos) (tSl r te tl th):=by intro pins s σ H Q I h;refine Subscript_ (dN (he pins s σ H _ I h) ?_);refine λ v s1=>ak λ x H1 I1 r1 q1=>?_;refine wpAny_Slice (dN (hl pins s1 σ H1 _ I1 q1) ?_);refine λ vl s2=>ak λ l H2 I2 pl q2=>?_;refine dN (hu pins s2 σ H2 _ I2 q2) ?_;refine λ vu s3=>ak λ u H3 I3 pu q3=>?_;rw[evalPart_none];refine wpAny_pure ?_;have I4:Inv X pins σ H3 {s3 with heap:=s3.heap.push {cls:= .type "slice",data:= .fields #[vl,vu,.none]}}:=I3.kept (t':=s3.toks) λ b ob q=>Heap.get?_push_of_some _ q;refine ak (λ T id hT ht hg=>?_) (hr pins {s3 with heap:=s3.heap.push {cls:= .type "slice",data:= .fields #[vl,vu,.none]}} σ H3 x v vl vu l u s3.heap.objs.size Q I4 r1 (Heap.IsSliceOf.new ..) pl pu q3);show wpAny (model X.prog X.w) X.A (subscriptTail e (.Slice lo hi none p2) v (.ref s3.heap.objs.size)) (EP X pins σ Q) X.xe {s3 with heap:=s3.heap.push {cls:= .type "slice",data:= .fields #[vl,vu,.none]}};exact tail_any (ops:=[.ref s3.heap.objs.size,v]) ht hT hg (by with_unfolding_all rfl)
def AW(xs:List V)(lo hi:Option Int):List V:=(xs.drop (HT.rT xs.length 0 lo)).take (HT.rT xs.length xs.length hi- HT.rT xs.length 0 lo)
def zw(xs:List V)(lo hi:Option Int):(AW xs lo hi).length<=xs.length:=by unfold AW;rw[List.length_take,List.length_drop];omega
end
noncomputable def mU(n:Nat)(i:Int):Option Nat:=if 0<=i then (if i<n then some i.toNat else none) else if -(n:Int)<=i then some (i+n).toNat else none
def tV{α:Type}(xs:List α)(i:Int):Option α:=(mU xs.length i).bind λ j=>xs[j]?
def B4(h:mU n i=some j):seqIndex? i n=some j/\j<n/\ -(n:Int)<=i/\i<n:=by
 unfold mU at h;by_cases h0:0<=i
 ·rw[if_pos h0] at h;by_cases h1:i<n
  ·rw[if_pos h1] at h;have e:i.toNat=j:=Option.some.inj h;exact gz (by rw[seqIndex_of h0 h1,e]) (by omega) (by omega) h1
  ·rw[if_neg h1] at h;cases h
 ·rw[if_neg h0] at h;by_cases h1: -(n:Int)<=i
  ·rw[if_pos h1] at h;have e:(i+n).toNat=j:=Option.some.inj h;exact gz (by rw[seqIndex_neg (by omega) h1,e]) (by omega) h1 (by omega)
  ·rw[if_neg h1] at h;cases h
def vz{α:Type}{xs:List α}{i:Int}{v:α}(h:tV xs i=some v):∃j,seqIndex? i xs.length=some j/\xs[j]? =some v/\j<xs.length/\ -(xs.length:Int)<=i/\i<xs.length:=by
 unfold tV at h;cases e:mU xs.length i with
 |none=>rw[e] at h;cases h
 |some j=>rw[e] at h;refine iU (λ h1 h2 h3 h4=>?_) (B4 e);exact ⟨j,h1,h,h2,h3,h4⟩
noncomputable def nv(b:Expr):Prop:=∀o i,subscripted b false o i=operate [o,i] (getItem o i)
def Lf(X:Cx)(r:R2):Prop:=∀(value slice:Expr) (pins:List (Addr×Obj)) (s:Shared) (σ:St) (H:Hp) (x y:V) (v u:Value) (Q:VK),Inv X pins σ H s->RelV x v->RelV y u->r x y H Q->subscripted slice false v u=operate [v,u] (getItem v u)->wpAny (model X.prog X.w) X.A (subscriptTail value slice v u) (EP X pins σ Q) X.xe s
def MtR(X:Cx)(id:String)(r:V->List V->Hp->VK->Prop):Prop:=∀(pins:List (Addr×Obj)) (s:Shared) (σ:St) (H:Hp) (x:V) (xs:List V) (v:Value) (us:List Value) (Q:VK),Inv X pins σ H s->RelV x v->Vals xs us->r x xs H Q->wpAny (model X.prog X.w) X.A (call (.builtin id) (v::us)) (EP X pins σ Q) X.xe s
section
variable{X:Cx}{a b:Expr}{ta tb:TE}{pos:Pos}
def Lf.or{r r':R2}(h:Lf X r)(h':Lf X r'):Lf X (λ x y H Q=>r x y H Q\/r' x y H Q):=by
 intro value slice pins s σ H x y v u Q I rx ry q hs;rcases q with q|q
 ·exact h value slice pins s σ H x y v u Q I rx ry q hs
 ·exact h' value slice pins s σ H x y v u Q I rx ry q hs
def LD{r:R2}(hr:Lf X r)(ha:PE X a ta)(hb:PE X b tb)(hs:nv b):PE X (.Subscript a b pos) (RT r ta tb):=by intro pins s σ H Q I h;exact Subscript_ (PY ha hb I h λ v u s2 x y H2 I2 rx ry q=>hr a b pins s2 σ H2 x y v u Q I2 rx ry q (hs _ _))
def SE(K:W.Frag):R2:=λ x y H Q=>∃p xs i v,x= .ref p/\y= .int i/\fV K H p xs/\tV xs i=some v/\Q v H
def SA(K:W.Frag):R2:=λ x y H Q=>∃p xs i v,x= .ref p/\y= .int i/\rQ K H p xs/\tV xs i=some v/\Q v H
def SD:R2:=λ x y H Q=>∃z i c,x= .str z/\y= .int i/\z.length<=sizeLine/\tV z.cps.toList i=some c/\Q (.str ⟨#[c]⟩) H
def Kc:Lf X (SE X.K):=by
 intro value slice pins s σ H x y v u Q I rx ry h hs
 revert h;refine cA λ p xs i z z1 z2 hq he q=>?_;subst z1;subst z2
 cases rx;obtain ⟨t,rfl⟩:=ry;refine aD (λ its r pl hz=>?_) (I.list hq);obtain ⟨j,h1,h2,h3,h4,h5⟩:=vz he;refine ah (λ w ew rw'=>?_) (r.get h2);have hl:=r.length;have hn:=qI;have fin:EP X pins σ Q w s:=ao z H I rw' q;by_cases h0:0<=i
 ·have hj:i.toNat=j:=by rw[seqIndex_of h0 h5] at h1;exact Option.some.inj h1
  exact item_listR pl.isList h0 (by omega) (by rw[hj];simpa using ew) fin hs
 ·have hj:(i+(its.toArray.size:Int)).toNat=j:=by rw[seqIndex_neg (by omega) h4] at h1;rw[List.size_toArray, <-hl];exact Option.some.inj h1
  exact subscriptTail_builtinR (x:=w) pl.isList.typeIs slot_list_getitem.lookup
   (wpAny_getItem_list_neg (Q:=λ r s'=>r=w/\EP X pins σ Q r s') pl.isList (by omega) (by rw[List.size_toArray]<;>omega) (by omega) (by rw[hj];simpa using ew) ⟨rfl,fin⟩) hs
def OS:Lf X (SA X.K):=by
 intro value slice pins s σ H x y v u Q I rx ry h hs
 revert h;refine cA λ p xs i z z1 z2 hq he q=>?_;subst z1;subst z2
 cases rx;obtain ⟨t,rfl⟩:=ry;refine aD (λ its r pl hz=>?_) (I.tuple hq);obtain ⟨j,h1,h2,h3,h4,h5⟩:=vz he;refine ah (λ w ew rw'=>?_) (r.get h2);have hl:=r.length;have hn:=qI;have fin:EP X pins σ Q w s:=ao z H I rw' q;exact subscriptTail_builtinR (x:=w) pl.typeIs slot_tuple_getitem.lookup
  (getItem_tuple (j:=j) (Q:=λ r s'=>r=w/\EP X pins σ Q r s') pl (by omega) (by omega) (by rw[List.size_toArray, <-hl];exact h1) (by simpa using ew) ⟨rfl,fin⟩) hs
def OT:Lf X SD:=by
 intro value slice pins s σ H x y v u Q I rx ry h hs
 revert h;refine p8 λ z i c w z1 hz he q=>?_;subst w;subst z1
 obtain ⟨t,rfl⟩:=rx;obtain ⟨t',rfl⟩:=ry;obtain ⟨j,h1,h2,h3,h4,h5⟩:=vz he;have hl:z.cps.toList.length=z.length:=by simp[Str.length]
 rw[hl] at h1 h4 h5;have hn:=qI;exact tail_any (typeIs_str s z t) slot_str_getitem.lookup (getItem_str (c:=c) (by have e1:decide (i< -(2^63:Int))=false:=decide_eq_false (by omega);have e2:decide (i>=2^63)=false:=decide_eq_false (by omega);rw[e1,e2,Bool.or_false]) (by rw[h1];simpa using h2) (ao (.str ⟨#[c]⟩) H (I.tok _) ⟨_,rfl⟩ q)) hs
def Zg(K:W.Frag):R2:=λ x y H Q=>SE K x y H Q\/SA K x y H Q\/SD x y H Q
def G0:Lf X (Zg X.K):=Kc.or (OS.or OT)
def Az(its:List Value)(n j:Nat)(u:Value):Obj.mapSeq (·.setIfInBounds j u) {cls:= .type "list",data:= .seq its.toArray n}={cls:= .type "list",data:= .seq (its.set j u).toArray n}:=by simp[Obj.mapSeq]
theorem Inv.lst{s:Shared}(I:Inv X pins σ H s)(h:H p=some (.lst xs)):
  ∃(its:List Value) (n:Nat),Vals xs its/\s.heap.get? p=some {cls:= .type "list",data:= .seq its.toArray n}/\xs.length<=sizeLine:=by
 refine bS (λ z=>aQ λ its n r e=>?_) (I.hok p _ h);exact ao its n r e z
def Inv.OI{s:Shared}{its its':List Value}{n n':Nat}(I:Inv X pins σ H s)(h:H p=some (.lst xs))(ho:s.heap.get? p=some {cls:= .type "list",data:= .seq its.toArray n})(hf:f {cls:= .type "list",data:= .seq its.toArray n}={cls:= .type "list",data:= .seq its'.toArray n'})(r:Vals ys its')(hz:ys.length<=sizeLine)(t:Nat):
  Inv X pins σ (upd H p (.lst ys)) {s with heap:=s.heap.update p f,toks:=t}:=by
 have e:(s.heap.update p f).get? p=some {cls:= .type "list",data:= .seq its'.toArray n'}:=by rw[Heap.get?_update_self f ho (by rw[hf]<;>rfl),hf]
 refine I.write (x:=p) (e:=p) (by rw[h];trivial) (.inl rfl) (λ b u hb q=>(Heap.get?_update_other _ _ (Ne.symm hb)).trans q) ⟨_,e⟩ ?_;exact ⟨hz,aM its' n' r e⟩
def Sx:V->V->V->Hp->(Hp->Prop)->Prop:=λ o i v H Q=>∃p xs k j,o= .ref p/\i= .int k/\H p=some (.lst xs)/\mU xs.length k=some j/\Q (upd H p (.lst (xs.set j v)))
def set_list:U5 X Sx:=by
 intro pins s σ H o i v ov iv u Q I ro ri rv h
 revert h;refine cA λ p xs k j z y hp hj q=>?_;subst z;subst y
 cases ro;obtain ⟨t,rfl⟩:=ri;refine ak (λ its n r ho hz=>?_) (I.lst hp);refine iU (λ h1 h2 h3 h4=>?_) (B4 hj);have hl:=r.length;have hn:=qI;have I':Inv X pins σ (upd H p (.lst (xs.set j v))) {s with heap:=s.heap.update p (Obj.mapSeq (·.setIfInBounds j u))}:=
  I.OI hp ho (Az its n j u) (r.set rv j) (by rw[List.length_set];exact hz) s.toks
 by_cases h0:0<=k
 ·have hk:k.toNat=j:=by rw[seqIndex_of h0 h4] at h1;exact Option.some.inj h1
  exact W.ki_setAt ho h0 (by omega) (by rw[List.size_toArray, <-hl];exact h4) (by rw[hk];exact af _ I' q)
 ·have hk:(k+(its.toArray.size:Int)).toNat=j:=by rw[seqIndex_neg (by omega) h3] at h1;rw[List.size_toArray, <-hl];exact Option.some.inj h1
  exact W.ki_setBack ho (by omega) (by rw[List.size_toArray, <-hl];exact h3) (by omega) (by rw[hk];exact af _ I' q)
def ur(lo hi:Option Int)(n:Nat):(sliceBounds lo hi none n).1=((HT.rT n 0 lo:Nat):Int)/\(sliceBounds lo hi none n).2.1=((HT.rT n n hi:Nat):Int)/\(sliceBounds lo hi none n).2.2=1:=by
 refine aS ?_ ?_ rfl
 ·cases lo with
  |none=>simp[sliceBounds,HT.rT]
  |some i=>
   simp only[sliceBounds,HT.rT,Option.getD_none,show (1:Int)>0 by decide,if_true];by_cases h:i<0
   ·simp only[h,if_true]<;>omega
   ·simp only[h,if_false]<;>omega
 ·cases hi with
  |none=>simp[sliceBounds,HT.rT]
  |some i=>
   simp only[sliceBounds,HT.rT,Option.getD_none,show (1:Int)>0 by decide,if_true];by_cases h:i<0
   ·simp only[h,if_true]<;>omega
   ·simp only[h,if_false]<;>omega
def rS(its:List Value)(lo hi:Option Int):slicePick its.toArray lo hi none=((its.drop (HT.rT its.length 0 lo)).take (HT.rT its.length its.length hi- HT.rT its.length 0 lo)).toArray:=by refine aW (λ h1 h2 h3=>?_) (ur lo hi its.toArray.size);unfold slicePick;rw[h1,h2,h3];simp only[sliceRange_one,pick_run,List.size_toArray]<;>rfl
def W8(K:W.Frag):V->Option Int->Option Int->Hp->VK->Prop:=λ x lo hi H Q=>∃a xs,x= .ref a/\fV K H a xs/\∀p,H p=none->Q (.ref p) (upd H p (.lst (AW xs lo hi)))
def Jg:ZX X (W8 X.K):=by
 intro pins s σ H x v vl vu lo hi sl Q I rx hs pl pu h
 revert h;refine ak λ a xs z hx q=>?_;subst z
 cases rx;refine aD (λ its r ht hz=>?_) (I.list hx);have hlen:=r.length;refine ao ("list") _ slot_list_getitem.lookup ht.isList.typeIs ?_;refine wpAny_getItem_list_slice ht.isList hs pl pu .none (by simp) ?_ (by rw[List.size_toArray]<;>omega);rw[rS, <-hlen];refine ao (.ref s.heap.objs.size) _ (I.laid (t':=s.toks) (o:= .lst (AW xs lo hi)) (λ b ob q=>Heap.get?_push_of_some _ q) (Nat.le_refl _) ?_) rfl (q _ (I.hok.fresh (Nat.le_refl _)));exact ⟨Nat.le_trans (zw xs lo hi) hz,aM _ 0 ((r.drop (HT.rT xs.length 0 lo)).take (HT.rT xs.length xs.length hi- HT.rT xs.length 0 lo)) (Heap.get?_push_size _ rfl)⟩
noncomputable def kW:V->Bool
 | .eU=>true
 | .bl _=>true
 | .int _=>true
 | .str _=>true
 |_=>false
noncomputable def KN:V->V->Bool
 | .eU,.eU=>true
 | .bl a,.bl b=>a==b
 | .bl a,.int b=>(if a then 1 else 0)==b
 | .int a,.bl b=>a==(if b then 1 else 0)
 | .int a,.int b=>a==b
 | .str a,.str b=>a==b
 |_,_=>false
def Pz{s:Shared}{y x:V}{u v:Value}(ry:RelV y u)(rx:RelV x v)(fy:kW y=true)(fx:kW x=true):SeqAt.EqAt A s u v (KN y x):=by
 cases y with
 |eU=>
  cases ry;cases x with
  |eU=>cases rx;exact SeqAt.EqAt.same _
  |bl b=>cases rx;exact SeqAt.EqAt.none_bool b
  |int b=>obtain ⟨t,rfl⟩:=rx;exact SeqAt.EqAt.none_int b t
  |str b=>obtain ⟨t,rfl⟩:=rx;exact SeqAt.EqAt.none_str b t
  |_=>exact absurd (show false=true from fx) Bool.false_ne_true
 |bl a=>
  cases ry;cases x with
  |eU=>cases rx;exact SeqAt.EqAt.bool_none a
  |bl b=>cases rx;exact SeqAt.EqAt.bool_bool a b
  |int b=>obtain ⟨t,rfl⟩:=rx;exact SeqAt.EqAt.bool_int a b t
  |str b=>obtain ⟨t,rfl⟩:=rx;exact SeqAt.EqAt.bool_str a b t
  |_=>exact absurd (show false=true from fx) Bool.false_ne_true
 |int a=>
  obtain ⟨t',rfl⟩:=ry;cases x with
  |eU=>cases rx;exact SeqAt.EqAt.int_none a t'
  |bl b=>cases rx;exact SeqAt.EqAt.int_bool a t' b
  |int b=>obtain ⟨t,rfl⟩:=rx;exact SeqAt.EqAt.int_int a t' b t
  |str b=>obtain ⟨t,rfl⟩:=rx;exact SeqAt.EqAt.int_str a t' b t
  |_=>exact absurd (show false=true from fx) Bool.false_ne_true
 |str a=>
  obtain ⟨t',rfl⟩:=ry;cases x with
  |eU=>cases rx;exact SeqAt.EqAt.str_none a t'
  |bl b=>cases rx;exact SeqAt.EqAt.str_bool a t' b
  |int b=>obtain ⟨t,rfl⟩:=rx;exact SeqAt.EqAt.str_int a t' b t
  |str b=>obtain ⟨t,rfl⟩:=rx;exact SeqAt.EqAt.str_str a t' b t
  |_=>exact absurd (show false=true from fx) Bool.false_ne_true
 |_=>exact absurd (show false=true from fy) Bool.false_ne_true
def AS(x:V)(u:Value):Bool:=match u with
 | .none=>KN .eU x
 | .bool b=>KN (.bl b) x
 | .int i _=>KN (.int i) x
 | .str z _=>KN (.str z) x
 |_=>false
def Hr{x y:V}(r:RelV y u)(f:kW y=true):AS x u=KN y x:=by
 cases y with
 |eU=>cases r;rfl
 |bl b=>cases r;rfl
 |int i=>obtain ⟨t,rfl⟩:=r;rfl
 |str z=>obtain ⟨t,rfl⟩:=r;rfl
 |_=>exact absurd (show false=true from f) Bool.false_ne_true
theorem nu:∀{xs:List V} {us:List Value},Vals xs us->xs.all kW=true->us.any (AS x)=xs.any λ y=>KN y x
 |_,_,.nil,_=>rfl
 |y::xs,u::us,.cons r t,f=>by rw[List.all_cons,Bool.and_eq_true] at f;rw[List.any_cons,List.any_cons,Hr r f.1,nu t f.2]
theorem jC{s:Shared}{v:Value}(rx:RelV x v)(fx:kW x=true):∀{xs:List V} {us:List Value},Vals xs us->xs.all kW=true->∀u∈us,SeqAt.EqAt A s u v (AS x u)
 |_,_,.nil,_=>λ u hu=>by cases hu
 |y::xs,u::us,.cons r t,f=>λ u' hu=>by
  rw[List.all_cons,Bool.and_eq_true] at f;rcases List.mem_cons.mp hu with rfl|hu
  ·rw[Hr r f.1];exact Pz r rx f.1 fx
  ·exact jC rx fx t f.2 u' hu
def VT(x:V)(xs:List V):Bool:=xs.any λ y=>KN y x
def Vv(K:W.Frag)(neg:Bool):R2:=λ x y H Q=>∃p xs,y= .ref p/\(fV K H p xs\/rQ K H p xs)/\kW x=true/\xs.all kW=true/\Q (.bl (if neg then !VT x xs else VT x xs)) H
def DI:kF X (compareOp .In) (Vv X.K false):=by
 intro pins s σ H x y v u Q I rx ry h
 revert h;refine cC λ p xs z hq fx fs q=>?_;subst z
 cases ry;rcases hq with hq|hq
 ·refine aD (λ its r pl hz=>?_) (I.list hq);refine SeqAt.in_listAt (AS x) pl.isList (λ w hw=>jC rx fx r fs w (by simpa using hw)) (ao (.bl _) H I rfl ?_);rw[show its.toArray.any (AS x)=its.any (AS x) by simp,nu r fs];exact q
 ·refine aD (λ its r pl hz=>?_) (I.tuple hq);refine SeqAt.in_tupleAt (AS x) pl (λ w hw=>jC rx fx r fs w (by simpa using hw)) (ao (.bl _) H I rfl ?_);rw[show its.toArray.any (AS x)=its.any (AS x) by simp,nu r fs];exact q
def uK:kF X (compareOp .NotIn) (Vv X.K true):=by
 intro pins s σ H x y v u Q I rx ry h
 revert h;refine cC λ p xs z hq fx fs q=>?_;subst z
 cases ry;rcases hq with hq|hq
 ·refine aD (λ its r pl hz=>?_) (I.list hq);refine SeqAt.notIn_listAt (AS x) pl.isList (λ w hw=>jC rx fx r fs w (by simpa using hw)) (ao (.bl _) H I rfl ?_);rw[show its.toArray.any (AS x)=its.any (AS x) by simp,nu r fs];exact q
 ·refine aD (λ its r pl hz=>?_) (I.tuple hq);refine SeqAt.notIn_tupleAt (AS x) pl (λ w hw=>jC rx fx r fs w (by simpa using hw)) (ao (.bl _) H I rfl ?_);rw[show its.toArray.any (AS x)=its.any (AS x) by simp,nu r fs];exact q
def vj:nD X (.type "list") (λ xs H Q=>∃p ys,xs=[.ref p]/\(fV X.K H p ys\/rQ X.K H p ys)/\∀l,H l=none->Q (.ref l) (upd H l (.lst ys))):=by
 intro pins s σ H xs us Q I r h
 revert h;refine ak λ p ys z hq q=>?_;subst z
 refine ah (λ u z rx=>?_) (vals1 r);subst z;cases rx;have fin:∀(its:List Value),Vals ys its->ys.length<=sizeLine->∀(h':Heap) (c':Nat),(∀b o',s.heap.get? b=some o'->h'.get? b=some o')->
   h'.get? s.heap.objs.size=some {cls:= .type "list",dict:=none,data:= .seq its.toArray c',slots:= #[]}->EP X pins σ Q (.ref s.heap.objs.size) {s with heap:=h'}:=λ its r' hz h' c' kp e=>
  ao (.ref s.heap.objs.size) _ (I.laid (t':=s.toks) kp (Nat.le_refl _) (show bQ X.prog X.w _ h' _ (.lst ys) from (⟨hz,aM its c' r' e⟩))) rfl (q _ (I.hok.fresh (Nat.le_refl _)))
 rcases hq with hq|hq
 ·refine aD (λ its r' pl hz=>?_) (I.list hq);have hlen:=r'.length;refine aD (λ o ho hc z=>?_) pl.isList;obtain ⟨n,hd⟩:=z;exact call_list_seq p (.inl rfl) ho hc hd (λ h' c' kp e=>fin its r' hz h' c' kp e) (by simp only[List.size_toArray]<;>omega)
 ·refine aD (λ its r' pl hz=>?_) (I.tuple hq);have hlen:=r'.length
  revert pl;refine aD λ o ho hc z=>?_;obtain ⟨n,hd⟩:=z
  exact call_list_seq p (.inr rfl) ho hc hd (λ h' c' kp e=>fin its r' hz h' c' kp e) (by simp only[List.size_toArray]<;>omega)
def Y3(K:W.Frag)(T:String)(x:V)(H:Hp):Prop:=match x with
 | .str _=>T="str"
 | .int _=>T="int"
 | .ref p=>(T="list"/\∃xs,fV K H p xs)\/(T="tuple"/\∃o,K.lookup p=some o/\o.cls= .type "tuple"/\o.dict=none)\/(T="dict"/\((∃kvs,H p=some (.dK kvs))\/∃kvs,H p=some (.dT kvs)))\/(T="set"/\∃S n,H p=some (.set S n))
 |_=>False
def Na{s:Shared}{v:Value}(I:Inv X pins σ H s)(r:RelV x v)(ty:Y3 X.K T x H):
  s.TypeIs v T/\∀a,v= .ref a->∃ob,s.heap.get? a=some ob/\ob.dict=none:=by
 cases x with
 |str z=>obtain ⟨t,rfl⟩:=r;cases (show T="str" from ty);exact ⟨typeIs_str s z t,λ _ e=>nomatch e⟩
 |int i=>obtain ⟨t,rfl⟩:=r;cases (show T="int" from ty);exact ⟨typeIs_int s i t,λ _ e=>nomatch e⟩
 |ref p=>
  cases r;rcases ty with ⟨rfl,xs,hq⟩|⟨rfl,o,hk,hc,hd⟩|⟨rfl,hk⟩|⟨rfl,S,n,hk⟩
  ·refine aD (λ its _ pl _=>?_) (I.list hq);refine ⟨pl.isList.typeIs,λ a e=>?_⟩;cases e
   revert pl;refine aN λ o n e c hd _=>?_
   exact af o e hd
  ·refine ⟨af o (I.DY p o hk) hc,λ a e=>?_⟩;cases e;exact af o (I.DY _ o hk) hd
  ·have z:∃o,s.heap.get? p=some o/\o.ExactDict:=by
    rcases hk with ⟨kvs,hk⟩|⟨kvs,hk⟩
    ·refine aW (λ _ _=>ah λ _ _=>dO λ o _ _ e ex _=>?_) (I.hok p _ hk);exact af o e ex
    ·refine aW (λ _ _=>ah λ _ _=>dO λ o _ _ e ex _=>?_) (I.hok p _ hk);exact af o e ex
   revert z;refine ah λ o e ex=>?_
   refine ⟨af o e ex.1,λ a e2=>?_⟩;cases e2;exact af o e ex.2.1
  ·obtain ⟨o,_,_,_,e,ex,_⟩:=I.hok p _ hk;refine ⟨af o e ex.1,λ a e2=>?_⟩;cases e2;exact af o e ex.2.1
 |_=>exact False.elim ty
def tBM(K:W.Frag)(T:String)(r:V->List V->Hp->VK->Prop)(to:TE)(t:TA):TE:=λ σ H Q=>to σ H λ x H1=>Y3 K T x H1/\t σ H1 λ xs H2=>r x xs H2 Q
variable{o e:Expr}{es:List Expr}{to:TE}{t:TA}{name:Str}{apos cpos:Pos}{T id:String}{r:V->List V->Hp->VK->Prop}
def SK(pa:PlainAttrs T)(slot:Slot T name id)(hty:typeOf (.builtin id)=pure (.type "method_descriptor"))(hm:MtR X id r)(ho:PE X o to)(ha:PA X (e::es) t) (hbase:attributeBase o name X.env (eval o X.env)=eval o X.env:=by rfl) (hfew:((backTo cpos (starEach (e::es) X.env)).all (λ x=>!x.1)&&(backToKw cpos (keywordEach [] X.env)).all (λ x=>x.1.isSome)
   &&decide ((e::es).length+([]:List Keyword).length+(if ([]:List Keyword).isEmpty then 0 else 1)<30))=true:=by rfl)
  (hline:(apos.endLine==cpos.line)=true:=by rfl) (hs:starEach (e::es) X.env=(false,eval e X.env)::starEach es X.env:=by rfl) (hplain:(backTo cpos (starEach es X.env)).any (·.1)=false:=by rfl):
  PE X (.Call (.Attribute o name apos) (e::es) [] cpos) (tBM X.K T r to t):=by
 intro pins s σ H Q I h;refine wpAny_Call_method_late hbase hfew hline rfl (dN (ho pins s σ H _ I h) ?_);refine λ v s1=>aN λ x H1 I1 r1 ty q1=>?_;obtain ⟨h1,h2⟩:=Na I1 r1 ty;refine ⟨T,id,pa,slot,hty,h1,h2,?_⟩;have hA:=ha cpos pins s1 σ H1 _ I1 q1;rw[hs] at hA ⊢;refine Calls.callWith_builtin (by show (false||(backTo cpos (starEach es X.env)).any (·.1))=false;rw[hplain]<;>rfl) (Calls.evalArgs_plain ?_);exact dN hA λ us s2 z_=>vf z_ λ vs H2 I2 r2 q2=>hm pins s2 σ H2 x vs v us Q I2 r1 r2 q2
end
def MtM(X:Cx)(id:String)(r:V->List V->Hp->VK->Prop):Prop:=∀(pins:List (Addr×Obj)) (s:Shared) (σ:St) (H:Hp) (x:V) (xs:List V) (v:Value) (us:List Value) (Q:VK),Inv X pins σ H s->RelV x v->Vals xs us->r x xs H Q->wpAny (model X.prog X.w) X.A (call (.builtin id) (v::us)) (EP X pins σ Q) X.xe s
def Vals.one:∀{x:V} {us:List Value},Vals [x] us->∃u,us=[u]/\RelV x u
 |_,_,.cons r .nil=>af _ rfl r
section
variable{X:Cx}{pins:List (Addr×Obj)}{σ:St}{H:Hp}{s:Shared}{l b:Addr}{xs ys zs:List V}
def Inv.XF{its its':List Value}{n:Nat}{f:Array Value->Array Value}{t':Nat}(I:Inv X pins σ H s)(hH:H l=some (.lst xs)) (e:s.heap.get? l=some {cls:= .type "list",data:= .seq its.toArray n}) (hf:f its.toArray=its'.toArray) (hv:Vals ys its') (hz:ys.length<=sizeLine):
  Inv X pins σ (upd H l (.lst ys)) {s with heap:=s.heap.update l (Obj.mapSeq f),toks:=t'}:=by
 have q:=PySem.IsL.update e f;rw[hf] at q;refine I.write (x:=l) (e:=l) (by rw[hH];exact trivial) (.inl rfl) (λ b' u hb hu=>(Heap.get?_update_other s.heap (Obj.mapSeq f) (Ne.symm hb)).trans hu) ⟨_,q⟩ ?_;exact ⟨hz,aM its' _ hv q⟩
def Inv.Tw(I:Inv X pins σ H s)(hv:Vals ys its)(hz:ys.length<=sizeLine):
  Inv X pins σ (upd H s.heap.objs.size (.lst ys)) {s with heap:=s.heap.push {cls:= .type "list",data:= .seq its.toArray},toks:=t'}:=
 I.laid (λ _ _ q=>Heap.get?_push_of_some _ q) (Nat.le_refl _) (⟨hz,aM its 0 hv (Heap.get?_push_size _ rfl)⟩)
theorem Inv.fresh(I:Inv X pins σ H s):H s.heap.objs.size=none:=I.hok.fresh (Nat.le_refl _)
def Inv.XE(I:Inv X pins σ H s)(hH:H l=some (.lst xs)):xs.length<=sizeLine/\∃(its:List Value) (n:Nat),Vals xs its/\xs.length=its.length/\s.heap.get? l=some {cls:= .type "list",data:= .seq its.toArray n}:=by refine bS (λ z=>aQ λ its n r e=>?_) (I.hok l _ hH);exact ⟨z,ao its n r r.length e⟩
end
section
variable{X:Cx}
def Jw:V->List V->Hp->VK->Prop:=λ x vs H Q=>∃l xs y,x= .ref l/\vs=[y]/\H l=some (.lst xs)/\xs.length<sizeLine/\Q .eU (upd H l (.lst (xs++[y])))
def sX:MtM X "list.append" Jw:=by
 intro pins s σ H x vs v us Q I rx rv h
 revert h;refine p8 λ l xs y w z1 hH hz q=>?_;subst w;subst z1
 cases rx;refine ah (λ u w ru=>?_) rv.one;subst w;refine bS (λ z=>ak λ its n r hl e=>?_) (I.XE hH);refine call_meets F.slot_list_append (af _ e rfl) F.entry_list_append (F.args_list_append_2 _ _) (PySem.list_append l its.toArray n u (by rw[List.size_toArray];omega)) ⟨e,?_⟩;refine ao .eU _ (I.XF (its':=its++[u]) hH e (by simp) (r.append (.cons ru .nil)) ?_) rfl q;rw[List.length_append,List.length_singleton];omega
def Sy:R2:=λ x y H Q=>∃l k xs,x= .ref l/\y= .int k/\H l=some (.lst xs)/\ -(2^63)<=k/\k<2^63/\xs.length*k.toNat<=sizeLine/\∀p,H p=none->Q (.ref p) (upd H p (.lst (List.replicate k.toNat xs).flatten))
end
section
variable{prog:Program}{w:World}{A:Around}{E:Value->Shared->Prop}{s:Shared}
end
section
variable{X:Cx}
end
section
variable{κ:Type} [DecidableEq κ]
noncomputable def mq(kvs:List (κ×V))(k:κ):Option V:=(kvs.find? λ kv=>decide (kv.1=k)).map (·.2)
def putK(kvs:List (κ×V))(k:κ)(v:V):List (κ×V):=if (kvs.any λ kv=>decide (kv.1=k))=true then kvs.map (λ kv=>if kv.1=k then (kv.1,v) else kv) else kvs++[(k,v)]
def RL:mq ([]:List (κ×V)) k=none:=rfl
def pR{p:κ×V}{r:List (κ×V)}{k:κ}(e:p.1=k):mq (p::r) k=some p.2:=by simp[mq,List.find?_cons,e]
def pS{p:κ×V}{r:List (κ×V)}{k:κ}(e:¬p.1=k):mq (p::r) k=mq r k:=by simp[mq,List.find?_cons,e]
def E0(k:κ):∀kvs:List (κ×V),(kvs.any λ kv=>decide (kv.1=k))=(mq kvs k).isSome:=by
 intro v_;induction v_ with
 |nil=>exact rfl
 |cons p r j4=>
  rw[List.any_cons];by_cases e:p.1=k
  ·simp only[pR e,decide_eq_true e,Bool.true_or,Option.isSome_some]
  ·rw[pS e,decide_eq_false e,Bool.false_or];exact j4
def oV(kvs:List (κ×V))(k:κ)(v:V):(putK kvs k v).length<=kvs.length+1:=by
 unfold putK;split
 ·rw[List.length_map];omega
 ·rw[List.length_append,List.length_cons,List.length_nil];omega
def rG.D3(r:rG o u):o.isSome=u.isSome:=by
 cases o with
 |none=>cases u with
  |none=>rfl
  |some _=>exact (show False from r).elim
 |some _=>cases u with
  |none=>exact (show False from r).elim
  |some _=>rfl
def KV.val(r:KV kvs vs)(k:κ):rG (mq kvs k) (valueAt vs k):=by
 unfold KV at r;induction r with
 |nil=>exact True.intro
 | @cons p q ps qs h t ih=>
  obtain ⟨h1,h2⟩:=h;by_cases e:p.1=k
  ·have e':q.1=k:=h1.symm.trans e;have b:valueAt (q::qs) k=some q.2:=by simp[valueAt,List.find?_cons,e']
   rw[pR e,b];exact h2
  ·have e':¬q.1=k:=λ z=>e (h1.trans z);have b:valueAt (q::qs) k=valueAt qs k:=by simp[valueAt,List.find?_cons,e']
   rw[pS e,b];exact ih
theorem KV.any{kvs:List (κ×V)}{vs:List (κ×Value)}(r:KV kvs vs)(k:κ):(kvs.any λ kv=>decide (kv.1=k))=vs.any λ kv=>decide (kv.1=k):=by
 unfold KV at r;induction r with
 |nil=>rfl
 |cons h t ih=>rw[List.any_cons,List.any_cons,ih,h.1]
def KV.repl(r:KV kvs vs)(k:κ){y:V}(ry:RelV y u):
  KV (kvs.map λ kv=>if kv.1=k then (kv.1,y) else kv) (vs.map λ kv=>if kv.1=k then (kv.1,u) else kv):=by
 unfold KV at r ⊢;induction r with
 |nil=>exact .nil
 | @cons p q ps qs h t ih=>
  rw[List.map_cons,List.map_cons];refine .cons ?_ ih;obtain ⟨h1,h2⟩:=h;by_cases e:p.1=k
  ·rw[if_pos e,if_pos (h1.symm.trans e)];exact ⟨h1,ry⟩
  ·rw[if_neg e,if_neg (λ z=>e (h1.trans z))];exact ⟨h1,h2⟩
def KV.put(r:KV kvs vs)(k:κ){y:V}(ry:RelV y u):KV (putK kvs k y) (stored vs k u):=by
 unfold putK stored;rw[r.any k];by_cases e:(vs.any λ kv=>decide (kv.1=k))=true
 ·rw[if_pos e,if_pos e];exact r.repl k ry
 ·rw[if_neg e,if_neg e];exact Paired.snoc r ⟨rfl,ry⟩
theorem KV.length{kvs:List (κ×V)}{vs:List (κ×Value)}(r:KV kvs vs):kvs.length=vs.length:=Paired.length r
end
def GY(r:RelV (kV k) u):(cI P w).is k u=true:=by
 cases k with
 |inl i=>obtain ⟨t,e⟩:=(show ∃t,u=Value.int i t from r);subst e;exact yI P w i t
 |inr x=>obtain ⟨t,e⟩:=(show ∃t,u=Value.str x t from r);subst e;exact yH P w x t
def DZ:∀{ks:List Key} {us:List Value},Vals (ks.map kV) us->ItemsAre (cI P w) ks us:=by
 intro v_;induction v_ with
 |nil=>
  rintro _ r
  rw[List.map_nil] at r;cases r;exact .nil
 |cons k ks j4=>
  rintro _ r
  rw[List.map_cons] at r;cases r with
  |cons h t=>exact .cons (GY h) (j4 t)
abbrev KT(H:Hp):List (List Key×V)->List (List Key×Addr×Value)->Prop:=Paired λ p q=>p.1=q.1/\H q.2.1=some (.tup (p.1.map kV))/\RelV p.2 q.2.2
def KT.val(r:KT H kvs xs)(k:List Key):rG (mq kvs k) ((atKey xs k).map (·.2)):=by
 induction r with
 |nil=>exact True.intro
 | @cons p q ps qs h t ih=>
  refine aW (λ h1 _ h2=>?_) h;by_cases e:p.1=k
  ·have e':q.1=k:=h1.symm.trans e;have b:atKey (q::qs) k=some q.2:=by simp[atKey,List.find?_cons,e']
   rw[pR e,b];exact h2
  ·have e':¬q.1=k:=λ z=>e (h1.trans z);have b:atKey (q::qs) k=atKey qs k:=by simp[atKey,List.find?_cons,e']
   rw[pS e,b];exact ih
def KT.repl(r:KT H kvs xs)(k:List Key){y:V}(ry:RelV y u):
  KT H (kvs.map λ kv=>if kv.1=k then (kv.1,y) else kv) (xs.map (putAt k u)):=by
 induction r with
 |nil=>exact .nil
 | @cons p q ps qs h t ih=>
  rw[List.map_cons,List.map_cons];refine .cons ?_ ih;refine aW (λ h1 h2 h3=>?_) h;unfold putAt;by_cases e:p.1=k
  ·rw[if_pos e,if_pos (h1.symm.trans e)];exact aS h1 h2 ry
  ·rw[if_neg e,if_neg (λ z=>e (h1.trans z))];exact aS h1 h2 h3
def KT.put(r:KT H kvs xs)(k:List Key){y:V}(hb:H b=some (.tup (k.map kV)))(ry:RelV y u):
  KT H (putK kvs k y) (storedH xs k b u):=by
 have e:(kvs.any λ kv=>decide (kv.1=k))=(atKey xs k).isSome:=by rw[E0,(r.val k).D3,Option.isSome_map]
 unfold putK storedH;rw[e];by_cases q:(atKey xs k).isSome=true
 ·rw[if_pos q,if_pos q];exact r.repl k ry
 ·rw[if_neg q,if_neg q];exact Paired.snoc r (aS rfl hb ry)
def KT.keeps(r:KT H kvs xs)(ht:∀b ys,H b=some (.tup ys)->H' b=some (.tup ys)):KT H' kvs xs:=Paired.J3 r λ _ _ z=>aS z.1 (ht _ _ z.2.1) z.2.2
section
variable{P:Program}{w:World}{H:Hp}{h:Heap}{a:Addr}
def LA(ok:kh P w H h)(e:Rd H a u):bQ P w H h a u:=e.ok ok
def Cr(ok:kh P w H h)(e:Rd H a (.dK kvs)):kvs.length<=sizeLine/\(a==sysModules)=false/\∃vs,KV kvs vs/\h.DictOf (cI P w) a vs:=show bQ P w H h a (.dK kvs) from LA ok e
def Us(ok:kh P w H h)(e:H a=some (.dK kvs)):kvs.length<=sizeLine/\(a==sysModules)=false/\∃vs,KV kvs vs/\h.DictOf (cI P w) a vs:=Cr ok (.inl e)
def AE(ok:kh P w H h)(e:H a=some (.tup (ks.map kV))):(tupleKind (cI P w)).is h ks a:=by refine bS (λ _=>ah λ its r=>aD λ o h1 h2 z=>?_) (show bQ P w H h a (.tup (ks.map kV)) from ok a _ e);obtain ⟨n,h3⟩:=z;exact g7 o its.toArray n h1 h2 h3 (by simpa using DZ r)
def Cp(ok:kh P w H h)(e:Rd H a (.dT kvs)):kvs.length<=sizeLine/\(a==sysModules)=false/\∃xs,KT H kvs xs/\h.DictOfH (tupleKind (cI P w)) a xs:=by
 refine aW (λ z y=>ah λ xs r=>p8 λ o es ep h1 h2 h3 h4 h5=>?_) (show bQ P w H h a (.dT kvs) from LA ok e);refine aS z y (af xs r ⟨o,es,ep,h1,h2,h3,h4,λ x hx=>?_,h5⟩);have all:∀{l:List (List Key×V)} {m:List (List Key×Addr×Value)},KT H l m->∀x∈m,(tupleKind (cI P w)).is h x.1 x.2.1:=by
  intro l m q;induction q with
  |nil=>intro x hx;exact nomatch hx
  | @cons p q ps qs hq t ih=>
   intro x hx;rcases List.mem_cons.mp hx with e|hx
   ·subst e;exact AE ok (by rw[<-hq.1];exact hq.2.1)
   ·exact ih x hx
 exact all r x hx
def Ur(ok:kh P w H h)(e:H a=some (.dT kvs)):kvs.length<=sizeLine/\(a==sysModules)=false/\∃xs,KT H kvs xs/\h.DictOfH (tupleKind (cI P w)) a xs:=Cp ok (.inl e)
end
def Qi(H:Hp)(a:Addr)(y:V)(r:Option V):Prop:=(∃kvs k,Rd H a (.dK kvs)/\y=kV k/\r=mq kvs k)\/∃kvs k b,Rd H a (.dT kvs)/\y= .ref b/\H b=some (.tup (k.map kV))/\r=mq kvs k
def Vf(H:Hp)(a:Addr)(y v:V)(H':Hp):Prop:=(∃kvs k,H a=some (.dK kvs)/\y=kV k/\kvs.length<sizeLine/\H'=upd H a (.dK (putK kvs k v)))\/∃kvs k b,H a=some (.dT kvs)/\y= .ref b/\H b=some (.tup (k.map kV))/\kvs.length<sizeLine/\H'=upd H a (.dT (putK kvs k v))
section
variable{X:Cx}{pins:List (Addr×Obj)}{σ:St}{H:Hp}{s:Shared}{a:Addr}{y v:V}{u r:Value}{o:Option V}{A:Around}{E:Value->Shared->Prop}
def Inv.big(I:Inv X pins σ H s):sysModules<s.heap.objs.size:=by have h:mainGlobals<s.heap.objs.size:=(I.mod.glob.keeps I.bk).lt;exact Nat.lt_trans (by decide) h
def Ef{Q:Value->Shared->Prop}(hu:A.units+1<cLine)(I:Inv X pins σ H s)(g:Qi H a y (some v))(ry:RelV y u)(h:∀w' s',Inv X pins σ H s'->RelV v w'->Q w' s'):
  wpAny (model X.prog X.w) A (getItem (.ref a) u) Q E s:=by
 rcases g with ⟨kvs,k,e,ey,l⟩|⟨kvs,k,b,e,ey,eb,l⟩
 ·subst ey;refine aW (λ z hd=>ah λ vs rel dd=>?_) (Cr I.hok e);refine ah (λ w' hw rw'=>?_) (rG.some_of (v:=v) (o:=valueAt vs k) (by rw[l];exact rel.val k));exact wpAny_getItem_of (GY ry) dd.mapOf hw (h w' _ (I.tok _) rw')
 ·subst ey;cases (show u=Value.ref b from ry);refine aW (λ z hd=>ah λ xs rel dd=>?_) (Cp I.hok e);refine ah (λ w' hw rw'=>?_) (rG.some_of (v:=v) (o:=(atKey xs k).map (·.2)) (by rw[l];exact rel.val k));refine ah (λ p hp hp2=>?_) (Option.map_eq_some_iff.mp hw);refine wpAny_getItem_heap (tupleKind_room_in1 hu) (AE I.hok eb) dd hp ?_;rw[hp2];exact h w' _ (I.tok _) rw'
def Cv(I:Inv X pins σ H s)(mu:U7 (H a))(hs:Heap.SameBut a s.heap h')(he:∃q,h'.get? a=some q)(new:bQ X.prog X.w (upd H a ob) h' a ob):
  Inv X pins σ (upd H a ob) {s with heap:=h',toks:=t'}:=
 I.write (x:=a) (e:=a) mu (.inl rfl) (λ b q hb z=>(hs.2 b hb).trans z) he new
def PF(z:kvs.length<=sizeLine)(hd:(a==sysModules)=false)(rel:KV kvs vs)(dd:h'.DictOf (cI P w) a vs):
  bQ P w H' h' a (.dK kvs):=aS z hd (af vs rel dd)
def Ed{Q:Unit->Shared->Prop}(hu:A.units+1<cLine)(I:Inv X pins σ H s)(g:Vf H a y v H')(ry:RelV y u)(rv:RelV v r)(h:∀s',Inv X pins σ H' s'->Q () s'):
  wpAny (model X.prog X.w) A (setItem (.ref a) u r) Q E s:=by
 rcases g with ⟨kvs,k,e,ey,l,eH⟩|⟨kvs,k,b,e,ey,eb,l,eH⟩
 ·subst ey eH;refine aW (λ z hd=>ah λ vs rel dd=>?_) (Us I.hok e);have hz:vs.length<=sizeLine:=by rw[<-rel.length];exact z
  have hl:(putK kvs k v).length<=sizeLine:=by have:=oV kvs k v;omega
  refine wpAny_setItem_pairs (hsz:=hz) (GY ry) dd λ h' VX hs=>h _ ?_;have he:∃q,h'.get? a=some q:=let ⟨q,_,_,hq,_⟩:=VX;⟨q,hq⟩
  exact Cv I (by rw[e];exact True.intro) hs he (PF hl hd (rel.put k rv) VX)
 ·subst ey eH;cases (show u=Value.ref b from ry);refine aW (λ z hd=>ah λ xs rel dd=>?_) (Ur I.hok e);have hz:xs.length<=sizeLine:=by rw[<-Paired.length rel];exact z
  have hl:(putK kvs k v).length<=sizeLine:=by have:=oV kvs k v;omega
  refine wpAny_setItem_heap (hsz:=hz) (tupleKind_room_in1 hu) (AE I.hok eb) dd λ h' VX hs=>h _ ?_;obtain ⟨q,es,ep,hq,h2,h3,h4,_,h5⟩:=VX;refine Cv I (by rw[e];exact True.intro) hs ⟨q,hq⟩ (aS hl hd (af _ ((rel.put k eb rv).keeps λ c ys ec=>?_) (lF q es ep hq h2 h3 h4 h5)));rw[aB (To ec e (λ z=>nomatch z))];exact ec
end
section
variable{X:Cx}{pins:List (Addr×Obj)}{σ:St}{H:Hp}{s:Shared}{a:Addr}{kvs:List (Key×V)}{k:Key}{u:Value}{A:Around}{E:Value->Shared->Prop}
end
noncomputable def Qc(i:Expr):Prop:=∀ov iv,subscripted i false ov iv=operate [ov,iv] (getItem ov iv)
def Jf{prog:Program}{w:World}{A:Around}{E:Value->Shared->Prop}{s:Shared}{env:Env}{value slice:Expr}{pos:Pos}{T id:String}{Q:Value->Shared->Prop} (hl:typeLookup (.type T) "__getitem__"=pure (some (.builtin id))) (hs:Qc slice) (h:wpAny (model prog w) A (eval value env) (λ o s₁=>wpAny (model prog w) A (eval slice env) (λ i s₂=>s₂.TypeIs o T/\wpAny (model prog w) A (getItem o i) Q E s₂) E s₁) E s):
  wpAny (model prog w) A (eval (.Subscript value slice pos) env) Q E s:=by
 refine Subscript_ (wpAny_mono h (λ o s₁ h₁=>wpAny_mono h₁ (λ i s₂ h₂=>?_) λ _ _ x=>x) λ _ _ x=>x);obtain ⟨hT,h₂⟩:=h₂;unfold subscriptTail;refine wpAny_bind ?_;rw[getitemInPython_of_ne hT.not_modules];refine wpAny_bind (wpAny_specialOf hT hl ?_);have fin:wpAny (model prog w) A (subscripted slice false o i) (λ r s₃=>wpAny (model prog w) A (letTemporaryGo value o r>>=λ _=>pure r) Q E s₃) E s₂:=by rw[hs o i];exact wpAny_operating (wpAny_mono h₂ (λ r s₃ h₃=>wpAny_bind (wpAny_letTemporaryGo (wpAny_pure h₃))) λ _ _ x=>x)
 first
  |exact wpAny_pure (wpAny_bind fin)
  |exact wpAny_bind (wpAny_pure (wpAny_bind fin))
  |exact wpAny_bind fin
def zq{s:Shared}{y:V}(I:Inv X pins σ H s)(g:Qi H a y o):s.TypeIs (.ref a) "dict":=by
 rcases g with ⟨kvs,k,e,_,_⟩|⟨kvs,k,b,e,_,_,_⟩
 ·refine aW (λ _ _=>ah λ vs _ dd=>?_) (Cr I.hok e);exact dd.typeIs
 ·refine aW (λ _ _=>ah λ xs _ dd=>?_) (Cp I.hok e);exact dd.typeIs
def RY(td ty:TE):TE:=λ σ H Q=>td σ H λ x H1=>ty σ H1 λ y H2=>∃a v,x= .ref a/\Qi H2 a y (some v)/\Q v H2
def Sl(td ty tv:TE):TS:=λ D σ H=>tv σ H λ v H1=>td σ H1 λ x H2=>ty σ H2 λ y H3=>∃a H4,x= .ref a/\Vf H3 a y v H4/\D.nx σ H4
section
variable{X:Cx}{o i e value:Expr}{pos pos' tpos:Pos}{td ty tv:TE}
def JK(hu:X.A.units+1<cLine)(ho:PE X o td)(hi:PE X i ty)(hs:Qc i):PE X (.Subscript o i pos) (RY td ty):=by intro pins s σ H Q I h;refine Jf PySem.F.slot_dict_getitem.lookup hs (dN (ho pins s σ H _ I h) λ u s1 z_=>vf z_ λ x H1 I1 rx q1=>dN (hi pins s1 σ H1 _ I1 q1) ?_);refine λ iv s2=>ak λ y H2 I2 ry=>ak λ a v ex g q2=>?_;subst ex;obtain rfl:u=Value.ref a:=rx;exact ⟨zq I2 g,Ef hu I2 g ry λ w' s3 I3 rw'=>ao v H2 I3 rw' q2⟩
def JD(hu:X.A.units+1<cLine)(ho:PE X o td)(hi:PE X i ty)(hv:PE X value tv)(hs:swapsWith value (some (.Subscript o i pos')) pos.line X.env=pure false):
  PS X (.Assign [.Subscript o i pos'] value pos) (Sl td ty tv):=by
 intro pins s σ H D I h;refine wpAny_Assign_Subscript (dN (hv pins s σ H _ I h) λ r s1 z_=>vf z_ λ v H1 I1 rv q1=>dN (ho pins s1 σ H1 _ I1 q1) λ u s2 z_=>vf z_ λ x H2 I2 rx q2=>dN (hi pins s2 σ H2 _ I2 q2) ?_) hs;refine λ iv s3=>ak λ y H3 I3 ry=>ak λ a H4 ex g q3=>?_;subst ex;obtain rfl:u=Value.ref a:=rx;exact Ed hu I3 g ry rv λ s4 I4=>aM σ H4 I4 q3
end
def Ht(h:Heap)(hb:sysModules<h.objs.size):bQ P w H (h.push {cls:= .type "dict",data:= .dict #[]}) h.objs.size (.dK []):=aS (Nat.zero_le _) (beq_eq_false_iff_ne.mpr (Ne.symm (Nat.ne_of_lt hb))) (af [] .nil (Heap.DictOf.new h))
def Nk:TE:=λ _ H Q=>∀p,H p=none->Q (.ref p) (upd H p (.dK []))
section
variable{X:Cx}{pos:Pos}
def FW:PE X (.Dict [] [] pos) Nk:=λ pins s σ H Q I h=>wpAny_Dict_empty (ao (.ref s.heap.objs.size) _ (I.laid (a:=s.heap.objs.size) (o:= .dK []) (t':=s.toks) (λ _ _ q=>Heap.get?_push_of_some _ q) (Nat.le_refl _) (Ht s.heap I.big)) rfl (h _ (I.hok.fresh (Nat.le_refl _))))
end
structure M1(X:Cx)(o:Expr)(m:Str)(apos:Pos)(e:Expr)(cpos:Pos):Prop where
 base:attributeBase o m X.env (eval o X.env)=eval o X.env
 few:((backTo cpos (starEach [e] X.env)).all (λ x=>!x.1)&&(backToKw cpos (keywordEach [] X.env)).all (λ x=>x.1.isSome)
  &&decide (([e]:List Expr).length+([]:List Keyword).length+(if ([]:List Keyword).isEmpty then 0 else 1)<30))=true
 line:(apos.endLine==cpos.line)=true
 trees:backTo cpos (starEach [e] X.env)=[(false,eval e X.env)]
structure M2(X:Cx)(o:Expr)(m:Str)(apos:Pos)(e f:Expr)(cpos:Pos):Prop where
 base:attributeBase o m X.env (eval o X.env)=eval o X.env
 few:((backTo cpos (starEach [e,f] X.env)).all (λ x=>!x.1)&&(backToKw cpos (keywordEach [] X.env)).all (λ x=>x.1.isSome)
  &&decide (([e,f]:List Expr).length+([]:List Keyword).length+(if ([]:List Keyword).isEmpty then 0 else 1)<30))=true
 line:(apos.endLine==cpos.line)=true
 trees:backTo cpos (starEach [e,f] X.env)=[(false,eval e X.env),(false,eval f X.env)]
def Z0(H:Hp)(a:Addr):Prop:=(∃kvs,Rd H a (.dK kvs))\/∃kvs,Rd H a (.dT kvs)
def OW{s:Shared}(I:Inv X pins σ H s)(d:Z0 H a):
  s.TypeIs (.ref a) "dict"/\(∀b,Value.ref a= .ref b->∃ob,s.heap.get? b=some ob/\ob.dict=none)/\(a==sysModules)=false:=by
 rcases d with ⟨kvs,e⟩|⟨kvs,e⟩
 ·refine aW (λ _ hd=>ah λ vs _ dd=>?_) (Cr I.hok e);refine aS dd.typeIs (λ b q=>?_) hd;cases q
  revert dd;refine dO λ ob _ _ h1 h2 _=>?_
  exact af ob h1 h2.2.1
 ·refine aW (λ _ hd=>ah λ xs _ dd=>?_) (Cp I.hok e);refine aS dd.typeIs (λ b q=>?_) hd;cases q;refine dO (λ ob _ _ h1 h2 _=>?_) dd;exact af ob h1 h2.2.1
section
variable{X:Cx}{pins:List (Addr×Obj)}{σ:St}{H:Hp}{s:Shared}{a:Addr}{y d:V}{u r:Value}{o:Option V}{A:Around}{E:Value->Shared->Prop}
end
section
variable{X:Cx}{o e f:Expr}{apos cpos:Pos}{td ty tx:TE}
end
section
variable{X:Cx}{pins:List (Addr×Obj)}{σ:St}{H:Hp}{s:Shared}{a:Addr}{kvs:List (Key×V)}{A:Around}{E:Value->Shared->Prop}
end
section
variable{X:Cx}{pins:List (Addr×Obj)}{σ:St}{H:Hp}{s:Shared}{a:Addr}{y:V}{u:Value}{A:Around}{E:Value->Shared->Prop}
end
end L2
namespace Z1
open PySem PySem.W PySem.Calls PyProof.Rows
def pB:∀(ns:List Int) (vs:List Value),WellAll P h vs (ns.map WData.int)->IntsAre vs ns:=by
 intro ns;induction ns with
 |nil=>intro vs w;rw[List.map_nil] at w;cases w;exact .nil
 |cons n ns ih=>
  intro vs w;rw[List.map_cons] at w;cases w with
  |cons a b=>cases a;exact .cons _ _ (ih _ b)
def Dy{l:OpenLaw}{n:Nat}(hn:l.most=some n){P:Params}{h:Heap}{args:List WData}{vals:List Value} (hpre:l.row.toRowW.claim.pre args=true) (hwl:WellAll P h vals args):
  ∃a vs ns,vals=[Value.ref a]/\args=[WData.list (ns.map WData.int)]/\h.get? a=some {cls:= .type "list",data:= .seq vs.toArray}/\IntsAre vs ns/\ns.length<=n:=by
 have hsh:WShape.hasAll [] args [.list .int]=true:=(pre_splitW hpre).1;have hc:l.pre.holds [] {args:=args}=true:=(pre_splitW hpre).2;refine ak (λ d r z h1 h2=>?_) (hasAllW_cons hsh);subst z;obtain rfl:=hasAllW_nil h2;refine ah (λ xs z h3=>?_) (hasW_list h1);subst z;obtain ⟨ns,rfl⟩:=items_int h3;have hlen:ns.length<=n:=by
  unfold OpenLaw.pre at hc;have h4:(WTm.not (.lt (.lit (.int (n:Int))) (.len (.arg 0)))).holds [] {args:=[.list (ns.map .int)]}=true:=by have h4:=(holds_andW hc).1;rw[hn] at h4;exact h4
  have h5:=condW_of h4 (w_not (w_lt w_lit (w_len_list (w_arg rfl))));rw[List.length_map] at h5;refine Nat.le_of_not_lt λ q=>?_;have q':(n:Int)<((ns.length:Nat):Int):=by omega
  first
   |(rw[decide_eq_true q'] at h5;exact absurd h5 (by decide))
   |(simp at h5;omega)
 cases hwl with
 |cons w1 w2=>
  cases w2;cases w1 with
  |list ho hall=>exact lF _ _ ns rfl rfl ho (pB ns _ hall) hlen
def DC(l:OpenLaw)(args:List WData):l.row.toRowW.claim.post args (.bool true) args=true:=postW_of (r:=l.row.toRowW) (X:=(true==true))
  (show WShape.has [] (.bool true) .bool=true by first|rfl|decide|simp[WShape.has,WShape.arms,WShape.armsAll])
  (show (WTm.eq .res (.lit (.bool true))).value [] {args:=args,res:=some (.bool true),after:=args}=some (.bool (true==true)) from w_eq_bool (w_res rfl) w_lit) rfl
def zF{l:OpenLaw}{n:Nat}{q:Program}{loose:List Str}{XP:(Str->Option Value)->Heap->Prop}{YP:World->Heap->Prop}{d:DefRec} (hn:l.most=some n) (hdf:d.params.defaults=[]) (call:∀(w:World) (s₀ s₁:Shared) (mg mb:Str->Option Value) (fa:Addr) (o:Obj) (pm cd doc:Value) (a:Addr) (vs:List Value) (ns:List Int),Ground q loose [] XP w s₀ mg mb s₁.heap->YP w s₁.heap->s₁.heap.get? fa=some o->o.data= .func (docDef d.name d.params d.body d.scope pm cd doc)->s₁.heap.CodeRec cd d.name->mg d.name=some (.ref fa)->s₁.heap.get? a=some {cls:= .type "list",data:= .seq vs.toArray}->IntsAre vs ns->ns.length<=n->s₁.gens= #[]->codeAny (model l.prog w) callerA (.call (.ref fa) ⟨[.ref a],[]⟩) (λ r s'=>r= .ok (.ret (.bool true))/\OldK s₁.heap s'.heap/\s'.os=s₁.os/\AllBare s'.gens) s₁):
  WalkO q loose XP YP l.row.toRowW d [] (λ f vs=>PySem.call f vs):=by
 intro w s₀ s₁ mg mb G Y fa o pm cd doc dV kV ho hd hcd hD hmg hg args vals as hpre hlay hrd hwl hlo;obtain rfl:dV= .none:=Dflts.none hD hdf;obtain rfl:kV= .none:=Dflts.noKw hD;refine p8 (λ a vs ns z y hobj hints hlen=>?_) (Dy hn hpre hwl);subst z;subst y;refine enter_call (codeAny_mono (call w s₀ s₁ mg mb fa o pm cd doc a vs ns G Y ho (fd_plain hd) hcd hmg hobj hints hlen hg) λ r s' hq=>?_)
 revert hq;refine iU λ z h2 h3 h4=>?_;subst z
 exact gz (.inl (lF (.bool true) (.bool true) [] rfl (λ _=>rfl) (.bool true) (DC l _) (λ _=>⟨List.Pairwise.nil,λ _ hm=>(nomatch hm)⟩))) h2 h3 h4
section
variable{prog:Program}{w:World}{A:Around}{E:Value->Shared->Prop}{s:Shared}{K:Frag}
end
end Z1
namespace L2
open PySem PySem.Spec PyProof.Rows
theorem sM:∀{vs:List Value} {ns:List Int},IntsAre vs ns->Vals (ns.map V.int) vs
 |_,_,.nil=> .nil
 |_,_,.cons n t h=> .cons ⟨t,rfl⟩ (sM h)
def gc(s:Stmt):Arguments:=match s with
 | .FunctionDef _ a _ _ _ _ _ _ _ _=>a
 |_=>{posonlyargs:=[],args:=[],vararg:=none,kwonlyargs:=[],kw_defaults:=[],kwarg:=none,defaults:=[]}
def cR(s:Stmt):List Stmt:=match s with
 | .FunctionDef _ _ b _ _ _ _ _ _ _=>b
 |_=>[]
def aT(s:Stmt):Scope:=match s with
 | .FunctionDef _ _ _ _ _ _ sc _ _ _=>sc
 |_=>{kind:= .function,names:=[],isGenerator:=false,isCoroutine:=false}
structure Et(K:W.Frag)(x qual:Str)(st:Stmt)(f:Addr)(fd:FuncData):Prop where
 ex:∃(oc:Value) (od:Option Addr) (kV doc pm:Value) (an:Option Addr) (cdv ct:Value) (osl:Array (Option Value)),
  fd=W.fnOf x qual (gc st) (cR st) (aT st) .none kV doc pm an cdv ct/\K.lookup f=some ⟨oc,od,.func fd,osl⟩/\W.codeIn K cdv qual=true
 kp:W.keepIn K (.ref f)=true
section
variable{P:Program}{w:World}{K:W.Frag}{mg:Str->Option Value}{base:Heap}
def Et.binds{x qual:Str}{st:Stmt}{f:Addr}{fd:FuncData}{ps:List Str}(F:Et K x qual st f fd) (h:∀(kV doc pm:Value) (an:Option Addr) (cdv ct:Value) (us:List Value),us.length=ps.length->bindArgs (W.fnOf x qual (gc st) (cR st) (aT st) .none kV doc pm an cdv ct) ⟨us,[]⟩=pure (ps.zip us)):Binds K fd ps []:=by obtain ⟨oc,od,kV,doc,pm,an,cdv,ct,osl,rfl,lk,hcd⟩:=F.ex;exact .all (h kV doc pm an cdv ct)
def Hh{x qual:Str}{st:Stmt}{f:Addr}{oc:Value}{od an:Option Addr}{osl:Array (Option Value)}{kV doc pm cdv ct:Value}(l:K.lookup f=some ⟨oc,od,.func (W.fnOf x qual (gc st) (cR st) (aT st) .none kV doc pm an cdv ct),osl⟩) (c:W.codeIn K cdv qual=true) (k:W.keepIn K (.ref f)=true):Et K x qual st f (W.fnOf x qual (gc st) (cR st) (aT st) .none kV doc pm an cdv ct):=⟨⟨oc,od,kV,doc,pm,an,cdv,ct,osl,rfl,l,c⟩,k⟩
end
def jW(h:n<=1000):n<sizeLine:=Nat.lt_of_le_of_lt h (by decide)
section
variable{X:Cx}
end
def Kg{A B:Prop}(h:B):if false=true then A else B:=by rw[if_neg Bool.false_ne_true];exact h
def Kf{A B:Prop}(h:A):if true=true then A else B:=by rw[if_pos rfl];exact h
def az(H H':Hp):Prop:=∀b o,H b=some o->H' b=some o
def az.refl(H:Hp):az H H:=λ _ _ h=>h
def az.trans(a:az H H1)(b:az H1 H2):az H H2:=λ c o h=>b c o (a c o h)
def az.free{H H':Hp}(e:az H H'){l:Addr}(h:H' l=Option.none):H l=Option.none:=by
 cases q:H l with
 |none=>rfl
 |some o=>rw[e l o q] at h;cases h
section
variable{κ:Type} [DecidableEq κ]
end
end L2
end
section
namespace L4
open PySem
def mU(n:Nat)(i:Int):Option Nat:=if 0<=i then (if i<n then some i.toNat else none) else if -(n:Int)<=i then some (i+n).toNat else none
def tV{α:Type}(xs:List α)(i:Int):Option α:=(mU xs.length i).bind λ j=>xs[j]?
def rT(n d:Nat):Option Int->Nat
 |none=>d
 |some v=>if v<0 then (v+(n:Int)).toNat else min v.toNat n
inductive Ks where
 |s (ks:List (Sum Int Str))|t (ks:List (List (Sum Int Str)))
def Ks.len:Ks->Nat
 | .s ks=>ks.length
 | .t ks=>ks.length
inductive D where
 |eU|bl (b:Bool)|int (i:Int)|str (x:Str)|tup (xs:List D)|lst (xs:List D)
 /-- a tuple xZ is a constant of zP module -/
 |gt (xs:List D)
 /-- an instance xZ OA changes any more;an exception -/
 |obj (c:String) (ns:List Str) (xs:List D)|exc (c:String)
 /-- a list xZ Vp iJ:for this expression (true),for this call (false) -/
 |bor (t:Bool) (xs:List D)
 /-- a dict xZ OA changes;a lent one -/
 |lS (ks:Ks) (xs:List D)|mj (t:Bool) (ks:Ks) (xs:List D)
 /-- a lent instance xZ may change -/
 |rz (t:Bool) (c:String) (ns:List Str) (xs:List D)
inductive M where
 |d (x:D)|l (xs:List D)|n (ms:List M)|t (ms:List M)|k (ks:Ks) (xs:List D)
 /-- an instance xZ may change -/
 |o (c:String) (ns:List Str) (xs:List D)
 /-- a dict of what it owns -/
 |q (ks:Ks) (ms:List M)
mutual
/-- lent for an expression -/
noncomputable def lend:M->D
 | .d x=>x
 | .l xs=> .bor true xs
 | .n ms=> .bor true (iJ ms)
 | .t ms=> .tup (iJ ms)
 | .k ks xs=> .mj true ks xs
 | .o c ns xs=> .rz true c ns xs
 | .q ks ms=> .mj true ks (iJ ms)
noncomputable def iJ:List M->List D
 |[]=>[]
 |m::ms=>lend m::iJ ms
end
mutual
/-- changed no more -/
noncomputable def zb:M->D
 | .d x=>x
 | .l xs=> .lst xs
 | .n ms=> .lst (mY ms)
 | .t ms=> .tup (mY ms)
 | .k ks xs=> .lS ks xs
 | .o _ _ _=> .eU
 | .q ks ms=> .lS ks (mY ms)
noncomputable def mY:List M->List D
 |[]=>[]
 |m::ms=>zb m::mY ms
end
mutual
/-- no instance xZ may change is in it -/
noncomputable def qR:M->Bool
 | .n ms=>mX ms
 | .t ms=>mX ms
 | .q _ ms=>mX ms
 | .o _ _ _=>false
 |_=>true
noncomputable def mX:List M->Bool
 |[]=>true
 |m::ms=>qR m&&mX ms
end
mutual
/-- nothing lent for zP expression alone is in it -/
noncomputable def nt:D->Bool
 | .tup xs=>gm xs
 | .gt xs=>gm xs
 | .lst xs=>gm xs
 | .obj _ _ xs=>gm xs
 | .lS _ xs=>gm xs
 | .bor t xs=>!t&&gm xs
 | .mj t _ xs=>!t&&gm xs
 | .rz t _ _ xs=>!t&&gm xs
 |_=>true
noncomputable def gm:List D->Bool
 |[]=>true
 |d::ds=>nt d&&gm ds
end
mutual
/-- nothing lent is in it -/
noncomputable def nb:D->Bool
 | .tup xs=>DQ xs
 | .gt xs=>DQ xs
 | .lst xs=>DQ xs
 | .obj _ _ xs=>DQ xs
 | .lS _ xs=>DQ xs
 | .bor _ _=>false
 | .mj _ _ _=>false
 | .rz _ _ _ _=>false
 |_=>true
noncomputable def DQ:List D->Bool
 |[]=>true
 |d::ds=>nb d&&DQ ds
end
mutual
/-- lent on to a def xZ is called -/
noncomputable def dn:D->D
 | .tup xs=> .tup (sj xs)
 | .gt xs=> .gt (sj xs)
 | .lst xs=> .lst (sj xs)
 | .obj c ns xs=> .obj c ns (sj xs)
 | .lS ks xs=> .lS ks (sj xs)
 | .bor _ xs=> .bor false (sj xs)
 | .mj _ ks xs=> .mj false ks (sj xs)
 | .rz _ c ns xs=> .rz false c ns (sj xs)
 |d=>d
noncomputable def sj:List D->List D
 |[]=>[]
 |d::ds=>dn d::sj ds
end
mutual
def Av:M->Bool
 | .d x=>nb x
 | .l xs=>DQ xs
 | .n ms=>DR ms
 | .t ms=>DR ms
 | .k _ xs=>DQ xs
 | .o _ _ xs=>DQ xs
 | .q _ ms=>DR ms
def DR:List M->Bool
 |[]=>true
 |m::ms=>Av m&&DR ms
end
mutual
def ku:M->Bool
 | .d x=>nt x
 | .l xs=>gm xs
 | .n ms=>yD ms
 | .t ms=>yD ms
 | .k _ xs=>gm xs
 | .o _ _ xs=>gm xs
 | .q _ ms=>yD ms
def yD:List M->Bool
 |[]=>true
 |m::ms=>ku m&&yD ms
end
inductive Res(α:Type) where
 |ok (a:α)|err (c:String)|bad
def Res.bnd{α β:Type}(r:Res α)(f:α->Res β):Res β:=match r with
 | .ok a=>f a
 | .err c=> .err c
 | .bad=> .bad
@[simp] theorem Res.iu(a:α)(f:α->Res β):(Res.ok a).bnd f=f a:=(rfl)
@[simp] theorem Res.vm(c:String)(f:α->Res β):(Res.err c:Res α).bnd f= .err c:=(rfl)
@[simp] theorem Res.vn(f:α->Res β):(Res.bad:Res α).bnd f= .bad:=(rfl)
inductive Slot where
 |no|val (d:D)|own (m:M)|par (m:M)
noncomputable abbrev Sg:=List Slot
inductive Out where
 |nx (Γ:Sg)|bk (Γ:Sg)|ct (Γ:Sg)|rt (d:D)|xG (m:M)|Ir (d:D) (Γ:Sg)|rW (m:M) (Γ:Sg)|err (c:String) (Γ:Sg)|bad
def aj(i:Nat):Sg->Res D:=λ Γ=>match Γ[i]? with
 |some (.val d)=> .ok d
 |_=> .bad
def tP(i:Nat):Sg->Res D:=λ Γ=>match Γ[i]? with
 |some (.val d)=> .ok d
 |some (.own m)=> .ok (lend m)
 |some (.par m)=> .ok (lend m)
 |_=> .bad
def dC(d:D):Sg->Res D:=λ _=> .ok d
def aO(r:D->D->Res D)(f g:Sg->Res D):Sg->Res D:=λ Γ=>(f Γ).bnd λ x=>(g Γ).bnd λ y=>r x y
noncomputable def Nc:D->Res Bool
 | .bl b=> .ok b
 |_=> .bad
def dT(f:Sg->Res D):Sg->Res Bool:=λ Γ=>(f Γ).bnd Nc
def Ro(f g:Sg->Res Bool):Sg->Res Bool:=λ Γ=>(f Γ).bnd λ c=>if c=true then .ok true else g Γ
def HJ(f:Sg->Res Bool):Sg->Res Bool:=λ Γ=>(f Γ).bnd λ c=> .ok (!c)
def Eg(f g:Sg->Res D):Sg->Res D:=λ Γ=>(f Γ).bnd λ x=>(Nc x).bnd λ c=>if c=true then g Γ else .ok (.bl false)
def PJ(f:Sg->Res D):Sg->Res D:=λ Γ=>(f Γ).bnd λ x=>(Nc x).bnd λ c=> .ok (.bl (!c))
def aL:Sg->Res (List D):=λ _=> .ok []
def ay(f:Sg->Res D)(r:Sg->Res (List D)):Sg->Res (List D):=λ Γ=>(f Γ).bnd λ x=>(r Γ).bnd λ xs=> .ok (x::xs)
def su(r:Sg->Res (List D)):Sg->Res D:=λ Γ=>(r Γ).bnd λ xs=>if xs.length<=1000 then .ok (.tup xs) else .bad
def kC(r:Sg->Res (List D)):Sg->Res (List D):=λ Γ=>(r Γ).bnd λ xs=>if xs.length<=1000 then .ok xs else .bad
def kX(f:Sg->Res (List D)):Sg->Res D:=λ Γ=>(f Γ).bnd λ ds=> .ok (.lst ds)
def oE{α:Type}(r:Res α)(Γ:Sg)(k:α->Out):Out:=match r with
 | .ok d=>k d
 | .err c=> .err c Γ
 | .bad=> .bad
@[simp] theorem LH(d:α)(Γ:Sg)(k:α->Out):oE (.ok d) Γ k=k d:=(rfl)
@[simp] theorem Xl(c:String)(Γ:Sg)(k:α->Out):oE (.err c) Γ k= .err c Γ:=(rfl)
def fC:Sg->Out:=λ Γ=> .nx Γ
def aY(F G:Sg->Out):Sg->Out:=λ Γ=>match F Γ with
 | .nx Γ'=>G Γ'
 |o=>o
def Fg(f:Sg->Res D):Sg->Out:=λ Γ=>oE (f Γ) Γ λ _=> .nx Γ
def gw(f:Sg->Res D):Sg->Out:=λ Γ=>oE (f Γ) Γ λ d=> .rt d
def p6(f:Sg->Res M):Sg->Out:=λ Γ=>oE (f Γ) Γ λ m=>if ku m=true then .xG m else .bad
def oK(i:Nat):Sg->Out:=λ Γ=>match Γ[i]? with
 |some (.own m)=> .xG m
 |some (.val d)=> .rt d
 |_=> .bad
def yk(p:Sg->Res Bool)(F G:Sg->Out):Sg->Out:=λ Γ=>oE (p Γ) Γ λ c=>if c=true then F Γ else G Γ
def bI(i:Nat)(f:Sg->Res D):Sg->Out:=λ Γ=>oE (f Γ) Γ λ d=> .nx (Γ.set i (.val d))
def kL(i:Nat)(f:Sg->Res M):Sg->Out:=λ Γ=>oE (f Γ) Γ λ m=>if ku m=true then .nx (Γ.set i (.own m)) else .bad
def mL(f:Sg->Res (List D)):Sg->Res M:=λ Γ=>(f Γ).bnd λ ds=> .ok (.l ds)
def mD(f:Sg->Res D):Sg->Res M:=λ Γ=>(f Γ).bnd λ d=> .ok (.d d)
def uX(m:M):Res D:=if qR m=true then .ok (zb m) else .bad
def zv(f:Sg->Res M):Sg->Res D:=λ Γ=>(f Γ).bnd uX
abbrev Tg:=D->Sg->Option Sg
abbrev Ie:=List D->Sg->Option Sg
def aG(i:Nat):Tg:=λ d Γ=>some (Γ.set i (.val d))
def eN:Ie:=λ ds Γ=>match ds with
 |[]=>some Γ
 |_=>none
def aZ(t:Tg)(u:Ie):Ie:=λ ds Γ=>match ds with
 |d::r=>(t d Γ).bind λ Γ'=>u r Γ'
 |[]=>none
def dU(n:Nat)(t:Ie):Tg:=λ d Γ=>match d with
 | .tup ds=>if ds.length=n then t ds Γ else none
 |_=>none
def aaC(f:Sg->Res D)(t:Tg):Sg->Out:=λ Γ=>oE (f Γ) Γ λ d=>match t d Γ with
 |some Γ'=> .nx Γ'
 |none=> .bad
def Ny(i k:Nat)(r:Sg->Res (List D)):Sg->Out:=λ Γ=>oE (r Γ) Γ λ ds=>match ds with
 |[x,y]=> .nx ((Γ.set i (.val x)).set k (.val y))
 |_=> .bad
def cS(t:Tg)(B:Sg->Out):List D->Sg->Out
 |[],Γ=> .nx Γ
 |x::xs,Γ=>match t x Γ with
  |none=> .bad
  |some Γ1=>match B Γ1 with
   | .nx Γ'=>cS t B xs Γ'
   | .ct Γ'=>cS t B xs Γ'
   | .bk Γ'=> .nx Γ'
   |o=>o
def bC(p:Sg->Res Bool)(B:Sg->Out):Nat->Sg->Out
 |0,_=> .bad
 |n+1,Γ=>oE (p Γ) Γ λ c=>if c=true then (match B Γ with
   | .nx Γ'=>bC p B n Γ'
   | .ct Γ'=>bC p B n Γ'
   | .bk Γ'=> .nx Γ'
   |o=>o) else .nx Γ
def drop_one{α:Type}{xs:List α}{i:Nat}{d:α}(h:xs[i]? =some d):xs.drop i=d::xs.drop (i+1):=by obtain ⟨hi,e⟩:=List.getElem?_eq_some_iff.mp h;rw[List.drop_eq_getElem_cons hi,e]
def gE(lo:Int)(n:Nat):List D:=(List.range n).map λ(k:Nat)=>D.int (lo+k)
def D6{lo:Int}(h:i<n):(gE lo n)[i]? =some (.int (lo+i)):=by unfold gE;rw[List.getElem?_map,List.getElem?_range h];rfl
def jZ{lo:Int}:(gE lo n).length=n:=by simp[gE]
def uD(ds:List D):Res (List D):=match ds with
 |[.int j]=>if -(2^62)<=j/\j<2^62 then .ok (gE 0 j.toNat) else .bad
 |_=> .bad
def Jt(h:uD ds= .ok xs):∃j,ds=[.int j]/\ -(2^62)<=j/\j<2^62/\xs=gE 0 j.toNat:=by
 unfold uD at h;split at h
 ·split at h
  ·rename_i j hj;cases h;exact bY j rfl hj.1 hj.2 rfl
  ·cases h
 ·cases h
def Ju(ds:List D)(c:String):uD ds≠.err c:=by
 unfold uD;split
 ·split<;>exact λ z=>nomatch z
 ·exact λ z=>nomatch z
def uC(ds:List D):Res (List D):=match ds with
 |[.int i,.int j]=>if -(2^62)<=i/\i<2^62/\ -(2^62)<=j/\j<2^62 then .ok (gE i (j- i).toNat) else .bad
 |_=> .bad
def Jr(h:uC ds= .ok xs):∃i j,ds=[.int i,.int j]/\(-(2^62)<=i/\i<2^62/\ -(2^62)<=j/\j<2^62)/\xs=gE i (j- i).toNat:=by
 unfold uC at h;split at h
 ·split at h
  ·rename_i i j hj;cases h;exact ao i j rfl hj rfl
  ·cases h
 ·cases h
def Js(ds:List D)(c:String):uC ds≠.err c:=by
 unfold uC;split
 ·split<;>exact λ z=>nomatch z
 ·exact λ z=>nomatch z
inductive dh where
 |ok (d:D)|new (m:M)|QX (d:D) (os:List (Nat×M))|Gn (m:M) (os:List (Nat×M))|err (c:String)|bad
def nT:Nat->Sg->List (Nat×M)
 |_,[]=>[]
 |i,.par m::r=>(i,m)::nT (i+1) r
 |i,_::r=>nT (i+1) r
def jN:Out->dh
 | .nx _=> .ok .eU
 | .rt d=> .ok d
 | .xG m=> .new m
 | .Ir d Γ=> .QX d (nT 0 Γ)
 | .rW m Γ=> .Gn m (nT 0 Γ)
 | .err c _=> .err c
 |_=> .bad
def kE:dh->Res D
 | .ok d=> .ok d
 | .new m=>uX m
 | .err c=> .err c
 |_=> .bad
noncomputable def jD:dh->Res M
 | .ok d=> .ok (.d d)
 | .new m=> .ok m
 | .err c=> .err c
 |_=> .bad
def bh(n:Nat)(F:List Slot->dh)(fa:Sg->Res (List D)):Sg->Res D:=λ Γ=>(fa Γ).bnd λ ds=>if ds.length=n then kE (F (ds.map Slot.val)) else .bad
def GC(n:Nat)(F:List Slot->dh)(fa:Sg->Res (List D)):Sg->Res M:=λ Γ=>(fa Γ).bnd λ ds=>if ds.length=n then jD (F (ds.map Slot.val)) else .bad
def qW(n:Nat)(F:List Slot->dh)(fa:Sg->Res (List D)):Sg->Res D:=λ Γ=>(fa Γ).bnd λ ds=>if ds.length=n/\gm ds=true then kE (F (ds.map Slot.val)) else .bad
def nV(n:Nat)(F:List Slot->dh)(fa:Sg->Res (List D)):Sg->Res M:=λ Γ=>(fa Γ).bnd λ ds=>if ds.length=n/\gm ds=true then jD (F (ds.map Slot.val)) else .bad
def LN:dh->dh
 | .ok d=>if nb d=true then .ok d else .bad
 | .new m=>if Av m=true then .new m else .bad
 | .err c=> .err c
 |_=> .bad
def qV(n:Nat)(F:List Slot->dh)(fa:Sg->Res (List D)):Sg->Res D:=λ Γ=>(fa Γ).bnd λ ds=>if ds.length=n then kE (LN (F ((sj ds).map Slot.val))) else .bad
def AA(n:Nat)(F:List Slot->dh)(fa:Sg->Res (List D)):Sg->Res M:=λ Γ=>(fa Γ).bnd λ ds=>if ds.length=n then jD (LN (F ((sj ds).map Slot.val))) else .bad
def di(N:List Str)(as:List Slot):Sg:=as++List.replicate (N.length- as.length) Slot.no
noncomputable def intD(C:Int->Int->Bool)(g:Int->Int->D):D->D->Res D
 | .int i,.int j=>if C i j=true then .ok (g i j) else .bad
 |_,_=> .bad
@[simp] theorem yU(C:Int->Int->Bool)(g:Int->Int->D)(i j:Int):intD C g (.int i) (.int j)=if C i j=true then .ok (g i j) else .bad:=(rfl)
noncomputable abbrev yes:Int->Int->Bool:=λ _ _=>true
def ko:D->D->Res D:=intD yes λ i j=> .int (i- j)
noncomputable def mR(i j:Int):Bool:=decide (Builtin.Int.intBits i<=64)||decide (Builtin.Int.intBits j<=64)||(decide (Builtin.Int.intBits i<=2^20)&&decide (Builtin.Int.intBits j<=2^20))
def dR:D->D->Res D:=intD mR λ i j=> .int (i*j)
noncomputable def qT(_ j:Int):Bool:=decide (j≠0)&&decide (j.natAbs.log2<9000)
def cg:D->D->Res D:=intD qT λ i j=> .int (i.fdiv j)
def fF:D->D->Res D:=intD (λ _ j=>decide (j≠0)) λ i j=> .int (i.fmod j)
noncomputable def LC(i j:Int):Bool:=decide (0<=j)&&decide (j<=1000000)&&decide (i.natAbs<2^64)
def NT:D->D->Res D:=intD LC λ i j=> .int (i^j.toNat)
def K5:D->D->Res D:=intD yes λ i j=> .int (Builtin.bitAnd i j)
def ltI:D->D->Res D:=intD yes λ i j=> .bl (decide (i<j))
def Rc:D->D->Res D:=intD yes λ i j=> .bl (decide (j<i))
noncomputable def o9:D->Res D
 | .int i=> .ok (.int (-i))
 |_=> .bad
def Hv(r:D->Res D)(f:Sg->Res D):Sg->Res D:=λ Γ=>(f Γ).bnd r
def pC(r:List D->Res D)(fa:Sg->Res (List D)):Sg->Res D:=λ Γ=>(fa Γ).bnd r
noncomputable def HR:List D->Res D
 |[.int i]=> .ok (.int (if i<0 then -i else i))
 |_=> .bad
noncomputable def c6:List D->Res D
 |[.lst ds]=> .ok (.int ds.length)
 |[.tup ds]=> .ok (.int ds.length)
 |[.gt ds]=> .ok (.int ds.length)
 |[.bor _ ds]=> .ok (.int ds.length)
 |[.str x]=>if x.length<=sizeLine then .ok (.int x.length) else .bad
 |_=> .bad
mutual
noncomputable def py:D->PyData
 | .eU=> .none
 | .bl b=> .bool b
 | .int i=> .int i
 | .str x=> .str x
 | .tup ds=> .tuple (sQ ds)
 | .gt ds=> .tuple (sQ ds)
 | .lst ds=> .list (sQ ds)
 | .bor _ ds=> .list (sQ ds)
 | .obj _ _ _=> .none
 | .exc _=> .none
 | .lS _ _=> .none
 | .mj _ _ _=> .none
 | .rz _ _ _ _=> .none
noncomputable def sQ:List D->List PyData
 |[]=>[]
 |d::ds=>py d::sQ ds
end
noncomputable def cQ:Nat->D->Bool
 |_,.eU=>true
 |_,.bl _=>true
 |_,.int _=>true
 |_,.str x=>PyData.strOk x
 |n+1,.tup ds=>ds.all (cQ n)
 |n+1,.gt ds=>ds.all (cQ n)
 |n+1,.lst ds=>ds.all (cQ n)
 |n+1,.bor _ ds=>ds.all (cQ n)
 |_,_=>false
def IB(x y:D):Bool:=(py x).eqv (py y)
def tM(x y:D):Res D:=if cQ 12 x=true/\cQ 12 y=true then .ok (.bl (IB x y)) else .bad
def qB(x y:D):Res D:=if cQ 12 x=true/\cQ 12 y=true then .ok (.bl (!IB x y)) else .bad
def vo(i j:Int):(i==j)=decide (i=j):=by
 by_cases h:i=j
 ·subst h;simp
 ·simp[h]
@[simp] theorem VW(i j:Int):tM (.int i) (.int j)= .ok (.bl (decide (i=j))):=by simp[tM,cQ,IB,py,PyData.eqv,vo]
@[simp] theorem VH(i j:Int):qB (.int i) (.int j)= .ok (.bl (!decide (i=j))):=by simp[qB,cQ,IB,py,PyData.eqv,vo]
def bD:D->D->Res D
 | .lst ds,.int i=>match tV ds i with
  |some d=> .ok d
  |none=> .bad
 | .bor _ ds,.int i=>match tV ds i with
  |some d=> .ok d
  |none=> .bad
 | .tup ds,.int i=>match tV ds i with
  |some d=> .ok d
  |none=> .bad
 | .gt ds,.int i=>match tV ds i with
  |some d=> .ok d
  |none=> .bad
 | .str x,.int i=>if x.length<=sizeLine then (match tV x.cps.toList i with
  |some c=> .ok (.str ⟨#[c]⟩)
  |none=> .bad) else .bad
 |_,_=> .bad
def eE:D->D->Res D
 | .int i,.int j=> .ok (.int (i+j))
 | .str x,.str y=>if x.length+y.length<=sizeLine then .ok (.str (x++y)) else .bad
 |_,_=> .bad
noncomputable def rC:D->Option (List D)
 | .lst xs=>some xs
 | .bor _ xs=>some xs
 |_=>none
@[simp] theorem V9(xs:List D):rC (.lst xs)=some xs:=(rfl)
def HD(x y:D):Res (List D):=match rC x,rC y with
 |some xs,some ys=>if xs.length+ys.length<=sizeLine then .ok (xs++ys) else .bad
 |_,_=> .bad
def LR(r:D->D->Res (List D))(f g:Sg->Res D):Sg->Res (List D):=λ Γ=>(f Γ).bnd λ x=>(g Γ).bnd λ y=>r x y
def KS{α:Type}(xs:List α)(lo hi:Option Int):List α:=(xs.drop (rT xs.length 0 lo)).take (rT xs.length xs.length hi- rT xs.length 0 lo)
def Hw:Sg->Res (Option Int):=λ _=> .ok none
def dP(f:Sg->Res D):Sg->Res (Option Int):=λ Γ=>(f Γ).bnd λ d=>match d with
 | .int i=> .ok (some i)
 |_=> .bad
def GU(f:Sg->Res D)(l u:Sg->Res (Option Int)):Sg->Res (List D):=λ Γ=>(f Γ).bnd λ d=>(l Γ).bnd λ lo=>(u Γ).bnd λ hi=>match rC d with
 |some xs=> .ok (KS xs lo hi)
 |none=> .bad
noncomputable def gq:M->List Nat->Option M
 |m,[]=>some m
 | .n ms,k::ks=>(ms[k]?).bind λ m=>gq m ks
 | .t ms,k::ks=>(ms[k]?).bind λ m=>gq m ks
 | .q _ ms,k::ks=>(ms[k]?).bind λ m=>gq m ks
 |_,_::_=>none
noncomputable def eT:M->List Nat->M->M
 |_,[],m'=>m'
 | .n ms,k::ks,m'=> .n (match ms[k]? with
  |some m=>ms.set k (eT m ks m')
  |none=>ms)
 | .t ms,k::ks,m'=> .t (match ms[k]? with
  |some m=>ms.set k (eT m ks m')
  |none=>ms)
 | .q kq ms,k::ks,m'=> .q kq (match ms[k]? with
  |some m=>ms.set k (eT m ks m')
  |none=>ms)
 |m,_::_,_=>m
noncomputable def yN:M->Option Nat
 | .n ms=>some ms.length
 | .t ms=>some ms.length
 |_=>none
noncomputable def xF:Slot->Option M
 | .own m=>some m
 | .par m=>some m
 |_=>none
def gK(i:Nat):Sg->Res (List Nat):=λ Γ=>match (Γ[i]?).bind xF with
 |some _=> .ok []
 |none=> .bad
def QW(i:Nat)(g:Sg->Res (List Nat))(f:Sg->Res D):Sg->Res (List Nat):=λ Γ=>(g Γ).bnd λ ks=>(f Γ).bnd λ d=>match d,(((Γ[i]?).bind xF).bind λ m=>(gq m ks).bind yN) with
 | .int z,some n=>(match mU n z with
  |some k=> .ok (ks++[k])
  |none=> .bad)
 |_,_=> .bad
def DB:Slot->M->Slot
 | .own _,m=> .own m
 | .par _,m=> .par m
 |s,_=>s
def pT(i:Nat)(ks:List Nat)(f:M->Option M)(Γ:Sg):Option Sg:=(Γ[i]?).bind λ s=>(xF s).bind λ m=>(gq m ks).bind λ m'=>(f m').map λ eK=>Γ.set i (DB s (eT m ks eK))
def JV:Option Sg->Out
 |some Γ=> .nx Γ
 |none=> .bad
def sC(d:D):M->Option M
 | .l xs=>if xs.length<1000000/\nt d=true then some (.l (xs++[d])) else none
 | .n ms=>if ms.length<1000000/\nt d=true then some (.n (ms++[.d d])) else none
 |_=>none
def setM(z:Int)(d:D):M->Option M
 | .l xs=>if nt d=true then (mU xs.length z).map λ j=> .l (xs.set j d) else none
 | .n ms=>if nt d=true then (mU ms.length z).map λ j=> .n (ms.set j (.d d)) else none
 |_=>none
noncomputable def yR:Option M->Bool
 |some (.l _)=>true
 |some (.n _)=>true
 |_=>false
def kT(i:Nat)(ks:List Nat)(Γ:Sg):Option M:=((Γ[i]?).bind xF).bind λ m=>gq m ks
def mC(i:Nat)(g:Sg->Res (List Nat))(f:Sg->Res D):Sg->Out:=λ Γ=>oE (g Γ) Γ λ ks=>if yR (kT i ks Γ)=true then oE (f Γ) Γ λ d=>JV (pT i ks (sC d) Γ) else .bad
def g6(i:Nat)(g:Sg->Res (List Nat))(fk f:Sg->Res D):Sg->Out:=λ Γ=>oE (f Γ) Γ λ d=>oE (g Γ) Γ λ ks=>oE (fk Γ) Γ λ z=>match z with
 | .int z=>JV (pT i ks (setM z d) Γ)
 |_=> .bad
def iF(fi:Sg->Res (List D))(t:Tg)(B:Sg->Out):Sg->Out:=λ Γ=>oE (fi Γ) Γ λ xs=>cS t B xs Γ
def gX(r:Sg->Res (List D)):Sg->Res (List D):=λ Γ=>(r Γ).bnd uD
def yV(r:Sg->Res (List D)):Sg->Res (List D):=λ Γ=>(r Γ).bnd uC
def jm(tm:Bool):Slot->Slot
 | .val d=> .val d
 | .own m=>if tm=true then .val (lend m) else .no
 | .par m=>if tm=true then .val (lend m) else .no
 | .no=> .no
def gO(tm:Bool)(k:Nat)(caps:List Nat)(Γ:Sg):Sg:=List.replicate k .no++caps.map λ i=>jm tm ((Γ[i]?).getD .no)
def CD{tm:Bool}{sl:Slot}(h:(gO tm k caps Γ)[i]? =some sl):sl= .no\/∃c sc,caps[i- k]? =some c/\k<=i/\Γ[c]? =some sc/\sl=jm tm sc:=by
 unfold gO at h;by_cases hi:i<k
 ·rw[List.getElem?_append_left (by simpa using hi),List.getElem?_replicate,if_pos hi] at h;cases h;exact .inl rfl
 ·rw[List.getElem?_append_right (by simpa using hi),List.length_replicate,List.getElem?_map] at h;cases q:caps[i- k]? with
  |none=>rw[q] at h;cases h
  |some c=>
   rw[q] at h;simp only[Option.map_some,Option.some.injEq] at h;subst h;cases q2:Γ[c]? with
   |none=>exact .inl rfl
   |some sl=>exact .inr (bg c sl rfl (Nat.le_of_not_lt hi) q2 rfl)
def jJ(t:Tg)(p:Sg->Res Bool)(fe:Sg->Res D)(Γ0:Sg)(x:D):Res (Option D):=match t x Γ0 with
 |none=> .bad
 |some Γ1=>match p Γ1 with
  | .ok true=>(match fe Γ1 with
   | .ok d=> .ok (some d)
   |_=> .bad)
  | .ok false=> .ok none
  |_=> .bad
def bW(e:D->Res (Option D)):List D->Res (List D)
 |[]=> .ok []
 |x::xs=>(e x).bnd λ o=>(bW e xs).bnd λ r=> .ok (match o with
  |some d=>d::r
  |none=>r)
def dW(tm:Bool)(fi:Sg->Res (List D))(k:Nat)(caps:List Nat)(t:Tg)(p:Sg->Res Bool)(fe:Sg->Res D):Sg->Res (List D):=λ Γ=>(fi Γ).bnd λ xs=>if xs.length<1000000 then bW (jJ t p fe (gO tm k caps Γ)) xs else .bad
def EA(t:Tg)(p:Sg->Res Bool)(fe:Sg->Res M)(Γ0:Sg)(x:D):Res (Option M):=match t x Γ0 with
 |none=> .bad
 |some Γ1=>match p Γ1 with
  | .ok true=>(match fe Γ1 with
   | .ok d=> .ok (some d)
   |_=> .bad)
  | .ok false=> .ok none
  |_=> .bad
def fT(e:D->Res (Option M)):List D->Res (List M)
 |[]=> .ok []
 |x::xs=>(e x).bnd λ o=>(fT e xs).bnd λ r=> .ok (match o with
  |some d=>d::r
  |none=>r)
def jj(tm:Bool)(fi:Sg->Res (List D))(k:Nat)(caps:List Nat)(t:Tg)(p:Sg->Res Bool)(fe:Sg->Res M):Sg->Res (List M):=λ Γ=>(fi Γ).bnd λ xs=>if xs.length<1000000 then fT (EA t p fe (gO tm k caps Γ)) xs else .bad
def mN(f:Sg->Res (List M)):Sg->Res M:=λ Γ=>(f Γ).bnd λ ms=> .ok (.n ms)
def PB:EA t p fe Γ0 x≠.err c:=by
 unfold EA;split
 ·exact λ z=>nomatch z
 ·split
  ·split<;>exact λ z=>nomatch z
  ·exact λ z=>nomatch z
  ·exact λ z=>nomatch z
def HA{e:D->Res (Option M)}(he:∀x c,e x≠.err c):∀xs c,fT e xs≠.err c:=by
 intro v_;induction v_ with
 |nil=>
  rintro c
  exact λ z=>nomatch z
 |cons x xs j4=>
  rintro c
  simp only[fT];cases q:e x with
  |ok o=>
   cases q2:fT e xs with
   |ok r=>exact λ z=>nomatch z
   |err c'=>exact absurd q2 (j4 c')
   |bad=>exact λ z=>nomatch z
  |err c'=>exact absurd q (he x c')
  |bad=>exact λ z=>nomatch z
def AX{e:D->Res (Option M)}{r:List M}(h:fT e (x::xs)= .ok r):∃o r',e x= .ok o/\fT e xs= .ok r'/\r=(match o with|some d=>d::r'|none=>r'):=by
 simp only[fT] at h;cases q:e x with
 |ok o=>
  cases q2:fT e xs with
  |ok r'=>rw[q,q2] at h;cases h;exact ao o r' rfl rfl rfl
  |err c'=>rw[q,q2] at h;cases h
  |bad=>rw[q,q2] at h;cases h
 |err c'=>rw[q] at h;cases h
 |bad=>rw[q] at h;cases h
def KP:EA t p (mD fe) Γ0 x=(jJ t p fe Γ0 x).bnd λ o=> .ok (o.map M.d):=by
 unfold EA jJ mD;cases t x Γ0 with
 |none=>rfl
 |some Γ1=>
  dsimp only;cases p Γ1 with
  |ok b=>
   cases b with
   |false=>rfl
   |true=>dsimp only;cases fe Γ1<;>rfl
  |err c=>rfl
  |bad=>rfl
def zx:∀(xs:List D),fT (EA t p (mD fe) Γ0) xs=(bW (jJ t p fe Γ0) xs).bnd λ ds=> .ok (ds.map M.d):=by
 intro v_;induction v_ with
 |nil=>exact rfl
 |cons x xs j4=>
  simp only[fT,bW,j4,KP];cases jJ t p fe Γ0 x with
  |ok o=>
   simp only[Res.iu];cases bW (jJ t p fe Γ0) xs with
   |ok r=>cases o<;>rfl
   |err c=>rfl
   |bad=>rfl
  |err c=>rfl
  |bad=>rfl
def gh:Sg->Res Bool:=λ _=> .ok true
def Tj(Γ:Sg):Prop:=∀(i:Nat) (m:M),Γ[i]?≠some (.own m)/\Γ[i]?≠some (.par m)
def uv(c:String)(fa:Sg->Res (List D)):Sg->Out:=λ Γ=>oE (fa Γ) Γ λ ds=>if ds.length<=1000 then .err c Γ else .bad
def tryD(hit:String->Option Bool)(F:Sg->Out)(G:String->Sg->Out):Sg->Out:=λ Γ=>match F Γ with
 | .err c Γ1=>(match hit c with
  |some true=>G c Γ1
  |_=> .bad)
 |o=>o
noncomputable def JT(i:Nat):Out->Out
 | .nx Γ=> .nx (Γ.set i .no)
 | .bk Γ=> .bk (Γ.set i .no)
 | .ct Γ=> .ct (Γ.set i .no)
 | .err _ _=> .bad
 |o=>o
def tG(mt:List (String×List String))(T:String):String->Option Bool:=λ c=>(mt.lookup c).map (·.contains T)
def uu(i:Nat)(hit:String->Option Bool)(F G:Sg->Out):Sg->Out:=tryD hit F λ c Γ1=>JT i (G (Γ1.set i (.val (.exc c))))
def kinds(mt:List (String×List String)):D->Option (List String)
 | .eU=>some ["NoneType"]
 | .bl _=>some ["bool","int"]
 | .int _=>some ["int"]
 | .str _=>some ["str"]
 | .tup _=>some ["tuple"]
 | .gt _=>some ["tuple"]
 | .lst _=>some ["list"]
 | .bor _ _=>some ["list"]
 | .obj c _ _=>mt.lookup c
 | .exc c=>mt.lookup c
 | .lS _ _=>some ["dict"]
 | .mj _ _ _=>some ["dict"]
 | .rz _ _ _ _=>none
def pA(mt:List (String×List String))(cs:List String)(d:D):Res D:=match kinds mt d with
 |some ks=> .ok (.bl (cs.any λ c=>ks.contains c))
 |none=> .bad
def AV(mt:List (String×List String))(cs:List String)(f:Sg->Res D):Sg->Res D:=λ Γ=>(f Γ).bnd (pA mt cs)
def bools:List D->Option (List Bool)
 |[]=>some []
 | .bl b::r=>(bools r).map (b:: ·)
 |_::_=>none
def ab4:List D->Res D
 |[x]=>match rC x with
  |some ds=>(match bools ds with
   |some bs=> .ok (.bl (bs.all id))
   |none=> .bad)
  |none=> .bad
 |_=> .bad
noncomputable def Zt(c:String)(ns:List Str):dh->Res D
 | .QX .eU [(0,.o c' ns' xs)]=>if c'=c/\ns'=ns then .ok (.obj c ns xs) else .bad
 | .err x=> .err x
 |_=> .bad
noncomputable def gF:D->Bool
 | .eU=>true
 | .bl _=>true
 | .int _=>true
 | .str _=>true
 |_=>false
noncomputable def Yp:D->D->Bool
 | .eU,.eU=>true
 | .bl a,.bl b=>a==b
 | .bl a,.int b=>(if a then 1 else 0)==b
 | .int a,.bl b=>a==(if b then 1 else 0)
 | .int a,.int b=>a==b
 | .str a,.str b=>a==b
 |_,_=>false
def Iv(x:D)(xs:List D):Bool:=xs.any λ y=>Yp y x
noncomputable def pW:D->Option (List D)
 | .lst xs=>some xs
 | .bor _ xs=>some xs
 | .tup xs=>some xs
 | .gt xs=>some xs
 |_=>none
def inD(x y:D):Res D:=match pW y with
 |some xs=>if gF x=true/\xs.all gF=true then .ok (.bl (Iv x xs)) else .bad
 |none=> .bad
def lK(x y:D):Res D:=match pW y with
 |some xs=>if gF x=true/\xs.all gF=true then .ok (.bl (!Iv x xs)) else .bad
 |none=> .bad
noncomputable def Zu:D->D->Option Bool
 | .tup (.int i::_),.tup (.int j::_)=>if i=j then none else some (decide (i<j))
 |_,_=>none
def Nr:List D->Res (List D)
 |[x]=>match rC x with
  |some []=> .ok []
  |some [a]=> .ok [a]
  |some [a,b]=>(match Zu b a with
   |some true=> .ok [b,a]
   |some false=> .ok [a,b]
   |none=> .bad)
  |_=> .bad
 |_=> .bad
noncomputable def yJ:List D->Res D
 |[.int i,.int j]=> .ok (.int (if j<i then j else i))
 |_=> .bad
def yL:List D->Res (List D)
 |[x]=>match pW x with
  |some xs=> .ok xs
  |none=> .bad
 |_=> .bad
def VR(r:List D->Res (List D))(fa:Sg->Res (List D)):Sg->Res (List D):=λ Γ=>(fa Γ).bnd r
noncomputable def AG:D->Option (Sum Int Str)
 | .int i=>some (.inl i)
 | .str x=>some (.inr x)
 |_=>none
def VY:D->Option (List (Sum Int Str)×List D)
 | .lS (.s ks) xs=>some (ks,xs)
 | .mj _ (.s ks) xs=>some (ks,xs)
 |_=>none
noncomputable def yZ(ks:List (Sum Int Str))(xs:List D)(k:Sum Int Str):Option D:=((ks.zip xs).find? λ kv=>decide (kv.1=k)).map (·.2)
def getD(o y:D):Res D:=match VY o with
 |some (ks,xs)=>(match AG y with
  |some k=>(match yZ ks xs k with
   |some d=> .ok d
   |none=> .bad)
  |none=> .bad)
 |none=>bD o y
noncomputable def yd(ks:List (Sum Int Str))(k:Sum Int Str):List (Sum Int Str):=if (ks.any λ n=>decide (n=k))=true then ks else ks++[k]
noncomputable def Bu(ks:List (Sum Int Str))(xs:List D)(k:Sum Int Str)(d:D):List D:=if (ks.any λ n=>decide (n=k))=true then (ks.zip xs).map (λ kv=>if kv.1=k then d else kv.2) else xs++[d]
def mJ(k:Sum Int Str)(d:D):M->Option M
 | .k (.s ks) xs=>if nt d=true/\ks.length<1000000 then some (.k (.s (yd ks k)) (Bu ks xs k d)) else none
 |_=>none
def Fe(i:Nat)(g:Sg->Res (List Nat))(fk f:Sg->Res D):Sg->Out:=λ Γ=>oE (f Γ) Γ λ d=>oE (g Γ) Γ λ ks=>oE (fk Γ) Γ λ z=>match AG z with
 |some k=>JV (pT i ks (mJ k d) Γ)
 |none=> .bad
def Gg(o:Out)(G:Sg->Out):Out:=match o with
 | .nx Γ'=>G Γ'
 |o=>o
def Ov(i:Nat)(h:String->Option Bool)(o:Out)(G:Sg->Out):Out:=match o with
 | .err c Γ1=>(match h c with
  |some true=>JT i (G (Γ1.set i (.val (.exc c))))
  |_=> .bad)
 |o=>o
def Ox(r:Res Bool)(F G:Sg->Out)(Γ:Sg):Out:=oE r Γ λ c=>if c=true then F Γ else G Γ
def Xc(r:Res Bool)(q:Sg->Res Bool)(Γ:Sg):Res Bool:=r.bnd λ c=>if c=true then .ok true else q Γ
def M7(r:Res Bool)(q:Sg->Res D)(Γ:Sg):Res D:=r.bnd λ c=>if c=true then q Γ else .ok (.bl false)
section
variable(Γ:Sg)(f g:Sg->Res D)(p q:Sg->Res Bool)(F G:Sg->Out)(fa:Sg->Res (List D))
@[simp] theorem Sf:aY F G Γ=Gg (F Γ) G:=(rfl)
@[simp] theorem Vz:Gg (.nx Γ) G=G Γ:=(rfl)
@[simp] theorem Vy(d:D):Gg (.rt d) G= .rt d:=(rfl)
@[simp] theorem SY(d:M):Gg (.xG d) G= .xG d:=(rfl)
@[simp] theorem S9(c:String):Gg (.err c Γ) G= .err c Γ:=(rfl)
@[simp] theorem QS:fC Γ= .nx Γ:=(rfl)
@[simp] theorem Vs:yk p F G Γ=Ox (p Γ) F G Γ:=(rfl)
@[simp] theorem VA:Ox (.ok true) F G Γ=F Γ:=(rfl)
@[simp] theorem VB:Ox (.ok false) F G Γ=G Γ:=(rfl)
@[simp] theorem W9:Xc (.ok true) q Γ= .ok true:=(rfl)
@[simp] theorem Xa:Xc (.ok false) q Γ=q Γ:=(rfl)
@[simp] theorem Vk:M7 (.ok true) f Γ=f Γ:=(rfl)
@[simp] theorem Sh:gw f Γ=oE (f Γ) Γ λ d=> .rt d:=(rfl)
@[simp] theorem QO(fm:Sg->Res M):p6 fm Γ=oE (fm Γ) Γ λ m=>if ku m=true then .xG m else .bad:=(rfl)
@[simp] theorem QU:Fg f Γ=oE (f Γ) Γ λ _=> .nx Γ:=(rfl)
@[simp] theorem Se(i:Nat):bI i f Γ=oE (f Γ) Γ λ d=> .nx (Γ.set i (.val d)):=(rfl)
@[simp] theorem QN(i:Nat)(fm:Sg->Res M):kL i fm Γ=oE (fm Γ) Γ λ m=>if ku m=true then .nx (Γ.set i (.own m)) else .bad:=(rfl)
@[simp] theorem XD:mL fa Γ=(fa Γ).bnd λ ds=> .ok (.l ds):=(rfl)
@[simp] theorem Rj(i:Nat):tP i Γ=match Γ[i]? with
 |some (.val d)=> .ok d
 |some (.own m)=> .ok (lend m)
 |some (.par m)=> .ok (lend m)
 |_=> .bad:=(rfl)
@[simp] theorem VP(r:List D->Res (List D)):VR r fa Γ=(fa Γ).bnd r:=(rfl)
@[simp] theorem Si(i k:Nat):Ny i k fa Γ=oE (fa Γ) Γ λ ds=>match ds with
 |[x,y]=> .nx ((Γ.set i (.val x)).set k (.val y))
 |_=> .bad:=(rfl)
@[simp] theorem Nx(c:String):uv c fa Γ=oE (fa Γ) Γ λ ds=>if ds.length<=1000 then .err c Γ else .bad:=(rfl)
@[simp] theorem Nv(i:Nat)(h:String->Option Bool):uu i h F G Γ=Ov i h (F Γ) G:=(rfl)
def Gf(i:Nat)(h:String->Option Bool)(c:String)(e:h c=some true):Ov i h (.err c Γ) G=JT i (G (Γ.set i (.val (.exc c)))):=by simp only[Ov,e]
@[simp] theorem Vw(i:Nat):JT i (.nx Γ)= .nx (Γ.set i .no):=(rfl)
@[simp] theorem Uv(i:Nat):aj i Γ=match Γ[i]? with
 |some (.val d)=> .ok d
 |_=> .bad:=(rfl)
@[simp] theorem Yv(d:D):dC d Γ= .ok d:=(rfl)
@[simp] theorem V0(r:D->D->Res D):aO r f g Γ=(f Γ).bnd λ x=>(g Γ).bnd λ y=>r x y:=(rfl)
@[simp] theorem VO(r:D->D->Res (List D)):LR r f g Γ=(f Γ).bnd λ x=>(g Γ).bnd λ y=>r x y:=(rfl)
@[simp] theorem Yt:dT f Γ=(f Γ).bnd Nc:=(rfl)
@[simp] theorem WC(b:Bool):Nc (.bl b)= .ok b:=(rfl)
@[simp] theorem V7:Ro p q Γ=Xc (p Γ) q Γ:=(rfl)
@[simp] theorem UK:HJ p Γ=(p Γ).bnd λ c=> .ok (!c):=(rfl)
@[simp] theorem UE:Eg f g Γ=M7 ((f Γ).bnd Nc) g Γ:=by cases h:f Γ<;>simp only[Eg,M7,h,Res.iu,Res.vm,Res.vn]
@[simp] theorem Ux:PJ f Γ=(f Γ).bnd λ x=>(Nc x).bnd λ c=> .ok (.bl (!c)):=(rfl)
@[simp] theorem Uz:aL Γ= .ok []:=(rfl)
@[simp] theorem Rk:ay f fa Γ=(f Γ).bnd λ x=>(fa Γ).bnd λ xs=> .ok (x::xs):=(rfl)
@[simp] theorem Uw:su fa Γ=(fa Γ).bnd λ xs=>if xs.length<=1000 then .ok (.tup xs) else .bad:=(rfl)
@[simp] theorem UA:kC fa Γ=(fa Γ).bnd λ xs=>if xs.length<=1000 then .ok xs else .bad:=(rfl)
@[simp] theorem V3:kX fa Γ=(fa Γ).bnd λ ds=> .ok (.lst ds):=(rfl)
@[simp] theorem VZ(r:D->Res D):Hv r f Γ=(f Γ).bnd r:=(rfl)
@[simp] theorem Tn(i:Int):o9 (.int i)= .ok (.int (-i)):=(rfl)
@[simp] theorem V4(r:List D->Res D):pC r fa Γ=(fa Γ).bnd r:=(rfl)
@[simp] theorem Rm(n:Nat)(K:List Slot->dh):bh n K fa Γ=(fa Γ).bnd λ ds=>if ds.length=n then kE (K (ds.map Slot.val)) else .bad:=(rfl)
@[simp] theorem PN(n:Nat)(K:List Slot->dh):qW n K fa Γ=(fa Γ).bnd λ ds=>if ds.length=n/\gm ds=true then kE (K (ds.map Slot.val)) else .bad:=(rfl)
@[simp] theorem PK(n:Nat)(K:List Slot->dh):qV n K fa Γ=(fa Γ).bnd λ ds=>if ds.length=n then kE (LN (K ((sj ds).map Slot.val))) else .bad:=(rfl)
@[simp] theorem OH(n:Nat)(K:List Slot->dh):nV n K fa Γ=(fa Γ).bnd λ ds=>if ds.length=n/\gm ds=true then jD (K (ds.map Slot.val)) else .bad:=(rfl)
@[simp] theorem UB(mt:List (String×List String))(cs:List String):AV mt cs f Γ=(f Γ).bnd (pA mt cs):=(rfl)
@[simp] theorem Uy:Hw Γ= .ok none:=(rfl)
@[simp] theorem Yu:dP f Γ=(f Γ).bnd λ d=>match d with
 | .int i=> .ok (some i)
 |_=> .bad:=(rfl)
@[simp] theorem UJ:gh Γ= .ok true:=(rfl)
@[simp] theorem Nf(i:Nat)(d:D):aG i d Γ=some (Γ.set i (.val d)):=(rfl)
@[simp] theorem QI:eN [] Γ=some Γ:=(rfl)
@[simp] theorem Ng(t:Tg)(u:Ie)(d:D)(r:List D):aZ t u (d::r) Γ=(t d Γ).bind λ Γ'=>u r Γ':=(rfl)
@[simp] theorem QH(n:Nat)(t:Ie)(ds:List D):dU n t (.tup ds) Γ=if ds.length=n then t ds Γ else none:=(rfl)
end
@[simp] theorem V5(d:D):kE (.ok d)= .ok d:=(rfl)
@[simp] theorem UC(m:M):kE (.new m)=uX m:=(rfl)
@[simp] theorem UD(c:String):kE (.err c)= .err c:=(rfl)
@[simp] theorem Zq(xs:List D):ku (.l xs)=gm xs:=by simp[ku]
@[simp] theorem Xp(i:Int):nt (.int i)=true:=by simp[nt]
@[simp] theorem Xo(xs:List D):nt (.lst xs)=gm xs:=by simp[nt]
@[simp] theorem VC:gm []=true:=by simp[gm]
@[simp] theorem Te(d:D)(ds:List D):gm (d::ds)=(nt d&&gm ds):=by simp[gm]
@[simp] theorem OL(m:M)(ms:List M):iJ (m::ms)=lend m::iJ ms:=by simp[iJ]
@[simp] theorem SX(Γ:Sg):JV (some Γ)= .nx Γ:=(rfl)
@[simp] theorem YA(d:D):jN (.rt d)= .ok d:=(rfl)
@[simp] theorem Wb(m:M):jN (.xG m)= .new m:=(rfl)
@[simp] theorem Wc(c:String)(Γ:Sg):jN (.err c Γ)= .err c:=(rfl)
@[simp] theorem R8(i j:Int):ko (.int i) (.int j)= .ok (.int (i- j)):=(rfl)
@[simp] theorem VN(i j:Int):ltI (.int i) (.int j)= .ok (.bl (decide (i<j))):=(rfl)
def mS(i j:Int)(h:mR i j=true):dR (.int i) (.int j)= .ok (.int (i*j)):=by simp[dR,h]
def tL(i j:Int)(h:qT i j=true):cg (.int i) (.int j)= .ok (.int (i.fdiv j)):=by simp[cg,h]
def cJ(i j:Int)(h:j≠0):fF (.int i) (.int j)= .ok (.int (i.fmod j)):=by simp[fF,h]
@[simp] theorem Tq(a b c d:Int):qB (.tup [.int a,.int b]) (.tup [.int c,.int d])= .ok (.bl (!(decide (a=c)&&decide (b=d)))):=by simp[qB,cQ,IB,py,sQ,PyData.eqv,PyData.eqvAll,vo]
def bits_le(h:i.natAbs<2^n):Builtin.Int.intBits i<=n:=by
 unfold Builtin.Int.intBits;split
 ·exact Nat.zero_le _
 ·rename_i hz;have:i.natAbs≠0:=by simpa using hz
  exact Nat.succ_le_of_lt ((Nat.log2_lt this).mpr h)
def qE(hi:i.natAbs<2^a)(hj:j.natAbs<2^b)(ha:a<=2^20)(hb:b<=2^20):mR i j=true:=by have h1:=Nat.le_trans (bits_le hi) ha;have h2:=Nat.le_trans (bits_le hj) hb;simp only[mR,Bool.or_eq_true,Bool.and_eq_true,decide_eq_true_eq];exact .inr ⟨h1,h2⟩
def zo(h0:j≠0)(h:j.natAbs<2^9000):qT i j=true:=by
 have:j.natAbs≠0:=by simpa using h0
 simp only[qT,Bool.and_eq_true,decide_eq_true_eq];exact ⟨h0,(Nat.log2_lt this).mpr h⟩
section
variable(f:Sg->Res D)(r:Sg->Res (List D))(t:Tg)(B:Sg->Out)(Γ:Sg)(xs:List D)
end
@[simp] theorem Ue(t:Tg)(B:Sg->Out)(Γ:Sg):cS t B [] Γ= .nx Γ:=(rfl)
def eo(n:Nat)(h:n<2^62):uD [.int n]= .ok (gE 0 n):=by unfold uD;simp only;rw[if_pos ⟨by omega,by omega⟩];simp
section
variable(Γ:Sg)(f g h:Sg->Res D)(fa:Sg->Res (List D))(t:Tg)(B:Sg->Out)
def Gh(r:Res (List D))(t:Tg)(B:Sg->Out)(Γ:Sg):Out:=oE r Γ λ xs=>cS t B xs Γ
@[simp] theorem QT:iF fa t B Γ=Gh (fa Γ) t B Γ:=(rfl)
@[simp] theorem Tc(xs:List D):Gh (.ok xs) t B Γ=cS t B xs Γ:=(rfl)
@[simp] theorem QY(c:String):Gh (.err c) t B Γ= .err c Γ:=(rfl)
@[simp] theorem Q7:gX fa Γ=(fa Γ).bnd uD:=(rfl)
@[simp] theorem Q6:yV fa Γ=(fa Γ).bnd uC:=(rfl)
@[simp] theorem Ly(i:Nat)(p:Sg->Res (List Nat)):mC i p f Γ=oE (p Γ) Γ λ ks=>if yR (kT i ks Γ)=true then oE (f Γ) Γ λ d=>JV (pT i ks (sC d) Γ) else .bad:=(rfl)
@[simp] theorem Q2(tm:Bool)(k:Nat)(caps:List Nat)(p:Sg->Res Bool):dW tm fa k caps t p f Γ=(fa Γ).bnd λ xs=>if xs.length<1000000 then bW (jJ t p f (gO tm k caps Γ)) xs else .bad:=(rfl)
end
noncomputable def xJ(b:Int)(g:Nat):Int:=if b<0 then -(g:Int) else (g:Int)
def xH(t b:Int):Int:=t.fdiv (xJ b (Int.gcd t b))
def xK(t b:Int):Int:=b.fdiv (xJ b (Int.gcd t b))
def KH(h:b≠0):0<Int.gcd t b:=Int.gcd_pos_of_ne_zero_right t h
def Pf(h:b≠0):xJ b (Int.gcd t b)≠0:=by have:=KH (t:=t) h;unfold xJ;split<;>omega
def Ea(h:b≠0)(hb:b.natAbs<2^n):(xJ b (Int.gcd t b)).natAbs<2^n:=by
 have e:(xJ b (Int.gcd t b)).natAbs=Int.gcd t b:=by unfold xJ;split<;>simp
 rw[e];exact Nat.lt_of_le_of_lt (Nat.le_of_dvd (by omega) (Int.natAbs_dvd_natAbs.mpr (Int.gcd_dvd_right t b))) hb
def y9(l s:Nat)(h:s≠0):Nat.gcd l s=Nat.gcd s (l%s):=by rw[Nat.gcd_comm l s,Nat.gcd_rec,Nat.gcd_comm]
def zh(l s:Nat):Int.fmod (l:Int) (s:Int)=((l%s:Nat):Int):=by rw[Int.fmod_eq_emod_of_nonneg _ (by omega)];rfl
end L4
end
section
namespace L4
open PySem PySem.Spec PyProof.Rows L2
abbrev St:=L2.St
set_option genInjectivity false in
structure Cb where
 exc:String->Option Addr
 cls:String->Option (Addr×List Str)
 /-- all classes of instances -/
 ins:String->Option Addr
 /-- tables of code objects within which a ON is made -/
 xt:Hp
set_option genInjectivity false in
structure Cf where
 cb:Cb
 L:Hp
 io:Addr->Prop
 args:List V
set_option genInjectivity false in
structure Ct where
 f:Cf
 B:Hp
 tm:Bool
def Cf.z(c:Cf):Ct:=⟨c,λ _=>none,false⟩
def Cf.at'(c:Cf)(H:Hp):Ct:=⟨c,H,true⟩
noncomputable def iK(a C:Addr):Heap->Prop:=λ h=>∃o,h.get? a=some o/\o.cls= .ref C
def Qf(K:W.Frag)(H:Hp)(a:Addr)(vs:List V):Prop:=(∃o,H a=some (.jI o (.lst vs)))\/∃(o:Obj) (its:Array Value) (n:Nat),K.lookup a=some o/\o.cls= .type "list"/\o.dict=none/\o.data= .seq its n/\its.size<=sizeLine/\Vals vs its.toList
def Qf.sq{K:W.Frag}{H:Hp}{a:Addr}{vs:List V}(h:Qf K H a vs):fV K H a vs:=by
 rcases h with ⟨o,h⟩|h
 ·exact .inl (.inr ⟨o,h⟩)
 ·exact .inr h
def Ct.lo(ct:Ct)(t:Bool):Hp:=if t=true then ct.B else ct.f.L
def YD(K:W.Frag)(a:Addr)(xs:List V):Prop:=∃(o:Obj) (its:Array Value) (n:Nat),K.lookup a=some o/\o.cls= .type "tuple"/\o.data= .seq its n/\its.size<=sizeLine/\Vals xs its.toList
def YD.sq{K:W.Frag}{H:Hp}{a:Addr}{xs:List V}(h:YD K a xs):rQ K H a xs:= .inr h
def kG{K:W.Frag}{H:Hp}{a:Addr}{xs:List V}(h:H a=some (.tup xs)):rQ K H a xs:= .inl (.inl h)
def Ks.ho:Ks->List V->HO
 | .s ks,vs=> .dK (ks.zip vs)
 | .t ks,vs=> .dT (ks.zip vs)
mutual
def Tl(K:W.Frag)(ct:Ct)(H:Hp):D->V->Prop
 | .eU,v=>v= .eU
 | .bl b,v=>v= .bl b
 | .int i,v=>v= .int i
 | .str x,v=>v= .str x
 | .tup ds,v=>∃a vs,v= .ref a/\H a=some (.tup vs)/\aK K ct H ds vs
 | .gt ds,v=>∃a vs,v= .ref a/\YD K a vs/\aK K ct H ds vs
 | .lst ds,v=>∃a vs,v= .ref a/\Qf K H a vs/\aK K ct H ds vs
 | .obj c ns ds,v=>∃a C dx vs,v= .ref a/\ct.f.cb.cls c=some (C,ns)/\H a=some (.ins C dx (ns.zip vs))/\ns.length=vs.length/\aK K ct H ds vs
 | .exc c,v=>∃a C,v= .ref a/\ct.f.cb.exc c=some C/\H a=some (.ext (iK a C))
 | .bor t ds,v=>∃a vs,v= .ref a/\ct.lo t a=some (.lst vs)/\aK K ct H ds vs
 | .lS ks ds,v=>∃a vs,v= .ref a/\(∃o,H a=some (.jI o (ks.ho vs)))/\ks.len=vs.length/\aK K ct H ds vs
 | .mj t ks ds,v=>∃a vs,v= .ref a/\ct.lo t a=some (ks.ho vs)/\ks.len=vs.length/\aK K ct H ds vs
 | .rz t c ns ds,v=>∃a C dx vs,v= .ref a/\ct.f.cb.ins c=some C/\ct.lo t a=some (.ins C dx (ns.zip vs))/\ns.length=vs.length/\aK K ct H ds vs
def aK(K:W.Frag)(ct:Ct)(H:Hp):List D->List V->Prop
 |[],vs=>vs=[]
 |d::ds,vs=>∃v r,vs=v::r/\Tl K ct H d v/\aK K ct H ds r
end
def P7(cb:Cb):HO->Prop
 | .tup _=>True
 | .jI _ _=>True
 | .ins C _ fs=>∃c ns,cb.cls c=some (C,ns)/\fs.map (·.1)=ns
 | .ext _=>True
 |_=>False
def aV(cb:Cb)(H H':Hp):Prop:=∀b o,H b=some o->P7 cb o->H' b=some o
def az.keep(e:az H H'):aV cb H H':=λ b o h _=>e b o h
def aV.refl(H:Hp):aV cb H H:=λ _ _ h _=>h
def aV.trans(a:aV cb H H1)(b:aV cb H1 H2):aV cb H H2:=λ c o h s=>b c o (a c o h s) s
theorem aV.lst(h:H a=some (.lst vs)):aV cb H (upd H a o):=λ b u hb st=>by
 have:b≠a:=by rintro rfl;rw[h] at hb;cases hb;exact st
 rw[aB this];exact hb
theorem aV.dK(h:H a=some (.dK kvs)):aV cb H (upd H a o):=λ b u hb st=>by
 have:b≠a:=by rintro rfl;rw[h] at hb;cases hb;exact st
 rw[aB this];exact hb
def Ks.mQ{cb:Cb}{ks:Ks}{vs:List V}:¬P7 cb (ks.ho vs):=by cases ks<;>exact λ q=>q
def aV.Vo{cb:Cb}{K:W.Frag}{H H':Hp}{a:Addr}{xs:List V}(e:aV cb H H')(h:rQ K H a xs):rQ K H' a xs:=by
 rcases h with (h|⟨o,h⟩)|h
 ·exact .inl (.inl (e _ _ h trivial))
 ·exact .inl (.inr ⟨o,e _ _ h trivial⟩)
 ·exact .inr h
def aV.Hg{cb:Cb}{K:W.Frag}{H H':Hp}{a:Addr}{xs:List V}(e:aV cb H H')(h:Qf K H a xs):Qf K H' a xs:=by
 rcases h with ⟨o,h⟩|h
 ·exact .inl ⟨o,e _ _ h trivial⟩
 ·exact .inr h
theorem xO:∀{ns:List α} {vs:List β},ns.length=vs.length->(ns.zip vs).map (·.1)=ns
 |[],_,_=>by simp
 |n::ns,[],h=>by simp at h
 |n::ns,v::vs,h=>by simp only[List.zip_cons_cons,List.map_cons,List.cons.injEq,true_and];exact xO (by simpa using h)
mutual
theorem Tl.keep{K:W.Frag}{ct:Ct}{H H':Hp}(e:aV ct.f.cb H H'):∀{d:D} {v:V},Tl K ct H d v->Tl K ct H' d v
 | .eU,_,h=>by simpa[Tl] using h
 | .bl b,_,h=>by simpa[Tl] using h
 | .int i,_,h=>by simpa[Tl] using h
 | .str x,_,h=>by simpa[Tl] using h
 | .tup ds,v,h=>by simp only[Tl] at h ⊢;refine ak (λ a vs h1 h2 h3=>?_) h;exact ao a vs h1 (e _ _ h2 trivial) (aK.keep e h3)
 | .gt ds,v,h=>by simp only[Tl] at h ⊢;refine ak (λ a vs h1 h2 h3=>?_) h;exact ao a vs h1 h2 (aK.keep e h3)
 | .lst ds,v,h=>by simp only[Tl] at h ⊢;refine ak (λ a vs h1 h2 h3=>?_) h;exact ao a vs h1 (e.Hg h2) (aK.keep e h3)
 | .obj c ns ds,v,h=>by simp only[Tl] at h ⊢;refine cA (λ a C dx vs h1 h2 h3 h4 h5=>?_) h;exact bT a C dx vs h1 h2 (e _ _ h3 (aM c ns h2 (xO h4))) h4 (aK.keep e h5)
 | .exc c,v,h=>by simp only[Tl] at h ⊢;refine ak (λ a C h1 h2 h3=>?_) h;exact ao a C h1 h2 (e _ _ h3 trivial)
 | .bor t ds,v,h=>by simp only[Tl] at h ⊢;refine ak (λ a vs h1 h2 h3=>?_) h;exact ao a vs h1 h2 (aK.keep e h3)
 | .lS ks ds,v,h=>by
  simp only[Tl] at h ⊢
  revert h;refine aN λ a vs h1 z h3 h4=>?_;obtain ⟨o,h2⟩:=z
  exact bg a vs h1 ⟨o,e _ _ h2 trivial⟩ h3 (aK.keep e h4)
 | .mj t ks ds,v,h=>by simp only[Tl] at h ⊢;refine aN (λ a vs h1 h2 h3 h4=>?_) h;exact bg a vs h1 h2 h3 (aK.keep e h4)
 | .rz t c ns ds,v,h=>by simp only[Tl] at h ⊢;refine cA (λ a C dx vs h1 h2 h3 h4 h5=>?_) h;exact bT a C dx vs h1 h2 h3 h4 (aK.keep e h5)
theorem aK.keep{K:W.Frag}{ct:Ct}{H H':Hp}(e:aV ct.f.cb H H'):∀{ds:List D} {vs:List V},aK K ct H ds vs->aK K ct H' ds vs
 |[],_,h=>by simpa[aK] using h
 |d::ds,_,h=>by simp only[aK] at h ⊢;refine ak (λ v r h1 h2 h3=>?_) h;exact ao v r h1 (Tl.keep e h2) (aK.keep e h3)
end
structure Ii(ct c9:Ct)(p:Bool->Bool)(g:Bool->Bool):Prop where
 cb:c9.f.cb=ct.f.cb
 at':∀t a o,p t=true->ct.lo t a=some o->c9.lo (g t) a=some o
mutual
noncomputable def rY(g:Bool->Bool):D->D
 | .tup xs=> .tup (kr g xs)
 | .gt xs=> .gt (kr g xs)
 | .lst xs=> .lst (kr g xs)
 | .obj c ns xs=> .obj c ns (kr g xs)
 | .lS ks xs=> .lS ks (kr g xs)
 | .bor t xs=> .bor (g t) (kr g xs)
 | .mj t ks xs=> .mj (g t) ks (kr g xs)
 | .rz t c ns xs=> .rz (g t) c ns (kr g xs)
 | .eU=> .eU
 | .bl b=> .bl b
 | .int i=> .int i
 | .str x=> .str x
 | .exc c=> .exc c
noncomputable def kr(g:Bool->Bool):List D->List D
 |[]=>[]
 |d::ds=>rY g d::kr g ds
end
mutual
noncomputable def sW(p:Bool->Bool):D->Bool
 | .tup xs=>jA p xs
 | .gt xs=>jA p xs
 | .lst xs=>jA p xs
 | .obj _ _ xs=>jA p xs
 | .lS _ xs=>jA p xs
 | .bor t xs=>p t&&jA p xs
 | .mj t _ xs=>p t&&jA p xs
 | .rz t _ _ xs=>p t&&jA p xs
 |_=>true
noncomputable def jA(p:Bool->Bool):List D->Bool
 |[]=>true
 |d::ds=>sW p d&&jA p ds
end
mutual
theorem Tl.re{K:W.Frag}{ct c9:Ct}{H:Hp}{p g:Bool->Bool}(r:Ii ct c9 p g):∀{d:D} {v:V},sW p d=true->Tl K ct H d v->Tl K c9 H (rY g d) v
 | .eU,_,_,h=>by simpa[Tl,rY] using h
 | .bl b,_,_,h=>by simpa[Tl,rY] using h
 | .int i,_,_,h=>by simpa[Tl,rY] using h
 | .str x,_,_,h=>by simpa[Tl,rY] using h
 | .exc c,v,_,h=>by simp only[Tl,rY] at h ⊢;rw[r.cb];exact h
 | .tup ds,v,q,h=>by simp only[Tl,rY,sW] at h q ⊢;refine ak (λ a vs h1 h2 h3=>?_) h;exact ao a vs h1 h2 (aK.re r q h3)
 | .gt ds,v,q,h=>by simp only[Tl,rY,sW] at h q ⊢;refine ak (λ a vs h1 h2 h3=>?_) h;exact ao a vs h1 h2 (aK.re r q h3)
 | .lst ds,v,q,h=>by simp only[Tl,rY,sW] at h q ⊢;refine ak (λ a vs h1 h2 h3=>?_) h;exact ao a vs h1 h2 (aK.re r q h3)
 | .obj c ns ds,v,q,h=>by simp only[Tl,rY,sW] at h q ⊢;refine cA (λ a C dx vs h1 h2 h3 h4 h5=>?_) h;exact bT a C dx vs h1 (by rw[r.cb];exact h2) h3 h4 (aK.re r q h5)
 | .bor t ds,v,q,h=>by simp only[Tl,rY,sW,Bool.and_eq_true] at h q ⊢;refine ak (λ a vs h1 h2 h3=>?_) h;exact ao a vs h1 (r.at' t a _ q.1 h2) (aK.re r q.2 h3)
 | .lS ks ds,v,q,h=>by simp only[Tl,rY,sW] at h q ⊢;refine aN (λ a vs h1 h2 h3 h4=>?_) h;exact bg a vs h1 h2 h3 (aK.re r q h4)
 | .mj t ks ds,v,q,h=>by simp only[Tl,rY,sW,Bool.and_eq_true] at h q ⊢;refine aN (λ a vs h1 h2 h3 h4=>?_) h;exact bg a vs h1 (r.at' t a _ q.1 h2) h3 (aK.re r q.2 h4)
 | .rz t c ns ds,v,q,h=>by simp only[Tl,rY,sW,Bool.and_eq_true] at h q ⊢;refine cA (λ a C dx vs h1 h2 h3 h4 h5=>?_) h;exact bT a C dx vs h1 (by rw[r.cb];exact h2) (r.at' t a _ q.1 h3) h4 (aK.re r q.2 h5)
theorem aK.re{K:W.Frag}{ct c9:Ct}{H:Hp}{p g:Bool->Bool}(r:Ii ct c9 p g):∀{ds:List D} {vs:List V},jA p ds=true->aK K ct H ds vs->aK K c9 H (kr g ds) vs
 |[],_,_,h=>by simpa[aK,kr] using h
 |d::ds,_,q,h=>by simp only[aK,kr,jA,Bool.and_eq_true] at h q ⊢;refine ak (λ v w h1 h2 h3=>?_) h;exact ao v w h1 (Tl.re r q.1 h2) (aK.re r q.2 h3)
end
mutual
theorem p7:∀(d:D),rY id d=d
 | .eU| .bl _| .int _| .str _| .exc _=>by simp[rY]
 | .tup ds| .gt ds| .lst ds| .obj _ _ ds| .lS _ ds| .bor _ ds| .mj _ _ ds| .rz _ _ _ ds=>by simp[rY,jX ds]
theorem jX:∀(ds:List D),kr id ds=ds
 |[]=>rfl
 |d::ds=>by simp[kr,p7 d,jX ds]
end
mutual
theorem ND:∀(d:D),rY (λ _=>false) d=dn d
 | .eU| .bl _| .int _| .str _| .exc _=>by simp[rY,dn]
 | .tup ds| .gt ds| .lst ds| .obj _ _ ds| .lS _ ds| .bor _ ds| .mj _ _ ds| .rz _ _ _ ds=>by simp[rY,dn,uE ds]
theorem uE:∀(ds:List D),kr (λ _=>false) ds=sj ds
 |[]=>rfl
 |d::ds=>by simp[kr,sj,ND d,uE ds]
end
mutual
theorem uP:∀(d:D),sW (λ _=>true) d=true
 | .eU| .bl _| .int _| .str _| .exc _=>by simp[sW]
 | .tup ds| .gt ds| .lst ds| .obj _ _ ds| .lS _ ds| .bor _ ds| .mj _ _ ds| .rz _ _ _ ds=>by simp[sW,jz ds]
theorem jz:∀(ds:List D),jA (λ _=>true) ds=true
 |[]=>rfl
 |d::ds=>by simp[jA,uP d,jz ds]
end
mutual
theorem Ga:∀(d:D),sW (λ t=>!t) d=nt d
 | .eU| .bl _| .int _| .str _| .exc _=>by simp[sW,nt]
 | .tup ds| .gt ds| .lst ds| .obj _ _ ds| .lS _ ds| .bor _ ds| .mj _ _ ds| .rz _ _ _ ds=>by simp[sW,nt,uN ds]
theorem uN:∀(ds:List D),jA (λ t=>!t) ds=gm ds
 |[]=>rfl
 |d::ds=>by simp[jA,gm,Ga d,uN ds]
end
mutual
theorem Gb:∀(d:D),sW (λ _=>false) d=nb d
 | .eU| .bl _| .int _| .str _| .exc _=>by simp[sW,nb]
 | .tup ds| .gt ds| .lst ds| .obj _ _ ds| .lS _ ds=>by simp[sW,nb,uO ds]
 | .bor _ ds| .mj _ _ ds| .rz _ _ _ ds=>by simp[sW,nb]
theorem uO:∀(ds:List D),jA (λ _=>false) ds=DQ ds
 |[]=>rfl
 |d::ds=>by simp[jA,DQ,Gb d,uO ds]
end
def Tl.lift{K:W.Frag}{c:Cf}{B H:Hp}{d:D}{v:V}(h:Tl K c.z H d v):Tl K (c.at' B) H d v:=by
 have:=Tl.re (ct:=c.z) (c9:=c.at' B) (p:=λ _=>true) (g:=id) ⟨rfl,λ t a o _ q=>by cases t with
  |true=>exact absurd q (by simp[Ct.lo,Cf.z])
  |false=>exact q⟩ (uP d) h
 rwa [p7] at this
def Tl.down{K:W.Frag}{c:Cf}{B H:Hp}{tm:Bool}{d:D}{v:V}(h:Tl K ⟨c,B,tm⟩ H d v)(n:nt d=true):Tl K c.z H d v:=by
 have:=Tl.re (ct:=⟨c,B,tm⟩) (c9:=c.z) (p:=λ t=>!t) (g:=id) ⟨rfl,λ t a o p q=>by cases t with
  |true=>cases p
  |false=>exact q⟩ (by rw[Ga];exact n) h
 rwa [p7] at this
def Tl.bare{K:W.Frag}{ct c9:Ct}{H:Hp}{d:D}{v:V}(e:c9.f.cb=ct.f.cb)(h:Tl K ct H d v)(n:nb d=true):Tl K c9 H d v:=by have:=Tl.re (ct:=ct) (c9:=c9) (p:=λ _=>false) (g:=id) ⟨e,λ t a o p q=>nomatch p⟩ (by rw[Gb];exact n) h;rwa [p7] at this
def aK.bare{K:W.Frag}{ct c9:Ct}{H:Hp}{d:List D}{v:List V}(e:c9.f.cb=ct.f.cb)(h:aK K ct H d v)(n:DQ d=true):aK K c9 H d v:=by have:=aK.re (ct:=ct) (c9:=c9) (p:=λ _=>false) (g:=id) ⟨e,λ t a o p q=>nomatch p⟩ (by rw[uO];exact n) h;rwa [jX] at this
def aK.lift{K:W.Frag}{c:Cf}{B H:Hp}{d:List D}{v:List V}(h:aK K c.z H d v):aK K (c.at' B) H d v:=by
 have:=aK.re (ct:=c.z) (c9:=c.at' B) (p:=λ _=>true) (g:=id) ⟨rfl,λ t a o _ q=>by cases t with
  |true=>exact absurd q (by simp[Ct.lo,Cf.z])
  |false=>exact q⟩ (jz d) h
 rwa [jX] at this
def aK.down{K:W.Frag}{c:Cf}{B H:Hp}{tm:Bool}{d:List D}{v:List V}(h:aK K ⟨c,B,tm⟩ H d v)(n:gm d=true):aK K c.z H d v:=by
 have:=aK.re (ct:=⟨c,B,tm⟩) (c9:=c.z) (p:=λ t=>!t) (g:=id) ⟨rfl,λ t a o p q=>by cases t with
  |true=>cases p
  |false=>exact q⟩ (by rw[uN];exact n) h
 rwa [jX] at this
def aK.lent{K:W.Frag}{ct:Ct}{c':Cf}{H:Hp}{d:List D}{v:List V}(e:c'.cb=ct.f.cb)(eL:c'.L=H)(l:az ct.f.L H)(b:az ct.B H)(h:aK K ct H d v):aK K c'.z H (sj d) v:=by
 have:=aK.re (ct:=ct) (c9:=c'.z) (p:=λ _=>true) (g:=λ _=>false) ⟨e,λ t a o _ q=>by
  show c'.L a=some o;rw[eL];cases t with
  |true=>exact b a o q
  |false=>exact l a o q⟩ (jz d) h
 rwa [uE] at this
theorem aK.length{K:W.Frag}{ct:Ct}{H:Hp}:∀{ds:List D} {vs:List V},aK K ct H ds vs->ds.length=vs.length
 |[],_,h=>by simp only[aK] at h;rw[h];rfl
 |d::ds,_,h=>by
  simp only[aK] at h
  revert h;refine ak λ v r z _ h=>?_;subst z
  simp[aK.length h]
theorem aK.get{K:W.Frag}{ct:Ct}{H:Hp}:∀{ds:List D} {vs:List V} {i:Nat} {d:D},aK K ct H ds vs->ds[i]? =some d->∃v,vs[i]? =some v/\Tl K ct H d v
 |[],_,_,_,_,e=>by simp at e
 |d::ds,_,i,d',h,e=>by
  simp only[aK] at h
  revert h;refine ak λ v r z h1 h2=>?_;subst z
  cases i with
  |zero=>simp at e;subst e;exact af v rfl h1
  |succ i=>exact aK.get (i:=i) h2 (by simpa using e)
def aK.nil{K:W.Frag}{ct:Ct}{H:Hp}:aK K ct H [] []:=by simp[aK]
def aK.cons{K:W.Frag}{ct:Ct}{H:Hp}{d:D}{v:V}{ds:List D}{vs:List V}(h:Tl K ct H d v)(t:aK K ct H ds vs):aK K ct H (d::ds) (v::vs):=by simp only[aK];exact ao v vs rfl h t
theorem aK.append{K:W.Frag}{ct:Ct}{H:Hp}:∀{ds es:List D} {vs us:List V},aK K ct H ds vs->aK K ct H es us->aK K ct H (ds++es) (vs++us)
 |[],_,_,_,h,t=>by simp only[aK] at h;subst h;simpa using t
 |d::ds,_,_,_,h,t=>by
  simp only[aK] at h
  revert h;refine ak λ v r z h1 h2=>?_;subst z
  exact aK.cons h1 (aK.append h2 t)
theorem aK.take{K:W.Frag}{ct:Ct}{H:Hp}:∀{ds:List D} {vs:List V} (n:Nat),aK K ct H ds vs->aK K ct H (ds.take n) (vs.take n)
 |[],_,n,h=>by simp only[aK] at h;subst h;simp[aK]
 |d::ds,_,0,_=>by simp[aK]
 |d::ds,_,n+1,h=>by
  simp only[aK] at h
  revert h;refine ak λ v r z h1 h2=>?_;subst z
  exact aK.cons h1 (aK.take n h2)
theorem aK.drop{K:W.Frag}{ct:Ct}{H:Hp}:∀{ds:List D} {vs:List V} (n:Nat),aK K ct H ds vs->aK K ct H (ds.drop n) (vs.drop n)
 |[],_,n,h=>by simp only[aK] at h;subst h;simp[aK]
 |d::ds,_,0,h=>h
 |d::ds,_,n+1,h=>by
  simp only[aK] at h
  revert h;refine ak λ v r z h1 h2=>?_;subst z
  exact aK.drop n h2
theorem aK.set{K:W.Frag}{ct:Ct}{H:Hp}{d:D}{v:V}(q:Tl K ct H d v):∀{ds:List D} {vs:List V} (n:Nat),aK K ct H ds vs->aK K ct H (ds.set n d) (vs.set n v)
 |[],_,n,h=>by simp only[aK] at h;subst h;simp[aK]
 |_::ds,_,0,h=>by
  simp only[aK] at h
  revert h;refine ak λ w r z _ h2=>?_;subst z
  exact aK.cons q h2
 |_::ds,_,n+1,h=>by
  simp only[aK] at h
  revert h;refine ak λ w r z h1 h2=>?_;subst z
  exact aK.cons h1 (aK.set q n h2)
noncomputable abbrev Fp:=Addr->Prop
mutual
def Ow(K:W.Frag)(ct:Ct)(H:Hp):M->V->Fp->Prop
 | .d x,v,_=>Tl K ct H x v
 | .l xs,v,S=>∃a vs,v= .ref a/\S a/\H a=some (.lst vs)/\aK K ct H xs vs
 | .n ms,v,S=>∃a vs,v= .ref a/\S a/\H a=some (.lst vs)/\bP K ct H ms vs λ b=>S b/\b≠a
 | .t ms,v,S=>∃a vs,v= .ref a/\H a=some (.tup vs)/\bP K ct H ms vs S
 | .k ks xs,v,S=>∃a vs,v= .ref a/\S a/\H a=some (ks.ho vs)/\ks.len=vs.length/\aK K ct H xs vs
 | .o c ns xs,v,S=>∃a C dx vs,v= .ref a/\S a/\ct.f.cb.ins c=some C/\H a=some (.ins C dx (ns.zip vs))/\ns.length=vs.length/\aK K ct H xs vs
 | .q ks ms,v,S=>∃a vs,v= .ref a/\S a/\H a=some (ks.ho vs)/\ks.len=vs.length/\bP K ct H ms vs λ b=>S b/\b≠a
def bP(K:W.Frag)(ct:Ct)(H:Hp):List M->List V->Fp->Prop
 |[],vs,_=>vs=[]
 |m::ms,vs,S=>∃v r S1 S2,vs=v::r/\(∀b,S1 b->S b)/\(∀b,S2 b->S b)/\(∀b,S1 b->¬S2 b)/\Ow K ct H m v S1/\bP K ct H ms r S2
end
section
variable{K:W.Frag}{ct c9:Ct}{H H':Hp}
mutual
/-- a YZ place -/
theorem Ow.wide:∀{m:M} {v:V} {S T:Fp},(∀b,S b->T b)->Ow K ct H m v S->Ow K ct H m v T
 | .d x,v,S,T,_,h=>by simpa[Ow] using h
 | .l xs,v,S,T,k,h=>by simp only[Ow] at h ⊢;refine ak (λ a vs h1 h2 h3=>?_) h;exact ao a vs h1 (k _ h2) h3
 | .n ms,v,S,T,k,h=>by simp only[Ow] at h ⊢;refine aN (λ a vs h1 h2 h3 h4=>?_) h;exact bg a vs h1 (k _ h2) h3 (bP.wide (λ b z=>⟨k b z.1,z.2⟩) h4)
 | .t ms,v,S,T,k,h=>by simp only[Ow] at h ⊢;refine ak (λ a vs h1 h2 h3=>?_) h;exact ao a vs h1 h2 (bP.wide k h3)
 | .k ks xs,v,S,T,k,h=>by simp only[Ow] at h ⊢;refine ak (λ a vs h1 h2 h3=>?_) h;exact ao a vs h1 (k _ h2) h3
 | .o c ns xs,v,S,T,k,h=>by simp only[Ow] at h ⊢;obtain ⟨a,C,dx,vs,h1,h2,h3⟩:=h;exact ⟨a,C,dx,vs,h1,k _ h2,h3⟩
 | .q ks ms,v,S,T,k,h=>by simp only[Ow] at h ⊢;refine cC (λ a vs h1 h2 h3 h4 h5=>?_) h;exact bG a vs h1 (k _ h2) h3 h4 (bP.wide (λ b z=>⟨k b z.1,z.2⟩) h5)
theorem bP.wide:∀{ms:List M} {vs:List V} {S T:Fp},(∀b,S b->T b)->bP K ct H ms vs S->bP K ct H ms vs T
 |[],vs,S,T,_,h=>by simpa[bP] using h
 |m::ms,vs,S,T,k,h=>by simp only[bP] at h ⊢;refine cz (λ v r S1 S2 h1 h2 h3 h4 h5 h6=>?_) h;exact dg v r S1 S2 h1 (λ b z=>k b (h2 b z)) (λ b z=>k b (h3 b z)) h4 h5 h6
end
mutual
/-- its places are untouched,zP data are kept -/
theorem Ow.frame(e:aV ct.f.cb H H'):∀{m:M} {v:V} {S:Fp},(∀b o,S b->H b=some o->H' b=some o)->Ow K ct H m v S->Ow K ct H' m v S
 | .d x,v,S,_,h=>by simp only[Ow] at h ⊢;exact h.keep e
 | .l xs,v,S,k,h=>by simp only[Ow] at h ⊢;refine aN (λ a vs h1 h2 h3 h4=>?_) h;exact bg a vs h1 h2 (k _ _ h2 h3) (h4.keep e)
 | .n ms,v,S,k,h=>by simp only[Ow] at h ⊢;refine aN (λ a vs h1 h2 h3 h4=>?_) h;exact bg a vs h1 h2 (k _ _ h2 h3) (bP.frame e (λ b o z=>k b o z.1) h4)
 | .t ms,v,S,k,h=>by simp only[Ow] at h ⊢;refine ak (λ a vs h1 h2 h3=>?_) h;exact ao a vs h1 (e _ _ h2 trivial) (bP.frame e k h3)
 | .k ks xs,v,S,k,h=>by simp only[Ow] at h ⊢;refine cC (λ a vs h1 h2 h3 h4 h5=>?_) h;exact bG a vs h1 h2 (k _ _ h2 h3) h4 (h5.keep e)
 | .o c ns xs,v,S,k,h=>by simp only[Ow] at h ⊢;refine cz (λ a C dx vs h1 h2 h3 h4 h5 h6=>?_) h;exact dg a C dx vs h1 h2 h3 (k _ _ h2 h4) h5 (h6.keep e)
 | .q ks ms,v,S,k,h=>by simp only[Ow] at h ⊢;refine cC (λ a vs h1 h2 h3 h4 h5=>?_) h;exact bG a vs h1 h2 (k _ _ h2 h3) h4 (bP.frame e (λ b o z=>k b o z.1) h5)
theorem bP.frame(e:aV ct.f.cb H H'):∀{ms:List M} {vs:List V} {S:Fp},(∀b o,S b->H b=some o->H' b=some o)->bP K ct H ms vs S->bP K ct H' ms vs S
 |[],vs,S,_,h=>by simpa[bP] using h
 |m::ms,vs,S,k,h=>by simp only[bP] at h ⊢;refine cz (λ v r S1 S2 h1 h2 h3 h4 h5 h6=>?_) h;exact dg v r S1 S2 h1 h2 h3 h4 (Ow.frame e (λ b o z=>k b o (h2 b z)) h5) (bP.frame e (λ b o z=>k b o (h3 b z)) h6)
end
mutual
/-- lent for an expression -/
theorem Ow.lend:∀{m:M} {v:V} {S:Fp},(∀b,S b->ct.B b=H b)->Ow K ct H m v S->Tl K ct H (lend m) v
 | .d x,v,S,_,h=>by simpa only[Ow,L4.lend] using h
 | .l xs,v,S,k,h=>by simp only[Ow,L4.lend,Tl] at h ⊢;refine aN (λ a vs h1 h2 h3 h4=>?_) h;exact ao a vs h1 ((k a h2).trans h3) h4
 | .n ms,v,S,k,h=>by simp only[Ow,L4.lend,Tl] at h ⊢;refine aN (λ a vs h1 h2 h3 h4=>?_) h;exact ao a vs h1 ((k a h2).trans h3) (bP.lend (λ b z=>k b z.1) h4)
 | .t ms,v,S,k,h=>by simp only[Ow,L4.lend,Tl] at h ⊢;refine ak (λ a vs h1 h2 h3=>?_) h;exact ao a vs h1 h2 (bP.lend k h3)
 | .k ks xs,v,S,k,h=>by simp only[Ow,L4.lend,Tl] at h ⊢;refine cC (λ a vs h1 h2 h3 h4 h5=>?_) h;exact bg a vs h1 ((k a h2).trans h3) h4 h5
 | .o c ns xs,v,S,k,h=>by simp only[Ow,L4.lend,Tl] at h ⊢;refine cz (λ a C dx vs h1 h2 h3 h4 h5 h6=>?_) h;exact bT a C dx vs h1 h3 ((k a h2).trans h4) h5 h6
 | .q ks ms,v,S,k,h=>by simp only[Ow,L4.lend,Tl] at h ⊢;refine cC (λ a vs h1 h2 h3 h4 h5=>?_) h;exact bg a vs h1 ((k a h2).trans h3) h4 (bP.lend (λ b z=>k b z.1) h5)
theorem bP.lend:∀{ms:List M} {vs:List V} {S:Fp},(∀b,S b->ct.B b=H b)->bP K ct H ms vs S->aK K ct H (iJ ms) vs
 |[],vs,S,_,h=>by simpa[bP,L4.iJ,aK] using h
 |m::ms,vs,S,k,h=>by simp only[bP,L4.iJ,aK] at h ⊢;refine cz (λ v r S1 S2 h1 h2 h3 h4 h5 h6=>?_) h;exact ao v r h1 (Ow.lend (λ b z=>k b (h2 b z)) h5) (bP.lend (λ b z=>k b (h3 b z)) h6)
end
mutual
/-- zP data in it told otherwise -/
theorem Ow.map{p:D->Bool}(ec:c9.f.cb=ct.f.cb)(g:∀d v,p d=true->Tl K ct H d v->Tl K c9 H d v){q:List D->Bool}(gs:∀d v,q d=true->aK K ct H d v->aK K c9 H d v){pm:M->Bool}{zQ:List M->Bool} (e1:∀x,pm (.d x)=true->p x=true) (e2:∀x,pm (.l x)=true->q x=true) (e3:∀x,pm (.n x)=true->zQ x=true) (e4:∀x,pm (.t x)=true->zQ x=true) (e5:∀k x,pm (.k k x)=true->q x=true) (e7:∀c k x,pm (.o c k x)=true->q x=true) (e8:∀k x,pm (.q k x)=true->zQ x=true) (e6:∀m ms,zQ (m::ms)=true->pm m=true/\zQ ms=true):∀{m:M} {v:V} {S:Fp},pm m=true->Ow K ct H m v S->Ow K c9 H m v S
 | .d x,v,S,z,h=>by simp only[Ow] at h ⊢;exact g _ _ (e1 _ z) h
 | .l xs,v,S,z,h=>by simp only[Ow] at h ⊢;refine aN (λ a vs h1 h2 h3 h4=>?_) h;exact bg a vs h1 h2 h3 (gs _ _ (e2 _ z) h4)
 | .n ms,v,S,z,h=>by simp only[Ow] at h ⊢;refine aN (λ a vs h1 h2 h3 h4=>?_) h;exact bg a vs h1 h2 h3 (bP.map ec g gs e1 e2 e3 e4 e5 e7 e8 e6 (e3 _ z) h4)
 | .t ms,v,S,z,h=>by simp only[Ow] at h ⊢;refine ak (λ a vs h1 h2 h3=>?_) h;exact ao a vs h1 h2 (bP.map ec g gs e1 e2 e3 e4 e5 e7 e8 e6 (e4 _ z) h3)
 | .k ks xs,v,S,z,h=>by simp only[Ow] at h ⊢;refine cC (λ a vs h1 h2 h3 h4 h5=>?_) h;exact bG a vs h1 h2 h3 h4 (gs _ _ (e5 _ _ z) h5)
 | .o c ns xs,v,S,z,h=>by simp only[Ow] at h ⊢;refine cz (λ a C dx vs h1 h2 h3 h4 h5 h6=>?_) h;exact dg a C dx vs h1 h2 (by rw[ec];exact h3) h4 h5 (gs _ _ (e7 _ _ _ z) h6)
 | .q ks ms,v,S,z,h=>by simp only[Ow] at h ⊢;refine cC (λ a vs h1 h2 h3 h4 h5=>?_) h;exact bG a vs h1 h2 h3 h4 (bP.map ec g gs e1 e2 e3 e4 e5 e7 e8 e6 (e8 _ _ z) h5)
theorem bP.map{p:D->Bool}(ec:c9.f.cb=ct.f.cb)(g:∀d v,p d=true->Tl K ct H d v->Tl K c9 H d v){q:List D->Bool}(gs:∀d v,q d=true->aK K ct H d v->aK K c9 H d v){pm:M->Bool}{zQ:List M->Bool} (e1:∀x,pm (.d x)=true->p x=true) (e2:∀x,pm (.l x)=true->q x=true) (e3:∀x,pm (.n x)=true->zQ x=true) (e4:∀x,pm (.t x)=true->zQ x=true) (e5:∀k x,pm (.k k x)=true->q x=true) (e7:∀c k x,pm (.o c k x)=true->q x=true) (e8:∀k x,pm (.q k x)=true->zQ x=true) (e6:∀m ms,zQ (m::ms)=true->pm m=true/\zQ ms=true):∀{ms:List M} {vs:List V} {S:Fp},zQ ms=true->bP K ct H ms vs S->bP K c9 H ms vs S
 |[],vs,S,_,h=>by simpa[bP] using h
 |m::ms,vs,S,z,h=>by simp only[bP] at h ⊢;refine cz (λ v r S1 S2 h1 h2 h3 h4 h5 h6=>?_) h;exact dg v r S1 S2 h1 h2 h3 h4 (Ow.map ec g gs e1 e2 e3 e4 e5 e7 e8 e6 (e6 _ _ z).1 h5) (bP.map ec g gs e1 e2 e3 e4 e5 e7 e8 e6 (e6 _ _ z).2 h6)
end
end
section
variable{K:W.Frag}{c:Cf}{B H:Hp}{m:M}{v:V}{S:Fp}
theorem Ow.lift(h:Ow K c.z H m v S):Ow K (c.at' B) H m v S:=Ow.map (ct:=c.z) (c9:=c.at' B) (p:=λ _=>true) rfl (λ _ _ _=>Tl.lift) (q:=λ _=>true) (λ _ _ _=>aK.lift) (pm:=λ _=>true) (zQ:=λ _=>true) (λ _ _=>rfl) (λ _ _=>rfl) (λ _ _=>rfl) (λ _ _=>rfl) (λ _ _ _=>rfl) (λ _ _ _ _=>rfl) (λ _ _ _=>rfl) (λ _ _ _=>⟨rfl,rfl⟩) rfl h
theorem Ow.down{tm:Bool}(h:Ow K ⟨c,B,tm⟩ H m v S)(n:ku m=true):Ow K c.z H m v S:=Ow.map (ct:=⟨c,B,tm⟩) (c9:=c.z) (p:=nt) rfl (λ _ _ n h=>h.down n) (q:=gm) (λ _ _ n h=>h.down n) (pm:=ku) (zQ:=yD) (λ _ z=>by simpa[ku] using z) (λ _ z=>by simpa[ku] using z) (λ _ z=>by simpa[ku] using z) (λ _ z=>by simpa[ku] using z) (λ _ _ z=>by simpa[ku] using z) (λ _ _ _ z=>by simpa[ku] using z) (λ _ _ z=>by simpa[ku] using z)
  (λ _ _ z=>by simpa[yD] using z) n h
theorem Ow.bare{ct c9:Ct}(e:c9.f.cb=ct.f.cb)(h:Ow K ct H m v S)(n:Av m=true):Ow K c9 H m v S:=Ow.map (p:=nb) e (λ _ _ n h=>h.bare e n) (q:=DQ) (λ _ _ n h=>h.bare e n) (pm:=Av) (zQ:=DR) (λ _ z=>by simpa[Av] using z) (λ _ z=>by simpa[Av] using z) (λ _ z=>by simpa[Av] using z) (λ _ z=>by simpa[Av] using z) (λ _ _ z=>by simpa[Av] using z) (λ _ _ _ z=>by simpa[Av] using z) (λ _ _ z=>by simpa[Av] using z)
  (λ _ _ z=>by simpa[DR] using z) n h
end
structure Ig(ct:Ct)(H₀ H:Hp)(S:Fp):Prop where
 new:∀b,S b->H₀ b=none\/ct.f.io b
 here:∀b,S b->H b≠none
 Au:∀b,S b->ct.f.L b=none
 lent:∀b,S b->ct.tm=true->ct.B b=H b
def iB(K:W.Frag)(ct:Ct)(H₀ H:Hp)(i:Nat)(S:Fp):Slot->Option V->Prop
 | .no,_=>∀b,¬S b
 | .val d,ov=>(∃v,ov=some v/\Tl K ct H d v)/\∀b,¬S b
 | .own m,ov=>∃v,ov=some v/\Ow K ct H m v S/\Ig ct H₀ H S/\∀b,S b->H₀ b=none
 | .par m,ov=>∃v,ov=some v/\Ow K ct H m v S/\Ig ct H₀ H S/\ct.f.args[i]? =some v
structure J(K:W.Frag)(ct:Ct)(H₀:Hp)(Γ:Sg)(σ:St)(H:Hp):Prop where
 same:∀b o,H₀ b=some o->¬ct.f.io b->H b=some o
 free:∀b,H b=none->H₀ b=none
 lL:az ct.f.L H
 lB:az ct.B H
 xt:az ct.f.cb.xt ct.f.L
 len:Γ.length=σ.length
 sl:∃S:Nat->Fp,(∀i sl ov,Γ[i]? =some sl->σ[i]? =some ov->iB K ct H₀ H i (S i) sl ov)/\(∀i j b,i≠j->S i b->¬S j b)/\∀i b,S i b->H b≠none
section
variable{K:W.Frag}{ct:Ct}{H₀ H H':Hp}{Γ:Sg}{σ:St}{i:Nat}{S:Fp}{sl:Slot}{ov:Option V}
def Ig.same(h:Ig ct H₀ H S)(e:az H H'):Ig ct H₀ H' S:=⟨h.new,λ b z q=>h.here b z (by
  cases w:H b with
  |none=>rfl
  |some o=>rw[e b o w] at q;cases q),h.Au,λ b z t=>by
 rw[h.lent b z t];cases w:H b with
 |none=>exact absurd w (h.here b z)
 |some o=>exact (e b o w).symm⟩
theorem iB.same(h:iB K ct H₀ H i S sl ov)(e:az H H'):iB K ct H₀ H' i S sl ov:=by
 cases sl with
 |no=>exact h
 |val d=>obtain ⟨⟨v,h1,h2⟩,h3⟩:=h;exact ⟨af v h1 (h2.keep (az.keep e)),h3⟩
 |own m=>refine dc (λ v h1 h2 h3 h4=>?_) h;exact bY v h1 (h2.frame (az.keep e) (λ b o _ q=>e b o q)) (h3.same e) h4
 |par m=>refine dc (λ v h1 h2 h3 h4=>?_) h;exact bY v h1 (h2.frame (az.keep e) (λ b o _ q=>e b o q)) (h3.same e) h4
def J.mono(j:J K ct H₀ Γ σ H)(e:az H H'):J K ct H₀ Γ σ H':=by refine aD (λ S h1 h2 h3=>?_) j.sl;exact ⟨λ b o q n=>e b o (j.same b o q n),λ b q=>j.free b (e.free q),j.lL.trans e,j.lB.trans e,j.xt,j.len,S,λ i sl ov g1 g2=>(h1 i sl ov g1 g2).same e,h2,λ i b w q=>h3 i b w (e.free q)⟩
def J.get(j:J K ct H₀ Γ σ H)(h:Γ[i]? =some sl):∃ov S,σ[i]? =some ov/\iB K ct H₀ H i S sl ov:=by
 have hi:i<σ.length:=by rw[<-j.len];exact (List.getElem?_eq_some_iff.mp h).1
 refine ah (λ S h1 h2=>?_) j.sl;exact aM (σ[i]) (S i) (List.getElem?_eq_getElem hi) (h1 i sl _ h (List.getElem?_eq_getElem hi))
theorem J.val{d:D}(j:J K ct H₀ Γ σ H)(h:Γ[i]? =some (.val d)):∃v,σ[i]? =some (some v)/\Tl K ct H d v:=by refine ak (λ ov S h1 z _=>?_) (j.get h);revert z;refine ah λ v h2 h3=>?_;exact af v (by rw[h1,h2]) h3
theorem J.own{m:M}(j:J K ct H₀ Γ σ H)(h:Γ[i]? =some (.own m)):∃v S,σ[i]? =some (some v)/\Ow K ct H m v S/\Ig ct H₀ H S/\∀b,S b->H₀ b=none:=by refine aQ (λ ov S h1=>ah λ v h2 h3=>?_) (j.get h);exact aM v S (by rw[h1,h2]) h3
theorem J.par{m:M}(j:J K ct H₀ Γ σ H)(h:Γ[i]? =some (.par m)):∃v S,σ[i]? =some (some v)/\Ow K ct H m v S/\Ig ct H₀ H S/\ct.f.args[i]? =some v:=by refine aQ (λ ov S h1=>ah λ v h2 h3=>?_) (j.get h);exact aM v S (by rw[h1,h2]) h3
theorem J.lift{c:Cf}(j:J K c.z H₀ Γ σ H):J K (c.at' H) H₀ Γ σ H:=by
 refine ah (λ S h1 h2=>?_) j.sl;refine ⟨j.same,j.free,j.lL,az.refl H,j.xt,j.len,S,λ i sl ov g1 g2=>?_,h2⟩;have h:=h1 i sl ov g1 g2;cases sl with
 |no=>exact h
 |val d=>obtain ⟨⟨v,h1,h2⟩,h3⟩:=h;exact ⟨af v h1 h2.lift,h3⟩
 |own m=>revert h;refine dc λ v h1 h2 h3 h4=>?_;exact bY v h1 h2.lift ⟨h3.new,h3.here,h3.Au,λ _ _ _=>rfl⟩ h4
 |par m=>revert h;refine dc λ v h1 h2 h3 h4=>?_;exact bY v h1 h2.lift ⟨h3.new,h3.here,h3.Au,λ _ _ _=>rfl⟩ h4
def J.chg(j:J K ct H₀ Γ σ H)(i:Nat):∃S:Fp,(∀sl ov,Γ[i]? =some sl->σ[i]? =some ov->iB K ct H₀ H i S sl ov)/\∀(H':Hp) (sl:Slot) (ov:Option V) (S':Fp),aV ct.f.cb H H'->(∀b o,H b=some o->¬S b->H' b=some o)->(∀b,H' b=none->H b=none)->az ct.B H'->iB K ct H₀ H' i S' sl ov->(∀b,S' b->S b\/H b=none)->J K ct H₀ (Γ.set i sl) (σ.set i ov) H':=by
 refine aD (λ S h1 h2 h3=>?_) j.sl;by_cases hi:i<Γ.length
 ·refine af (S i) (λ sl ov g1 g2=>h1 i sl ov g1 g2) (λ H' sl ov S' kp hs hf hB new hS'=>?_);have Ua:i<σ.length:=by rw[<-j.len];exact hi
  -- zP places of i,if it has some
  have q:=h1 i Γ[i] σ[i] (List.getElem?_eq_getElem hi) (List.getElem?_eq_getElem Ua);have so:(∀b,S i b->H₀ b=none\/ct.f.io b)/\∀b,S i b->ct.f.L b=none:=by
   generalize Γ[i]=sl0 at q;cases sl0 with
   |no=>exact ⟨λ b z=>absurd z (q b),λ b z=>absurd z (q b)⟩
   |val d=>exact ⟨λ b z=>absurd z (q.2 b),λ b z=>absurd z (q.2 b)⟩
   |own m=>revert q;refine dc λ v _ _ h3 _=>?_;exact ⟨h3.new,h3.Au⟩
   |par m=>revert q;refine dc λ v _ _ h3 _=>?_;exact ⟨h3.new,h3.Au⟩
  refine ⟨λ b o e n=>?_,λ b e=>j.free b (hf b e),λ b o e=>?_,λ b o e=>?_,j.xt,by simp[j.len],λ k=>if k=i then S' else S k,λ k Ex ov' g1 g2=>?_,λ k l b O8=>?_,λ k b w=>?_⟩
  ·have:=j.same b o e n;refine hs b o this λ z=>?_;rcases so.1 b z with w|w
   ·rw[w] at e;cases e
   ·exact n w
  ·exact hs b o (j.lL b o e) λ z=>by rw[so.2 b z] at e;cases e
  ·exact hB b o e
  ·by_cases e:i=k
   ·subst e;rw[List.getElem?_set_self hi] at g1;rw[List.getElem?_set_self Ua] at g2;cases g1;cases g2;simpa using new
   ·rw[List.getElem?_set_ne e] at g1 g2;have ek:¬k=i:=λ z=>e z.symm;simp only[ek,if_false];have z:=h1 k Ex ov' g1 g2;have un:∀b o,S k b->H b=some o->H' b=some o:=λ b o w q=>hs b o q λ w'=>h2 k i b ek w w';have R9:Ig ct H₀ H (S k)->Ig ct H₀ H' (S k):=λ s=>⟨s.new,λ b w q=>s.here b w (hf b q),s.Au,λ b w t=>by
     rw[s.lent b w t];cases x:H b with
     |none=>exact absurd x (s.here b w)
     |some o=>exact (un b o w x).symm⟩
    cases Ex with
    |no=>exact z
    |val d=>obtain ⟨⟨v,z1,z2⟩,z3⟩:=z;exact ⟨af v z1 (z2.keep kp),z3⟩
    |own m=>revert z;refine dc λ v z1 z2 z3 z4=>?_;exact bY v z1 (z2.frame kp un) (R9 z3) z4
    |par m=>revert z;refine dc λ v z1 z2 z3 z4=>?_;exact bY v z1 (z2.frame kp un) (R9 z3) z4
  ·-- apart
   have ZT:∀l b,¬l=i->S' b->¬S l b:=λ l b hl w w'=>by
    rcases hS' b w with u|u
    ·exact h2 l i b hl w' u
    ·exact h3 l b w' u
   by_cases e1:k=i
   ·subst e1;have e2:¬l=k:=λ z=>O8 z.symm;simp only[if_true,e2,if_false];exact ZT l b e2
   ·by_cases e2:l=i
    ·subst e2;simp only[e1,if_false,if_true];exact λ w w'=>ZT k b e1 w' w
    ·simp only[e1,e2,if_false];exact h2 k l b O8
  ·by_cases e:k=i
   ·subst e;simp only[if_true] at w;cases sl with
    |no=>exact absurd w (new b)
    |val d=>exact absurd w (new.2 b)
    |own m=>revert new;refine dc λ v _ _ z _=>?_;exact z.here b w
    |par m=>revert new;refine dc λ v _ _ z _=>?_;exact z.here b w
   ·simp only[e,if_false] at w;exact λ q=>h3 k b w (hf b q)
 ·refine af (λ _=>False) (λ sl ov g1 g2=>?_) (λ H' sl ov S' kp hs hf hB new hS'=>?_)
  ·rw[List.getElem?_eq_none (Nat.le_of_not_lt hi)] at g1;cases g1
  ·rw[List.set_eq_of_length_le (Nat.le_of_not_lt hi),List.set_eq_of_length_le (by rw[<-j.len];exact Nat.le_of_not_lt hi)];exact j.mono λ b o q=>hs b o q λ z=>z
theorem J.set{d:D}{v:V}(j:J K ct H₀ Γ σ H)(h:Tl K ct H d v):J K ct H₀ (Γ.set i (.val d)) (σ.set i (some v)) H:=by refine ah (λ S _ h2=>?_) (j.chg i);exact h2 H _ _ (λ _=>False) (aV.refl H) (λ _ _ q _=>q) (λ _ q=>q) j.lB ⟨af v rfl h,λ _ z=>z⟩ λ _ z=>z.elim
def J.unset(j:J K ct H₀ Γ σ H):J K ct H₀ (Γ.set i .no) (σ.set i ov) H:=by refine ah (λ S _ h2=>?_) (j.chg i);exact h2 H _ _ (λ _=>False) (aV.refl H) (λ _ _ q _=>q) (λ _ q=>q) j.lB (λ _ z=>z) λ _ z=>z.elim
def J.setM{v:V}(j:J K ct H₀ Γ σ H)(e:az H H')(tm:ct.tm=false)(h:Ow K ct H' m v S')(new:∀b,S' b->H b=none)(here:∀b,S' b->H' b≠none):J K ct H₀ (Γ.set i (.own m)) (σ.set i (some v)) H':=by
 refine ah (λ S _ h2=>?_) (j.chg i);refine h2 H' _ _ S' (az.keep e) (λ b o q _=>e b o q) (λ b q=>e.free q) (j.lB.trans e) (bY v rfl h ⟨λ b z=> .inl (j.free b (new b z)),here,λ b z=>?_,λ b z t=>by rw[tm] at t;cases t⟩ (λ b z=>j.free b (new b z))) λ b z=> .inr (new b z);cases w:ct.f.L b with
 |none=>rfl
 |some o=>have:=j.lL b o w;rw[new b z] at this;cases this
def J.weak(j:J K ct H₀ Γ1 σ H)(hl:Γ1.length=Γ.length)(h:∀i:Nat,Γ[i]? =some .no\/Γ[i]? =Γ1[i]?):J K ct H₀ Γ σ H:=by
 refine aD (λ S h1 h2 h3=>?_) j.sl;refine ⟨j.same,j.free,j.lL,j.lB,j.xt,by rw[<-hl];exact j.len,λ i b=>S i b/\Γ[i]? =Γ1[i]?/\Γ[i]?≠some .no,λ i sl ov g1 g2=>?_,λ i k b e w w'=>h2 i k b e w.1 w'.1,λ i b w=>h3 i b w.1⟩;by_cases e:sl= .no
 ·subst e;exact λ b w=>w.2.2 g1
 ·have e1:Γ[i]? =Γ1[i]? :=by
   rcases h i with z|z
   ·rw[z] at g1;cases g1;exact absurd rfl e
   ·exact z
  have q:=h1 i sl ov (e1▸g1) g2;have eS:(λ b=>S i b/\Γ[i]? =Γ1[i]?/\Γ[i]?≠some .no)=S i:=funext λ b=>propext ⟨λ w=>w.1,λ w=>aS w e1 (by rw[g1];exact λ z=>e (Option.some.inj z))⟩;show iB K ct H₀ H i (λ b=>S i b/\Γ[i]? =Γ1[i]?/\Γ[i]?≠some .no) sl ov;rw[eS];exact q
def J.RO(j:J K ct H₀ Γ σ H)(n:Tj Γ)(k:aV ct.f.cb H H')(s:∀b o,H₀ b=some o->¬ct.f.io b->H' b=some o)(f:∀b,H' b=none->H₀ b=none)(l:az ct.f.L H')(b:az ct.B H'):J K ct H₀ Γ σ H':=by
 refine aD (λ S h1 h2 h3=>?_) j.sl;refine ⟨s,f,l,b,j.xt,j.len,λ _ _=>False,λ i sl ov g1 g2=>?_,λ _ _ _ _ z=>z.elim,λ _ _ z=>z.elim⟩;have q:=h1 i sl ov g1 g2;cases sl with
 |no=>exact λ _ z=>z
 |val d=>obtain ⟨⟨v,q1,q2⟩,_⟩:=q;exact ⟨af v q1 (q2.keep k),λ _ z=>z⟩
 |own m=>exact absurd g1 (n i m).1
 |par m=>exact absurd g1 (n i m).2
def Tl.gJ{d:D}{v:V}(l:az ct.f.L H)(b:az ct.B H)(h:Tl K ct H d v)(e:rC d=some ds):∃a vs,v= .ref a/\fV K H a vs/\aK K ct H ds vs:=by
 cases d with
 |lst xs=>
  cases e;simp only[Tl] at h
  revert h;refine ak λ a vs h1 h2 h3=>?_
  exact ao a vs h1 h2.sq h3
 |bor t xs=>
  cases e;simp only[Tl] at h
  revert h;refine ak λ a vs h1 h2 h3=>?_
  refine ao a vs h1 (.inl (.inl ?_)) h3;cases t with
  |true=>exact b a _ h2
  |false=>exact l a _ h2
 |_=>cases e
end
def A8(P:Program)(w:World):Ll:=λ outer H s E e s'=>∃(a C:Addr) (H':Hp) (B:Heap) (a0:Value),e= .ref a/\E (.ref C) none H'/\s'.os=s.os/\AllBare s'.gens/\Heap.FlyingW B outer a (.ref C) a0 s'.heap/\H' a=none/\s.heap.get? a=none/\∀h':Heap,B.StaysIn h'->s'.heap.UpToSlots h'->Un (frs outer) [] H H' s.heap h'/\kh P w H' h'
def eF(X:Cx)(cb:Cb)(σ:St)(H:Hp)(c:String)(e:Value)(s':Shared):Prop:=∃(pins:List (Addr×Obj)) (H1:Hp) (s1:Shared) (C:Addr),Inv X pins σ H1 s1/\az H H1/\cb.exc c=some C/\((∃(a:Addr) (args:List Value) (h':Heap),e= .ref a/\s'={s1 with heap:=h'}/\Heap.MadeExcOf s1.heap h' a (.ref C) args)\/A8 X.prog X.w X.stack H1 s1 (λ cls od H'=>cls= .ref C/\od=none/\az H1 H') e s')
def eF.mono{X:Cx}{cb:Cb}{σ:St}{H H2:Hp}{c:String}{e:Value}{s':Shared}(s:az H H2)(h:eF X cb σ H2 c e s'):eF X cb σ H c e s':=by obtain ⟨pins,H1,s1,C,h1,h2,h3⟩:=h;exact ⟨pins,H1,s1,C,h1,s.trans h2,h3⟩
def Ok{α:Type}(X:Cx)(ct:Ct)(σ:St)(H:Hp)(r:Res α)(W:α->Prop):Prop:=match r with
 | .ok d=>W d
 | .err c=>∀e s',eF X ct.f.cb σ H c e s'->X.xe e s'
 | .bad=>False
theorem Ok.mono{α:Type}{X:Cx}{ct:Ct}{σ:St}{H H2:Hp}{r:Res α}{W W':α->Prop}(s:az H H2)(h:Ok X ct σ H r W)(k:∀d,W d->W' d):Ok X ct σ H2 r W':=by
 cases r with
 |ok d=>exact k d h
 |err c=>exact λ e s' q=>h e s' (q.mono s)
 |bad=>exact h
theorem Ok.bnd{α β:Type}{X:Cx}{ct:Ct}{σ:St}{H:Hp}{r:Res α}{f:α->Res β}{W:β->Prop}{W':α->Prop}(h:Ok X ct σ H (r.bnd f) W)(k:∀d,r= .ok d->Ok X ct σ H (f d) W->W' d):Ok X ct σ H r W':=by
 cases r with
 |ok d=>exact k d rfl h
 |err c=>exact h
 |bad=>exact h
def Wd(X:Cx)(ct:Ct)(H:Hp)(Q:VK)(d:D):Prop:=∀v H',az H H'->Tl X.K ct H' d v->Q v H'
def Wl(X:Cx)(ct:Ct)(H:Hp)(Q:VK)(ds:List D):Prop:=∀a vs H',az H H'->H a=none->H' a=some (.lst vs)->aK X.K ct H' ds vs->Q (.ref a) H'
def Wm(X:Cx)(ct:Ct)(H:Hp)(Q:VK)(m:M):Prop:=∀v H' S,az H H'->Ow X.K ct H' m v S->(∀b,S b->H b=none)->(∀b,S b->H' b≠none)->Q v H'
def Wt(H:Hp)(Q:Bool->Hp->Prop)(b:Bool):Prop:=∀H',az H H'->Q b H'
def Wa(X:Cx)(ct:Ct)(H:Hp)(Q:List V->Hp->Prop)(ds:List D):Prop:=∀vs H',az H H'->aK X.K ct H' ds vs->Q vs H'
abbrev Jx(X:Cx)(ct:Ct)(Γ:Sg)(σ:St)(H:Hp):Prop:=J X.K ct X.H₀ Γ σ H
def nE(X:Cx)(ct:Ct)(f:Sg->Res D):TE:=λ σ H Q=>∃Γ,Jx X ct Γ σ H/\Ok X ct σ H (f Γ) (Wd X ct H Q)
def Zv(X:Cx)(ct:Ct)(f:Sg->Res (List D)):TE:=λ σ H Q=>∃Γ,Jx X ct Γ σ H/\Ok X ct σ H (f Γ) (Wl X ct H Q)
def XA(X:Cx)(ct:Ct)(f:Sg->Res M):TE:=λ σ H Q=>∃Γ,Jx X ct Γ σ H/\Ok X ct σ H (f Γ) (Wm X ct H Q)
def ID(X:Cx)(ct:Ct)(f:Sg->Res Bool):TT:=λ σ H Q=>∃Γ,Jx X ct Γ σ H/\Ok X ct σ H (f Γ) (Wt H Q)
def EB(X:Cx)(ct:Ct)(f:Sg->Res (List D)):TA:=λ σ H Q=>∃Γ,Jx X ct Γ σ H/\Ok X ct σ H (f Γ) (Wa X ct H Q)
abbrev PD(X:Cx)(ct:Ct)(e:Expr)(f:Sg->Res D):Prop:=PE X e (nE X ct f)
abbrev PL(X:Cx)(ct:Ct)(e:Expr)(f:Sg->Res (List D)):Prop:=PE X e (Zv X ct f)
abbrev PM(X:Cx)(ct:Ct)(e:Expr)(f:Sg->Res M):Prop:=PE X e (XA X ct f)
abbrev PDT(X:Cx)(ct:Ct)(e:Expr)(f:Sg->Res Bool):Prop:=PT X e (ID X ct f)
abbrev PDW(X:Cx)(ct:Ct)(e:Expr)(f:Sg->Res Bool):Prop:=PW X e (ID X ct f)
abbrev P8(X:Cx)(ct:Ct)(es:List Expr)(f:Sg->Res (List D)):Prop:=PA X es (EB X ct f)
structure Bk(X:Cx)(c:Cf)(H':Hp):Prop where
 same:∀b o,X.H₀ b=some o->¬c.io b->H' b=some o
 free:∀b,H' b=none->X.H₀ b=none
def J.bk(j:Jx X ct Γ σ H):Bk X ct.f H:=⟨j.same,j.free⟩
def Fn(X:Cx)(c:Cf)(H:Hp)(o:Out)(E:Ends):Prop:=match o with
 | .nx Γ=>∀σ' H',aV c.cb H H'->Jx X c.z Γ σ' H'->E.nx σ' H'
 | .bk Γ=>∀σ' H',aV c.cb H H'->Jx X c.z Γ σ' H'->E.bk σ' H'
 | .ct Γ=>∀σ' H',aV c.cb H H'->Jx X c.z Γ σ' H'->E.ct σ' H'
 | .rt d=>∀v H',Bk X c H'->Tl X.K c.z H' d v->E.rt v H'
 | .xG m=>∀v H' S,Bk X c H'->Ow X.K c.z H' m v S->(∀b,S b->X.H₀ b=none)->(∀b,S b->H' b≠none)->E.rt v H'
 | .Ir d Γ=>∀v σ' H',Jx X c.z Γ σ' H'->Tl X.K c.z H' d v->E.rt v H'
 | .rW m Γ=>∀σ' H' (i:Nat) v,Jx X c.z Γ σ' H'->Γ[i]? =some (Slot.par m)->σ'[i]? =some (some v)->E.rt v H'
 | .err x Γ=>∀σ' H' e s',aV c.cb H H'->Jx X c.z Γ σ' H'->eF X c.cb σ' H' x e s'->X.xe e s'
 | .bad=>False
def Fn.mono{X:Cx}{c:Cf}{H H2:Hp}{o:Out}{E:Ends}(k:aV c.cb H H2)(h:Fn X c H o E):Fn X c H2 o E:=by
 cases o with
 |nx Γ=>exact λ σ' H' e=>h σ' H' (k.trans e)
 |bk Γ=>exact λ σ' H' e=>h σ' H' (k.trans e)
 |ct Γ=>exact λ σ' H' e=>h σ' H' (k.trans e)
 |rt d=>exact h
 |xG m=>exact h
 |Ir d Γ=>exact h
 |rW m Γ=>exact h
 |err x Γ=>exact λ σ' H' e s' q=>h σ' H' e s' (k.trans q)
 |bad=>exact h
def Vr(X:Cx)(c:Cf)(F:Sg->Out):TS:=λ E σ H=>∃Γ,Jx X c.z Γ σ H/\Fn X c H (F Γ) E
abbrev YE(X:Cx)(c:Cf)(st:Stmt)(F:Sg->Out):Prop:=PS X st (Vr X c F)
abbrev U6(X:Cx)(c:Cf)(sts:List Stmt)(F:Sg->Out):Prop:=zS X sts (Vr X c F)
structure WE(X:Cx)(e:Expr)(t:TE):Prop where
 out:PE X e t
structure WT(X:Cx)(e:Expr)(t:TT):Prop where
 out:PT X e t
structure WW(X:Cx)(e:Expr)(t:TT):Prop where
 out:PW X e t
structure WA(X:Cx)(es:List Expr)(t:TA):Prop where
 out:PA X es t
structure WS(X:Cx)(st:Stmt)(t:TS):Prop where
 out:PS X st t
structure WSs(X:Cx)(st:List Stmt)(t:TS):Prop where
 out:zS X st t
abbrev WD(X:Cx)(ct:Ct)(e:Expr)(f:Sg->Res D):Prop:=WE X e (nE X ct f)
abbrev WL(X:Cx)(ct:Ct)(e:Expr)(f:Sg->Res (List D)):Prop:=WE X e (Zv X ct f)
abbrev WM(X:Cx)(ct:Ct)(e:Expr)(f:Sg->Res M):Prop:=WE X e (XA X ct f)
abbrev A4(X:Cx)(ct:Ct)(e:Expr)(f:Sg->Res Bool):Prop:=WT X e (ID X ct f)
abbrev Wf(X:Cx)(ct:Ct)(e:Expr)(f:Sg->Res Bool):Prop:=WW X e (ID X ct f)
abbrev pN(X:Cx)(ct:Ct)(es:List Expr)(f:Sg->Res (List D)):Prop:=WA X es (EB X ct f)
abbrev sG(X:Cx)(c:Cf)(st:Stmt)(F:Sg->Out):Prop:=WS X st (Vr X c F)
abbrev oj(X:Cx)(c:Cf)(sts:List Stmt)(F:Sg->Out):Prop:=WSs X sts (Vr X c F)
def M5:WA X [] RV:=⟨qi⟩
def Be{e:Expr}(ha:WE X e te)(hr:WA X es t)(hs:starEach (e::es) X.env=(false,eval e X.env)::starEach es X.env:=by rfl):WA X (e::es) (Lu te t):=⟨iV ha.out hr.out hs⟩
section
variable{X:Cx}{ct:Ct}{a b e:Expr}{f g:Sg->Res D}{H:Hp}{Γ:Sg}{σ:St}{pos:Pos}
def PE.imp{t u:TE}(h:PE X e t)(k:∀σ H Q,u σ H Q->t σ H Q):PE X e u:=λ pins s σ H Q I q=>h pins s σ H Q I (k σ H Q q)
def PT.imp{t u:TT}(h:PT X e t)(k:∀σ H Q,u σ H Q->t σ H Q):PT X e u:=λ pins s σ H Q I q=>h pins s σ H Q I (k σ H Q q)
def PW.imp{t u:TT}(h:PW X e t)(k:∀σ H Q,u σ H Q->t σ H Q):PW X e u:=λ wh pins s σ H Q I q=>h wh pins s σ H Q I (k σ H Q q)
def PA.imp{es:List Expr}{t u:TA}(h:PA X es t)(k:∀σ H Q,u σ H Q->t σ H Q):PA X es u:=λ pos pins s σ H Q I q=>h pos pins s σ H Q I (k σ H Q q)
def PS.imp{st:Stmt}{t u:TS}(h:PS X st t)(k:∀E σ H,u E σ H->t E σ H):PS X st u:=λ pins s σ H E I q=>h pins s σ H E I (k E σ H q)
def zS.imp{st:List Stmt}{t u:TS}(h:zS X st t)(k:∀E σ H,u E σ H->t E σ H):zS X st u:=λ pins s σ H E I q=>h pins s σ H E I (k E σ H q)
theorem nE.bnd{β:Type}{r:D->Res β}{W:β->Prop}{Q:VK}(j:Jx X ct Γ σ H)(h:Ok X ct σ H ((f Γ).bnd r) W) (k:∀d v H',az H H'->Tl X.K ct H' d v->Jx X ct Γ σ H'->Ok X ct σ H (r d) W->Q v H'):nE X ct f σ H Q:=af Γ j (h.bnd λ d _ q v H' s t=>k d v H' s t (j.mono s) q)
theorem EB.bnd{fa:Sg->Res (List D)}{β:Type}{r:List D->Res β}{W:β->Prop}{Q:List V->Hp->Prop}(j:Jx X ct Γ σ H)(h:Ok X ct σ H ((fa Γ).bnd r) W) (k:∀d v H',az H H'->aK X.K ct H' d v->Jx X ct Γ σ H'->Ok X ct σ H (r d) W->Q v H'):EB X ct fa σ H Q:=af Γ j (h.bnd λ d _ q v H' s t=>k d v H' s t (j.mono s) q)
theorem ID.bnd{fa:Sg->Res Bool}{β:Type}{r:Bool->Res β}{W:β->Prop}{Q:Bool->Hp->Prop}(j:Jx X ct Γ σ H)(h:Ok X ct σ H ((fa Γ).bnd r) W) (k:∀d H',az H H'->Jx X ct Γ σ H'->Ok X ct σ H (r d) W->Q d H'):ID X ct fa σ H Q:=af Γ j (h.bnd λ d _ q H' s=>k d H' s (j.mono s) q)
def Wd.mono{H2:Hp}{Q:VK}{d:D}(s:az H H2)(h:Wd X ct H Q d):Wd X ct H2 Q d:=λ v H' e t=>h v H' (s.trans e) t
def Wt.mono{H2:Hp}{Q:Bool->Hp->Prop}{d:Bool}(s:az H H2)(h:Wt H Q d):Wt H2 Q d:=λ H' e=>h H' (s.trans e)
def aa(i:Nat)(hN:X.N[i]? =some x:=by rfl)(hv:Ic X.env.scope x:=by first|exact Or.inl rfl|exact Or.inr (Or.inl rfl)|exact Or.inr (Or.inr rfl))(hd:(x==("__debug__":Str))=false:=by decide)(hcd:(x==("__classdict__":Str))=false:=by decide):WD X ct (.Name x pos) (aj i):=by
 refine ⟨?_⟩;refine PE.imp (uI hN hv hd hcd) ?_;refine λ σ H Q=>ah λ Γ j h=>?_;unfold aj at h;split at h
 ·rename_i d hd';refine ah (λ v h1 h2=>?_) (j.val hd');exact af v h1 (h v H (az.refl H) h2)
 ·exact h.elim
def Bc(i:Nat)(tm:ct.tm=true:=by rfl)(hN:X.N[i]? =some x:=by rfl)(hv:Ic X.env.scope x:=by first|exact Or.inl rfl|exact Or.inr (Or.inl rfl)|exact Or.inr (Or.inr rfl))(hd:(x==("__debug__":Str))=false:=by decide)(hcd:(x==("__classdict__":Str))=false:=by decide):WD X ct (.Name x pos) (tP i):=by
 refine ⟨?_⟩;refine PE.imp (uI hN hv hd hcd) ?_;refine λ σ H Q=>ah λ Γ j h=>?_;unfold tP at h;split at h
 ·rename_i d hd';refine ah (λ v h1 h2=>?_) (j.val hd');exact af v h1 (h v H (az.refl H) h2)
 ·rename_i m hm;refine aN (λ v S h1 h2 h3 _=>?_) (j.own hm);exact af v h1 (h v H (az.refl H) (h2.lend λ b z=>h3.lent b z tm))
 ·rename_i m hm;refine aN (λ v S h1 h2 h3 _=>?_) (j.par hm);exact af v h1 (h v H (az.refl H) (h2.lend λ b z=>h3.lent b z tm))
 ·exact h.elim
def aE{i k pos}:WD X ct (.Constant (.int i) k pos) (dC (.int i)):=by exact ⟨PE.imp N5 λ σ H Q z_=>zR z_ λ Γ j h=>h _ H (az.refl H) (by simp[Tl])⟩
def xS{b k pos}:WD X ct (.Constant (.bool b) k pos) (dC (.bl b)):=by exact ⟨PE.imp SM λ σ H Q z_=>zR z_ λ Γ j h=>h _ H (az.refl H) (by simp[Tl])⟩
def EU{x k pos}:WD X ct (.Constant (.str x) k pos) (dC (.str x)):=by exact ⟨PE.imp N1 λ σ H Q z_=>zR z_ λ Γ j h=>h _ H (az.refl H) (by simp[Tl])⟩
def JP{d:D}{v:V}(hg:Gl X x)(hm:X.mg x=some u)(r:RelV v u)(t:∀H,Tl X.K ct H d v)(hd:(x==("__debug__":Str))=false:=by decide):PD X ct (.Name x pos) (dC d):=PE.imp (BK hg hm r hd) λ σ H Q z_=>zR z_ λ Γ j h=>h _ H (az.refl H) (t H)
def IF(X:Cx)(ct:Ct)(r2:R2)(r:D->D->Res D):Prop:=∀(σ:St) (H:Hp) (x y:V) (d1 d2:D) (Q:VK),az ct.f.L H->az ct.B H->Tl X.K ct H d1 x->Tl X.K ct H d2 y->Ok X ct σ H (r d1 d2) (Wd X ct H Q)->r2 x y H Q
def uL{r2:R2}{r:D->D->Res D}(ho:IF X ct r2 r):∀σ H Q,nE X ct (aO r f g) σ H Q->RT r2 (nE X ct f) (nE X ct g) σ H Q:=by refine λ σ H Q=>ah λ Γ j h=>?_;refine nE.bnd j h λ d1 v H1 s1 t1 j1 h1=>?_;refine nE.bnd (W:=Wd X ct H Q) j1 (Ok.mono s1 h1 λ _ z=>z) λ d2 u H2 s2 t2 j2 h2=>?_;exact ho σ H2 v u d1 d2 Q j2.lL j2.lB (t1.keep (az.keep s2)) t2 (Ok.mono s2 h2 λ d q=>q.mono (s1.trans s2))
def oN{r:D->D->Res D}(hr:kF X (binaryOp op) r2)(ho:IF X ct r2 r)(ha:PD X ct a f)(hb:PD X ct b g):PD X ct (.BinOp a op b pos) (aO r f g):=PE.imp (FT hr ha hb) (uL ho)
def N8{r:D->D->Res D}(hr:kF X (compareOp op) r2)(ho:IF X ct r2 r)(ha:PD X ct a f)(hb:PD X ct b g)(hm:behindInMarks op b=false):PD X ct (.Compare a [op] [b] pos) (aO r f g):=PE.imp (JL hr ha hb hm) (uL ho)
def E3{t:TE}(k:∀σ H Q,nE X ct f σ H Q->t σ H Q):∀σ H Q,ID X ct (dT f) σ H Q->Ls t σ H Q:=by
 refine λ σ H Q=>ah λ Γ j h=>?_;refine k σ H _ (nE.bnd j h λ d v H' s t j' h'=>?_);cases d with
 |bl b=>simp only[Tl] at t;exact af b t (h' H' s)
 |_=>exact h'.elim
def jY{r:D->D->Res D}(hr:kF X (compareOp op) r2)(ho:IF X ct r2 r)(ha:PD X ct a f)(hb:PD X ct b g)(hm:behindInMarks op b=false):PDT X ct (.Compare a [op] [b] pos) (dT (aO r f g)):=PT.imp (JA hr ha hb hm) (E3 (uL ho))
def uf(ha:WD X ct e f)(he:∀whole,isTrue e X.env whole=(do let v <-whole;standAt e.pos;holding [v] (truthy v)):=by intro _;rfl):A4 X ct e (dT f):=by
 have ha:=ha.out
 exact ⟨PT.imp (NK ha he) (E3 λ _ _ _ z=>z)⟩
variable{p q:Sg->Res Bool}{rest:List Expr}
def uc(ha:A4 X ct a p):Wf X ct (.BoolOp .Or [a] pos) p:=by have ha:=ha.out;exact ⟨NJ ha⟩
def ue(ha:A4 X ct a p)(hb:Wf X ct (.BoolOp .Or (b::rest) pos) q):Wf X ct (.BoolOp .Or (a::b::rest) pos) (Ro p q):=by
 have ha:=ha.out;have hb:=hb.out;refine ⟨?_⟩;refine PW.imp (SH ha hb) ?_;refine λ σ H Q=>ah λ Γ j h=>?_;refine ID.bnd j h λ c H' s j' h'=>?_;cases c with
 |true=>exact Kf (h' H' s)
 |false=>exact Kg (af Γ j' (Ok.mono s h' λ d z=>z.mono s))
def EO{e:Expr}(h:Wf X ct e p):A4 X ct e p:=by have h:=h.out;exact ⟨h.pt⟩
def ug(ha:A4 X ct a p):A4 X ct (.UnaryOp .Not a pos) (HJ p):=by have ha:=ha.out;refine ⟨?_⟩;refine PT.imp (NL ha) ?_;refine λ σ H Q=>ah λ Γ j h=>?_;exact ID.bnd j h λ c H' s j' h'=>h' H' s
def EV{op}(h:WD X ct a f):WD X ct (.BoolOp op [a] pos) f:=by have h:=h.out;exact ⟨N2 h⟩
def zX(ha:WD X ct a f)(hb:WD X ct (.BoolOp .And (b::rest) pos) g):WD X ct (.BoolOp .And (a::b::rest) pos) (Eg f g):=by
 have ha:=ha.out;have hb:=hb.out;refine ⟨?_⟩;refine PE.imp (N6 ha hb) ?_;refine λ σ H Q=>ah λ Γ j h=>?_;refine nE.bnd j h λ d v H' s t j' h'=>?_;cases d with
 |bl c=>
  simp only[Tl] at t;refine af c t ?_;cases c with
  |true=>exact Kf (af Γ j' (Ok.mono s h' λ d z=>z.mono s))
  |false=>exact Kg (h' _ H' s (by simp[Tl]))
 |_=>exact h'.elim
def MX(ha:WD X ct a f):WD X ct (.UnaryOp .Not a pos) (PJ f):=by
 have ha:=ha.out;refine ⟨?_⟩;refine PE.imp (N3 ha) ?_;refine λ σ H Q=>ah λ Γ j h=>?_;refine nE.bnd j h λ d v H' s t j' h'=>?_;cases d with
 |bl c=>simp only[Tl] at t;exact af c t (h' _ H' s (by simp[Tl]))
 |_=>exact h'.elim
def aA:pN X ct [] aL:=by exact ⟨PA.imp qi λ σ H Q z_=>zR z_ λ Γ j h=>h [] H (az.refl H) aK.nil⟩
def ai{r:Sg->Res (List D)}(ha:WD X ct e f)(hr:pN X ct es r)(hs:starEach (e::es) X.env=(false,eval e X.env)::starEach es X.env:=by rfl):pN X ct (e::es) (ay f r):=by have ha:=ha.out;have hr:=hr.out;refine ⟨?_⟩;refine PA.imp (iV ha hr hs) ?_;refine λ σ H Q=>ah λ Γ j h=>?_;refine nE.bnd j h λ d v H1 s1 t1 j1 h1=>?_;refine EB.bnd (W:=Wa X ct H Q) j1 (Ok.mono s1 h1 λ _ z=>z) λ ds vs H2 s2 t2 j2 h2=>?_;exact h2 _ H2 (s1.trans s2) (aK.cons (t1.keep (az.keep s2)) t2)
def bx{H:Hp}{p:Addr}(h:H p=none)(o:HO):az H (upd H p o):=λ b u q=>by rw[aB (bO q h)];exact q
def lC{r:Sg->Res (List D)}{x1}(h:pN X ct es r):WD X ct (.Tuple es x1 pos) (su r):=by
 have h:=h.out;refine ⟨?_⟩;refine PE.imp (FP h) ?_;refine λ σ H Q=>ah λ Γ j h=>?_;refine EB.bnd j h λ ds vs H1 s1 t1 j1 h1=>?_;split at h1
 ·rename_i hl;refine ⟨Nat.le_of_lt (jW (by rw[<-t1.length];exact hl)),λ p hp=>?_⟩;have s2:=bx hp (.tup vs);refine h1 _ _ (s1.trans s2) ?_;simp only[Tl];exact ao p vs rfl aI (t1.keep (az.keep s2))
 ·exact h1.elim
def fM{r:Sg->Res (List D)}(h:pN X ct es r):WL X ct (.List es pos) (kC r):=by
 have h:=h.out;refine ⟨?_⟩;refine PE.imp (N4 h) ?_;refine λ σ H Q=>ah λ Γ j h=>?_;refine EB.bnd j h λ ds vs H1 s1 t1 j1 h1=>?_;split at h1
 ·rename_i hl;refine ⟨Nat.le_of_lt (jW (by rw[<-t1.length];exact hl)),λ p hp=>?_⟩;have s2:=bx hp (.lst vs);exact h1 p vs _ (s1.trans s2) (s1.free hp) aI (t1.keep (az.keep s2))
 ·exact h1.elim
end
section
variable{P:Program}{w:World}
def jB(x:bQ P w H h a o):∃ob,h.get? a=some ob:=by
 cases o with
 |lst xs=>refine bS (λ _=>aQ λ _ _ _ e=>?_) x;exact ⟨_,e⟩
 |tup xs=>refine bS (λ _=>ah λ _ _=>ah λ ob e _=>?_) x;exact ⟨_,e⟩
 |dK kvs=>refine aW (λ _ _=>ah λ _ _=>bN λ o _ _ e _=>?_) x;exact ⟨_,e⟩
 |dT kvs=>refine aW (λ _ _=>ah λ _ _=>bN λ o _ _ e _=>?_) x;exact ⟨_,e⟩
 |set S n=>refine Ai (λ o _ _ _ e _=>?_) x;exact ⟨_,e⟩
 |ins C dx fs=>refine iT (λ _ _ _ e _=>?_) x;exact ⟨_,e⟩
 |own y=>obtain ⟨_,e⟩:=x;exact ⟨_,e⟩
 |xd fs=>revert x;refine ah λ _ z _=>?_;revert z;refine bN λ _ _ _ e _=>?_;exact ⟨_,e⟩
 |Vu lo hi=>refine qb (λ _ _ _ e=>?_) x;exact ⟨_,e⟩
 |jI ob u=>obtain ⟨e,_⟩:=x;exact ⟨_,e⟩
 |Jb ps=>exact ⟨_,(show h.get? a=some _ from x)⟩
 |met f y=>exact ⟨_,(show h.get? a=some _ from x)⟩
 |ext φ=>revert x;refine aW λ _ z _=>?_;obtain ⟨_,e⟩:=z;exact ⟨_,e⟩
 |Ei p q=>obtain ⟨_,e,_⟩:=x;exact ⟨_,e⟩
end
section
variable{X:Cx}{ct:Ct}{pins:List (Addr×Obj)}{σ:St}{H:Hp}{s:Shared}{a:Addr}{o o':HO}{vs:List V}
def Inv.Fo(I:Inv X pins σ H s)(ha:H a=some o)(h0:X.H₀ a=none)(nt:∀xs,o≠.tup xs)(no:∀y,o≠.own y)(nz:∀ob y,o≠.jI ob (.own y))(new:bQ X.prog X.w (upd H a o') s.heap a o'):Inv X pins σ (upd H a o') s:=by
 have ne:∀b,H b=none->b≠a:=λ b hb z=>by subst z;rw[ha] at hb;cases hb
 have Xu:∀b u,X.H₀ b=some u->b≠a:=λ b u hb z=>by subst z;rw[h0] at hb;cases hb
 refine ⟨I.ok,I.os,I.bare,⟨I.base.keep,I.base.slot,λ b u q n hx=>?_,I.base.there,λ b xs q=>?_,λ b u v q=>?_,λ b ps q=>?_⟩,I.loc,I.cell,?_,λ x c h=>?_,λ p hp=>?_,λ b u e=>?_,I.len⟩
 ·have:=I.base.free b u q n hx;rw[aB (ne b this)];exact this
 ·rw[aB (Xu b _ q)];exact I.base.tups b xs q
 ·rw[aB (Xu b _ q)];exact I.base.lR b u v q
 ·rw[aB (Xu b _ q)];exact I.base.mw b ps q
 ·rw[aB (ne _ I.free)];exact I.free
 ·rw[aB (ne _ (I.dX x c h))];exact I.dX x c h
 ·refine iT (λ h1 h2 h3 h4 h5=>?_) (I.pin p hp);exact lH h1 (by rw[aB (ne _ h2)];exact h2) h3 h4 h5
 ·by_cases hb:b=a
  ·subst hb;rw[aI] at e;cases e;exact new
  ·rw[aB hb] at e;refine (I.hok b u e).stay (λ c v _ q=>q) (λ c q=>?_) (λ c xs q=>?_) (λ c ob y q=>?_)
   ·have:c≠a:=by rintro rfl;rw[ha] at q;exact no _ (Option.some.inj q)
    rw[aB this];exact q
   ·have:c≠a:=by rintro rfl;rw[ha] at q;exact nt _ (Option.some.inj q)
    rw[aB this];exact q
   ·have:c≠a:=by rintro rfl;rw[ha] at q;exact nz _ _ (Option.some.inj q)
    rw[aB this];exact q
def Inv.freeze(I:Inv X pins σ H s)(ha:H a=some (.lst vs))(h0:X.H₀ a=none):∃ob,Inv X pins σ (upd H a (.jI ob (.lst vs))) s:=by refine bS (λ z=>aQ λ its n r e=>?_) (I.hok a _ ha);refine ⟨_,Inv.Fo I ha h0 (λ _ q=>nomatch q) (λ _ q=>nomatch q) (λ _ _ q=>nomatch q) (aS e z (aM its n r e))⟩
def Inv.uY{ks:Ks}{us:List V}(I:Inv X pins σ H s)(ha:H a=some (ks.ho us))(h0:X.H₀ a=none):∃ob,Inv X pins σ (upd H a (.jI ob (ks.ho us))) s:=by
 have q:=I.hok a _ ha;obtain ⟨ob,e⟩:=jB q;refine ⟨ob,Inv.Fo I ha h0 (λ _ q=>by cases ks<;>cases q) (λ _ q=>by cases ks<;>cases q) (λ _ _ q=>by cases ks<;>cases q) ⟨e,?_⟩⟩;refine q.stay (λ c v _ z=>z) (λ c z=>?_) (λ c xs z=>?_) (λ c ob2 y z=>?_)
 ·have:c≠a:=λ y=>by subst y;rw[ha] at z;cases ks<;>cases z
  rw[aB this];exact z
 ·have:c≠a:=λ y=>by subst y;rw[ha] at z;cases ks<;>cases z
  rw[aB this];exact z
 ·have:c≠a:=λ y=>by subst y;rw[ha] at z;cases ks<;>cases z
  rw[aB this];exact z
structure Fz(X:Cx)(ct:Ct)(pins:List (Addr×Obj))(σ:St)(s:Shared)(S:Fp)(H H':Hp):Prop where
 inv:Inv X pins σ H' s
 un:∀b o,H b=some o->¬S b->H' b=some o
 keep:aV ct.f.cb H H'
 free:∀b,H' b=none->H b=none
def Fz.step(z:Fz X ct pins σ s S H H1)(ha:H1 a=some o)(hs:S a)(no:¬P7 ct.f.cb o)(I:Inv X pins σ (upd H1 a o') s):Fz X ct pins σ s S H (upd H1 a o'):=by
 refine ⟨I,λ b u q n=>?_,z.keep.trans λ b u hb st=>?_,λ b q=>?_⟩
 ·have:b≠a:=by rintro rfl;exact n hs
  rw[aB this];exact z.un b u q n
 ·have:b≠a:=by rintro rfl;rw[ha] at hb;cases hb;exact no st
  rw[aB this];exact hb
 ·by_cases e:b=a
  ·subst e;rw[aI] at q;cases q
  ·rw[aB e] at q;exact z.free b q
mutual
theorem Inv.zb:∀{m:M} {v:V} {S:Fp} {H:Hp},qR m=true->Inv X pins σ H s->Ow X.K ct H m v S->(∀b,S b->X.H₀ b=none)->∃H',Fz X ct pins σ s S H H'/\Tl X.K ct H' (L4.zb m) v
 | .d x,v,S,H,fo,I,h,_=>by simp only[Ow] at h;exact af H ⟨I,λ _ _ q _=>q,aV.refl H,λ _ q=>q⟩ (by simpa only[L4.zb] using h)
 | .l xs,v,S,H,fo,I,h,n=>by
  simp only[Ow] at h
  revert h;refine aN λ a vs y h2 h3 h4=>?_;subst y
  obtain ⟨ob,I2⟩:=Inv.freeze I h3 (n a h2);have z:Fz X ct pins σ s S H H:=⟨I,λ _ _ q _=>q,aV.refl H,λ _ q=>q⟩;have z2:=z.step h3 h2 (λ q=>q) I2;refine af _ z2 ?_;simp only[L4.zb,Tl];exact ao a vs rfl (.inl ⟨ob,aI⟩) (h4.keep z2.keep)
 | .n ms,v,S,H,fo,I,h,n=>by
  simp only[Ow] at h
  revert h;refine aN λ a vs y h2 h3 h4=>?_;subst y
  refine ah (λ H1 z1 t1=>?_) (Inv.mY (by simpa[qR] using fo) I h4 λ b w=>n b w.1);have h3':=z1.un a _ h3 λ w=>w.2 rfl;obtain ⟨ob,I2⟩:=Inv.freeze z1.inv h3' (n a h2);have z2:Fz X ct pins σ s S H H1:=⟨z1.inv,λ b o q w=>z1.un b o q λ u=>w u.1,z1.keep,z1.free⟩;have z3:=z2.step h3' h2 (λ q=>q) I2;refine af _ z3 ?_;simp only[L4.zb,Tl];exact ao a vs rfl (.inl ⟨ob,aI⟩) (t1.keep (aV.lst h3'))
 | .t ms,v,S,H,fo,I,h,n=>by
  simp only[Ow] at h
  revert h;refine ak λ a vs y h2 h3=>?_;subst y
  refine ah (λ H1 z1 t1=>?_) (Inv.mY (by simpa[qR] using fo) I h3 n);refine af H1 z1 ?_;simp only[L4.zb,Tl];exact ao a vs rfl (z1.keep _ _ h2 trivial) t1
 | .k ks xs,v,S,H,fo,I,h,n=>by
  simp only[Ow] at h
  revert h;refine cC λ a vs y h2 h3 h4 h5=>?_;subst y
  obtain ⟨ob,I2⟩:=Inv.uY I h3 (n a h2);have z:Fz X ct pins σ s S H H:=⟨I,λ _ _ q _=>q,aV.refl H,λ _ q=>q⟩;have z2:=z.step h3 h2 Ks.mQ I2;refine af _ z2 ?_;simp only[L4.zb,Tl];exact bg a vs rfl ⟨ob,aI⟩ h4 (h5.keep z2.keep)
 | .o c ns xs,v,S,H,fo,I,h,n=>by simp[qR] at fo
 | .q ks ms,v,S,H,fo,I,h,n=>by
  simp only[Ow] at h
  revert h;refine cC λ a vs y h2 h3 h4 h5=>?_;subst y
  refine ah (λ H1 z1 t1=>?_) (Inv.mY (by simpa[qR] using fo) I h5 λ b w=>n b w.1);have h3':=z1.un a _ h3 λ w=>w.2 rfl;obtain ⟨ob,I2⟩:=Inv.uY z1.inv h3' (n a h2);have z2:Fz X ct pins σ s S H H1:=⟨z1.inv,λ b o q w=>z1.un b o q λ u=>w u.1,z1.keep,z1.free⟩;have z3:=z2.step h3' h2 Ks.mQ I2;refine af _ z3 ?_;simp only[L4.zb,Tl];exact bg a vs rfl ⟨ob,aI⟩ h4 (t1.keep (λ b u hb st=>by
   have:b≠a:=by rintro rfl;rw[h3'] at hb;cases hb;exact Ks.mQ st
   rw[aB this];exact hb))
theorem Inv.mY:∀{ms:List M} {vs:List V} {S:Fp} {H:Hp},mX ms=true->Inv X pins σ H s->bP X.K ct H ms vs S->(∀b,S b->X.H₀ b=none)->∃H',Fz X ct pins σ s S H H'/\aK X.K ct H' (L4.mY ms) vs
 |[],vs,S,H,fo,I,h,_=>by simp only[bP] at h;exact af H ⟨I,λ _ _ q _=>q,aV.refl H,λ _ q=>q⟩ (by simpa only[L4.mY,aK] using h)
 |m::ms,vs,S,H,fo,I,h,n=>by
  simp only[bP] at h
  revert h;refine cz λ v r S1 S2 z h2 h3 h4 h5 h6=>?_;subst z
  refine ah (λ H1 z1 t1=>?_) (Inv.zb (Bool.and_eq_true_iff.mp (by simpa[mX] using fo)).1 I h5 λ b w=>n b (h2 b w));have Yb:=h6.frame z1.keep λ b o w q=>z1.un b o q λ u=>h4 b u w;refine ah (λ H2 z2 t2=>?_) (Inv.mY (Bool.and_eq_true_iff.mp (by simpa[mX] using fo)).2 z1.inv Yb λ b w=>n b (h3 b w));refine af H2 ⟨z2.inv,λ b o q w=>z2.un b o (z1.un b o q λ u=>w (h2 b u)) λ u=>w (h3 b u),z1.keep.trans z2.keep,λ b q=>z1.free b (z2.free b q)⟩ ?_;simp only[L4.mY,aK];exact ao v r rfl (t1.keep z2.keep) t2
end
def yo{e:Expr}(h:PL X ct e f):PM X ct e (mL f):=by
 refine PE.imp h λ σ H Q z_=>zR z_ λ Γ j q=>af Γ j (q.bnd λ ds _ w a vs H' s n k t=>?_);refine w (.ref a) H' (λ b=>b=a) s ?_ (λ b z=>z▸n) λ b z q=>by subst z;rw[k] at q;cases q
 simp only[Ow];exact bg a vs rfl rfl k t
def dZ{e:Expr}(h:WL X ct e f):WM X ct e (mL f):=⟨yo (h:=h.out)⟩
def yp{e:Expr}(h:PD X ct e f):PM X ct e (mD f):=by refine PE.imp h λ σ H Q z_=>zR z_ λ Γ j q=>af Γ j (q.bnd λ d _ w v H' s t=>?_);exact w v H' (λ _=>False) s (by simpa only[Ow] using t) (λ _ z=>z.elim) λ _ z=>z.elim
def mO{e:Expr}(h:PM X ct e f):PD X ct e (zv f):=by
 refine λ pins s σ H Q I=>ah λ Γ j q=>?_;have t:XA X ct f σ H (λ v H'=>∃m S,az H H'/\Ow X.K ct H' m v S/\(∀b,S b->H b=none)/\qR m=true/\Wd X ct H Q (zb m)):=
  af Γ j (q.bnd λ m _ w v H' S s o n k=>by
   unfold uX at w;split at w
   ·rename_i fo;exact bG m S s o n fo w
   ·exact w.elim)
 refine dN (h pins s σ H _ I t) ?_;refine λ v s1=>ak λ x H1 I1 r1=>cC λ m S e1 o n fo w=>?_;refine ah (λ H2 z t2=>?_) (Inv.zb fo I1 o λ b u=>j.free b (n b u));exact ao x H2 z.inv r1 (w x H2 (λ b u q=>z.un b u (e1 b u q) λ y=>by rw[n b y] at q;cases q) t2)
def bH{e:Expr}(h:WL X ct e f):WD X ct e (kX f):=by
 have h:=h.out;refine ⟨?_⟩;have e':kX f=zv (mL f):=funext λ Γ=>by simp only[kX,zv,mL];cases f Γ<;>rfl
 rw[e'];exact mO (yo h)
end
section
variable{X:Cx}{c:Cf}{st:Stmt}{rest:List Stmt}{F G:Sg->Out}{e:Expr}{f:Sg->Res D}{fl:Sg->Res M}{p:Sg->Res Bool}{pos:Pos}{H:Hp}{Γ:Sg}{σ:St}
theorem Fn.ok{α:Type}{B:Hp}{tm:Bool}{r:Res α}{k:α->Out}{E:Ends}{W:α->Prop}(j:Jx X c.z Γ σ H)(h:Fn X c H (oE r Γ k) E)(w:∀d,r= .ok d->Fn X c H (k d) E->W d):Ok X ⟨c,B,tm⟩ σ H r W:=by
 cases r with
 |ok d=>exact w d rfl h
 |err x=>exact λ e s' q=>h σ H e s' (aV.refl H) j q
 |bad=>exact h.elim
def bM:oj X c [] fC:=by exact ⟨zS.imp JC λ E σ H z_=>zR z_ λ Γ j h=>h σ H (aV.refl H) j⟩
def aq(h1:sG X c st F)(h2:oj X c rest G):oj X c (st::rest) (aY F G):=by
 have h1:=h1.out;have h2:=h2.out;refine ⟨?_⟩;refine zS.imp (Fq h1 h2) λ E σ H z_=>zR z_ λ Γ j h=>af Γ j ?_;unfold aY at h;cases q:F Γ with
 |nx Γ'=>rw[q] at h;exact λ σ' H' k j'=>af Γ' j' (h.mono k)
 |bk Γ'=>rw[q] at h;exact h
 |ct Γ'=>rw[q] at h;exact h
 |rt d=>rw[q] at h;exact h
 |xG ds=>rw[q] at h;exact h
 |Ir d Γ'=>rw[q] at h;exact h
 |rW d Γ'=>rw[q] at h;exact h
 |err x Γ'=>rw[q] at h;exact h
 |bad=>rw[q] at h;exact h
def aF(h1:sG X c st F):oj X c [st] F:=by have h1:=h1.out;exact ⟨JB h1⟩
def bB(he:WD X c.z e f):sG X c (.Return (some e) pos) (gw f):=by have he:=he.out;exact ⟨PS.imp (Ao he) λ E σ H z_=>zR z_ λ Γ j h=>af Γ j (Fn.ok j h λ d _ q v H' s t=>q v H' (j.mono s).bk t)⟩
def jt(he:∀B,WM X (c.at' B) e fl):sG X c (.Return (some e) pos) (p6 fl):=by
 have he:=λ B=>(he B).out;refine ⟨?_⟩;refine λ pins s σ H E I=>ah λ Γ j h=>?_;refine Ao (he H) pins s σ H E I (af Γ j.lift (Fn.ok j h λ m _ q v H' S s o n k=>?_));split at q
 ·rename_i nn;exact q v H' S (j.mono s).bk (o.down nn) (λ b z=>j.free b (n b z)) k
 ·exact q.elim
def pQ(i:Nat)(hN:X.N[i]? =some x:=by rfl)(hv:Ic X.env.scope x:=by first|exact Or.inl rfl|exact Or.inr (Or.inl rfl)|exact Or.inr (Or.inr rfl))(hd:(x==("__debug__":Str))=false:=by decide)(hcd:(x==("__classdict__":Str))=false:=by decide):sG X c (.Return (some (.Name x pos')) pos) (oK i):=by
 refine ⟨?_⟩;refine PS.imp (Ao (uI hN hv hd hcd)) ?_;refine λ E σ H=>ah λ Γ j h=>?_;unfold oK at h;split at h
 ·rename_i m hi;refine aN (λ v S h1 h2 h3 h4=>?_) (j.own hi);exact af _ h1 (h v H S j.bk h2 h4 h3.here)
 ·rename_i d hi;refine ah (λ v h1 h2=>?_) (j.val hi);exact af _ h1 (h v H j.bk h2)
 ·exact h.elim
def aP(i:Nat)(hN:X.N.Nodup)(he:WD X c.z e f)(hi:X.N[i]? =some x:=by rfl)(hx:Loc X.env.scope x:=by first|exact Or.inl rfl|exact Or.inr rfl)(hs:swapsWith e (some (.Name x pos')) pos.line X.env=pure false:=by rfl)(hf:X.fn x=true\/X.env.scope.names.lookup x=some .local:=by first|exact .inl rfl|exact .inr rfl):sG X c (.Assign [.Name x pos'] e pos) (bI i f):=by have he:=he.out;exact ⟨PS.imp (Fv hN hi hx he hs hf) λ E σ H z_=>zR z_ λ Γ j h=>af Γ j (Fn.ok j h λ d _ q v H' s t=>q _ H' (az.keep s) ((j.mono s).set t))⟩
def jq(i:Nat)(hN:X.N.Nodup)(he:∀B,WM X (c.at' B) e fl)(hi:X.N[i]? =some x:=by rfl)(hx:Loc X.env.scope x:=by first|exact Or.inl rfl|exact Or.inr rfl)(hs:swapsWith e (some (.Name x pos')) pos.line X.env=pure false:=by rfl)(hf:X.fn x=true\/X.env.scope.names.lookup x=some .local:=by first|exact .inl rfl|exact .inr rfl):sG X c (.Assign [.Name x pos'] e pos) (kL i fl):=by
 have he:=λ B=>(he B).out;refine ⟨?_⟩;refine λ pins s σ H E I=>ah λ Γ j h=>?_;refine Fv hN hi hx (he H) hs hf pins s σ H E I (af Γ j.lift (Fn.ok j h λ m _ q v H' S s o n k=>?_));split at q
 ·rename_i nn;exact q _ H' (az.keep s) (j.setM s rfl (o.down nn) n k)
 ·exact q.elim
end
section
variable{X:Cx}{ct:Ct}{tg:Expr}{H:Hp}{Γ:Sg}{σ:St}{pos:Pos}
def ZR(X:Cx)(ct:Ct)(t:Tg):TG:=λ v σ H Q=>∃Γ d Γ',Jx X ct Γ σ H/\Tl X.K ct H d v/\t d Γ=some Γ'/\∀σ',Jx X ct Γ' σ' H->Q σ' H
def Ub(X:Cx)(ct:Ct)(t:Ie):Ld:=λ vs σ H Q=>∃Γ ds Γ',Jx X ct Γ σ H/\aK X.K ct H ds vs/\t ds Γ=some Γ'/\∀σ',Jx X ct Γ' σ' H->Q σ' H
def PG.imp{t u:TG}(h:PG X tg t)(k:∀v σ H Q,u v σ H Q->t v σ H Q):PG X tg u:=λ pins s σ H v w Q I r q=>h pins s σ H v w Q I r (k v σ H Q q)
def Ij.imp{es:List Expr}{t u:Ld}(h:Ij X es t)(k:∀v σ H Q,u v σ H Q->t v σ H Q):Ij X es u:=λ pins s σ H v w Q I r q=>h pins s σ H v w Q I r (k v σ H Q q)
abbrev Wh(X:Cx)(ct:Ct)(tg:Expr)(t:Tg):Prop:=PG X tg (ZR X ct t)
abbrev ab9(X:Cx)(ct:Ct)(tg:List Expr)(t:Ie):Prop:=Ij X tg (Ub X ct t)
structure WG(X:Cx)(tg:Expr)(t:TG):Prop where
 out:PG X tg t
structure WGs(X:Cx)(tg:List Expr)(t:Ld):Prop where
 out:Ij X tg t
abbrev P1(X:Cx)(ct:Ct)(tg:Expr)(t:Tg):Prop:=WG X tg (ZR X ct t)
abbrev Lb(X:Cx)(ct:Ct)(tg:List Expr)(t:Ie):Prop:=WGs X tg (Ub X ct t)
def aR(i:Nat)(hN:X.N.Nodup)(hi:X.N[i]? =some x:=by rfl)(hx:Loc X.env.scope x:=by first|exact Or.inl rfl|exact Or.inr rfl)(hf:X.fn x=true\/X.env.scope.names.lookup x=some .local:=by first|exact .inl rfl|exact .inr rfl):P1 X ct (.Name x pos) (aG i):=by refine ⟨?_⟩;refine PG.imp (JJ hN hi hx hf) ?_;refine λ v σ H Q=>nQ λ Γ d Γ' j t e q=>?_;cases e;exact q _ (j.set t)
def gr:Lb X ct [] eN:=by
 refine ⟨?_⟩;refine Ij.imp JI ?_;refine λ vs σ H Q=>nQ λ Γ ds Γ' j t e q=>?_;cases ds with
 |nil=>simp only[aK] at t;cases e;exact ⟨t,q _ j⟩
 |cons d r=>cases e
def bF{e:Expr}(h1:P1 X ct e t)(h2:Lb X ct es u)(hs:(assignEach (e::es) X.env).map (·.2)=assign e X.env::(assignEach es X.env).map (·.2):=by rfl):Lb X ct (e::es) (aZ t u):=by
 have h1:=h1.out;have h2:=h2.out;refine ⟨?_⟩;refine Ij.imp (FO h1 h2 hs) ?_;refine λ vs σ H Q=>nQ λ Γ ds Γ' j tl e q=>?_;cases ds with
 |nil=>cases e
 |cons d r=>
  simp only[aK] at tl
  revert tl;refine ak λ v vr z t1 t2=>?_;subst z
  simp only[aZ,Option.bind_eq_some_iff] at e
  revert e;refine ah λ Γ1 e1 e2=>?_
  exact aM v vr rfl (g7 Γ d Γ1 j t1 e1 (λ σ' j'=>g7 Γ1 r Γ' j' t2 e2 q))
def iP(hc:X.calm=true)(h:Lb X ct es t)(hn:(assignEach es X.env).length=n:=by rfl)(hst:(assignEach es X.env).findIdx? (·.1)=none:=by rfl):P1 X ct (.Tuple es k pos) (dU n t):=by
 have h:=h.out;refine ⟨?_⟩;refine PG.imp (NY hc h hn hst) ?_;refine λ v σ H Q=>nQ λ Γ d Γ' j tl e q=>?_;cases d with
 |tup ds=>
  simp only[Tl] at tl
  revert tl;refine ak λ a vs z h1 h2=>?_;subst z
  simp only[dU] at e;split at e
  ·rename_i hl;exact bg a vs rfl (kG h1) (by rw[<-h2.length];exact hl) (g7 Γ ds Γ' j h2 e q)
  ·cases e
 |_=>cases e
def IT{c:Cf}(i j:Nat){x y:Str}{a b:Expr}{r:Sg->Res (List D)}{px py pt:Pos}{kt k2 NO}(hc:X.calm=true)(hN:X.N.Nodup)(ha:pN X c.z [a,b] r)(hi:X.N[i]? =some x:=by rfl)(hj:X.N[j]? =some y:=by rfl)(hij:i≠j:=by decide)(hx:X.env.scope.names.lookup x=some .local:=by rfl)(hy:X.env.scope.names.lookup y=some .local:=by rfl)(hw:swappedStores [.Tuple [.Name x px,.Name y py] kt pt] (.Tuple [a,b] k2 NO) X.env=pure (some [x,y]):=by rfl)(hs:swapsWithSole [.Tuple [.Name x px,.Name y py] kt pt] (.Tuple [a,b] k2 NO) pos.line X.env=pure false:=by rfl):sG X c (.Assign [.Tuple [.Name x px,.Name y py] kt pt] (.Tuple [a,b] k2 NO) pos) (Ny i j r):=by
 have ha:=ha.out;refine ⟨?_⟩;refine PS.imp (NP hc hN hi hj hij hx hy ha hw hs) λ E σ H z_=>zR z_ λ Γ j h=>af Γ j (Fn.ok j h λ ds _ q vs H' s tl=>?_);match ds,q,tl with
 |[d1,d2],q,tl=>
  simp only[aK] at tl
  revert tl;refine ak λ v1 r1 z t1=>ak λ v2 r2 w t2 u=>?_;subst z;subst w;subst u
  exact aM v1 v2 rfl (q _ H' (az.keep s) (((j.mono s).set t1).set t2))
 |[],q,_=>exact q.elim
 |[_],q,_=>exact q.elim
 |_::_::_::_,q,_=>exact q.elim
end
structure Good(X:Cx):Prop where
 po:PassesOwn (model X.prog X.w) X.A X.env X.xe
 calm:X.calm=true
 nd:X.N.Nodup
 own:X.stack=X.env::X.outer/\X.env.frame=some X.env.locals
section
variable{X:Cx}{c:Cf}{tg iter:Expr}{f:Sg->Res D}{t:Tg}{B:Sg->Out}{body:List Stmt}{pos:Pos}
def Ja{d:D}(k1:aV c.cb H' H1)(e1:t d Γ1=some Γ2)(hx:cS t B (d::xs) Γ1=o)(h:Fn X c H' o E)(hn:∀Γ3 σ3 H3,aV c.cb H' H3->Jx X c.z Γ3 σ3 H3->cS t B xs Γ3=o->Pn σ3 H3):Fn X c H1 (B Γ2) {E with nx:=Pn,ct:=Pn,bk:=E.nx}:=by
 simp only[cS,e1] at hx;cases q:B Γ2 with
 |nx Γ3=>rw[q] at hx;exact λ σ3 H3 k3 j3=>hn Γ3 σ3 H3 (k1.trans k3) j3 hx
 |ct Γ3=>rw[q] at hx;exact λ σ3 H3 k3 j3=>hn Γ3 σ3 H3 (k1.trans k3) j3 hx
 |bk Γ3=>rw[q] at hx;subst hx;exact λ σ3 H3 k3 j3=>h σ3 H3 (k1.trans k3) j3
 |rt d=>rw[q] at hx;subst hx;exact h
 |xG d=>rw[q] at hx;subst hx;exact h
 |Ir d Γ3=>rw[q] at hx;subst hx;exact h
 |rW d Γ3=>rw[q] at hx;subst hx;exact h
 |err x Γ3=>rw[q] at hx;subst hx;exact λ σ3 H3 e s' k3 j3 r=>h σ3 H3 e s' (k1.trans k3) j3 r
 |bad=>rw[q] at hx;subst hx;exact h
def JW{d:D}(e:t d Γ1=none)(hx:cS t B (d::xs) Γ1=o)(h:Fn X c H' o E):False:=by simp only[cS,e] at hx;subst hx;exact h
end
section
variable{X:Cx}{c:Cf}{e:Expr}{f:Sg->Res D}{fm:Sg->Res M}{p:Sg->Res Bool}
end
def W4(K:W.Frag)(cb:Cb)(n:Nat)(F:List Slot->dh):Sp:=λ vs H Q E=>vs.length=n/\∃(c:Cf) (as:List Slot),c.cb=cb/\c.args=vs/\J K c.z H as (vs.map some) H/\match F as with
 | .ok d=>∀v H',(∀b o,H b=some o->¬c.io b->H' b=some o)->(∀b,H' b=none->H b=none)->Tl K c.z H' d v->Q v H'
 | .new m=>∀v H' S,(∀b o,H b=some o->¬c.io b->H' b=some o)->(∀b,H' b=none->H b=none)->Ow K c.z H' m v S->(∀b,S b->H b=none)->(∀b,S b->H' b≠none)->Q v H'
 | .QX d os=>∀v Γ' σ' H',J K c.z H Γ' σ' H'->nT 0 Γ'=os->Tl K c.z H' d v->Q v H'
 | .Gn m os=>∀Γ' σ' H' (i:Nat) v,J K c.z H Γ' σ' H'->nT 0 Γ'=os->Γ'[i]? =some (Slot.par m)->σ'[i]? =some (some v)->Q v H'
 | .err x=>∀C H',cb.exc x=some C->(∀b o,H b=some o->¬c.io b->H' b=some o)->E (.ref C) none H'
 | .bad=>False
abbrev jn(P:Program)(w:World)(K:W.Frag)(mg:Str->Option Value)(base:Heap)(cb:Cb)(k:Nat)(f:Addr)(fd:FuncData)(ps:List Str)(F:List Slot->dh):Prop:=Qg P w K mg base (A8 P w) k f fd ps (W4 K cb ps.length F)
abbrev gg(cb:Cb)(L:Hp)(vs:List V):Cf:=⟨cb,L,λ _=>False,vs⟩
def GZ{K:W.Frag}{cb:Cb}{L H:Hp}{ds:List D}{vs:List V}(l:az L H)(lx:az cb.xt L)(t:aK K (gg cb L vs).z H ds vs):J K (gg cb L vs).z H (ds.map Slot.val) (vs.map some) H:=by
 refine ⟨λ _ _ q _=>q,λ _ q=>q,l,λ _ _ q=>(nomatch q),lx,by simp[t.length],λ _ _=>False,λ i sl ov h1 h2=>?_,λ _ _ _ _ z=>z.elim,λ _ _ z=>z.elim⟩;rw[List.getElem?_map] at h1 h2;cases q:ds[i]? with
 |none=>rw[q] at h1;cases h1
 |some d=>refine ah (λ v e1 e2=>?_) (t.get q);rw[q] at h1;rw[e1] at h2;cases h1;cases h2;exact ⟨af v rfl e2,λ _ z=>z⟩
section
variable{X:Cx}{cb:Cb}{k:Nat}{f C:Addr}{fd:FuncData}{ps:List Str}{F:List Slot->dh}{x:Str}{p pos apos:Pos}{e o:Expr}{es:List Expr}{fa:Sg->Res (List D)}
def MO(X:Cx)(c:Cf)(σ:St)(H:Hp)(a:dh)(Q:VK):Prop:=match a with
 | .ok d=>∀v H',az H H'->Tl X.K c.z H' d v->Q v H'
 | .new m=>∀v H' S,az H H'->Ow X.K c.z H' m v S->(∀b,S b->H b=none)->(∀b,S b->H' b≠none)->Q v H'
 | .err x=>∀e s',eF X c.cb σ H x e s'->X.xe e s'
 |_=>False
def Jl{s:Shared}{Q:VK}(G:jn X.prog X.w X.K X.mg X.base cb k f fd ps F)(hr:dw k X.A)(hb:Binds X.K fd ps [])(I:Inv X pins σ H s)(r:Vals vs us)(l:az L H)(lx:az cb.xt L)(t:aK X.K (gg cb L vs).z H ds vs)(hn:vs.length=ps.length)(h:MO X (gg cb L vs) σ H (F (ds.map .val)) Q):wpAny (model X.prog X.w) X.A (call (.ref f) us) (EP X pins σ Q) X.xe s:=by
 have hl:us.length=ps.length:=by rw[<-r.length];exact hn
 have hb':=hb s us I.DY (by rw[List.append_nil];exact hl);rw[List.append_nil] at hb';let E:XK:=λ cls od H'=>∃x C,F (ds.map .val)= .err x/\cb.exc x=some C/\cls= .ref C/\od=none/\az H H'
 have Ey:W4 X.K cb ps.length F vs H Q E:=by
  refine ⟨hn,bg (gg cb L vs) (ds.map .val) rfl rfl (GZ l lx t) ?_⟩;cases q:F (ds.map .val) with
  |ok d=>rw[q] at h;exact λ v H' s _ t=>h v H' (λ b o z=>s b o z λ w=>w) t
  |new m=>rw[q] at h;exact λ v H' S s _ o n k=>h v H' S (λ b o z=>s b o z λ w=>w) o n k
  |QX d os=>rw[q] at h;exact h.elim
  |Gn d os=>rw[q] at h;exact h.elim
  |err x=>exact λ C H' e s=>bG x C q e rfl rfl (λ b o z=>s b o z λ w=>w)
  |bad=>rw[q] at h;exact h
 refine wpAny_call (codeAny_mono (G.run X.A X.stack s H ⟨us,[]⟩ us vs Q E hr I.Yr hb' r Ey) λ r s' hq=>?_);cases r with
 |error e=>obtain ⟨a,C,H',B,a0,h1,⟨x,C',q1,q2,q3,q4,q5⟩,h3,h4,h5,h6,Yb,h7⟩:=hq;rw[q1] at h;cases q3;exact h e s' (Al pins H s C I (az.refl H) q2 (.inr (Ak a C H' B a0 h1 (aS rfl rfl q5) h3 h4 h5 h6 Yb h7)))
 |ok fl=>
  cases fl with
  |ret u=>exact I.after hq
  |next=>exact False.elim hq
  |brk=>exact False.elim hq
  |cont=>exact False.elim hq
structure Dh(ct:Ct)(md:List D->Option (List D))(bk:D->Bool)(A0:M->Bool):Prop where
 go:∀K H ds vs ds',az ct.f.L H->az ct.B H->aK K ct H ds vs->md ds=some ds'->∃L,az L H/\az ct.f.L L/\aK K (gg ct.f.cb L vs).z H ds' vs/\
  (∀H' d v,bk d=true->Tl K (gg ct.f.cb L vs).z H' d v->Tl K ct H' d v)/\∀H' m v S,A0 m=true->Ow K (gg ct.f.cb L vs).z H' m v S->Ow K ct H' m v S
def uq{K:W.Frag}{ct c9:Ct}{H:Hp}(e:c9.f.cb=ct.f.cb)(l:∀t a o,ct.lo t a=some o->c9.lo t a=some o){d:D}{v:V}(h:Tl K ct H d v):Tl K c9 H d v:=by have:=Tl.re (ct:=ct) (c9:=c9) (p:=λ _=>true) (g:=id) ⟨e,λ t a o _ q=>l t a o q⟩ (uP d) h;rwa [p7] at this
def pU{K:W.Frag}{ct c9:Ct}{H:Hp}(e:c9.f.cb=ct.f.cb)(l:∀t a o,ct.lo t a=some o->c9.lo t a=some o){d:List D}{v:List V}(h:aK K ct H d v):aK K c9 H d v:=by have:=aK.re (ct:=ct) (c9:=c9) (p:=λ _=>true) (g:=id) ⟨e,λ t a o _ q=>l t a o q⟩ (jz d) h;rwa [jX] at this
def BN{K:W.Frag}{ct c9:Ct}{H:Hp}(e:c9.f.cb=ct.f.cb)(l:∀t a o,ct.lo t a=some o->c9.lo t a=some o){m:M}{v:V}{S:Fp}(h:Ow K ct H m v S):Ow K c9 H m v S:=Ow.map (p:=λ _=>true) e (λ _ _ _=>uq e l) (q:=λ _=>true) (λ _ _ _=>pU e l) (pm:=λ _=>true) (zQ:=λ _=>true) (λ _ _=>rfl) (λ _ _=>rfl) (λ _ _=>rfl) (λ _ _=>rfl) (λ _ _ _=>rfl) (λ _ _ _ _=>rfl) (λ _ _ _=>rfl) (λ _ _ _=>⟨rfl,rfl⟩) rfl h
def yM(c:Cf):Dh c.z some (λ _=>true) (λ _=>true):=⟨λ K H ds vs ds' l b t e=>by
 cases e;have q:∀t a o,c.z.lo t a=some o->(gg c.cb c.L vs).z.lo t a=some o:=λ t a o z=>by cases t<;>exact z
 have q':∀t a o,(gg c.cb c.L vs).z.lo t a=some o->c.z.lo t a=some o:=λ t a o z=>by cases t<;>exact z
 exact Am c.L l (az.refl _) (pU (ct:=c.z) (c9:=(gg c.cb c.L vs).z) rfl q t) (λ H' d v _ t=>uq (ct:=(gg c.cb c.L vs).z) (c9:=c.z) rfl q' t) (λ H' m v S _ t=>BN (ct:=(gg c.cb c.L vs).z) (c9:=c.z) rfl q' t)⟩
def BX(ct:Ct):Dh ct (λ ds=>if gm ds=true then some ds else none) (λ _=>true) (λ _=>true):=⟨λ K H ds vs ds' l b t e=>by
 split at e
 ·rename_i n;cases e;have q:∀t a o,ct.f.z.lo t a=some o->(gg ct.f.cb ct.f.L vs).z.lo t a=some o:=λ t a o z=>by cases t<;>exact z
  have q':∀t a o,(gg ct.f.cb ct.f.L vs).z.lo t a=some o->ct.lo t a=some o:=λ t a o z=>by
   cases t with
   |true=>cases z
   |false=>exact z
  obtain ⟨cf,B,tm⟩:=ct;exact Am cf.L l (az.refl _) (pU (ct:=cf.z) (c9:=(gg cf.cb cf.L vs).z) rfl q (aK.down t n)) (λ H' d v _ t=>uq (ct:=(gg cf.cb cf.L vs).z) (c9:=⟨cf,B,tm⟩) rfl q' t) (λ H' m v S _ t=>BN (ct:=(gg cf.cb cf.L vs).z) (c9:=⟨cf,B,tm⟩) rfl q' t)
 ·cases e⟩
def J5(ct:Ct):Dh ct (λ ds=>some (sj ds)) nb Av:=⟨λ K H ds vs ds' l b t e=>by cases e;exact Am H (az.refl H) l (t.lent rfl rfl l b) (λ H' d v n t=>Tl.bare (ct:=(gg ct.f.cb H vs).z) (c9:=ct) rfl t n) (λ H' m v S n t=>Ow.bare (ct:=(gg ct.f.cb H vs).z) (c9:=ct) rfl t n)⟩
def Qk(X:Cx)(ct:Ct)(bk:D->Bool)(A0:M->Bool)(σ:St)(H:Hp)(a:dh)(Q:VK):Prop:=match a with
 | .ok d=>bk d=true/\Wd X ct H Q d
 | .new m=>A0 m=true/\Wm X ct H Q m
 | .err x=>∀e s',eF X ct.f.cb σ H x e s'->X.xe e s'
 |_=>False
def LS(X:Cx)(ct:Ct)(md:List D->Option (List D))(bk:D->Bool)(A0:M->Bool)(n:Nat)(F:List Slot->dh)(fa:Sg->Res (List D)):TE:=λ σ H Q=>∃Γ,Jx X ct Γ σ H/\Ok X ct σ H (fa Γ) λ ds=>ds.length=n/\∃ds',md ds=some ds'/\∀H',az H H'->Qk X ct bk A0 σ H' (F (ds'.map .val)) Q
variable{ct:Ct}{md:List D->Option (List D)}{bk:D->Bool}{A0:M->Bool}
def K4{Q:VK}(h:Qk X ct bk A0 σ H a Q)(q1:∀H' d v,bk d=true->Tl X.K (gg ct.f.cb L vs).z H' d v->Tl X.K ct H' d v)(q2:∀H' m v S,A0 m=true->Ow X.K (gg ct.f.cb L vs).z H' m v S->Ow X.K ct H' m v S):
  MO X (gg ct.f.cb L vs) σ H a Q:=by
 cases a with
 |ok d=>exact λ v H' s t=>h.2 v H' s (q1 H' d v h.1 t)
 |new m=>exact λ v H' S s o n k=>h.2 v H' S s (q2 H' m v S h.1 o) n k
 |err x=>exact h
 |QX d os=>exact h
 |Gn d os=>exact h
 |bad=>exact h
def mK(Z:Dh ct md bk A0)(G:jn X.prog X.w X.K X.mg X.base ct.f.cb k f fd ps F)(hr:dw k X.A)(hm:X.mg x=some (.ref f))(hk:W.keepIn X.K (.ref f)=true)(hb:Binds X.K fd ps [])(ha:P8 X ct (e::es) fa)(hg:Gl X x:=by rfl) (hdb:(x==("__debug__":Str))=false:=by decide) (he:starEach (e::es) X.env=(false,eval e X.env)::starEach es X.env:=by rfl) (hpl:(backTo pos (starEach es X.env)).any (·.1)=false:=by rfl):
  PE X (.Call (.Name x p) (e::es) [] pos) (LS X ct md bk A0 ps.length F fa):=by
 refine λ pins s σ H Q I=>ah λ Γ j h=>?_;refine wpAny_Call_Name_kw (uR I hg hm ?_ hdb);have h':EB X ct fa σ H (λ vs H1=>∃ds ds',az H H1/\aK X.K ct H1 ds vs/\ds.length=ps.length/\md ds=some ds'/\Qk X ct bk A0 σ H1 (F (ds'.map .val)) Q):=
  af Γ j (Ok.mono (az.refl H) h λ ds ⟨q1,ds',q2,q3⟩ vs H1 s1 t1=>bG ds ds' s1 t1 q1 q2 (q3 H1 s1))
 refine W.callWith_K (h₀:=X.base) I.ok.mod.Q3 hk (dN (ha pos pins s σ H _ I h') ?_) he hpl;refine λ us s1=>ak λ vs H1 I1 r=>cC λ ds ds' sm t1 hl hd q=>?_;refine ⟨I1.DY,?_⟩;have j1:=j.mono sm;refine NG (λ L l lx t2 q1 q2=>?_) (Z.go X.K H1 ds vs ds' j1.lL j1.lB t1 hd);exact Jl G hr hb I1 r l (j.xt.trans lx) t2 (by rw[<-t1.length];exact hl) (K4 q q1 q2)
def Wm.mono{Q:VK}(s:az H H2)(h:Wm X ct H Q m):Wm X ct H2 Q m:=λ v H' S e o n k=>h v H' S (s.trans e) o (λ b z=>s.free (n b z)) k
def Wm.data{Q:VK}{d:D}(h:Wm X ct H Q (.d d)):Wd X ct H Q d:=λ v H' e t=>h v H' (λ _=>False) e (by simpa only[Ow] using t) (λ _ z=>z.elim) λ _ z=>z.elim
def uG(h:PE X e (LS X ct md bk A0 n F fa))(hg:∀Γ,g Γ=(fa Γ).bnd λ ds=>if ds.length=n then (match md ds with
   |some ds'=>(match F (ds'.map .val) with
    | .ok d=>if bk d=true then .ok (.d d) else .bad
    | .new m=>if A0 m=true then .ok m else .bad
    | .err x=> .err x
    |_=> .bad)
   |none=> .bad) else .bad):PM X ct e g:=by
 refine PE.imp h λ σ H Q z_=>zR z_ λ Γ j q=>af Γ j ?_;rw[hg] at q;refine q.bnd λ ds _ q=>?_;split at q
 ·rename_i hl;split at q
  ·rename_i ds' hd;refine ⟨hl,af ds' hd (λ H' s=>?_)⟩;cases z:F (ds'.map .val) with
   |ok d=>
    rw[z] at q;dsimp only at q;split at q
    ·rename_i hb;exact ⟨hb,(Wm.data q).mono s⟩
    ·exact q.elim
   |new m=>
    rw[z] at q;dsimp only at q;split at q
    ·rename_i hb;exact ⟨hb,Wm.mono s q⟩
    ·exact q.elim
   |err x=>rw[z] at q;exact λ e s' r=>q e s' (r.mono s)
   |QX d os=>rw[z] at q;exact q.elim
   |Gn d os=>rw[z] at q;exact q.elim
   |bad=>rw[z] at q;exact q.elim
  ·exact q.elim
 ·exact q.elim
section
variable{n:Nat}
def FA{c:Cf}(h:PE X e (LS X c.z some (λ _=>true) (λ _=>true) n F fa)):PM X c.z e (GC n F fa):=uG h λ Γ=>by
 unfold GC;cases fa Γ with
 |ok ds=>
  simp only[Res.iu];by_cases hl:ds.length=n
  ·simp only[hl,if_true];cases F (ds.map .val)<;>simp[jD]
  ·simp[hl]
 |err x=>rfl
 |bad=>rfl
def yr(h:PE X e (LS X ct (λ ds=>if gm ds=true then some ds else none) (λ _=>true) (λ _=>true) n F fa)):PM X ct e (nV n F fa):=uG h λ Γ=>by
 unfold nV;congr 1;funext ds;by_cases hl:ds.length=n
 ·by_cases hn:gm ds=true
  ·simp only[hl,hn,and_self,if_true];cases F (ds.map .val)<;>simp[jD]
  ·simp[hl,hn]
 ·simp[hl]
def FE(h:PE X e (LS X ct (λ ds=>some (sj ds)) nb Av n F fa)):PM X ct e (AA n F fa):=uG h λ Γ=>by
 unfold AA;congr 1;funext ds;split
 ·dsimp only;cases F ((sj ds).map .val) with
  |ok d=>by_cases h:nb d=true<;>simp[LN,jD,h]
  |new m=>by_cases h:Av m=true<;>simp[LN,jD,h]
  |_=>simp[LN,jD]
 ·rfl
def Pe(a:dh):kE a=(jD a).bnd uX:=by cases a<;>simp[kE,jD,uX,qR,zb]
def qU(f:Sg->Res (List D))(g:List D->dh)(P:List D->Prop) [DecidablePred P]:(λ Γ=>(f Γ).bnd λ ds=>if P ds then kE (g ds) else .bad)=zv (λ Γ=>(f Γ).bnd λ ds=>if P ds then jD (g ds) else .bad):=by
 funext Γ;unfold zv;dsimp only;cases f Γ with
 |ok ds=>
  simp only[Res.iu];by_cases h:P ds
  ·simp only[h,if_true];exact Pe _
  ·simp[h]
 |err x=>rfl
 |bad=>rfl
def F3{c:Cf}(h:PE X e (LS X c.z some (λ _=>true) (λ _=>true) n F fa)):PD X c.z e (bh n F fa):=by have:=mO (FA h);rwa [show zv (GC n F fa)=bh n F fa from (qU fa (λ ds=>F (ds.map .val)) λ ds=>ds.length=n).symm] at this
def F5(h:PE X e (LS X ct (λ ds=>if gm ds=true then some ds else none) (λ _=>true) (λ _=>true) n F fa)):PD X ct e (qW n F fa):=by have:=mO (yr h);rwa [show zv (nV n F fa)=qW n F fa from (qU fa (λ ds=>F (ds.map .val)) λ ds=>ds.length=n/\gm ds=true).symm] at this
def F4(h:PE X e (LS X ct (λ ds=>some (sj ds)) nb Av n F fa)):PD X ct e (qV n F fa):=by have:=mO (FE h);rwa [show zv (AA n F fa)=qV n F fa from (qU fa (λ ds=>LN (F ((sj ds).map .val))) λ ds=>ds.length=n).symm] at this
end
end
section
variable{P:Program}{w:World}{K:W.Frag}{mg:Str->Option Value}{base:Heap}{cb:Cb}
def yO{s:Shared}{e:Value}(r:eF (i6 (A8 P w) P w K mg base N qual scope f cd A outer s H E) cb σ' H' c e s')(he:∀C H2,cb.exc c=some C->az H' H2->E (.ref C) none H2):
  (i6 (A8 P w) P w K mg base N qual scope f cd A outer s H E).xe e s':=by
 revert r;refine uF λ pins H1 s1 C I1 sm hc r=>?_
 have hfr:=I1.ok.frames;have back:∀a,s1.heap.get? a=none->s.heap.get? a=none:=λ a q=>by
  cases z:s.heap.get? a with
  |none=>rfl
  |some o=>obtain ⟨o',w'⟩:=I1.base.there a o z (by simp[i6]);rw[q] at w';cases w'
 rcases r with ⟨a,args,h',rfl,rfl,hx⟩|⟨a,C',H2,B,a0,rfl,⟨q1,q2,q3⟩,q4,q5,fl,na,nw,cl⟩
 ·-- made here
  let X:=i6 (A8 P w) P w K mg base N qual scope f cd A outer s H E
  have hst:s1.heap.FunFrames X.base X.stack:=I1.stack;have hin:∀env∈X.stack,∀b,env.frame=some b->b∈frs X.stack:=λ env he b hb=>List.mem_filterMap.mpr (af env he hb);have hkb:(W.hideAll s1.heap (frs X.stack)).StaysIn s1.heap:=λ b o q=>W.of_hideAll _ q;refine wpAny_leaves_madeW (s:={s1 with heap:=h'}) (L:=s.heap.objs.size) hfr rfl hkb (W.funFrames_hide hst hin) hx λ h2 t fl tu tn up=>?_;have na:H1 a=none:=by
   cases z:H1 a with
   |none=>rfl
   |some o=>obtain ⟨ob,hb⟩:=jB (I1.hok a o z);rw[hx.new] at hb;cases hb
  refine Ak a C H1 (W.hideAll s1.heap (frs X.stack)) (.ref t) rfl (he C H1 hc sm) I1.os I1.bare fl na (back a hx.new) (λ h3 st3 M8=>?_);have keep:∀b o,s1.heap.get? b=some o->b∉frs X.stack->h3.get? b=some o:=λ b o q nb=>st3 b o (W.hideAll_get _ q nb);have slot:∀b o,s1.heap.get? b=some o->b∈frs X.stack->∃sl,h3.get? b=some {o with slots:=sl}:=λ b o q hb=>by refine bS (λ _=>ah λ o' ho' hd=>?_) (hst.mem hb);rw[q] at ho';cases ho';exact (up.trans M8) b o (hx.keeps b o q) hd
  have un:Un (frs X.stack) [] H1 H1 s1.heap h3:=⟨λ b o q n nb _=>keep b o q nb,λ b o q n hb _=>slot b o q hb,λ b o q n _=>n,λ b o q _=>by
   by_cases hb:b∈frs X.stack
   ·obtain ⟨sl,z⟩:=slot b o q hb;exact ⟨_,z⟩
   ·exact ⟨o,keep b o q hb⟩,λ b xs q=>q,λ b o u q=>q,λ b ps q=>⟨#[],by rw[q];simp⟩⟩
  have hok:kh P w H1 h3:=λ b o q=>(I1.hok b o q).stay (λ b' u hb' e'=>by
   have tr:H1 b'≠none:=by
    rcases hb' with rfl|hb'
    ·rw[q];exact λ z=>nomatch z
    ·rw[hb'];exact λ z=>nomatch z
   exact keep b' u e' λ z=>tr (I1.mz b' z)) (λ _ q=>q) (λ _ _ q=>q) λ _ _ _ q=>q
  have I3:=I1.CB (s':={s1 with heap:=h3}) (ch:=[]) rfl un hok I1.bare (λ b z=>absurd z (by simp));exact ⟨I3.base,hok⟩
 ·-- out of a call
  cases q1;refine wpAny_leaves_onW (L:=s.heap.objs.size) hfr rfl fl λ h2 fl2 up=>?_;refine Ak a C H2 B a0 rfl (he C H2 hc (sm.trans q3)) (q4.trans I1.os) q5 fl2 na (back a nw) (λ h3 st3 M8=>?_);obtain ⟨un,hok⟩:=cl h3 st3 (up.trans M8);have I3:=I1.CB (s':={s' with heap:=h3}) (ch:=[]) q4 un hok q5 (λ b z=>absurd z (by simp));exact ⟨I3.base,hok⟩
def B3{N:List Str}{as:List Slot}{vs:List V}{H:Hp}{c:Cf}(j:J K c.z H as (vs.map some) H):J K c.z H (di N as) (L2.start N vs) H:=by
 have hl:as.length=vs.length:=by have:=j.len;simpa using this
 refine aD (λ S h1 h2 h3=>?_) j.sl;refine ⟨j.same,j.free,j.lL,j.lB,j.xt,by simp[di,L2.start,hl],λ i b=>S i b/\i<as.length,λ i sl ov g1 g2=>?_,λ i k b e z z'=>h2 i k b e z.1 z'.1,λ i b z=>h3 i b z.1⟩;by_cases hi:i<as.length
 ·rw[di,List.getElem?_append_left hi] at g1;rw[L2.start,List.getElem?_append_left (by simpa[<-hl] using hi)] at g2;have eS:(λ b=>S i b/\i<as.length)=S i:=funext λ b=>propext ⟨λ z=>z.1,λ z=>⟨z,hi⟩⟩;show iB K c.z H H i (λ b=>S i b/\i<as.length) sl ov;rw[eS];exact h1 i sl ov g1 g2
 ·rw[di,List.getElem?_append_right (Nat.le_of_not_lt hi),List.getElem?_replicate] at g1;split at g1
  ·cases g1;exact λ b z=>hi z.2
  ·cases g1
def Ph{x qual:Str}{st:Stmt}{f:Addr}{fd:FuncData}{N ps:List Str}{k:Nat}{F:List Slot->dh}{B:Nat->Sg->Out}(IG:Et K x qual st f fd)(S:jc N ps (aT st)) (hbody:∀(c:Cf) (cdv:Value) (A:Around) (outer:List Env) (s:Shared) (H:Hp) (E:XK),c.cb=cb->dw k (A.deeper (envOfC qual (aT st) s.heap.objs.size f cdv))->Good (i6 (A8 P w) P w K mg base N qual (aT st) f cdv A outer s H E)->∀n,U6 (i6 (A8 P w) P w K mg base N qual (aT st) f cdv A outer s H E) c (cR st) (B n)) (hF:∀as,as.length=ps.length->F as≠.bad->∃n,jN (B n (di N as))=F as):jn P w K mg base cb (k+1) f fd ps F:=by
 obtain ⟨oc,od,kV,doc,pm,an,cdv,c9,osl,rfl,lk,hcd⟩:=IG.ex;refine L1 lk hcd S (λ vs H Q E h=>h.1) λ A outer s H vs Q E hr Ey=>?_
 revert Ey;refine bS λ hn=>aN λ c as Up Uq j h=>?_
 have hl:as.length=vs.length:=by have:=j.len;simpa using this
 have hb:F as≠.bad:=λ z=>by rw[z] at h;exact h
 obtain ⟨n,hF⟩:=hF as (by rw[hl];exact hn) hb;refine af _ (hbody c cdv A outer s H E Up hr ⟨PassesOwn.leaving,rfl,S.nd,rfl,rfl⟩ n) ⟨di N as,B3 j,?_⟩;rw[<-hF] at h;cases q:B n (di N as) with
 |nx Γ=>rw[q] at h;exact λ σ' H' _ j=>h .eU H' j.same j.free (by simp[Tl])
 |bk Γ=>rw[q] at h;exact h.elim
 |ct Γ=>rw[q] at h;exact h.elim
 |rt d=>rw[q] at h;exact λ v H' b t=>h v H' b.same b.free t
 |xG m=>rw[q] at h;exact λ v H' S b o n k=>h v H' S b.same b.free o n k
 |Ir d Γ=>rw[q] at h;exact λ v σ' H' j t=>h v Γ σ' H' j rfl t
 |rW d Γ=>rw[q] at h;exact λ σ' H' i v j g1 g2=>h Γ σ' H' i v j rfl g1 g2
 |err x Γ=>rw[q] at h;exact λ σ' H' e s' _ j r=>yO (Up▸r) λ C H2 hc s=>h C H2 hc λ b o z n=>s b o (j.same b o z n)
 |bad=>rw[q] at h;exact h.elim
def IQ{x qual:Str}{st:Stmt}{f:Addr}{fd:FuncData}{N ps:List Str}{k:Nat}{F:List Slot->dh}{B:Nat->Sg->Out}(IG:Et K x qual st f fd)(S:jc N ps (aT st))(hbody:∀(c:Cf) (cdv:Value) (A:Around) (outer:List Env) (s:Shared) (H:Hp) (E:XK),c.cb=cb->dw k (A.deeper (envOfC qual (aT st) s.heap.objs.size f cdv))->Good (i6 (A8 P w) P w K mg base N qual (aT st) f cdv A outer s H E)->∀n,oj (i6 (A8 P w) P w K mg base N qual (aT st) f cdv A outer s H E) c (cR st) (B n)) (hF:∀as,as.length=ps.length->F as≠.bad->∃n,jN (B n (di N as))=F as):jn P w K mg base cb (k+1) f fd ps F:=Ph (IG:=IG) (S:=S) (hbody:=(λ c cdv A outer s H E h_1 h_2 h_3 n=>(hbody c cdv A outer s H E h_1 h_2 h_3 n).out)) (hF:=hF)
end
section
variable{X:Cx}{ct:Ct}{a b e:Expr}{f g:Sg->Res D}{pos:Pos}
def fX{gv:Int->Int->V}(hc:∀i j,C i j=true->C' i j)(ht:∀i j K ct H,Tl K ct H (gd i j) (gv i j)):IF X ct (rI C' gv) (intD C gd):=by
 intro σ H x y d1 d2 Q lL lB t1 t2 h;cases d1 with
 |int i=>
  cases d2 with
  |int j=>
   simp only[Tl] at t1 t2;subst t1 t2;rw[yU] at h;split at h
   ·rename_i hij;exact bg i j rfl rfl (hc i j hij) (h _ H (az.refl H) (ht i j _ _ _))
   ·exact h.elim
  |_=>exact h.elim
 |_=>cases d2<;>exact h.elim
def BO{F:Value->Value->Sem Value}{gv:Int->Int->V}(h:kF X F (LB gv)):kF X F (rI (λ _ _=>True) gv):=λ pins s σ H x y v u Q I rx ry ⟨i,j,h1,h2,_,q⟩=>h pins s σ H x y v u Q I rx ry (ao i j h1 h2 q)
def Gw(h:mR i j=true):IntMulOk i j:=by
 simp only[mR,Bool.or_eq_true,Bool.and_eq_true,decide_eq_true_eq] at h;rcases h with (h|h)|h
 ·exact .of_left h
 ·exact .of_right h
 ·exact .of_bits h.1 h.2
def JQ:kF X (binaryOp .Mult) (rI (λ i j=>mR i j=true) λ i j=> .int (i*j)):=SQ λ _ _ _ _ _ _ _ hc q=>mul_int q (Gw hc)
def F6:kF X (binaryOp .FloorDiv) (rI (λ i j=>qT i j=true) λ i j=> .int (i.fdiv j)):=SQ λ _ _ _ _ _ _ _ hc q=>by simp only[qT,Bool.and_eq_true,decide_eq_true_eq] at hc;exact floordiv_int hc.1 q (.inl (PyProof.noPylong_of_log2 hc.2))
def nJ(ha:WD X ct a f)(hb:WD X ct b g):WD X ct (.BinOp a .Sub b pos) (aO ko f g):=by have ha:=ha.out;have hb:=hb.out;exact ⟨oN (BO N9) (fX (λ _ _ _=>trivial) λ _ _ _ _ _=>by simp[Tl]) ha hb⟩
def cP(ha:WD X ct a f)(hb:WD X ct b g):WD X ct (.BinOp a .Mult b pos) (aO dR f g):=by have ha:=ha.out;have hb:=hb.out;exact ⟨oN JQ (fX (λ _ _ h=>h) λ _ _ _ _ _=>by simp[Tl]) ha hb⟩
def bV(ha:WD X ct a f)(hb:WD X ct b g):WD X ct (.BinOp a .FloorDiv b pos) (aO cg f g):=by have ha:=ha.out;have hb:=hb.out;exact ⟨oN F6 (fX (λ _ _ h=>h) λ _ _ _ _ _=>by simp[Tl]) ha hb⟩
def fN(ha:WD X ct a f)(hb:WD X ct b g):WD X ct (.BinOp a .Mod b pos) (aO fF f g):=by have ha:=ha.out;have hb:=hb.out;exact ⟨oN JR (fX (λ _ _ h=>of_decide_eq_true h) λ _ _ _ _ _=>by simp[Tl]) ha hb⟩
def MW(ha:WD X ct a f)(hb:WD X ct b g):WD X ct (.BinOp a .Pow b pos) (aO NT f g):=by
 have ha:=ha.out;have hb:=hb.out;exact ⟨oN Oc (fX (λ _ _ h=>by
 simp only[LC,Bool.and_eq_true,decide_eq_true_eq] at h;exact aS h.1.1 h.1.2 h.2) λ _ _ _ _ _=>by simp[Tl]) ha hb⟩
def Dr(ha:WD X ct a f)(hb:WD X ct b g):WD X ct (.BinOp a .BitAnd b pos) (aO K5 f g):=by have ha:=ha.out;have hb:=hb.out;exact ⟨oN (BO Oe) (fX (λ _ _ _=>trivial) λ _ _ _ _ _=>by simp[Tl]) ha hb⟩
def ER(ha:WD X ct a f)(hb:WD X ct b g):A4 X ct (.Compare a [.Lt] [b] pos) (dT (aO ltI f g)):=by have ha:=ha.out;have hb:=hb.out;exact ⟨jY (BO SN) (fX (λ _ _ _=>trivial) λ _ _ _ _ _=>by simp[Tl]) ha hb (qy _)⟩
def MU(ha:WD X ct a f)(hb:WD X ct b g):A4 X ct (.Compare a [.Gt] [b] pos) (dT (aO Rc f g)):=by have ha:=ha.out;have hb:=hb.out;exact ⟨jY (BO SO) (fX (λ _ _ _=>trivial) λ _ _ _ _ _=>by simp[Tl]) ha hb (qy _)⟩
def zV(ha:WD X ct a f):WD X ct (.UnaryOp .USub a pos) (Hv o9 f):=by
 have ha:=ha.out;refine ⟨?_⟩;refine PE.imp (SJ M9 ha) ?_;refine λ σ H Q=>ah λ Γ j h=>?_;refine nE.bnd j h λ d v H' s t j' h'=>?_;cases d with
 |int i=>simp only[Tl] at t;exact af i t (h' _ H' s (by simp[Tl]))
 |_=>exact h'.elim
def CA{r:List D->Res D}{fa:Sg->Res (List D)}(k:∀(σ:St) (H:Hp) (vs:List V) (ds:List D) (Q:VK),az ct.f.L H->az ct.B H->aK X.K ct H ds vs->Ok X ct σ H (r ds) (Wd X ct H Q)->r2 vs H Q):
  ∀σ H Q,nE X ct (pC r fa) σ H Q->W3 r2 (EB X ct fa) σ H Q:=by
 refine λ σ H Q=>ah λ Γ j h=>?_;exact EB.bnd j h λ ds vs H' s t j' h'=>k σ H' vs ds Q j'.lL j'.lB t (Ok.mono s h' λ d q=>q.mono s)
def nK{K:W.Frag}{H:Hp}{d:D}{vs:List V}(h:aK K ct H [d] vs):∃v,vs=[v]/\Tl K ct H d v:=by
 simp only[aK] at h
 revert h;refine ak λ v r z t y=>?_;subst z;subst y
 exact af v rfl t
def WJ{K:W.Frag}{H:Hp}{d d':D}{vs:List V}(h:aK K ct H [d,d'] vs):∃v v',vs=[v,v']/\Tl K ct H d v/\Tl K ct H d' v':=by
 simp only[aK] at h
 revert h;refine ak λ v r z t=>ak λ v' r' y t' w=>?_;subst z;subst y;subst w
 exact ao v v' rfl t t'
def EX{fa:Sg->Res (List D)}(hm:X.mg "abs"=none)(ha:pN X ct (e::es) fa)(hg:Gl X "abs":=by rfl)(he:starEach (e::es) X.env=(false,eval e X.env)::starEach es X.env:=by rfl)(hpl:(backTo pos (starEach es X.env)).any (·.1)=false:=by rfl):WD X ct (.Call (.Name "abs" p) (e::es) [] pos) (pC HR fa):=by
 have ha:=ha.out;refine ⟨?_⟩;refine PE.imp (iG HH hg hm PyProof.Rows.boot_abs ha (by decide) (by decide) he hpl) (CA λ σ H vs ds Q lL lB t h=>?_);unfold HR at h;split at h
 ·rename_i i;refine ah (λ v z tv=>?_) (nK t);subst z;simp only[Tl] at tv;subst tv;exact af i rfl (h _ H (az.refl H) (by simp[Tl]))
 ·exact h.elim
def fO{fa:Sg->Res (List D)}(hm:X.mg "len"=none)(ha:pN X ct (e::es) fa)(hg:Gl X "len":=by rfl)(he:starEach (e::es) X.env=(false,eval e X.env)::starEach es X.env:=by rfl)(hpl:(backTo pos (starEach es X.env)).any (·.1)=false:=by rfl):WD X ct (.Call (.Name "len" p) (e::es) [] pos) (pC c6 fa):=by
 have ha:=ha.out;refine ⟨?_⟩;refine PE.imp (iG HE hg hm PySem.boot_len ha (by decide) (by decide) he hpl) (CA λ σ H vs ds Q lL lB t h=>?_);unfold c6 at h;split at h
 ·rename_i es;refine ah (λ v z tv=>?_) (nK t);subst z;simp only[Tl] at tv
  revert tv;refine ak λ a us z h1 h2=>?_;subst z
  refine ao _ us.length rfl ?_ (h _ H (az.refl H) (by rw[h2.length];simp[Tl]));exact .inl (af us h1.sq rfl)
 ·rename_i es;refine ah (λ v z tv=>?_) (nK t);subst z;simp only[Tl] at tv
  revert tv;refine ak λ a us z h1 h2=>?_;subst z
  refine ao _ us.length rfl ?_ (h _ H (az.refl H) (by rw[h2.length];simp[Tl]));exact .inr (af us (kG h1) rfl)
 ·rename_i es;refine ah (λ v z tv=>?_) (nK t);subst z;simp only[Tl] at tv
  revert tv;refine ak λ a us z h1 h2=>?_;subst z
  refine ao _ us.length rfl ?_ (h _ H (az.refl H) (by rw[h2.length];simp[Tl]));exact .inr (af us h1.sq rfl)
 ·rename_i tm es;refine ah (λ v z tv=>?_) (nK t);subst z;refine ak (λ a us z h1 h2=>?_) (tv.gJ lL lB rfl);subst z;refine ao _ us.length rfl ?_ (h _ H (az.refl H) (by rw[h2.length];simp[Tl]));exact .inl (af us h1 rfl)
 ·rename_i x;split at h
  ·rename_i hx;refine ah (λ v z tv=>?_) (nK t);subst z;simp only[Tl] at tv;subst tv;exact ao _ x.length rfl ⟨hx,rfl⟩ (h _ H (az.refl H) (by simp[Tl]))
  ·exact h.elim
 ·exact h.elim
end
def fj:∀(ds:List D),(∀d∈ds,(py d).canLay0=true)->PyData.canLayAll0 (sQ ds)=true:=by
 intro v_;induction v_ with
 |nil=>
  rintro _
  simp[sQ,PyData.canLayAll0]
 |cons d ds j4=>
  rintro h
  simp only[sQ,PyData.canLayAll0,Bool.and_eq_true];exact ⟨h d (.head _),j4 λ x hx=>h x (.tail _ hx)⟩
def f9:∀(ds:List D),(∀d∈ds,(py d).depth<=n)->PyData.depthAll (sQ ds)<=n:=by
 intro v_;induction v_ with
 |nil=>
  rintro _
  simp[sQ,PyData.depthAll]
 |cons d ds j4=>
  rintro h
  simp only[sQ,PyData.depthAll];exact Nat.max_le.mpr ⟨h d (.head _),j4 λ x hx=>h x (.tail _ hx)⟩
theorem fY:∀(n:Nat) (d:D),cQ n d=true->(py d).canLay0=true/\(py d).depth<=n
 |n,.eU,_=>by simp[py,PyData.canLay0,PyData.depth]
 |n,.bl b,_=>by simp[py,PyData.canLay0,PyData.depth]
 |n,.int b,_=>by simp[py,PyData.canLay0,PyData.depth]
 |n,.str b,h=>by cases n<;>simp_all[py,PyData.canLay0,PyData.depth,cQ]
 |0,.tup ds,h=>by simp[cQ] at h
 |0,.gt ds,h=>by simp[cQ] at h
 |0,.lst ds,h=>by simp[cQ] at h
 |0,.bor _ ds,h=>by simp[cQ] at h
 |n+1,.bor _ ds,h=>by simp only[cQ,List.all_eq_true] at h;simp only[py,PyData.canLay0,PyData.depth];exact ⟨fj ds λ d hd=>(fY n d (h d hd)).1,Nat.succ_le_succ (f9 ds λ d hd=>(fY n d (h d hd)).2)⟩
 |n+1,.tup ds,h=>by simp only[cQ,List.all_eq_true] at h;simp only[py,PyData.canLay0,PyData.depth];exact ⟨fj ds λ d hd=>(fY n d (h d hd)).1,Nat.succ_le_succ (f9 ds λ d hd=>(fY n d (h d hd)).2)⟩
 |n+1,.gt ds,h=>by simp only[cQ,List.all_eq_true] at h;simp only[py,PyData.canLay0,PyData.depth];exact ⟨fj ds λ d hd=>(fY n d (h d hd)).1,Nat.succ_le_succ (f9 ds λ d hd=>(fY n d (h d hd)).2)⟩
 |n+1,.lst ds,h=>by simp only[cQ,List.all_eq_true] at h;simp only[py,PyData.canLay0,PyData.depth];exact ⟨fj ds λ d hd=>(fY n d (h d hd)).1,Nat.succ_le_succ (f9 ds λ d hd=>(fY n d (h d hd)).2)⟩
 |0,.obj _ _ _,h=>by simp[cQ] at h
 |0,.exc _,h=>by simp[cQ] at h
 |n+1,.obj _ _ _,h=>by simp[cQ] at h
 |n+1,.exc _,h=>by simp[cQ] at h
 |0,.lS _ _,h=>by simp[cQ] at h
 |0,.mj _ _ _,h=>by simp[cQ] at h
 |n+1,.lS _ _,h=>by simp[cQ] at h
 |n+1,.mj _ _ _,h=>by simp[cQ] at h
 |0,.rz _ _ _ _,h=>by simp[cQ] at h
 |n+1,.rz _ _ _ _,h=>by simp[cQ] at h
def iW{d:D}(h:cQ 12 d=true):SeqAt.shaped (py d)=true:=by obtain ⟨h1,h2⟩:=fY 12 d h;unfold SeqAt.shaped;rw[h1,Bool.true_and];exact decide_eq_true (Nat.le_trans h2 (by decide))
section
variable{X:Cx}{ct:Ct}{pins:List (Addr×Obj)}{σ:St}{H:Hp}{s:Shared}
def gR{f:D->Prop}(hf:∀d v u,f d->Tl X.K ct H d v->RelV v u->∃as,Reads s.heap u (py d) as):∀(ds:List D) (vs:List V) (us:List Value),(∀d∈ds,f d)->aK X.K ct H ds vs->Vals vs us->∃as,ReadsAll s.heap us (sQ ds) as:=by
 intro v_;induction v_ with
 |nil=>
  rintro vs us _ h r
  simp only[aK] at h;subst h;cases r;exact ⟨[],.nil⟩
 |cons d ds j4=>
  rintro vs us hd h r
  simp only[aK] at h
  revert h;refine ak λ v w z t1 t2=>?_;subst z
  cases r with
  |cons r1 r2=>obtain ⟨as,h1⟩:=hf d v _ (hd d (.head _)) t1 r1;obtain ⟨bs,h2⟩:=j4 w _ (λ x hx=>hd x (.tail _ hx)) t2 r2;exact ⟨as++bs,.cons h1 h2⟩
theorem fE(I:Inv X pins σ H s)(lL:az ct.f.L H)(lB:az ct.B H):∀(n:Nat) (d:D) (v:V) (u:Value),cQ n d=true->Tl X.K ct H d v->RelV v u->∃as,Reads s.heap u (py d) as
 |n,.eU,v,u,_,t,r=>by simp only[Tl] at t;subst t;cases r;exact ⟨[],.none⟩
 |n,.bl b,v,u,_,t,r=>by simp only[Tl] at t;subst t;cases r;exact ⟨[],.bool b⟩
 |n,.int i,v,u,_,t,r=>by simp only[Tl] at t;subst t;obtain ⟨k,rfl⟩:=r;exact ⟨[],.int i k⟩
 |n,.str x,v,u,_,t,r=>by simp only[Tl] at t;subst t;obtain ⟨k,rfl⟩:=r;exact ⟨[],.str x k⟩
 |0,.tup ds,v,u,h,_,_=>by simp[cQ] at h
 |0,.gt ds,v,u,h,_,_=>by simp[cQ] at h
 |0,.lst ds,v,u,h,_,_=>by simp[cQ] at h
 |0,.bor _ ds,v,u,h,_,_=>by simp[cQ] at h
 |n+1,.bor tm ds,v,u,h,t,r=>by refine ak (λ a vs z t1 t2=>?_) (t.gJ lL lB rfl);subst z;cases r;simp only[cQ,List.all_eq_true] at h;refine aD (λ its rv z _=>?_) (I.list t1);revert z;refine aN λ o m h1 h2 _ h3=>?_;obtain ⟨as,q⟩:=gR (f:=λ d=>cQ n d=true) (λ d v u h t r=>fE I lL lB n d v u h t r) ds vs its h t2 rv;exact ⟨a::as,reads_list_at h1 h2 h3 (by simpa using q)⟩
 |n+1,.tup ds,v,u,h,t,r=>by
  simp only[Tl] at t
  revert t;refine ak λ a vs z t1 t2=>?_;subst z
  cases r;simp only[cQ,List.all_eq_true] at h;refine aD (λ its rv z _=>?_) (I.tuple (kG t1));revert z;refine aD λ o h1 h2 y=>?_;obtain ⟨m,h3⟩:=y;obtain ⟨as,q⟩:=gR (f:=λ d=>cQ n d=true) (λ d v u h t r=>fE I lL lB n d v u h t r) ds vs its h t2 rv;exact ⟨as,reads_tuple_at h1 h2 h3 (by simpa using q)⟩
 |n+1,.gt ds,v,u,h,t,r=>by
  simp only[Tl] at t
  revert t;refine ak λ a vs z t1 t2=>?_;subst z
  cases r;simp only[cQ,List.all_eq_true] at h;refine aD (λ its rv z _=>?_) (I.tuple t1.sq);revert z;refine aD λ o h1 h2 y=>?_;obtain ⟨m,h3⟩:=y;obtain ⟨as,q⟩:=gR (f:=λ d=>cQ n d=true) (λ d v u h t r=>fE I lL lB n d v u h t r) ds vs its h t2 rv;exact ⟨as,reads_tuple_at h1 h2 h3 (by simpa using q)⟩
 |n+1,.lst ds,v,u,h,t,r=>by
  simp only[Tl] at t
  revert t;refine ak λ a vs z t1 t2=>?_;subst z
  cases r;simp only[cQ,List.all_eq_true] at h;refine aD (λ its rv z _=>?_) (I.list t1.sq);revert z;refine aN λ o m h1 h2 _ h3=>?_;obtain ⟨as,q⟩:=gR (f:=λ d=>cQ n d=true) (λ d v u h t r=>fE I lL lB n d v u h t r) ds vs its h t2 rv;exact ⟨a::as,reads_list_at h1 h2 h3 (by simpa using q)⟩
 |0,.obj _ _ _,v,u,h,_,_=>by simp[cQ] at h
 |0,.exc _,v,u,h,_,_=>by simp[cQ] at h
 |n+1,.obj _ _ _,v,u,h,_,_=>by simp[cQ] at h
 |n+1,.exc _,v,u,h,_,_=>by simp[cQ] at h
 |0,.lS _ _,v,u,h,_,_=>by simp[cQ] at h
 |0,.mj _ _ _,v,u,h,_,_=>by simp[cQ] at h
 |n+1,.lS _ _,v,u,h,_,_=>by simp[cQ] at h
 |n+1,.mj _ _ _,v,u,h,_,_=>by simp[cQ] at h
 |0,.rz _ _ _ _,v,u,h,_,_=>by simp[cQ] at h
 |n+1,.rz _ _ _ _,v,u,h,_,_=>by simp[cQ] at h
end
section
variable{X:Cx}{ct:Ct}{a b e:Expr}{f g:Sg->Res D}{pos:Pos}
def Jv(K:W.Frag)(ct:Ct)(neg:Bool):R2:=λ x y H Q=>az ct.f.L H/\az ct.B H/\∃d1 d2,Tl K ct H d1 x/\Tl K ct H d2 y/\cQ 12 d1=true/\cQ 12 d2=true/\Q (.bl (if neg then !IB d1 d2 else IB d1 d2)) H
def F7(hu:X.A.units+64<cLine):kF X (compareOp .Eq) (Jv X.K ct false):=by refine λ pins s σ H x y v u Q I rx ry=>aW λ lL lB=>cC λ d1 d2 t1 t2 o1 o2 q=>?_;obtain ⟨as,r1⟩:=fE I lL lB 12 d1 x v o1 t1 rx;obtain ⟨bs,r2⟩:=fE I lL lB 12 d2 y u o2 t2 ry;exact eq_dataH r1 r2 (iW o1) (iW o2) hu (ao (.bl _) H I rfl q)
def Od(hu:X.A.units+64<cLine):kF X (compareOp .NotEq) (Jv X.K ct true):=by refine λ pins s σ H x y v u Q I rx ry=>aW λ lL lB=>cC λ d1 d2 t1 t2 o1 o2 q=>?_;obtain ⟨as,r1⟩:=fE I lL lB 12 d1 x v o1 t1 rx;obtain ⟨bs,r2⟩:=fE I lL lB 12 d2 y u o2 t2 ry;exact ne_dataH r1 r2 (iW o1) (iW o2) hu (ao (.bl _) H I rfl q)
def F8:IF X ct (Jv X.K ct false) tM:=by
 intro σ H x y d1 d2 Q lL lB t1 t2 h;unfold tM at h;split at h
 ·rename_i ho;exact aS lL lB (bG d1 d2 t1 t2 ho.1 ho.2 (h _ H (az.refl H) (by simp[Tl])))
 ·exact h.elim
def Oh:IF X ct (Jv X.K ct true) qB:=by
 intro σ H x y d1 d2 Q lL lB t1 t2 h;unfold qB at h;split at h
 ·rename_i ho;exact aS lL lB (bG d1 d2 t1 t2 ho.1 ho.2 (h _ H (az.refl H) (by simp[Tl])))
 ·exact h.elim
def RE(hu:X.A.units+64<cLine)(ha:WD X ct a f)(hb:WD X ct b g):WD X ct (.Compare a [.Eq] [b] pos) (aO tM f g):=by have ha:=ha.out;have hb:=hb.out;exact ⟨N8 (F7 hu) F8 ha hb (qy _)⟩
def lu(hu:X.A.units+64<cLine)(ha:WD X ct a f)(hb:WD X ct b g):A4 X ct (.Compare a [.Eq] [b] pos) (dT (aO tM f g)):=by have ha:=ha.out;have hb:=hb.out;exact ⟨jY (F7 hu) F8 ha hb (qy _)⟩
def iQ(hu:X.A.units+64<cLine)(ha:WD X ct a f)(hb:WD X ct b g):A4 X ct (.Compare a [.NotEq] [b] pos) (dT (aO qB f g)):=by have ha:=ha.out;have hb:=hb.out;exact ⟨jY (Od hu) Oh ha hb (qy _)⟩
def pM{K:W.Frag}{H:Hp}{ds:List D}{vs:List V}{i:Int}{d:D}(t:aK K ct H ds vs)(h:tV ds i=some d):∃v,tV vs i=some v/\Tl K ct H d v:=by
 unfold tV at h ⊢;rw[<-t.length];cases q:mU ds.length i with
 |none=>rw[q] at h;cases h
 |some k=>rw[q] at h;exact t.get h
def Oi:IF X ct (Zg X.K) bD:=by
 intro σ H x y d1 d2 Q lL lB t1 t2 h;unfold bD at h;split at h
 ·rename_i ds i;split at h
  ·rename_i d hd;simp only[Tl] at t1 t2
   revert t1;refine ak λ a vs w h1 h2=>?_;subst w
   subst t2;refine ah (λ v hv tv=>?_) (pM h2 hd);exact .inl (bT a vs i v rfl rfl h1.sq hv (h v H (az.refl H) tv))
  ·exact h.elim
 ·rename_i tm ds i;split at h
  ·rename_i d hd;refine ak (λ a vs w h1 h2=>?_) (t1.gJ lL lB rfl);subst w;simp only[Tl] at t2;subst t2;refine ah (λ v hv tv=>?_) (pM h2 hd);exact .inl (bT a vs i v rfl rfl h1 hv (h v H (az.refl H) tv))
  ·exact h.elim
 ·rename_i ds i;split at h
  ·rename_i d hd;simp only[Tl] at t1 t2
   revert t1;refine ak λ a vs w h1 h2=>?_;subst w
   subst t2;refine ah (λ v hv tv=>?_) (pM h2 hd);exact .inr (.inl (bT a vs i v rfl rfl (kG h1) hv (h v H (az.refl H) tv)))
  ·exact h.elim
 ·rename_i ds i;split at h
  ·rename_i d hd;simp only[Tl] at t1 t2
   revert t1;refine ak λ a vs w h1 h2=>?_;subst w
   subst t2;refine ah (λ v hv tv=>?_) (pM h2 hd);exact .inr (.inl (bT a vs i v rfl rfl h1.sq hv (h v H (az.refl H) tv)))
  ·exact h.elim
 ·rename_i z i;split at h
  ·rename_i hz;split at h
   ·rename_i c hc;simp only[Tl] at t1 t2;subst t1 t2;exact .inr (.inr (lF z i c rfl rfl hz hc (h _ H (az.refl H) (by simp[Tl]))))
   ·exact h.elim
  ·exact h.elim
 ·exact h.elim
def F1(ha:PD X ct a f)(hb:PD X ct b g)(hs:nv b:=by exact λ _ _=>rfl):PD X ct (.Subscript a b pos) (aO bD f g):=PE.imp (LD G0 ha hb hs) (uL Oi)
def aU(ha:WD X ct a f)(hb:WD X ct b g)(hs:nv b:=by exact λ _ _=>rfl):WD X ct (.Subscript a b pos) (aO bD f g):=⟨F1 (ha:=ha.out) (hb:=hb.out) (hs:=hs)⟩
def iR(ha:WD X ct a f)(hb:WD X ct b g):WD X ct (.BinOp a .Add b pos) (aO eE f g):=by
 have ha:=ha.out;have hb:=hb.out;refine ⟨?_⟩;refine oN (kF.or Of Ar) (λ σ H x y d1 d2 Q lL lB t1 t2 h=>?_) ha hb;unfold eE at h;split at h
 ·simp only[Tl] at t1 t2;subst t1 t2;exact .inl (ao _ _ rfl rfl (h _ H (az.refl H) (by simp[Tl])))
 ·split at h
  ·rename_i hl;simp only[Tl] at t1 t2;subst t1 t2;exact .inr (bg _ _ rfl rfl hl (h _ H (az.refl H) (by simp[Tl])))
  ·exact h.elim
 ·exact h.elim
def SG(K:W.Frag):R2:=λ x y H Q=>∃l b xs zs,x= .ref l/\y= .ref b/\fV K H l xs/\fV K H b zs/\xs.length+zs.length<=sizeLine/\∀p,H p=none->Q (.ref p) (upd H p (.lst (xs++zs)))
def JS:kF X (binaryOp .Add) (SG X.K):=by
 intro pins s σ H x y v u Q I rx ry h
 revert h;refine cz λ l b xs zs z w hH hB hz q=>?_;subst z;subst w
 cases rx;cases ry;obtain ⟨its,r,⟨⟨oc,od,Zn,osl⟩,n,e,hc,_,hd⟩,_⟩:=I.list hH;obtain ⟨its2,r2,⟨⟨oc2,od2,aaP,Xi⟩,n2,e2,hc2,_,hd2⟩,_⟩:=I.list hB;simp only at hc hd hc2 hd2;subst hc hd hc2 hd2;have hl:=r.length;have hl2:=r2.length;have ea:its.toArray++its2.toArray=(its++its2).toArray:=by simp
 refine concat_meets (af _ e rfl) (af _ e2 rfl) noFill_list_add seq_list_add PySem.F.slot_list_add PySem.F.entry_list_add
  (PySem.F.args_list_add_2 _ _) (list_addW l b its.toArray its2.toArray n n2 od od2 osl Xi (by simp only[List.size_toArray];omega)) (aS e e2 ?_)
 rw[ea];exact ao (.ref _) _ (I.Tw (t':=s.toks) (r.append r2) (by rw[List.length_append];omega)) rfl (q _ I.fresh)
def MS(ha:WD X ct a f)(hb:WD X ct b g):WL X ct (.BinOp a .Add b pos) (LR HD f g):=by
 have ha:=ha.out;have hb:=hb.out;refine ⟨?_⟩;refine PE.imp (FT JS ha hb) ?_;refine λ σ H Q=>ah λ Γ j h=>?_;refine nE.bnd j h λ d1 v H1 s1 t1 j1 h1=>?_;refine nE.bnd (W:=Wl X ct H Q) j1 (Ok.mono s1 h1 λ _ z=>z) λ d2 u H2 s2 t2 j2 h2=>?_;have t1:=t1.keep (az.keep s2);unfold HD at h2;split at h2
 ·rename_i e1 e2;split at h2
  ·rename_i hl;refine ak (λ a vs y q1 q2=>?_) (t1.gJ j2.lL j2.lB e1);subst y;refine ak (λ b us y q3 q4=>?_) (t2.gJ j2.lL j2.lB e2);subst y;refine dg a b vs us rfl rfl q1 q3 (by rw[<-q2.length, <-q4.length];exact hl) (λ p hp=>?_);have s3:=bx hp (.lst (vs++us));exact h2 p _ _ ((s1.trans s2).trans s3) ((s1.trans s2).free hp) aI ((q2.append q4).keep (az.keep s3))
  ·exact h2.elim
 ·exact h2.elim
def Zo(X:Cx)(ct:Ct)(f:Sg->Res (Option Int)):TO:=λ σ H Q=>∃Γ,Jx X ct Γ σ H/\Ok X ct σ H (f Γ) λ i=>∀H',az H H'->Q i H'
abbrev PDO(X:Cx)(ct:Ct)(e:Option Expr)(f:Sg->Res (Option Int)):Prop:=PO X e (Zo X ct f)
structure WO(X:Cx)(e:Option Expr)(t:TO):Prop where
 out:PO X e t
abbrev Wg(X:Cx)(ct:Ct)(e:Option Expr)(f:Sg->Res (Option Int)):Prop:=WO X e (Zo X ct f)
def PO.imp{e:Option Expr}{t u:TO}(h:PO X e t)(k:∀σ H Q,u σ H Q->t σ H Q):PO X e u:=λ pins s σ H Q I q=>h pins s σ H Q I (k σ H Q q)
def xQ:Wg X ct none Hw:=by exact ⟨PO.imp JF λ σ H Q z_=>zR z_ λ Γ j h=>h H (az.refl H)⟩
def xP(he:WD X ct e f):Wg X ct (some e) (dP f):=by
 have he:=he.out;refine ⟨?_⟩;refine PO.imp (JE he) ?_;refine λ σ H Q=>ah λ Γ j h=>?_;refine nE.bnd j h λ d v H' s t j' h'=>?_;cases d with
 |int i=>simp only[Tl] at t;exact af i t (h' H' s)
 |_=>exact h'.elim
def Hz{K:W.Frag}{H:Hp}{ds:List D}{vs:List V}(t:aK K ct H ds vs)(lo hi:Option Int):aK K ct H (KS ds lo hi) (AW vs lo hi):=by unfold KS AW;rw[t.length];exact (t.drop _).take _
def EL{lo hi:Option Expr}{l u:Sg->Res (Option Int)}{p2:Pos}(he:WD X ct e f)(hl:Wg X ct lo l)(hu:Wg X ct hi u):WL X ct (.Subscript e (.Slice lo hi none p2) pos) (GU f l u):=by
 have he:=he.out;have hl:=hl.out;have hu:=hu.out;refine ⟨?_⟩;refine PE.imp (FQ Jg he hl hu) ?_;refine λ σ H Q=>ah λ Γ j h=>?_;refine nE.bnd j h λ d v H1 s1 t1 j1 h1=>?_;refine af Γ j1 ((Ok.mono s1 h1 λ _ z=>z).bnd (W:=Wl X ct H Q) λ lo _ h2 H2 s2=>?_);refine af Γ (j1.mono s2) ((Ok.mono s2 h2 λ _ z=>z).bnd (W:=Wl X ct H Q) λ hi _ h3 H3 s3=>?_);have t3:=t1.keep (az.keep (s2.trans s3));cases q:rC d with
 |some xs=>rw[q] at h3;have j3:=j1.mono (s2.trans s3);refine ak (λ a vs y fz tl=>?_) (t3.gJ j3.lL j3.lB q);subst y;refine ao a vs rfl fz (λ p hp=>?_);have s4:=bx hp (.lst (AW vs lo hi));exact h3 p _ _ (((s1.trans s2).trans s3).trans s4) (((s1.trans s2).trans s3).free hp) aI ((Hz tl lo hi).keep (az.keep s4))
 |none=>rw[q] at h3;exact h3.elim
end
section
variable{K:W.Frag}{ct:Ct}{H H':Hp}
def Walk(H:Hp):M->V->List Nat->V->Prop
 |_,v,[],v'=>v'=v
 | .n ms,v,k::ks,v'=>∃a vs v1 m1,v= .ref a/\H a=some (.lst vs)/\vs[k]? =some v1/\ms[k]? =some m1/\Walk H m1 v1 ks v'
 | .t ms,v,k::ks,v'=>∃a vs v1 m1,v= .ref a/\H a=some (.tup vs)/\vs[k]? =some v1/\ms[k]? =some m1/\Walk H m1 v1 ks v'
 | .q kq ms,v,k::ks,v'=>∃a vs v1 m1,v= .ref a/\H a=some (kq.ho vs)/\kq.len=vs.length/\vs[k]? =some v1/\ms[k]? =some m1/\Walk H m1 v1 ks v'
 |_,_,_::_,_=>False
theorem Walk.same(e:az H H'):∀{ks:List Nat} {m:M} {v v':V},Walk H m v ks v'->Walk H' m v ks v'
 |[],m,v,v',h=>by cases m<;>simpa only[Walk] using h
 |k::ks,.n ms,v,v',h=>by simp only[Walk] at h ⊢;refine cA (λ a vs v1 m1 h1 h2 h3 h4 h5=>?_) h;exact bT a vs v1 m1 h1 (e _ _ h2) h3 h4 (Walk.same e h5)
 |k::ks,.t ms,v,v',h=>by simp only[Walk] at h ⊢;refine cA (λ a vs v1 m1 h1 h2 h3 h4 h5=>?_) h;exact bT a vs v1 m1 h1 (e _ _ h2) h3 h4 (Walk.same e h5)
 |k::ks,.q kq ms,v,v',h=>by simp only[Walk] at h ⊢;refine cz (λ a vs v1 m1 h1 h2 h0 h3 h4 h5=>?_) h;exact dg a vs v1 m1 h1 (e _ _ h2) h0 h3 h4 (Walk.same e h5)
 |k::ks,.d x,v,v',h=>by simp only[Walk] at h
 |k::ks,.l x,v,v',h=>by simp only[Walk] at h
 |k::ks,.k x y,v,v',h=>by simp only[Walk] at h
 |k::ks,.o x y z,v,v',h=>by simp only[Walk] at h
theorem Walk.snoc:∀{ks:List Nat} {m m':M} {v v':V},Walk H m v ks v'->gq m ks=some m'->Walk H m' v' [k] v1->Walk H m v (ks++[k]) v1
 |[],m,m',v,v',h,e,w=>by simp only[Walk] at h;simp only[gq,Option.some.injEq] at e;subst h e;exact w
 |j::ks,.n ms,m',v,v',h,e,w=>by simp only[Walk] at h;refine cA (λ a vs v2 m2 h1 h2 h3 h4 h5=>?_) h;simp only[gq,h4,Option.bind_some] at e;show Walk H (.n ms) v (j::(ks++[k])) v1;simp only[Walk];exact bT a vs v2 m2 h1 h2 h3 h4 (Walk.snoc h5 e w)
 |j::ks,.t ms,m',v,v',h,e,w=>by simp only[Walk] at h;refine cA (λ a vs v2 m2 h1 h2 h3 h4 h5=>?_) h;simp only[gq,h4,Option.bind_some] at e;show Walk H (.t ms) v (j::(ks++[k])) v1;simp only[Walk];exact bT a vs v2 m2 h1 h2 h3 h4 (Walk.snoc h5 e w)
 |j::ks,.q kq ms,m',v,v',h,e,w=>by simp only[Walk] at h;refine cz (λ a vs v2 m2 h1 h2 h0 h3 h4 h5=>?_) h;simp only[gq,h4,Option.bind_some] at e;show Walk H (.q kq ms) v (j::(ks++[k])) v1;simp only[Walk];exact dg a vs v2 m2 h1 h2 h0 h3 h4 (Walk.snoc h5 e w)
 |j::ks,.d x,m',v,v',h,e,w=>by simp only[Walk] at h
 |j::ks,.l x,m',v,v',h,e,w=>by simp only[Walk] at h
 |j::ks,.k x y,m',v,v',h,e,w=>by simp only[Walk] at h
 |j::ks,.o x y z,m',v,v',h,e,w=>by simp only[Walk] at h
theorem zip_inj{α β:Type}:∀{ks:List α} {vs us:List β},ks.length=vs.length->ks.length=us.length->ks.zip vs=ks.zip us->vs=us
 |[],[],[],_,_,_=>rfl
 |k::ks,v::vs,u::us,h1,h2,e=>by simp only[List.zip_cons_cons,List.cons.injEq,Prod.mk.injEq,true_and] at e;rw[e.1,zip_inj (by simpa using h1) (by simpa using h2) e.2]
def O5{kq:Ks}{vs us:List V}(h1:kq.len=vs.length)(h2:kq.len=us.length)(e:kq.ho vs=kq.ho us):vs=us:=by
 cases kq with
 |s ks=>simp only[Ks.ho,HO.dK.injEq] at e;exact zip_inj h1 h2 e
 |t ks=>simp only[Ks.ho,HO.dT.injEq] at e;exact zip_inj h1 h2 e
theorem bP.length:∀{ms:List M} {vs:List V} {S:Fp},bP K ct H ms vs S->ms.length=vs.length
 |[],vs,S,h=>by simp only[bP] at h;subst h;rfl
 |m::ms,vs,S,h=>by
  simp only[bP] at h
  revert h;refine cz λ v r S1 S2 z _ _ _ _ h6=>?_;subst z
  simp[bP.length h6]
theorem bP.Ci:∀{ms:List M} {vs:List V} {S:Fp} {k:Nat} {m1:M},bP K ct H ms vs S->ms[k]? =some m1->∃v1 S1,vs[k]? =some v1/\Ow K ct H m1 v1 S1/\(∀b,S1 b->S b)/\∀H' eK xx,aV ct.f.cb H H'->(∀b o,S b->¬S1 b->H b=some o->H' b=some o)->Ow K ct H' eK v1 xx->(∀b,xx b->S b->S1 b)->bP K ct H' (ms.set k eK) vs (λ b=>(S b/\¬S1 b)\/xx b)
 |[],vs,S,k,m1,h,e=>by simp at e
 |m::ms,vs,S,0,m1,h,e=>by
  simp only[bP] at h
  revert h;refine cz λ v r S1 S2 y h2 h3 h4 h5 h6=>?_;subst y
  simp only[List.getElem?_cons_zero,Option.some.injEq] at e;subst e;refine bg v S1 rfl h5 h2 (λ H' eK xx kp un o fr=>?_);simp only[List.set_cons_zero,bP];refine dg v r xx S2 rfl (λ b z=> .inr z) (λ b z=> .inl ⟨h3 b z,λ w=>h4 b w z⟩) (λ b z w=>h4 b (fr b z (h3 b w)) w) o (h6.frame kp λ b o z=>un b o (h3 b z) λ w=>h4 b w z)
 |m::ms,vs,S,k+1,m1,h,e=>by
  simp only[bP] at h
  revert h;refine cz λ v r S1 S2 y h2 h3 h4 h5 h6=>?_;subst y
  simp only[List.getElem?_cons_succ] at e;refine aN (λ v1 T1 g1 g2 g3 g4=>?_) (bP.Ci h6 e);refine bg v1 T1 (by simpa using g1) g2 (λ b z=>h3 b (g3 b z)) (λ H' eK xx kp un o fr=>?_);have q:=g4 H' eK xx kp (λ b o z w=>un b o (h3 b z) w) o λ b z w=>fr b z (h3 b w);simp only[List.set_cons_succ,bP];refine dg v r S1 (λ b=>(S2 b/\¬T1 b)\/xx b) rfl (λ b z=> .inl ⟨h2 b z,λ w=>h4 b z (g3 b w)⟩) (λ b z=>?_) (λ b z w=>?_) (h5.frame kp λ b o z=>un b o (h2 b z) λ w=>h4 b z (g3 b w)) q
  ·rcases z with z|z
   ·exact .inl ⟨h3 b z.1,z.2⟩
   ·exact .inr z
  ·rcases w with w|w
   ·exact h4 b z w.1
   ·exact h4 b z (g3 b (fr b w (h2 b z)))
theorem Ow.Ci:∀{ks:List Nat} {m m':M} {v v':V} {S:Fp},Ow K ct H m v S->Walk H m v ks v'->gq m ks=some m'->∃S',Ow K ct H m' v' S'/\(∀b,S' b->S b)/\∀H' eK xx,aV ct.f.cb H H'->(∀b o,S b->¬S' b->H b=some o->H' b=some o)->Ow K ct H' eK v' xx->(∀b,xx b->S b->S' b)->Ow K ct H' (eT m ks eK) v (λ b=>(S b/\¬S' b)\/xx b)
 |[],m,m',v,v',S,o,w,e=>by
  simp only[Walk] at w;simp only[gq,Option.some.injEq] at e;subst w e;refine aX S o (λ _ z=>z) (λ H' eK xx kp un o' fr=>?_);have:eT m [] eK=eK:=by cases m<;>rfl
  rw[this];exact o'.wide λ b z=> .inr z
 |k::ks,.n ms,m',v,v',S,o,w,e=>by
  simp only[Walk] at w
  revert w;refine cA λ a vs v1 m1 u w2 w3 w4 w5=>?_;subst u
  simp only[gq,w4,Option.bind_some] at e;simp only[Ow] at o
  revert o;refine aN λ a' us e1 o2 o3 o4=>?_
  cases e1;rw[w2] at o3;cases o3;refine aN (λ u1 T1 g1 g2 g3 g4=>?_) (bP.Ci o4 w4);rw[w3] at g1;cases g1;refine aD (λ S' q1 q2 q3=>?_) (Ow.Ci g2 w5 e);refine aX S' q1 (λ b z=>(g3 b (q2 b z)).1) (λ H' eK xx kp un o' fr=>?_);have na:¬S' a:=λ z=>(g3 a (q2 a z)).2 rfl;have r1:=q3 H' eK xx kp (λ b o z=>un b o (g3 b z).1) o' λ b z z'=>fr b z (g3 b z').1;have r2:=g4 H' (eT m1 ks eK) _ kp (λ b o z z'=>un b o z.1 λ y=>z' (q2 b y)) r1 λ b z z'=>by
   rcases z with z|z
   ·exact z.1
   ·exact q2 b (fr b z z'.1)
  simp only[eT,w4,Ow];refine bg a vs rfl (.inl ⟨o2,na⟩) (un a _ o2 na w2) (r2.wide λ b z=>?_);rcases z with z|z|z
  ·exact ⟨.inl ⟨z.1.1,λ y=>z.2 (q2 b y)⟩,z.1.2⟩
  ·exact ⟨.inl ⟨(g3 b z.1).1,z.2⟩,(g3 b z.1).2⟩
  ·refine ⟨.inr z,?_⟩
   rintro rfl
   exact na (fr b z o2)
 |k::ks,.t ms,m',v,v',S,o,w,e=>by
  simp only[Walk] at w
  revert w;refine cA λ a vs v1 m1 u w2 w3 w4 w5=>?_;subst u
  simp only[gq,w4,Option.bind_some] at e;simp only[Ow] at o
  revert o;refine ak λ a' us e1 o3 o4=>?_
  cases e1;rw[w2] at o3;cases o3;refine aN (λ u1 T1 g1 g2 g3 g4=>?_) (bP.Ci o4 w4);rw[w3] at g1;cases g1;refine aD (λ S' q1 q2 q3=>?_) (Ow.Ci g2 w5 e);refine aX S' q1 (λ b z=>g3 b (q2 b z)) (λ H' eK xx kp un o' fr=>?_);have r1:=q3 H' eK xx kp (λ b o z=>un b o (g3 b z)) o' λ b z z'=>fr b z (g3 b z');have r2:=g4 H' (eT m1 ks eK) _ kp (λ b o z z'=>un b o z λ y=>z' (q2 b y)) r1 λ b z z'=>by
   rcases z with z|z
   ·exact z.1
   ·exact q2 b (fr b z z')
  simp only[eT,w4,Ow];refine ao a vs rfl (kp _ _ w2 trivial) (r2.wide λ b z=>?_);rcases z with z|z|z
  ·exact .inl ⟨z.1,λ y=>z.2 (q2 b y)⟩
  ·exact .inl ⟨g3 b z.1,z.2⟩
  ·exact .inr z
 |k::ks,.q kq ms,m',v,v',S,o,w,e=>by
  simp only[Walk] at w
  revert w;refine cz λ a vs v1 m1 u w2 w0 w3 w4 w5=>?_;subst u
  simp only[gq,w4,Option.bind_some] at e;simp only[Ow] at o
  revert o;refine cC λ a' us e1 o2 o3 o0 o4=>?_
  cases e1;rw[w2] at o3;cases O5 w0 o0 (Option.some.inj o3);refine aN (λ u1 T1 g1 g2 g3 g4=>?_) (bP.Ci o4 w4);rw[w3] at g1;cases g1;refine aD (λ S' q1 q2 q3=>?_) (Ow.Ci g2 w5 e);refine aX S' q1 (λ b z=>(g3 b (q2 b z)).1) (λ H' eK xx kp un o' fr=>?_);have na:¬S' a:=λ z=>(g3 a (q2 a z)).2 rfl;have r1:=q3 H' eK xx kp (λ b o z=>un b o (g3 b z).1) o' λ b z z'=>fr b z (g3 b z').1;have r2:=g4 H' (eT m1 ks eK) _ kp (λ b o z z'=>un b o z.1 λ y=>z' (q2 b y)) r1 λ b z z'=>by
   rcases z with z|z
   ·exact z.1
   ·exact q2 b (fr b z z'.1)
  simp only[eT,w4,Ow];refine bG a vs rfl (.inl ⟨o2,na⟩) (un a _ o2 na w2) w0 (r2.wide λ b z=>?_);rcases z with z|z|z
  ·exact ⟨.inl ⟨z.1.1,λ y=>z.2 (q2 b y)⟩,z.1.2⟩
  ·exact ⟨.inl ⟨(g3 b z.1).1,z.2⟩,(g3 b z.1).2⟩
  ·refine ⟨.inr z,?_⟩
   rintro rfl
   exact na (fr b z o2)
 |k::ks,.d x,m',v,v',S,o,w,e=>by simp only[Walk] at w
 |k::ks,.l x,m',v,v',S,o,w,e=>by simp only[Walk] at w
 |k::ks,.k x y,m',v,v',S,o,w,e=>by simp only[Walk] at w
 |k::ks,.o x y z,m',v,v',S,o,w,e=>by simp only[Walk] at w
def J.up{c:Cf}{H₀:Hp}{Γ:Sg}{σ:St}{i:Nat}{s:Slot}{m m' eK:M}{v0:V}{a:Addr}{ks:List Nat}{o':HO}(j:J K c.z H₀ Γ σ H)(hi:Γ[i]? =some s)(hm:xF s=some m)(hσ:σ[i]? =some (some v0))(w:Walk H m v0 ks (.ref a))(e:gq m ks=some m') (kp:aV c.cb H (upd H a o')) (new:∀S',Ow K c.z H m' (.ref a) S'->S' a/\Ow K c.z (upd H a o') eK (.ref a) S'):J K c.z H₀ (Γ.set i (DB s (eT m ks eK))) σ (upd H a o'):=by
 refine ah (λ S h1 h2=>?_) (j.chg i);have sl:=h1 s _ hi hσ;have key:∀(v:V) (o:Ow K c.z H m v S) (hv:v=v0),∃S2:Fp,Ow K c.z (upd H a o') (eT m ks eK) v0 S2/\(∀b,S2 b->S b)/\S a:=λ v o hv=>by
  subst hv;refine aD (λ S' q1 q2 q3=>?_) (o.Ci w e);obtain ⟨n1,n2⟩:=new S' q1;refine aX _ (q3 _ eK S' kp (λ b u z z' q=>by rw[aB (by rintro rfl;exact z' n1)];exact q) n2 λ b z _=>z) (λ b z=>?_) (q2 a n1);rcases z with z|z
  ·exact z.1
  ·exact q2 b z
 have fin:∀(Ex:Slot) (S2:Fp),S a->(∀b,S2 b->S b)->iB K c.z H₀ (upd H a o') i S2 Ex (some v0)->J K c.z H₀ (Γ.set i Ex) σ (upd H a o'):=λ Ex S2 sa sub ok=>by
  have q:=h2 (upd H a o') Ex (some v0) S2 kp (λ b u z z'=>by rw[aB (by rintro rfl;exact z' sa)];exact z) (λ b z=>by
   by_cases eb:b=a
   ·subst eb;rw[aI] at z;cases z
   ·rwa [aB eb] at z) (λ b u z=>nomatch z) ok λ b z=> .inl (sub b z)
  have hil:i<σ.length:=(List.getElem?_eq_some_iff.mp hσ).1;have:σ.set i (some v0)=σ:=by have e2:=(List.getElem?_eq_some_iff.mp hσ).2;rw[<-e2,List.set_getElem_self]
  rwa [this] at q
 have R9:∀S2:Fp,(∀b,S2 b->S b)->Ig c.z H₀ H S->Ig c.z H₀ (upd H a o') S2:=λ S2 sub so=>⟨λ b z=>so.new b (sub b z),λ b z q=>so.here b (sub b z) (by
   by_cases eb:b=a
   ·subst eb;rw[aI] at q;cases q
   ·rwa [aB eb] at q),λ b z=>so.Au b (sub b z),λ b z t=>nomatch t⟩
 cases s with
 |no=>cases hm
 |val d=>cases hm
 |own m0=>
  cases hm
  revert sl;refine dc λ v e1 o so n=>?_
  refine aD (λ S2 o2 sub sa=>?_) (key v o (by cases e1;rfl));exact fin (.own (eT m ks eK)) S2 sa sub (bY v0 rfl o2 (R9 S2 sub so) (λ b z=>n b (sub b z)))
 |par m0=>
  cases hm
  revert sl;refine dc λ v e1 o so n=>?_
  refine aD (λ S2 o2 sub sa=>?_) (key v o (by cases e1;rfl));exact fin (.par (eT m ks eK)) S2 sa sub (bY v0 rfl o2 (R9 S2 sub so) (by cases e1;exact n))
end
section
variable{X:Cx}{ct:Ct}{c:Cf}{r ix e:Expr}{i:Nat}{g:Sg->Res (List Nat)}{f fk:Sg->Res D}{pos:Pos}{Γ:Sg}{σ:St}{H:Hp}
def lV(Γ:Sg)(σ:St)(H:Hp)(i:Nat)(ks:List Nat)(v:V):Prop:=∃s m v0 m',Γ[i]? =some s/\xF s=some m/\σ[i]? =some (some v0)/\Walk H m v0 ks v/\gq m ks=some m'
theorem lV.same{H':Hp}{ks:List Nat}{v:V}(e:az H H')(h:lV Γ σ H i ks v):lV Γ σ H' i ks v:=by refine cA (λ s m v0 m' h1 h2 h3 h4 h5=>?_) h;exact bT s m v0 m' h1 h2 h3 (h4.same e) h5
def Zl(X:Cx)(ct:Ct)(i:Nat)(g:Sg->Res (List Nat)):TE:=λ σ H Q=>∃Γ,Jx X ct Γ σ H/\Ok X ct σ H (g Γ) λ ks=>∀v H',az H H'->lV Γ σ H' i ks v->Q v H'
abbrev PP(X:Cx)(ct:Ct)(e:Expr)(i:Nat)(g:Sg->Res (List Nat)):Prop:=PE X e (Zl X ct i g)
abbrev WP(X:Cx)(ct:Ct)(e:Expr)(i:Nat)(g:Sg->Res (List Nat)):Prop:=WE X e (Zl X ct i g)
def J.ofM{K:W.Frag}{H₀:Hp}{s:Slot}{m:M}(j:J K ct H₀ Γ σ H)(h:Γ[i]? =some s)(hm:xF s=some m):∃v S,σ[i]? =some (some v)/\Ow K ct H m v S:=by
 cases s with
 |no=>cases hm
 |val d=>cases hm
 |own m'=>cases hm;refine ak (λ v S h1 h2 _=>?_) (j.own h);exact aM v S h1 h2
 |par m'=>cases hm;refine ak (λ v S h1 h2 _=>?_) (j.par h);exact aM v S h1 h2
def gQ(i:Nat)(hN:X.N[i]? =some x:=by rfl)(hv:Ic X.env.scope x:=by first|exact Or.inl rfl|exact Or.inr (Or.inl rfl)|exact Or.inr (Or.inr rfl))(hd:(x==("__debug__":Str))=false:=by decide)(hcd:(x==("__classdict__":Str))=false:=by decide):WP X ct (.Name x pos) i (gK i):=by
 refine ⟨?_⟩;refine PE.imp (uI hN hv hd hcd) ?_;refine λ σ H Q=>ah λ Γ j h=>?_;unfold gK at h;split at h
 ·rename_i m hm;refine ah (λ s h1 h2=>?_) (Option.bind_eq_some_iff.mp hm);refine aQ (λ v S h3 h4=>?_) (j.ofM h1 h2);refine af v h3 (h v H (az.refl H) (bT s m v m h1 h2 h3 ?_ ?_))
  ·cases m<;>rfl
  ·cases m<;>rfl
 ·exact h.elim
theorem nq{k:Nat}{m1:M}:∀{ks:List Nat} {m m':M},gq m ks=some m'->gq m' [k]=some m1->gq m (ks++[k])=some m1
 |[],m,m',h,w=>by simp only[gq,Option.some.injEq] at h;subst h;exact w
 |q::ks,.n l,m',h,w=>by simp only[gq] at h;refine ah (λ m2 y1 y2=>?_) (Option.bind_eq_some_iff.mp h);show gq (.n l) (q::(ks++[k]))=_;simp only[gq,y1,Option.bind_some];exact nq y2 w
 |q::ks,.t l,m',h,w=>by simp only[gq] at h;refine ah (λ m2 y1 y2=>?_) (Option.bind_eq_some_iff.mp h);show gq (.t l) (q::(ks++[k]))=_;simp only[gq,y1,Option.bind_some];exact nq y2 w
 |q::ks,.q kq l,m',h,w=>by simp only[gq] at h;refine ah (λ m2 y1 y2=>?_) (Option.bind_eq_some_iff.mp h);show gq (.q kq l) (q::(ks++[k]))=_;simp only[gq,y1,Option.bind_some];exact nq y2 w
 |q::ks,.d x,m',h,w=>by simp[gq] at h
 |q::ks,.l x,m',h,w=>by simp[gq] at h
 |q::ks,.k x y,m',h,w=>by simp[gq] at h
 |q::ks,.o x y z,m',h,w=>by simp[gq] at h
def Lq(hr:WP X ct r i g)(hk:WD X ct ix fk)(hs:nv ix:=by exact λ _ _=>rfl):WP X ct (.Subscript r ix pos) i (QW i g fk):=by
 have hr:=hr.out;have hk:=hk.out;refine ⟨?_⟩;refine PE.imp (LD G0 hr hk hs) ?_;refine λ σ H Q=>ah λ Γ j h=>?_;refine af Γ j (h.bnd λ ks _ q v H1 s1 pa=>?_);refine nE.bnd (f:=fk) (j.mono s1) (Ok.mono s1 q λ _ z=>z) λ d u H2 s2 t2 j2 h2=>?_;refine cA (λ s m v0 m' p1 p2 p3 p4 p5=>?_) (pa.same s2);have e1:((Γ[i]?).bind xF).bind (λ m=>(gq m ks).bind yN)=yN m':=by rw[p1,Option.bind_some,p2,Option.bind_some,p5,Option.bind_some]
 rw[e1] at h2;refine aQ (λ vv S g1 o=>?_) (j2.ofM p1 p2);rw[p3] at g1;cases g1;refine ah (λ S' o' _=>?_) (o.Ci p4 p5);cases d with
 |int z=>
  simp only[Tl] at t2;subst t2;cases ml:yN m' with
  |none=>rw[ml] at h2;exact h2.elim
  |some n=>
   rw[ml] at h2;dsimp only at h2;cases hx:L4.mU n z with
   |none=>rw[hx] at h2;exact h2.elim
   |some k=>
    rw[hx] at h2;have fin:∀(ms:List M) (a:Addr) (vs:List V) (T:Fp),bP X.K ct H2 ms vs T->n=ms.length->(∀v1 m1,vs[k]? =some v1->ms[k]? =some m1->Walk H2 m' v [k] v1/\gq m' [k]=some m1)->∃v1,L2.tV vs z=some v1/\Q v1 H2:=λ ms a vs T os en w=>by
     have hk:k<ms.length:=by
      subst en;unfold L4.mU at hx;split at hx
      ·split at hx
       ·cases hx;omega
       ·cases hx
      ·split at hx
       ·cases hx;omega
       ·cases hx
     refine ak (λ v1 T1 g1 g2 _=>?_) (os.Ci (List.getElem?_eq_getElem hk));obtain ⟨w1,w2⟩:=w v1 _ g1 (List.getElem?_eq_getElem hk);refine af v1 ?_ (h2 v1 H2 (s1.trans s2) (bT s m v0 (ms[k]) p1 p2 p3 (p4.snoc p5 w1) ?_))
     ·unfold L2.tV;have:L2.mU vs.length z=some k:=by rw[<-os.length, <-en];exact hx
      rw[this];exact g1
     ·exact nq p5 w2
    cases m' with
    |n ms=>
     simp only[Ow] at o'
     revert o';refine aN λ a vs z1 o2 o3 o4=>?_;subst z1
     simp only[yN,Option.some.injEq] at ml;refine ah (λ v1 a1 a2=>?_) (fin ms a vs _ o4 ml.symm λ v1 m1 y1 y2=>⟨by simp only[Walk];exact bT a vs v1 m1 rfl o3 y1 y2 rfl,by simp[gq,y2]⟩);exact .inl (bT a vs z v1 rfl rfl (.inl (.inl o3)) a1 a2)
    |t ms=>
     simp only[Ow] at o'
     revert o';refine ak λ a vs z1 o3 o4=>?_;subst z1
     simp only[yN,Option.some.injEq] at ml;refine ah (λ v1 a1 a2=>?_) (fin ms a vs _ o4 ml.symm λ v1 m1 y1 y2=>⟨by simp only[Walk];exact bT a vs v1 m1 rfl o3 y1 y2 rfl,by simp[gq,y2]⟩);exact .inr (.inl (bT a vs z v1 rfl rfl (.inl (.inl o3)) a1 a2))
    |d x=>cases ml
    |l x=>cases ml
    |k x y=>cases ml
    |o x y z=>cases ml
    |q x y=>cases ml
 |_=>cases yN m'<;>exact h2.elim
end
section
variable{X:Cx}{c:Cf}{r ix e:Expr}{i:Nat}{g:Sg->Res (List Nat)}{f fk:Sg->Res D}{pos:Pos}{Γ:Sg}{σ:St}{H:Hp}
def iS:1000000<sizeLine:=by rw[sizeLine_eq];decide
theorem bP.snoc{K:W.Frag}{ct:Ct}{d:D}{y:V}:∀{ms:List M} {vs:List V} {S:Fp},bP K ct H ms vs S->Tl K ct H d y->bP K ct H (ms++[.d d]) (vs++[y]) S
 |[],vs,S,h,t=>by simp only[bP] at h;subst h;simp only[List.nil_append,bP,Ow];exact dg y [] (λ _=>False) (λ _=>False) rfl (λ _ z=>z.elim) (λ _ z=>z.elim) (λ _ z=>z.elim) t rfl
 |m::ms,vs,S,h,t=>by
  simp only[bP] at h
  revert h;refine cz λ v r S1 S2 w h2 h3 h4 h5 h6=>?_;subst w
  simp only[List.cons_append,bP];exact dg v (r++[y]) S1 S2 rfl h2 h3 h4 h5 (bP.snoc h6 t)
theorem bP.Sb{K:W.Frag}{ct:Ct}{d:D}{y:V}:∀{ms:List M} {vs:List V} {S:Fp} (k:Nat),bP K ct H ms vs S->Tl K ct H d y->bP K ct H (ms.set k (.d d)) (vs.set k y) S
 |[],vs,S,k,h,t=>by simp only[bP] at h;subst h;simp[bP]
 |m::ms,vs,S,0,h,t=>by
  simp only[bP] at h
  revert h;refine cz λ v r S1 S2 w h2 h3 h4 h5 h6=>?_;subst w
  simp only[List.set_cons_zero,bP,Ow];exact dg y r (λ _=>False) S2 rfl (λ _ z=>z.elim) h3 (λ _ z=>z.elim) t h6
 |m::ms,vs,S,k+1,h,t=>by
  simp only[bP] at h
  revert h;refine cz λ v r S1 S2 w h2 h3 h4 h5 h6=>?_;subst w
  simp only[List.set_cons_succ,bP];exact dg v (r.set k y) S1 S2 rfl h2 h3 h4 h5 (bP.Sb k h6 t)
def DP{ks:List Nat}{v:V}(j:Jx X c.z Γ σ H)(pa:lV Γ σ H i ks v)(hl:yR (kT i ks Γ)=true):∃a vs,v= .ref a/\H a=some (.lst vs):=by
 revert pa;refine cA λ s m v0 m' p1 p2 p3 p4 p5=>?_
 have e1:kT i ks Γ=some m':=by unfold kT;rw[p1,Option.bind_some,p2,Option.bind_some,p5]
 rw[e1] at hl;refine aQ (λ vv S g1 o=>?_) (j.ofM p1 p2);rw[p3] at g1;cases g1;refine ah (λ S' o' _=>?_) (o.Ci p4 p5);cases m' with
 |l xs=>simp only[Ow] at o';revert o';refine aN λ a vs h1 _ h2 _=>?_;exact aM a vs h1 h2
 |n xs=>simp only[Ow] at o';revert o';refine aN λ a vs h1 _ h2 _=>?_;exact aM a vs h1 h2
 |_=>cases hl
def Bl{F:M->Option M}(j:Jx X c.z Γ σ H)(k0:aV c.cb H0 H)(pa:lV Γ σ H i ks (.ref a))(ha:H a=some (.lst vs))(q:Fn X c H0 (JV (pT i ks F Γ)) E)(hF:∀m' eK S',F m'=some eK->Ow X.K c.z H m' (.ref a) S'->S' a/\Ow X.K c.z (upd H a (.lst vs')) eK (.ref a) S'):E.nx σ (upd H a (.lst vs')):=by
 revert pa;refine cA λ s m v0 m' p1 p2 p3 p4 p5=>?_
 have e1:pT i ks F Γ=(F m').map λ eK=>Γ.set i (DB s (eT m ks eK)):=by unfold pT;rw[p1,Option.bind_some,p2,Option.bind_some,p5,Option.bind_some]
 rw[e1] at q;cases z:F m' with
 |none=>rw[z] at q;exact q.elim
 |some eK=>rw[z] at q;have kp:aV c.cb H (upd H a (.lst vs')):=aV.lst ha;exact q σ _ (k0.trans kp) (j.up p1 p2 p3 p4 p5 kp λ S' o=>hF m' eK S' z o)
def Bj{ks:List Nat}{v:V}{F:M->Option M}{E:Ends}{H0:Hp}(j:Jx X c.z Γ σ H)(pa:lV Γ σ H i ks v)(q:Fn X c H0 (JV (pT i ks F Γ)) E):∃m' eK S',F m'=some eK/\Ow X.K c.z H m' v S':=by
 revert pa;refine cA λ s m v0 m' p1 p2 p3 p4 p5=>?_
 have e1:pT i ks F Γ=(F m').map λ eK=>Γ.set i (DB s (eT m ks eK)):=by unfold pT;rw[p1,Option.bind_some,p2,Option.bind_some,p5,Option.bind_some]
 rw[e1] at q;refine aQ (λ vv S g1 o=>?_) (j.ofM p1 p2);rw[p3] at g1;cases g1;refine ah (λ S' o' _=>?_) (o.Ci p4 p5);cases z:F m' with
 |none=>rw[z] at q;exact q.elim
 |some eK=>exact g8 m' eK S' z o'
def HQ{K:W.Frag}{d:D}{y:V}{a:Addr}{vs:List V}{B:Hp}{m' eK:M}{S':Fp}(t:Tl K (c.at' B) H d y)(ha:H a=some (.lst vs))(e:sC d m'=some eK)(o:Ow K c.z H m' (.ref a) S'):
  vs.length<1000000/\S' a/\Ow K c.z (upd H a (.lst (vs++[y]))) eK (.ref a) S':=by
 have kp:aV c.cb H (upd H a (.lst (vs++[y]))):=aV.lst ha;cases m' with
 |l xs=>
  simp only[sC] at e;split at e
  ·rename_i hc;cases e;simp only[Ow] at o ⊢
   revert o;refine aN λ a' us e1 o2 o3 o4=>?_
   cases e1;rw[ha] at o3;cases o3;exact aS (by rw[<-o4.length];exact hc.1) o2 (bg a _ rfl o2 aI ((o4.append (aK.cons (Tl.down (B:=B) (tm:=true) t hc.2) aK.nil)).keep kp))
  ·cases e
 |n ms=>
  simp only[sC] at e;split at e
  ·rename_i hc;cases e;simp only[Ow] at o ⊢
   revert o;refine aN λ a' us e1 o2 o3 o4=>?_
   cases e1;rw[ha] at o3;cases o3;refine aS (by rw[<-o4.length];exact hc.1) o2 (bg a _ rfl o2 aI ((o4.snoc (Tl.down (B:=B) (tm:=true) t hc.2)).frame kp λ b o z q=>?_));rw[aB z.2];exact q
  ·cases e
 |_=>cases e
def lA{ap cp:Pos}(hr:∀B,WP X (c.at' B) r i g)(he:∀B,WD X (c.at' B) e f)(hbase:attributeBase r "append" X.env (eval r X.env)=eval r X.env:=by rfl)(hfew:((backTo cp (starEach [e] X.env)).all (λ x=>!x.1)&&(backToKw cp (keywordEach [] X.env)).all (λ x=>x.1.isSome)
   &&decide ([e].length+([]:List Keyword).length+(if ([]:List Keyword).isEmpty then 0 else 1)<30))=true:=by rfl) (hline:(ap.endLine==cp.line)=true:=by rfl) (hs:starEach [e] X.env=(false,eval e X.env)::starEach [] X.env:=by rfl) (hplain:(backTo cp (starEach [] X.env)).any (·.1)=false:=by rfl) (hw:swapsWith (.Call (.Attribute r "append" ap) [e] [] cp) none pos.line X.env=pure false:=by rfl):sG X c (.Expr (.Call (.Attribute r "append" ap) [e] [] cp) pos) (mC i g f):=by
 have hr:=λ B=>(hr B).out;have he:=λ B=>(he B).out;refine ⟨?_⟩;refine λ pins s σ H E I=>ah λ Γ j h=>?_;refine BH (SK PySem.F.plainAttrs_list PySem.F.slot_list_append PySem.F.type_list_append sX (hr H) (iV (he H) qi hs) hbase hfew hline hs hplain) hw pins s σ H E I ?_;refine af Γ j.lift (Fn.ok j h λ ks _ q v H1 s1 pa=>?_);split at q
 ·rename_i hl;have j1:=j.mono s1;refine aQ (λ a vs w ha=>?_) (DP j1 pa hl);subst w;refine ⟨.inl ⟨rfl,vs,fV.of ha⟩,af Γ (j.lift.mono s1) (Ok.mono (H:=H) s1 (Fn.ok (tm:=true) (B:=H) j q λ d _ q y H2 s2 t=>?_) λ _ z=>z)⟩;have j2:=j1.mono s2;have Zk:=pa.same s2;have ha2:=s2 _ _ ha;refine bN (λ m' eK S' e1 o1=>?_) (Bj j2 Zk q);refine lF a vs y rfl rfl ha2 (Nat.lt_trans (HQ t ha2 e1 o1).1 iS) ?_;exact Bl j2 (az.keep (s1.trans s2)) Zk ha2 q λ m' eK S' e o=>(HQ t ha2 e o).2
 ·exact q.elim
def XN(n:Nat)(z:Int):L4.mU n z=L2.mU n z:=rfl
def Fc{K:W.Frag}{d:D}{y:V}{z:Int}{a:Addr}{vs:List V}{B:Hp}{m' eK:M}{S':Fp}(t:Tl K (c.at' B) H d y)(ha:H a=some (.lst vs))(e:setM z d m'=some eK)(o:Ow K c.z H m' (.ref a) S'):
  ∃k,L2.mU vs.length z=some k/\S' a/\Ow K c.z (upd H a (.lst (vs.set k y))) eK (.ref a) S':=by
 cases m' with
 |l xs=>
  simp only[setM] at e;split at e
  ·rename_i hc;simp only[Option.map_eq_some_iff] at e
   revert e;refine ah λ k hk w=>?_;subst w
   simp only[Ow] at o ⊢
   revert o;refine aN λ a' us e1 o2 o3 o4=>?_
   cases e1;rw[ha] at o3;cases o3;refine aX k (by rw[<-o4.length];exact hk) o2 (bg a _ rfl o2 aI ((aK.set (Tl.down (B:=B) (tm:=true) t hc) k o4).keep (aV.lst ha)))
  ·cases e
 |n ms=>
  simp only[setM] at e;split at e
  ·rename_i hc;simp only[Option.map_eq_some_iff] at e
   revert e;refine ah λ k hk w=>?_;subst w
   simp only[Ow] at o ⊢
   revert o;refine aN λ a' us e1 o2 o3 o4=>?_
   cases e1;rw[ha] at o3;cases o3;refine aX k (by rw[<-o4.length];exact hk) o2 (bg a _ rfl o2 aI ((bP.Sb k o4 (Tl.down (B:=B) (tm:=true) t hc)).frame (aV.lst ha) λ b o z q=>?_));rw[aB z.2];exact q
  ·cases e
 |_=>cases e
def jT{pt:Pos}(hr:∀B,WP X (c.at' B) r i g)(hk:∀B,WD X (c.at' B) ix fk)(he:∀B,WD X (c.at' B) e f)(hs:swapsWithSole [.Subscript r ix pt] e pos.line X.env=pure false:=by rfl)(hw:swappedStores [.Subscript r ix pt] e X.env=pure none:=by rfl)(h1:(assignEach [.Subscript r ix pt] X.env).map (·.2)=[assign (.Subscript r ix pt) X.env]:=by rfl)(ha:∀v,assign (.Subscript r ix pt) X.env v=(do
   let ov <-holding [v] (eval r X.env)
   let iv <-holding [v,ov] (eval ix X.env)
   standAt pt
   holding [v,ov,iv] (setItem ov iv v)
   release [v,ov,iv] []):=by intro _;rfl):sG X c (.Assign [.Subscript r ix pt] e pos) (g6 i g fk f):=by
 have hr:=λ B=>(hr B).out
 have hk:=λ B=>(hk B).out
 have he:=λ B=>(he B).out
 refine ⟨?_⟩
 refine λ pins s σ H E I=>ah λ Γ j h=>?_
 refine NR (he H) (NZ (hr H) (hk H) set_list ha) hs hw h1 pins s σ H E I ?_
 refine af Γ j.lift (Fn.ok j h λ d _ q y H1 s1 t=>?_)
 refine af Γ (j.lift.mono s1) (Ok.mono (H:=H) s1 (Fn.ok (tm:=true) (B:=H) j q λ ks _ q v H2 s2 pa=>?_) λ _ z=>z)
 refine af Γ ((j.lift.mono s1).mono s2) (Ok.mono (H:=H) (s1.trans s2) (Fn.ok (tm:=true) (B:=H) j q λ z _ q u H3 s3 t3=>?_) λ _ z=>z)
 cases z with
 |int z=>
  simp only[Tl] at t3
  subst t3
  have sm:=(s1.trans s2).trans s3
  have j3:=j.mono sm
  have Zj:=pa.same s3
  have ty:=t.keep (az.keep (s2.trans s3))
  refine bN (λ m' eK S' e1 o1=>?_) (Bj j3 Zj q)
  have hv:∃a vs,v= .ref a/\H3 a=some (.lst vs):=by
   cases m' with
   |l xs=>simp only[Ow] at o1;revert o1;refine aN λ a vs h1 _ h2 _=>?_;exact aM a vs h1 h2
   |n xs=>simp only[Ow] at o1;revert o1;refine aN λ a vs h1 _ h2 _=>?_;exact aM a vs h1 h2
   |_=>cases e1
  revert hv;refine aQ λ a vs w ha=>?_;subst w
  refine ah (λ k hk _=>?_) (Fc ty ha e1 o1)
  refine bT a vs z k rfl rfl ha hk ?_
  exact Bl j3 (az.keep sm) Zj ha q λ m' eK S' e o=>by
   refine ah (λ k' hk' q'=>?_) (Fc ty ha e o)
   rw[hk] at hk';cases hk'
   exact q'
 |_=>exact q.elim
end
def xN(K:W.Frag)(ct:Ct)(J:It)(xs:List D)(H:Hp):Prop:=∃P:Hp->Prop,P H/\(∀H1 H2,P H1->aV ct.f.cb H1 H2->az ct.f.L H2->az ct.B H2->P H2)/\(∀i d H1,P H1->xs[i]? =some d->J.go i H1/\∀x H2,J.Rx i H1 x H2->az H1 H2/\Tl K ct H2 d x)/\∀i H1,P H1->xs.length<=i->J.stop i H1
section
variable{X:Cx}{ct:Ct}{tg iter e:Expr}{f:Sg->Res D}{pos:Pos}
def G5{K:W.Frag}{H:Hp}{a:Addr}{vs:List V}{xs:List D}(fz:Qf K H a vs)(t:aK K ct H xs vs):xN K ct (Wi K a) xs H:=by refine bY (λ H1=>aV ct.f.cb H H1) (aV.refl H) (λ H1 H2 k1 k2 _ _=>k1.trans k2) (λ i d H1 k1 hd=>?_) (λ i H1 k1 hi=>af vs ((k1.Hg fz).sq) (by rw[<-t.length];exact hi));refine ah (λ v hv tv=>?_) (t.get hd);refine ⟨aM vs v ((k1.Hg fz).sq) hv,λ x H2 ⟨e,y⟩=>⟨by rw[e];exact az.refl _,?_⟩⟩;subst e;have:=y vs (k1.Hg fz).sq;rw[hv] at this;cases this;exact tv.keep k1
def Kl{K:W.Frag}{H:Hp}{tm:Bool}{v:V}{xs:List D}(l:az ct.f.L H)(b:az ct.B H)(t:Tl K ct H (.bor tm xs) v):∃a,v= .ref a/\(∃vs,fV K H a vs)/\xN K ct (Wi K a) xs H:=by
 simp only[Tl] at t
 revert t;refine ak λ a vs z h2 t=>?_;subst z
 have sq:∀H1,az ct.f.L H1->az ct.B H1->fV K H1 a vs:=λ H1 l b=>by
  cases tm with
  |true=>exact .inl (.inl (b a _ h2))
  |false=>exact .inl (.inl (l a _ h2))
 refine aX a rfl ⟨vs,sq H l b⟩ (bY (λ H1=>aV ct.f.cb H H1/\az ct.f.L H1/\az ct.B H1) (aS (aV.refl H) l b) (λ H1 H2 k1 k2 l2 b2=>aS (k1.1.trans k2) l2 b2) (λ i d H1 k1 hd=>?_) (λ i H1 k1 hi=>af vs (sq H1 k1.2.1 k1.2.2) (by rw[<-t.length];exact hi)));refine ah (λ v hv tv=>?_) (t.get hd);refine ⟨aM vs v (sq H1 k1.2.1 k1.2.2) hv,λ x H2 ⟨e,y⟩=>⟨by rw[e];exact az.refl _,?_⟩⟩;subst e;have:=y vs (sq _ k1.2.1 k1.2.2);rw[hv] at this;cases this;exact tv.keep k1.1
def B5{K:W.Frag}{H:Hp}{a:Addr}{vs:List V}{xs:List D}(fz:rQ K H a vs)(t:aK K ct H xs vs):xN K ct (YI K a) xs H:=by refine bY (λ H1=>aV ct.f.cb H H1) (aV.refl H) (λ H1 H2 k1 k2 _ _=>k1.trans k2) (λ i d H1 k1 hd=>?_) (λ i H1 k1 hi=>af vs (k1.Vo fz) (by rw[<-t.length];exact hi));refine ah (λ v hv tv=>?_) (t.get hd);refine ⟨aM vs v (k1.Vo fz) hv,λ x H2 ⟨e,y⟩=>⟨by rw[e];exact az.refl _,?_⟩⟩;subst e;have:=y vs (k1.Vo fz);rw[hv] at this;cases this;exact tv.keep k1
def B6{K:W.Frag}{H:Hp}{lo:Int}{n:Nat}:xN K ct (Vb lo n) (gE lo n) H:=by
 refine bY (λ _=>True) trivial (λ _ _ _ _ _ _=>trivial) (λ i d H1 _ hd=>?_) (λ i H1 _ hi=>by rw[jZ] at hi;exact hi);have hi:i<n:=by have:=(List.getElem?_eq_some_iff.mp hd).1;rwa [jZ] at this
 rw[D6 hi] at hd;cases hd;exact ⟨hi,λ x H2 ⟨e,y⟩=>⟨by rw[e];exact az.refl _,by simp[Tl,y]⟩⟩
def XU(X:Cx)(ct:Ct)(f:Sg->Res (List D)):TI:=λ σ H R=>∃Γ,Jx X ct Γ σ H/\Ok X ct σ H (f Γ) λ xs=>∀J H',az H H'->xN X.K ct J xs H'->R J H'
abbrev Rr(X:Cx)(ct:Ct)(tg iter:Expr)(f:Sg->Res (List D)):Prop:=PI X tg iter (XU X ct f)
structure WI(X:Cx)(tg iter:Expr)(wi:TI):Prop where
 out:PI X tg iter wi
abbrev Ib(X:Cx)(ct:Ct)(tg iter:Expr)(f:Sg->Res (List D)):Prop:=WI X tg iter (XU X ct f)
def d8{r:Sg->Res (List D)}(hm:X.mg "range"=none)(ha:pN X ct [a] r)(AJ:Gl X "range":=by rfl)(hs:starEach [a] X.env=[(false,eval a X.env)]:=by rfl):Ib X ct tg (.Call (.Name "range" p) [a] [] pos') (gX r):=by
 have ha:=ha.out;refine ⟨?_⟩;refine λ pins s σ H R I=>ah λ Γ j h=>?_;refine DG AJ hm ha hs pins s σ H R I (af Γ j (h.bnd λ ds _ q vs H' s tl=>?_));cases ex:uD ds with
 |bad=>rw[ex] at q;exact q.elim
 |err c=>exact (Ju ds c ex).elim
 |ok xs=>
  rw[ex] at q;refine dc (λ i z h1 h2 y=>?_) (Jt ex);subst z;subst y;simp only[aK,Tl] at tl
  revert tl;refine ak λ v r z y w=>?_;subst z;subst y;subst w
  exact bY i rfl h1 h2 (q _ H' s B6)
def EM{r:Sg->Res (List D)}(hm:X.mg "range"=none)(ha:pN X ct [a,b] r)(AJ:Gl X "range":=by rfl)(hs:starEach [a,b] X.env=[(false,eval a X.env),(false,eval b X.env)]:=by rfl)(hs2:starEach [b] X.env=[(false,eval b X.env)]:=by rfl):Ib X ct tg (.Call (.Name "range" p) [a,b] [] pos') (yV r):=by
 have ha:=ha.out;refine ⟨?_⟩;refine λ pins s σ H R I=>ah λ Γ j h=>?_;refine DF AJ hm ha hs hs2 pins s σ H R I (af Γ j (h.bnd λ ds _ q vs H' s tl=>?_));cases ex:uC ds with
 |bad=>rw[ex] at q;exact q.elim
 |err c=>exact (Js ds c ex).elim
 |ok xs=>
  rw[ex] at q;refine ak (λ i i2 z h1 y=>?_) (Jr ex);subst z;subst y;simp only[aK,Tl] at tl
  revert tl;refine ak λ v r z y=>ak λ v2 r2 w x u=>?_;subst z;subst y;subst w;subst x;subst u
  exact ao i i2 rfl h1 (q _ H' s B6)
end
def jl(cells:List (Str×Addr)):List (Str×NameKind)->List (Str×Addr)->Option (List (Str×Addr))
 |[],acc=>some acc
 |(n,k)::r,acc=>if k== .free then (match cells.lookup n with
   |some c=>jl cells r ((n,c)::acc)
   |none=>none) else jl cells r acc
def zA:∀{names:List (Str×NameKind)} {acc cl:List (Str×Addr)},jl cells names acc=some cl->(∀y c,acc.lookup y=some c->cells.lookup y=some c)->∀y c,cl.lookup y=some c->cells.lookup y=some c:=by
 intro v_;induction v_ with
 |nil=>
  rintro acc cl h ha
  cases h;exact ha
 |cons e_ r j4=>
  obtain ⟨n,k⟩:=e_
  rintro acc cl h ha
  unfold jl at h;split at h
  ·split at h
   ·rename_i c hc;refine j4 h λ y c' hy=>?_;rw[List.lookup_cons] at hy;split at hy
    ·rename_i e;cases hy;rw[eq_of_beq e];exact hc
    ·exact ha y c' hy
   ·cases h
  ·exact j4 h ha
def i8{cl:List (Str×Addr)}(h:jl env.cells scope.names []=some cl):closureFor scope env=pure cl:=by
 unfold closureFor;generalize scope.names=names at h ⊢;generalize ([]:List (Str×Addr))=acc at h ⊢;dsimp only;induction names generalizing acc with
 |nil=>cases h;rfl
 |cons p r ih=>
  obtain ⟨n,k⟩:=p;unfold jl at h;rw[List.forIn_cons];by_cases hk:(k==NameKind.free)=true
  ·rw[if_pos hk] at h;split at h
   ·rename_i c hc;have e:cellOf env n=pure c:=by unfold cellOf;rw[hc]
    simp only[hk,if_true,e,pure_bind];exact ih _ h
   ·cases h
  ·rw[if_neg hk] at h;simp only[hk,Bool.false_eq_true,if_false,pure_bind];exact ih _ h
def xM(X:Cx)(scope:Scope)(cl:List (Str×Addr))(C:Addr)(s₀:Shared)(H₀:Hp)(ex:List Addr)(N':List Str):Cx where
 prog:=X.prog
 w:=X.w
 K:=X.K
 mg:=X.mg
 base:=X.base
 A:=X.A
 N:=N'
 s₀:=s₀
 H₀:=H₀
 env:=compEnvC scope cl C X.env
 outer:=X.stack
 stack:=X.stack
 ex:=ex
 fn:=λ _=>false
 calm:=X.calm
 pn:=[]
 xe:=λ _ _=>False
def zE(k:Nat)(caps:List Nat)(σ:St):St:=List.replicate k none++caps.map λ i=>(σ[i]?).join
def TR{tm:Bool}(j:Jx X ct Γ σ H)(ht:tm=true->ct.tm=true):J X.K ct H (gO tm k caps Γ) (zE k caps σ) H:=by
 refine ⟨λ _ _ q _=>q,λ _ q=>q,j.lL,j.lB,j.xt,by simp[gO,zE],λ _ _=>False,λ i sl ov h1 h2=>?_,λ _ _ _ _ z=>z.elim,λ _ _ z=>z.elim⟩;rcases CD h1 with rfl|⟨c,sc,hc,hk,hd,rfl⟩
 ·exact λ _ z=>z
 ·have at2:∀v,σ[c]? =some (some v)->ov=some v:=λ v g1=>by unfold zE at h2;rw[List.getElem?_append_right (by simpa using hk),List.length_replicate,List.getElem?_map,hc] at h2;simp only[Option.map_some,Option.some.injEq] at h2;rw[g1] at h2;exact h2.symm
  cases sc with
  |no=>exact λ _ z=>z
  |val d=>refine ah (λ v g1 g2=>?_) (j.val hd);exact ⟨af v (at2 v g1) g2,λ _ z=>z⟩
  |own m=>
   cases tm with
   |false=>exact λ _ z=>z
   |true=>refine aN (λ v S g1 g2 g3 _=>?_) (j.own hd);exact ⟨af v (at2 v g1) (g2.lend λ b z=>g3.lent b z (ht rfl)),λ _ z=>z⟩
  |par m=>
   cases tm with
   |false=>exact λ _ z=>z
   |true=>refine aN (λ v S g1 g2 g3 _=>?_) (j.par hd);exact ⟨af v (at2 v g1) (g2.lend λ b z=>g3.lent b z (ht rfl)),λ _ z=>z⟩
def Eh:∀{names:List (Str×NameKind)} {acc cl:List (Str×Addr)},jl cells names acc=some cl->∀y,(acc.lookup y).isSome=true->(cl.lookup y).isSome=true:=by
 intro v_;induction v_ with
 |nil=>
  rintro acc cl h
  cases h;exact λ _ z=>z
 |cons e_ r j4=>
  obtain ⟨n,k⟩:=e_
  rintro acc cl h
  unfold jl at h;split at h
  ·split at h
   ·rename_i c hc;intro y hy;refine j4 h y ?_;rw[List.lookup_cons];split
    ·rfl
    ·exact hy
   ·cases h
  ·exact j4 h
def m5:∀{names:List (Str×NameKind)} {acc cl:List (Str×Addr)},jl cells names acc=some cl->∀y,(y,NameKind.free)∈names->(cl.lookup y).isSome=true:=by
 intro v_;induction v_ with
 |nil=>
  rintro acc cl h
  exact λ y hy=>by cases hy
 |cons e_ r j4=>
  obtain ⟨n,k⟩:=e_
  rintro acc cl h
  unfold jl at h;intro y hy;split at h
  ·split at h
   ·rename_i c hc;rcases List.mem_cons.mp hy with e|hy
    ·cases e;exact Eh h _ (by simp[List.lookup_cons])
    ·exact j4 h y hy
   ·cases h
  ·rename_i hk;rcases List.mem_cons.mp hy with e|hy
   ·cases e;exact absurd rfl hk
   ·exact j4 h y hy
theorem mG{env:Env}:∀{names:List (Str×NameKind)} {y:Str},(∀z∈names,z.2≠.cell)->((names.map λ(n,k)=>if (k==NameKind.free&&env.scope.kind== .function&&env.kindOf n==some .cell) then (n,NameKind.cell) else (n,k)).lookup y=some .cell\/(names.map λ(n,k)=>if (k==NameKind.free&&env.scope.kind== .function&&env.kindOf n==some .cell) then (n,NameKind.cell) else (n,k)).lookup y=some .free)->(y,NameKind.free)∈names
 |[],y,_,h=>by simp at h
 |(n,k)::r,y,hc,h=>by
  have ih:= @mG env r y λ z hz=>hc z (.tail _ hz);have hk:k≠.cell:=hc (n,k) (.head _);have e1:(((n,k)::r).map λ(n,k)=>if (k==NameKind.free&&env.scope.kind== .function&&env.kindOf n==some .cell) then (n,NameKind.cell) else (n,k))=
   (if (k==NameKind.free&&env.scope.kind== .function&&env.kindOf n==some .cell)=true then (n,NameKind.cell) else (n,k))::(r.map λ(n,k)=>if (k==NameKind.free&&env.scope.kind== .function&&env.kindOf n==some .cell) then (n,NameKind.cell) else (n,k)):=rfl
  rw[e1] at h;by_cases uW:(k==NameKind.free&&env.scope.kind== .function&&env.kindOf n==some .cell)=true
  ·rw[if_pos uW] at h;have hkf:k= .free:=by have:=(Bool.and_eq_true_iff.mp (Bool.and_eq_true_iff.mp uW).1).1;exact eq_of_beq this
   simp only[List.lookup_cons] at h;split at h
   ·rename_i e;rw[eq_of_beq e,hkf];exact .head _
   ·exact .tail _ (ih h)
  ·rw[if_neg uW] at h;simp only[List.lookup_cons] at h;split at h
   ·rename_i e;rcases h with h|h
    ·exact absurd (Option.some.inj h) hk
    ·rw[eq_of_beq e,Option.some.inj h];exact .head _
   ·exact .tail _ (ih h)
def vg{s:Shared}(I:Nat->Shared->Prop)(turn:∀n s,I n s->wpAny (model prog w) A (pyNext it) (λ r s₁=>match r with
   |none=>R (.ok .next) s₁
   |some v=>wpAny (model prog w) A (letOwnedTupleGo target it v) (λ _ s₁'=>wpAny (model prog w) A (assign target env v) (λ _ s₂=>
     wpAny (model prog w) A (forIn ifs true λ c r=>if r=true then do let ok <-isTrue c env (eval c env);pure (ForInStep.yield ok) else pure (ForInStep.yield r)) (λ ok s₃=>
      if ok=true then wpAny (model prog w) A (eval elt env) (λ x s₄=>
       wpAny (model prog w) A (call (.builtin "list.append") [acc,x]) (λ _ s₅=>∃m,m<n/\I m s₅) (λ _ _=>False) s₄) (λ _ _=>False) s₃
      else ∃m,m<n/\I m s₃) (λ _ _=>False) s₂) (λ _ _=>False) s₁') (λ _ _=>False) s₁) (λ _ _=>False) s) (n:Nat) (h:I n s):
  codeAny (model prog w) A (.compLoop (.ListComp elt [⟨target,iter,ifs,0⟩] scope pos) 0 it acc env) R s:=by
 refine codeAny_loop rfl I (λ n s hI=>?_) n h
 show wpAny _ A ((compTurn (.ListComp elt [⟨target,iter,ifs,0⟩] scope pos) 0 it acc env).onRaise (λ x=>do noteFrame x env;theTreesLotGoes x)) _ _ s
 refine wpAny_noted ?_
 rw[compTurn_list]
 refine wpAny_bind (wpAny_standAt (wpAny_bind (wpAny_mono (turn n s hI) (λ r s₁ h₁=>?_) λ _ _ h'=>h'.elim)))
 cases r with
 |none=>exact wpAny_pure h₁
 |some v=>
  refine wpAny_bind (wpAny_mono h₁ (λ _ s₁' h₁'=>?_) λ _ _ h'=>h'.elim)
  refine wpAny_bind (wpAny_mono h₁' (λ _ s₂ h₂=>wpAny_bind (wpAny_mono h₂ (λ ok s₃ h₃=>?_) λ _ _ h'=>h'.elim)) λ _ _ h'=>h'.elim)
  cases ok with
  |false=>exact wpAny_pure ⟨rfl,h₃⟩
  |true=>
   exact wpAny_bind (wpAny_bind (wpAny_mono h₃ (λ x s₄ h₄=>wpAny_bind (wpAny_mono h₄ (λ _ s₅ h₅=>wpAny_pure (wpAny_pure ⟨rfl,h₅⟩)) λ _ _ h'=>h'.elim)) λ _ _ h'=>h'.elim))
def U4(X:Cx)(ct:Ct)(ifs:List Expr)(p:Sg->Res Bool):Prop:=
 ∀(pins:List (Addr×Obj)) (s:Shared) (σ:St) (H:Hp) (Q:Bool->Hp->Prop),Inv X pins σ H s->ID X ct p σ H Q->
  wpAny (model X.prog X.w) X.A (forIn ifs true λ c r=>if r=true then do let ok <-isTrue c X.env (eval c X.env);pure (ForInStep.yield ok) else pure (ForInStep.yield r)) (TP X pins σ Q) X.xe s
structure U1(X:Cx)(ct:Ct)(ifs:List Expr)(p:Sg->Res Bool):Prop where
 out:U4 X ct ifs p
def fW:U1 X ct [] gh:=by exact ⟨λ pins s σ H Q I z_=>zR z_ λ Γ j h=>wpAny_tests_nil (af H I (h H (az.refl H)))⟩
def tY(h:A4 X ct c p):U1 X ct [c] p:=by have h:=h.out;exact ⟨λ pins s σ H Q I q=>wpAny_tests_one (h pins s σ H Q I q)⟩
def HM{tm:Bool}:Tj (gO tm k caps Γ):=λ i m=>by
 refine ⟨λ h=>?_,λ h=>?_⟩<;>
 ·rcases CD h with e|⟨c,sc,_,_,_,e⟩
  ·cases e
  ·cases sc<;>cases tm<;>cases e
theorem bP.Lv{K:W.Frag}{ct:Ct}{H:Hp}{m:M}{y:V}{T:Fp}:∀{ms:List M} {vs:List V} {S:Fp},bP K ct H ms vs S->Ow K ct H m y T->(∀b,S b->¬T b)->bP K ct H (ms++[m]) (vs++[y]) (λ b=>S b\/T b)
 |[],vs,S,h,t,_=>by simp only[bP] at h;subst h;simp only[List.nil_append,bP];exact dg y [] T (λ _=>False) rfl (λ _ z=> .inr z) (λ _ z=>z.elim) (λ _ _ z=>z) t rfl
 |m'::ms,vs,S,h,t,n=>by
  simp only[bP] at h
  revert h;refine cz λ v r S1 S2 x h2 h3 h4 h5 h6=>?_;subst x
  simp only[List.cons_append,bP];refine dg v (r++[y]) S1 (λ b=>S2 b\/T b) rfl (λ b z=> .inl (h2 b z)) (λ b z=>z.elim (λ z=> .inl (h3 b z)) .inr) (λ b z w=>?_) h5 (bP.Lv h6 t λ b z=>n b (h3 b z));rcases w with w|w
  ·exact h4 b z w
  ·exact n b (h2 b z) w
theorem bP.Hu{K:W.Frag}{ct:Ct}{H:Hp}:∀{ds:List D} {vs:List V} {S:Fp},bP K ct H (ds.map M.d) vs S->aK K ct H ds vs
 |[],vs,S,h=>by simpa[bP,aK] using h
 |d::ds,vs,S,h=>by
  simp only[List.map_cons,bP,Ow] at h
  revert h;refine cz λ v r S1 S2 z _ _ _ h5 h6=>?_;subst z
  exact aK.cons h5 (bP.Hu h6)
structure mh(X:Cx)(scope:Scope)(cl:List (Str×Addr))(k:Nat)(caps:List Nat)(N':List Str):Prop where
 clos:jl X.env.cells scope.names []=some cl
 cell:∀y∈scope.names,y.2≠.cell
 kind:scope.kind= .function
 names:∀y∈scope.names,y.2= .local->scope.names.lookup y.1=some .local
 len:N'.length=k+caps.length
 cap:∀(i c:Nat) (y:Str),caps[i]? =some c->N'[k+i]? =some y->X.N[c]? =some y/\Ic X.env.scope y/\X.env.kindOf y≠some .local/\(y,NameKind.free)∈scope.names
theorem mH{env:Env}:∀{names:List (Str×NameKind)} {y:Str},(∀z∈names,z.1=y->z.2= .free)->(y,NameKind.free)∈names->((names.map λ(n,k)=>if (k==NameKind.free&&env.scope.kind== .function&&env.kindOf n==some .cell) then (n,NameKind.cell) else (n,k)).lookup y=some .cell\/(names.map λ(n,k)=>if (k==NameKind.free&&env.scope.kind== .function&&env.kindOf n==some .cell) then (n,NameKind.cell) else (n,k)).lookup y=some .free)
 |[],y,_,h=>by cases h
 |(n,k)::r,y,hu,h=>by
  have e1:(((n,k)::r).map λ(n,k)=>if (k==NameKind.free&&env.scope.kind== .function&&env.kindOf n==some .cell) then (n,NameKind.cell) else (n,k))=(if (k==NameKind.free&&env.scope.kind== .function&&env.kindOf n==some .cell)=true then (n,NameKind.cell) else (n,k))::(r.map λ(n,k)=>if (k==NameKind.free&&env.scope.kind== .function&&env.kindOf n==some .cell) then (n,NameKind.cell) else (n,k)):=rfl;rw[e1];by_cases hy:y=n
  ·subst hy;have hk:k= .free:=hu (y,k) (.head _) rfl;subst hk;by_cases uW:(NameKind.free==NameKind.free&&env.scope.kind== .function&&env.kindOf y==some .cell)=true
   ·rw[if_pos uW];left;simp[List.lookup_cons]
   ·rw[if_neg uW];right;simp[List.lookup_cons]
  ·have hb:(y==n)=false:=by simpa using hy
   have hm:(y,NameKind.free)∈r:=by
    rcases List.mem_cons.mp h with e|h
    ·cases e;exact absurd rfl hy
    ·exact h
   have ih:= @mH env r y (λ z hz=>hu z (.tail _ hz)) hm;by_cases uW:(k==NameKind.free&&env.scope.kind== .function&&env.kindOf n==some .cell)=true
   ·rw[if_pos uW];simp only[List.lookup_cons,hb];exact ih
   ·rw[if_neg uW];simp only[List.lookup_cons,hb];exact ih
section
variable{X:Cx}{ct:Ct}{elt iter tg:Expr}{ifs:List Expr}{scope:Scope}{cl:List (Str×Addr)}{pos:Pos}{k:Nat}{caps:List Nat}{N':List Str}{fi:Sg->Res (List D)}{t:Tg}{p:Sg->Res Bool}{fe:Sg->Res M}{tm:Bool}
def Ko{pins:List (Addr×Obj)}{σ:St}{H:Hp}{s:Shared}{fp:List Addr}{h₁:Heap}{tk:Nat}(I:Inv X pins σ H s)(co:mh X scope cl k caps N')(hfr:∀z∈scope.names,∀y,(y,NameKind.free)∈scope.names->z.1=y->z.2= .free) (hfp:∀b∈fp,fQ X pins H b) (hfo:∀b∈fp,∃o,s.heap.get? b=some o) (hns:h₁.Ns (s.heap.objs.size+1) (λ x=>(([]:List (Str×Value)).reverse).lookup x)) (hk:∀b o,s.heap.get? b=some o->h₁.get? b=some o) (hD:h₁.get? s.heap.objs.size=some {cls:= .type "list",data:= .seq #[]}):
  Inv (xM X scope cl (s.heap.objs.size+1) s H fp N') [] (zE k caps σ) (upd H s.heap.objs.size (.lst [])) {s with heap:=h₁,toks:=tk}:=by
 have hsub:=zA co.clos (by simp);have hfree:H s.heap.objs.size=none:=I.hok.fresh (Nat.le_refl _);have UH:∀x c,cl.lookup x=some c->c<s.heap.objs.size:=λ x c e=>by refine aQ (λ v o ho _=>?_) (I.cell x c (hsub x c e));exact Heap.lt_size ho
 refine ⟨⟨I.ok.mod,co.kind,I.ok.glob,I.ok.blt,Nat.le_succ _,λ x y c e1 e2=>I.ok.inj x y c (hsub x c e1) (hsub y c e2),λ x hx=>?_,λ x c hf=>absurd hf (by exact Bool.false_ne_true),I.ok.hd,I.ok.frames,.inl rfl,λ b hb=>?_,I.bs,Nat.le_trans I.ok.Ma I.sz,λ b o e hb=>?_,λ b hb hs=>?_,I.stack,I.mz⟩,rfl,I.bare,Un.laid hk (Nat.le_refl _) hfree,af _ hns (λ i y v h1 h2 h3=>?_),λ x c e=>?_,?_,λ x c e=>?_,λ p hp=>absurd (show p∈([]:List (Addr×Obj))++[] from hp) (by simp),I.hok.laid hk (Nat.le_refl _) (⟨Nat.zero_le _,aM [] 0 .nil hD⟩),?_⟩
 ·exact Option.isSome_iff_exists.mp (m5 co.clos x (mG co.cell hx))
 ·obtain ⟨o,ho⟩:=hfo b hb;refine ⟨Nat.ne_of_lt (Nat.lt_succ_of_lt (Heap.lt_size ho)),λ x c e=>(hfp b hb).2.2.2.2.1 x c (hsub x c e)⟩
 ·rcases (hfp b hb).2.2.2.1 with z|z
  ·exact I.ok.Gk b o e z
  ·exact absurd (Heap.lt_size (I.ok.bs b o e).1) (Nat.not_lt.mpr z)
 ·rcases List.mem_cons.mp (I.Ab b hs) with z|z
  ·exact (hfp b hb).2.1 z
  ·exact (hfp b hb).2.2.1 z
 ·-- what it sees
  by_cases hi:i<k
  ·unfold zE at h2;rw[List.getElem?_append_left (by simpa using hi),List.getElem?_replicate,if_pos hi] at h2;cases h2
  ·unfold zE at h2;rw[List.getElem?_append_right (by simpa using hi),List.length_replicate,List.getElem?_map] at h2;cases q:caps[i- k]? with
   |none=>rw[q] at h2;cases h2
   |some c=>
    rw[q] at h2;simp only[Option.map_some,Option.some.injEq] at h2;refine iU (λ g1 g2 g3 g4=>?_) (co.cap (i- k) c y q (by rw[Nat.add_sub_cancel' (Nat.le_of_not_lt hi)];exact h1));refine ah (λ m hn hl=>?_) I.loc;have hσ:σ[c]? =some (some v):=by
     cases z:σ[c]? with
     |none=>rw[z] at h2;cases h2
     |some w=>rw[z] at h2;simp only[Option.join_some] at h2;rw[h2]
    refine ah (λ u r lk=>?_) (hl c y v g1 hσ g2);refine af u r (.inr ⟨mH (λ z hz e=>hfr z hz y g4 e) g4,?_⟩);rcases lk with ⟨z,_⟩|⟨_,c',e,hc⟩
    ·exact absurd z g3
    ·obtain ⟨c2,e2⟩:=Option.isSome_iff_exists.mp (m5 co.clos y g4);have:c2=c':=by have:=hsub y c2 e2;rw[e] at this;exact (Option.some.inj this).symm
     subst this;refine ah (λ o ho hd=>?_) hc;exact af c2 e2 (af o (hk _ _ ho) hd)
 ·refine aQ (λ v o ho hd=>?_) (I.cell x c (hsub x c e));exact aM v o (hk _ _ ho) hd
 ·show upd H s.heap.objs.size (.lst []) (s.heap.objs.size+1)=none;rw[aB (Nat.succ_ne_self _)];exact I.hok.fresh (Nat.le_succ _)
 ·rw[aB (Nat.ne_of_lt (UH x c e))];exact I.dX x c (hsub x c e)
 ·simp[zE,xM,co.len]
def L8(X:Cx)(scope:Scope)(cl:List (Str×Addr))(fn:Str->Bool)(C:Addr)(s₀:Shared)(H₀:Hp)(ex:List Addr)(N':List Str):Cx:={xM X scope cl C s₀ H₀ ex N' with fn:=fn}
def Io(X:Cx)(scope:Scope)(cl:List (Str×Addr))(cf:Addr->List (Str×Addr))(fn:Str->Bool)(k:Nat)(caps:List Nat)(N':List Str):Prop:=∀(pins:List (Addr×Obj)) (σ:St) (H:Hp) (s:Shared) (fp:List Addr) (Q:Env->Shared->Prop) (E:Value->Shared->Prop),Inv X pins σ H s->(∀b∈fp,fQ X pins H b)->(∀b∈fp,∃o,s.heap.get? b=some o)->(∀(cenv:Env) (h₁:Heap) (tk:Nat),cenv.locals=s.heap.objs.size+1->{cenv with scope:=relabel scope X.env}=compEnvC scope (cf (s.heap.objs.size+1)) (s.heap.objs.size+1) X.env->(∀b o,s.heap.get? b=some o->h₁.get? b=some o)->Inv (L8 X scope (cf (s.heap.objs.size+1)) fn (s.heap.objs.size+1) s H fp N') [] (zE k caps σ) (upd H s.heap.objs.size (.lst [])) {s with heap:=h₁,toks:=tk}->Q cenv {s with heap:=h₁,toks:=tk})->wpAny (model X.prog X.w) X.A (newFunctionEnv scope X.env.globals cl [] X.env.qual none .none (some X.env)) Q E {s with heap:=s.heap.push {cls:= .type "list",dict:=none,data:= .seq ([]:List Value).toArray}}
def HN(co:mh X scope cl k caps N')(hfr:∀z∈scope.names,∀y,(y,NameKind.free)∈scope.names->z.1=y->z.2= .free):Io X scope cl (λ _=>cl) (λ _=>false) k caps N':=by intro pins σ H s fp Q E I LY hfo hQ;refine wpAny_newFunctionEnv co.cell (by intro y hy;simp at hy) (λ h₁ O7 Kw=>?_) co.kind;dsimp only at O7 Kw ⊢;have hC:(s.heap.push {cls:= .type "list",dict:=none,data:= .seq ([]:List Value).toArray}).objs.size=s.heap.objs.size+1:=Heap.size_push ..;rw[hC] at O7 Kw ⊢;have hk:∀b o,s.heap.get? b=some o->h₁.get? b=some o:=λ b o e=>Kw.extBut b o (Nat.ne_of_lt (Nat.lt_succ_of_lt (Heap.lt_size e))) (Heap.get?_push_of_some _ (Heap.get?_push_of_some _ e));have hD:h₁.get? s.heap.objs.size=some {cls:= .type "list",data:= .seq #[]}:=Kw.extBut _ _ (Nat.ne_of_lt (Nat.lt_succ_self _)) (Heap.get?_push_of_some _ (Heap.get?_push_size _ rfl));exact hQ _ h₁ _ rfl rfl hk (Ko I co hfr LY hfo O7 hk hD)
def tR{pins:List (Addr×Obj)}{σ:St}{H:Hp}{s:Shared}{Γ:Sg}{cp:Pos}{use:Option (Value->Sem Unit)}{Q':Value->Shared->Prop}{Wk:List M->Prop}{cf:Addr->List (Str×Addr)}{fn:Str->Bool}(ht:tm=true->ct.tm=true)(hc:X.calm=true)(hi:Rr X ct tg iter fi)(hcl:closureFor scope X.env=pure cl)(hkd:scope.kind= .function)(hnm:∀y∈scope.names,y.2= .local->scope.names.lookup y.1=some .local)(mk:Io X scope cl cf fn k caps N') (hg:∀C s₀ H₀ ex,Wh (L8 X scope (cf C) fn C s₀ H₀ ex N') ct tg t) (hp:∀C s₀ H₀ ex,U4 (L8 X scope (cf C) fn C s₀ H₀ ex N') ct ifs p) (he:∀C s₀ H₀ ex,PM (L8 X scope (cf C) fn C s₀ H₀ ex N') ct elt fe) (hf:∀Γ x Γ1 σ H H₀,t x (gO tm k caps Γ)=some Γ1->J X.K ct H₀ Γ1 σ H->J X.K ct H₀ (gO tm k caps Γ) σ H) (hs:∀x,foldedSetIterable iter X.env x=pure x) (I:Inv X pins σ H s) (j:Jx X ct Γ σ H) (h:Ok X ct σ H (jj tm fi k caps t p fe Γ) Wk) (fin:∀(acc C:Addr) (av:List V) (ys:List M) (T:Fp) (H1:Hp) (s4:Shared) (m:Str->Option Value),Inv X pins σ H1 s4->az H H1->H acc=none->H1 acc=some (.lst av)->bP X.K ct H1 ys av T->(∀b,T b->H b=none/\b≠acc/\H1 b≠none)->Wk ys->s4.heap.Ns C m->H1 C=none->C≠X.env.locals->X.s₀.heap.objs.size<=C->(∀x c,X.env.cells.lookup x=some c->c≠C)->(∀p∈X.pn++pins,p.1≠C)->compPost (model X.prog X.w) X.A X.xe use Q' (.ref acc) C (.ok .next) s4):
  wpAny (model X.prog X.w) X.A (comprehension (.ListComp elt [⟨tg,iter,ifs,0⟩] scope pos) scope X.env cp (newList []) false (eval iter X.env) use) Q' X.xe s:=by
 refine wpAny_comprehension_free (use:=use) rfl hs hcl hkd hnm ?_;have hw:XU X ct fi σ H (λ J H2=>∃xs ys,az H H2/\xN X.K ct J xs H2/\xs.length<1000000/\fT (EA t p fe (gO tm k caps Γ)) xs= .ok ys/\Wk ys):=by
  refine af Γ j (h.bnd λ xs _ q J H2 s2 it=>?_);split at q
  ·rename_i hl;cases z:fT (EA t p fe (gO tm k caps Γ)) xs with
   |ok ys=>rw[z] at q;exact bG xs ys s2 it hl z q
   |err c=>exact (HA (λ _ _=>PB) xs c z).elim
   |bad=>rw[z] at q;exact q.elim
  ·exact q.elim
 refine wpAny_mono (hi pins s σ H _ I hw) (λ v s1 h1=>wpAny_mono h1 (λ itv s2 h2=>?_) λ _ _ e=>e) λ _ _ e=>e;obtain ⟨it,fp,tn,J,H2,rfl,I2,T,st,LY,xs,ys,sm,⟨Pd,pd0,pdk,Xh,Xg⟩,hlx,hys,W⟩:=h2;have hfo:∀b∈fp,∃o,s2.heap.get? b=some o:=λ b hb=>let ⟨o,ho,_⟩:=T.obj 0 _ st b hb;⟨o,ho⟩
 refine wpAny_newObj_type (mk pins σ H2 s2 fp _ _ I2 LY hfo λ cenv h₁ tk hcl hce hk I4=>?_);rw[hce,hcl];have j2:=j.mono sm;let Xb:=L8 X scope (cf (s2.heap.objs.size+1)) fn (s2.heap.objs.size+1) s2 H2 fp N'
 have AL:H2 s2.heap.objs.size=none:=I2.hok.fresh (Nat.le_refl _);have GX:az H2 (upd H2 s2.heap.objs.size (.lst [])):=bx AL _;have Y7:∀{σ1:St} {Ha Hb:Hp},L4.J X.K ct H2 (gO tm k caps Γ) σ1 Ha->aV ct.f.cb Ha Hb->az H2 Hb->L4.J X.K ct H2 (gO tm k caps Γ) σ1 Hb:=λ j kp sm=>j.RO HM kp (λ b o q _=>sm b o q) (λ b q=>sm.free q) (j2.lL.trans sm) (j2.lB.trans sm);have Y9:tn 0 h₁:=T.keep 0 _ _ st λ b hb o e=>hk b o e;have Yj:∀b∈fp,b≠s2.heap.objs.size:=λ b hb=>let ⟨o,ho⟩:=hfo b hb;Nat.ne_of_lt (Heap.lt_size ho)
 have Yk:∀{H':Hp},(∀b∈fp,H' b=none)->∀b∈fp,fQ Xb [] H' b:=λ hn b hb=>by obtain ⟨o,ho⟩:=hfo b hb;refine An (hn b hb) (Nat.ne_of_lt (Nat.lt_succ_of_lt (Heap.lt_size ho))) (I4.ok.Ho b hb) (.inl hb) (λ x c e=>(I4.ok.Yo b hb).2 x c e) (λ p hp=>absurd (show p∈([]:List (Addr×Obj))++[] from hp) (by simp))
 have loop:codeAny (model X.prog X.w) X.A (.compLoop (.ListComp elt [⟨tg,iter,ifs,0⟩] scope pos) 0 (.ref it) (.ref s2.heap.objs.size) (compEnvC scope (cf (s2.heap.objs.size+1)) (s2.heap.objs.size+1) X.env))
   (compPost (model X.prog X.w) X.A X.xe use Q' (.ref s2.heap.objs.size) (s2.heap.objs.size+1)) {s2 with heap:=h₁,toks:=tk}:=by
  refine vg (λ n s'=>∃(i:Nat) (σ1:St) (H1:Hp) (av:List V) (ad rest:List M) (T:Fp),n=xs.length- i/\i<=xs.length/\Inv Xb [] σ1 H1 s'/\L4.J X.K ct H2 (gO tm k caps Γ) σ1 H1/\tn i s'.heap/\(∀b∈fp,H1 b=none)/\az H2 H1/\H1 s2.heap.objs.size=some (.lst av)/\bP X.K ct H1 ad av T/\(∀b,T b->H2 b=none/\b≠s2.heap.objs.size/\H1 b≠none)/\av.length<=i/\fT (EA t p fe (gO tm k caps Γ)) (xs.drop i)= .ok rest/\ad++rest=ys) ?_ xs.length ⟨0,_,_,[],[],ys,λ _=>False,rfl,Nat.zero_le _,I4,Y7 (TR j2 ht) (az.keep GX) GX,Y9,λ b hb=>by rw[aB (Yj b hb)];exact (LY b hb).1,GX,aI,by simp only[bP],λ _ z=>z.elim,Nat.le_refl _,hys,rfl⟩
  rintro n s3 ⟨i,σ1,H1,av,ad,rest,Tf,hn,hil,I3,j3,st3,Ud,k3,hacc,E7,hT,hal,hrest,hall⟩
  have Zi:=pdk _ _ pd0 (az.keep k3) j3.lL j3.lB;by_cases hlt:i<xs.length
  ·-- one more item
   have hd:xs[i]? =some xs[i]:=List.getElem?_eq_getElem hlt;obtain ⟨go,Rx⟩:=Xh i _ H1 Zi hd;rw[drop_one hd] at hrest;refine ak (λ o rest' ho hr' TZ=>?_) (AX hrest);refine wpAny_mono (T.item Xb rfl rfl rfl hc i [] s3 σ1 H1 (λ _ _=>False) I3 (Yk Ud) st3 go) (?_) λ _ _ e=>e;refine λ r s4=>ah λ u hr h4=>?_;subst hr;refine wpAny_mono h4 (?_) λ _ _ e=>e;refine λ _ s5=>cC λ x H5 I5 r5 y5 Nn Yi=>?_;obtain ⟨QL,tx⟩:=Rx x H5 y5;replace j3:=j3.mono QL;replace hacc:=QL _ _ hacc;replace E7:=E7.frame (az.keep QL) (λ b o _ q=>QL b o q);replace hT:∀b,Tf b->H2 b=none/\b≠s2.heap.objs.size/\H5 b≠none:=λ b z=>aS ((hT b z).1) ((hT b z).2.1) (λ q=>(hT b z).2.2 (QL.free q));replace k3:=k3.trans QL;have YJ:=I5.pinned (Yk Yi) (T.obj _ _ Nn);unfold EA at ho;cases e1:t xs[i] (gO tm k caps Γ) with
   |none=>rw[e1] at ho;cases ho
   |some Γ1=>
    rw[e1] at ho;dsimp only at ho;refine wpAny_mono (hg _ s2 H2 fp _ s5 σ1 H5 x u (λ σ2 H'=>H'=H5/\L4.J X.K ct H2 Γ1 σ2 H5) YJ r5 (g7 _ _ Γ1 j3 tx e1 (λ σ2 j6=>⟨rfl,j6⟩))) (?_) λ _ _ e=>e;refine λ _ s6=>ak λ σ2 H6 I6 e6 j6=>?_;subst e6;have Y5:∀{σ7:St} {H7:Hp} {s7:Shared},Inv Xb ([]++qh fp s5.heap) σ7 H7 s7->tn (i+1) s7.heap/\∀b∈fp,H7 b=none:=λ{σ7 H7 s7} I7=>by refine ⟨T.keep _ _ _ Nn λ b hb o e=>(I7.pin (b,o) (List.mem_append_right _ (List.mem_append_right _ (iX hb e)))).1,λ b hb=>?_⟩;refine ah (λ o e d=>?_) (T.obj _ _ Nn b hb);exact (I7.pin (b,o) (List.mem_append_right _ (List.mem_append_right _ (iX hb e)))).2.1
    cases ep:p Γ1 with
    |bad=>rw[ep] at ho;cases ho
    |err c=>rw[ep] at ho;cases ho
    |ok c=>
     refine wpAny_mono (hp _ s2 H2 fp _ s6 σ2 H6 (λ b H'=>b=c/\az H6 H') I6 (af Γ1 j6 (by rw[ep];exact λ H' s=>⟨rfl,s⟩))) ?_ λ _ _ e=>e;refine λ b s7=>aD λ H7 I7 eb BB=>?_;subst eb;have j7:=j6.mono BB;cases b with
     |false=>rw[ep] at ho;dsimp only at ho;cases ho;have XZ:rest=rest':=TZ;rw[XZ] at hall;obtain ⟨tn7,fr7⟩:=Y5 I7;rw[if_neg Bool.false_ne_true];exact af (xs.length-(i+1)) (by omega) ⟨i+1,σ2,H7,av,ad,rest',Tf,rfl,hlt,I7.ju,hf Γ _ Γ1 σ2 H7 H2 e1 j7,tn7,fr7,k3.trans BB,BB _ _ hacc,E7.frame (az.keep BB) (λ b o _ q=>BB b o q),λ b z=>aS ((hT b z).1) ((hT b z).2.1) (λ q=>(hT b z).2.2 (BB.free q)),Nat.le_succ_of_le hal,hr',hall⟩
     |true=>
      rw[ep] at ho;dsimp only at ho;rw[if_pos rfl];cases ee:fe Γ1 with
      |bad=>rw[ee] at ho;cases ho
      |err c=>rw[ee] at ho;cases ho
      |ok d=>
       rw[ee] at ho;dsimp only at ho;cases ho;subst TZ;refine wpAny_mono (he _ s2 H2 fp _ s7 σ2 H7 (λ v H'=>∃S,az H7 H'/\Ow X.K ct H' d v S/\(∀b,S b->H7 b=none)/\∀b,S b->H' b≠none) I7 (af Γ1 j7 (by rw[ee];exact λ v H' S s t n k=>bY S s t n k))) ?_ λ _ _ e=>e;refine λ yv s8=>ak λ y H8 I8 r8=>dc λ S8 QV t8 n8 h8=>?_;have LV:H8 s2.heap.objs.size=some (.lst av):=QV _ _ (BB _ _ hacc);refine wpAny_mono (sX (X:=Xb) _ s8 σ2 H8 (.ref s2.heap.objs.size) [y] (.ref s2.heap.objs.size) [yv] (λ _ H'=>H'=upd H8 s2.heap.objs.size (.lst (av++[y]))) I8 rfl (.cons r8 .nil) (lF _ av y rfl rfl LV (Nat.lt_trans (by omega) iS) rfl)) (?_) λ _ _ e=>e;refine λ _ s9=>ak λ _ H9 I9 _ e9=>?_;subst e9;obtain ⟨tn9,fr9⟩:=Y5 I9;have kp:aV ct.f.cb H8 (upd H8 s2.heap.objs.size (.lst (av++[y]))):=aV.lst LV;have k8:az H2 H8:=(k3.trans BB).trans QV;have j8:=hf Γ _ Γ1 σ2 H8 H2 e1 (j7.mono QV);have Zb:az H2 (upd H8 s2.heap.objs.size (.lst (av++[y]))):=λ b o hb=>by have:b≠s2.heap.objs.size:=bO hb AL;rw[aB this];exact k8 b o hb
       have W5:∀b,S8 b->b≠s2.heap.objs.size:=λ b z=>by
        rintro rfl
        have:=n8 _ z;rw[BB _ _ hacc] at this;cases this
       have T8:∀b,Tf b->H8 b≠none:=λ b z q=>(hT b z).2.2 (BB.free (QV.free q));have dis:∀b,Tf b->¬S8 b:=λ b z w=>(hT b z).2.2 (BB.free (n8 b w));have Wx:∀b,b≠s2.heap.objs.size->upd H8 s2.heap.objs.size (.lst (av++[y])) b=H8 b:=λ b z=>aB z;refine af (xs.length-(i+1)) (by omega) ⟨i+1,σ2,_,av++[y],ad++[d],rest',λ b=>Tf b\/S8 b,rfl,hlt,I9.ju,Y7 j8 kp Zb,tn9,fr9,Zb,aI,?_,λ b z=>?_,?_,hr',?_⟩
       ·have o1:=E7.frame (az.keep (BB.trans QV)) (λ b o _ q=>(BB.trans QV) b o q);exact (o1.Lv t8 dis).frame kp λ b o z q=>by rw[Wx b (z.elim (λ z=>(hT b z).2.1) (W5 b))];exact q
       ·rcases z with z|z
        ·exact aS ((hT b z).1) ((hT b z).2.1) (by rw[Wx b (hT b z).2.1];exact T8 b z)
        ·exact aS (k3.free (BB.free (n8 b z))) (W5 b z) (by rw[Wx b (W5 b z)];exact h8 b z)
       ·rw[List.length_append,List.length_singleton];omega
       ·rw[<-hall];simp
  ·-- through
   have ZF:xs.length<=i:=Nat.le_of_not_lt hlt;refine wpAny_mono (T.done Xb rfl rfl rfl hc i [] s3 σ1 H1 (λ _ _=>False) I3 (Yk Ud) st3 (Xg i H1 Zi ZF)) (?_) λ _ _ e=>e
   rintro r s4 ⟨hr,Ru⟩
   subst hr;rw[List.drop_eq_nil_of_le ZF] at hrest;cases hrest;rw[List.append_nil] at hall;subst hall;refine ah (λ m hm _=>?_) Ru.loc;have nC:H1 (s2.heap.objs.size+1)=none:=Ru.free;have un:Un (frs X.stack) fp H2 H1 s2.heap s4.heap:=by have u:=Ru.base;exact ⟨u.keep,u.slot,u.free,u.there,u.tups,u.lR,u.mw⟩
   have IE:Inv X pins σ H1 s4:=I2.CB (s':=s4) (ch:=fp) Ru.os un Ru.hok Ru.bare λ b hb=>gz ((LY b hb).2.2.2.1) ((LY b hb).2.1) ((LY b hb).2.2.2.2.1) ((LY b hb).2.2.2.2.2);have old:∀{b:Addr} {o:Obj},s2.heap.get? b=some o->b≠s2.heap.objs.size+1:=λ e=>Nat.ne_of_lt (Nat.lt_succ_of_lt (Heap.lt_size e));refine fin _ _ av _ Tf H1 s4 m IE (sm.trans k3) (sm.free AL) hacc E7 (λ b z=>aS (sm.free (hT b z).1) ((hT b z).2.1) ((hT b z).2.2)) W hm nC (Ne.symm (Nat.ne_of_lt (Nat.lt_succ_of_lt I2.lt))) (Nat.le_succ_of_le I2.sz) (λ x c e=>?_) λ p hp=>old (I2.pin p hp).1;refine aQ (λ v o ho _=>?_) (I2.cell x c e);exact old ho
 exact codeAny_compStart_list loop (T.self _ 0 _ _ _ Y9 loop)
def P0{H H1:Hp}{acc:Addr}{av:List V}{ys:List M}{T:Fp}(ha:H1 acc=some (.lst av))(ta:bP X.K ct H1 ys av T)(hT:∀b,T b->H b=none/\b≠acc/\H1 b≠none):Ow X.K ct H1 (.n ys) (.ref acc) (λ b=>T b\/b=acc):=by simp only[Ow];exact bg acc av rfl (.inr rfl) ha (ta.wide λ b z=>⟨.inl z,(hT b z).2.1⟩)
variable{fd:Sg->Res D}
def BY(Γ:Sg):jj tm fi k caps t p (mD fd) Γ=(dW tm fi k caps t p fd Γ).bnd λ ds=> .ok (ds.map M.d):=by
 unfold jj dW;cases fi Γ with
 |ok xs=>
  simp only[Res.iu];split
  ·exact zx xs
  ·rfl
 |err x=>rfl
 |bad=>rfl
def FI{cf:Addr->List (Str×Addr)}{fn:Str->Bool}(ht:tm=true->ct.tm=true)(hc:X.calm=true)(hi:Rr X ct tg iter fi)(hcl:closureFor scope X.env=pure cl)(hkd:scope.kind= .function)(hnm:∀y∈scope.names,y.2= .local->scope.names.lookup y.1=some .local)(mk:Io X scope cl cf fn k caps N') (hg:∀C s₀ H₀ ex,Wh (L8 X scope (cf C) fn C s₀ H₀ ex N') ct tg t) (hp:∀C s₀ H₀ ex,U4 (L8 X scope (cf C) fn C s₀ H₀ ex N') ct ifs p) (he:∀C s₀ H₀ ex,PD (L8 X scope (cf C) fn C s₀ H₀ ex N') ct elt fd) (hf:∀Γ x Γ1 σ H H₀,t x (gO tm k caps Γ)=some Γ1->J X.K ct H₀ Γ1 σ H->J X.K ct H₀ (gO tm k caps Γ) σ H) (hs:∀x,foldedSetIterable iter X.env x=pure x):PL X ct (.ListComp elt [⟨tg,iter,ifs,0⟩] scope pos) (dW tm fi k caps t p fd):=by
 refine λ pins s σ H Q I=>ah λ Γ j h=>?_;rw[eval_ListComp];have h':Ok X ct σ H (jj tm fi k caps t p (mD fd) Γ) λ ms=>∃ds:List D,ms=ds.map M.d/\Wl X ct H Q ds:=by
  rw[BY];cases z:dW tm fi k caps t p fd Γ with
  |ok ms=>rw[z] at h;exact af ms rfl h
  |err x=>rw[z] at h;exact h
  |bad=>rw[z] at h;exact h
 refine tR ht hc hi hcl hkd hnm mk hg hp (λ C s₀ H₀ ex=>yp (he C s₀ H₀ ex)) hf hs I j h' λ acc C av ys T H1 s4 m IE sm na ha ta hT W hm nC nl hz VJ Xq=>?_
 revert W;refine ah λ ds w W=>?_;subst w
 refine af m hm (λ h' Q8=>?_);have I5:Inv X pins σ H1 {s4 with heap:=h',toks:=s4.toks}:=IE.turned (h':=h') (t':=s4.toks) (it:=C) (λ b o hb e=>(Q8.2 b hb).trans e) nC nl (.inr hz) VJ Xq;exact ao (.ref acc) H1 I5 rfl (W acc av H1 sm na ha ta.Hu)
def JG(ht:tm=true->ct.tm=true)(hc:X.calm=true)(hi:Rr X ct tg iter fi)(co:mh X scope cl k caps N')(hfr:∀z∈scope.names,∀y,(y,NameKind.free)∈scope.names->z.1=y->z.2= .free) (hg:∀C s₀ H₀ ex,Wh (xM X scope cl C s₀ H₀ ex N') ct tg t) (hp:∀C s₀ H₀ ex,U4 (xM X scope cl C s₀ H₀ ex N') ct ifs p) (he:∀C s₀ H₀ ex,PD (xM X scope cl C s₀ H₀ ex N') ct elt fd) (hf:∀Γ x Γ1 σ H H₀,t x (gO tm k caps Γ)=some Γ1->J X.K ct H₀ Γ1 σ H->J X.K ct H₀ (gO tm k caps Γ) σ H) (hs:∀x,foldedSetIterable iter X.env x=pure x:=by intro _;rfl):PL X ct (.ListComp elt [⟨tg,iter,ifs,0⟩] scope pos) (dW tm fi k caps t p fd):=FI ht hc hi (i8 co.clos) co.kind co.names (HN co hfr) hg hp he hf hs
end
section
variable{X:Cx}{ct:Ct}{c:Cf}{elt iter tg:Expr}{ifs:List Expr}{scope:Scope}{cl:List (Str×Addr)}{pos:Pos}{k:Nat}{caps:List Nat}{N':List Str}{fi:Sg->Res (List D)}{t:Tg}{p:Sg->Res Bool}{fe:Sg->Res M}{fd:Sg->Res D}{tm:Bool}
def tQ(i:Nat){s:Shared}(ht:tm=true->ct.tm=true)(hN:X.N.Nodup)(hc:X.calm=true)(hi:Rr X ct tg iter fi)(co:mh X scope cl k caps N')(hfr:∀z∈scope.names,∀y,(y,NameKind.free)∈scope.names->z.1=y->z.2= .free)(hg:∀C s₀ H₀ ex,Wh (xM X scope cl C s₀ H₀ ex N') ct tg t)(hp:∀C s₀ H₀ ex,U4 (xM X scope cl C s₀ H₀ ex N') ct ifs p)(he:∀C s₀ H₀ ex,PM (xM X scope cl C s₀ H₀ ex N') ct elt fe)(hf:∀Γ x Γ1 σ H H₀,t x (gO tm k caps Γ)=some Γ1->J X.K ct H₀ Γ1 σ H->J X.K ct H₀ (gO tm k caps Γ) σ H)(hs:∀x,foldedSetIterable iter X.env x=pure x)(hsw:swapsWith (.ListComp elt [⟨tg,iter,ifs,0⟩] scope pos) (some (.Name x px)) ps.line X.env=pure true)(hx:X.N[i]? =some x)(hl:X.env.scope.names.lookup x=some .local)(I:Inv X pins σ H s)(j:Jx X ct Γ σ H)(h:Ok X ct σ H (jj tm fi k caps t p fe Γ) Wk)(fin:∀(acc:Addr) (ys:List M) (av:List V) (T S:Fp) (H1:Hp) (s':Shared),Inv X pins (σ.set i (some (.ref acc))) H1 s'->az H H1->H1 acc=some (.lst av)->bP X.K ct H1 ys av T->Ow X.K ct H1 (.n ys) (.ref acc) S->H acc=none->(∀b,S b->H b=none)->(∀b,S b->H1 b≠none)->Wk ys->SP X pins E .next s'):
  wpAny (model X.prog X.w) X.A (exec (.Assign [.Name x px] (.ListComp elt [⟨tg,iter,ifs,0⟩] scope pos) ps) X.env) (SP X pins E) X.xe s:=by
 rw[exec_Assign_Name_used _ _ _ _ hsw]
 refine wpAny_bind (wpAny_standAt (wpAny_bind ?_))
 show wpAny _ X.A (do let _ <-comprehension (.ListComp elt [⟨tg,iter,ifs,0⟩] scope pos) scope X.env _ (newList []) false (eval iter X.env) (some (assign (.Name x px) X.env))) _ _ s
 refine wpAny_bind (wpAny_mono (tR (Q':=λ _ s'=>SP X pins E .next s') (Wk:=Wk) ht hc hi (i8 co.clos) co.kind co.names (HN co hfr) hg hp he hf hs I j h
  λ acc C av ys T H1 s4 m IE sm na ha ta hT W hm nC nl hz VJ Xq=>?_) (λ _ s' hq=>wpAny_pure (wpAny_pure hq)) λ _ _ e=>e)
 show wpAny _ X.A (assign (.Name x px) X.env (.ref acc)) _ _ _
 refine wpAny_assign_Name (sO IE hN hx (.inl hl) (v:= .ref acc) rfl (?_) (.inr hl))
 refine λ s5 I5=>ah λ a Q8 hor=>?_
 have aC:C≠a:=by
  rcases hor with rfl|hor
  ·exact nl
  ·exact Ne.symm (VJ x a hor)
 refine af m (hm.sameBut Q8 aC) (λ h' hs'=>?_)
 have I6:Inv X pins (σ.set i (some (.ref acc))) H1 {s5 with heap:=h',toks:=s5.toks}:=I5.turned (h':=h') (t':=s5.toks) (it:=C) (λ b o hb e=>(hs'.2 b hb).trans e) nC nl (.inr hz) VJ Xq
 exact fin acc ys av T _ H1 _ I6 sm ha ta (P0 ha ta hT) na (λ b z=>z.elim (λ z=>(hT b z).1) λ z=>z▸na) (λ b z=>z.elim (λ z=>(hT b z).2.2) λ z q=>by subst z;rw[ha] at q;cases q) W
def P4(k:Nat)(t:Tg):Prop:=∀x Γ Γ1,t x Γ=some Γ1->Γ1.length=Γ.length/\∀i,k<=i->Γ1[i]? =Γ[i]?
def Lc(k:Nat)(t:Ie):Prop:=∀x Γ Γ1,t x Γ=some Γ1->Γ1.length=Γ.length/\∀i,k<=i->Γ1[i]? =Γ[i]?
def cH(h:i<k):P4 k (aG i):=λ x Γ Γ1 e=>by cases e;exact ⟨by simp,λ j hj=>by rw[List.getElem?_set_ne (by omega)]⟩
def Aa:Lc k eN:=λ x Γ Γ1 e=>by
 cases x with
 |nil=>cases e;exact ⟨rfl,λ _ _=>rfl⟩
 |cons a r=>cases e
def jV(h1:P4 k t)(h2:Lc k u):Lc k (aZ t u):=λ x Γ Γ1 e=>by
 cases x with
 |nil=>cases e
 |cons d r=>simp only[aZ,Option.bind_eq_some_iff] at e;refine ah (λ Γ2 e1 e2=>?_) e;obtain ⟨a1,a2⟩:=h1 _ _ _ e1;obtain ⟨b1,b2⟩:=h2 _ _ _ e2;exact ⟨b1.trans a1,λ i hi=>(b2 i hi).trans (a2 i hi)⟩
def z9{k n:Nat}{t:Ie}(h:Lc k t):P4 k (dU n t):=λ x Γ Γ1 e=>by
 cases x with
 |tup ds=>
  simp only[dU] at e;split at e
  ·exact h _ _ _ e
  ·cases e
 |_=>cases e
def nN{K:W.Frag}(hk:P4 k t):∀Γ x Γ1 σ H H₀,t x (gO tm k caps Γ)=some Γ1->J K ct H₀ Γ1 σ H->J K ct H₀ (gO tm k caps Γ) σ H:=λ Γ x Γ1 σ H H₀ e j=>by
 obtain ⟨h1,h2⟩:=hk _ _ _ e;refine j.weak h1 λ i=>?_;by_cases hik:i<k
 ·left;unfold gO;rw[List.getElem?_append_left (by simpa using hik),List.getElem?_replicate,if_pos hik]
 ·exact .inr (h2 i (Nat.le_of_not_lt hik)).symm
def uZ(O9:(scope.names.all λ z=>scope.names.all λ y=>!(y.2== .free&&z.1==y.1)||z.2== .free)=true):∀z∈scope.names,∀y,(y,NameKind.free)∈scope.names->z.1=y->z.2= .free:=λ z hz y hy e=>by have q:=List.all_eq_true.mp (List.all_eq_true.mp O9 z hz) _ hy;simp only[e,BEq.rfl,Bool.and_self,Bool.not_true,Bool.false_or] at q;exact eq_of_beq q
def iC(ht:tm=true->ct.tm=true)(hc:X.calm=true)(hi:Ib X ct tg iter fi)(co:mh X scope cl k caps N')(O9:(scope.names.all λ z=>scope.names.all λ y=>!(y.2== .free&&z.1==y.1)||z.2== .free)=true)(hg:∀C s₀ H₀ ex,P1 (xM X scope cl C s₀ H₀ ex N') ct tg t)(hp:∀C s₀ H₀ ex,U1 (xM X scope cl C s₀ H₀ ex N') ct ifs p)(he:∀C s₀ H₀ ex,WD (xM X scope cl C s₀ H₀ ex N') ct elt fd)(hk:P4 k t)(hs:∀x,foldedSetIterable iter X.env x=pure x:=by intro _;rfl):WL X ct (.ListComp elt [⟨tg,iter,ifs,0⟩] scope pos) (dW tm fi k caps t p fd):=by have hi:=hi.out;have hg:=λ C s₀ H₀ ex=>(hg C s₀ H₀ ex).out;have hp:=λ C s₀ H₀ ex=>(hp C s₀ H₀ ex).out;have he:=λ C s₀ H₀ ex=>(he C s₀ H₀ ex).out;exact ⟨JG ht hc hi co (uZ O9) hg hp he (nN hk) hs⟩
def Dp(i:Nat)(hN:X.N.Nodup)(hc:X.calm=true)(hi:∀B,Ib X (c.at' B) tg iter fi)(co:mh X scope cl k caps N')(O9:(scope.names.all λ z=>scope.names.all λ y=>!(y.2== .free&&z.1==y.1)||z.2== .free)=true)(hg:∀B C s₀ H₀ ex,P1 (xM X scope cl C s₀ H₀ ex N') (c.at' B) tg t)(hp:∀B C s₀ H₀ ex,U1 (xM X scope cl C s₀ H₀ ex N') (c.at' B) ifs p)(he:∀B C s₀ H₀ ex,WM (xM X scope cl C s₀ H₀ ex N') (c.at' B) elt fe)(hk:P4 k t)(hs:∀x,foldedSetIterable iter X.env x=pure x:=by intro _;rfl)(hsw:swapsWith (.ListComp elt [⟨tg,iter,ifs,0⟩] scope pos) (some (.Name x px)) ps.line X.env=pure true:=by rfl)(hx:X.N[i]? =some x:=by rfl)(hl:X.env.scope.names.lookup x=some .local:=by rfl):sG X c (.Assign [.Name x px] (.ListComp elt [⟨tg,iter,ifs,0⟩] scope pos) ps) (kL i (mN (jj tm fi k caps t p fe))):=by
 have hi:=λ B=>(hi B).out;have hg:=λ B C s₀ H₀ ex=>(hg B C s₀ H₀ ex).out;have hp:=λ B C s₀ H₀ ex=>(hp B C s₀ H₀ ex).out;have he:=λ B C s₀ H₀ ex=>(he B C s₀ H₀ ex).out;refine ⟨?_⟩;refine λ pins s σ H E I=>ah λ Γ j h=>?_;have h':Ok X (c.at' H) σ H (jj tm fi k caps t p fe Γ) λ ms=>ku (.n ms)=true/\Fn X c H (.nx (Γ.set i (.own (.n ms)))) E:=by
  unfold kL mN at h;cases z:jj tm fi k caps t p fe Γ with
  |ok ms=>
   rw[z] at h;simp only[Res.iu,LH] at h;split at h
   ·rename_i n;exact ⟨n,h⟩
   ·exact h.elim
  |err x=>rw[z] at h;exact λ e s' r=>h σ H e s' (aV.refl H) j r
  |bad=>rw[z] at h;exact h.elim
 refine tQ i (λ _=>rfl) hN hc (hi H) co (uZ O9) (hg H) (hp H) (he H) (nN hk) hs hsw hx hl I j.lift h' λ acc ys av T S H1 s' I' sm _ _ o na new here W=>?_;exact aM _ H1 I' (W.2 _ H1 (az.keep sm) (j.setM sm rfl (o.down W.1) new here))
def jr(i:Nat)(hN:X.N.Nodup)(hc:X.calm=true)(hi:Ib X c.z tg iter fi)(co:mh X scope cl k caps N')(O9:(scope.names.all λ z=>scope.names.all λ y=>!(y.2== .free&&z.1==y.1)||z.2== .free)=true)(hg:∀C s₀ H₀ ex,P1 (xM X scope cl C s₀ H₀ ex N') c.z tg t)(hp:∀C s₀ H₀ ex,U1 (xM X scope cl C s₀ H₀ ex N') c.z ifs p)(he:∀C s₀ H₀ ex,WD (xM X scope cl C s₀ H₀ ex N') c.z elt fd)(hk:P4 k t)(hs:∀x,foldedSetIterable iter X.env x=pure x:=by intro _;rfl)(hsw:swapsWith (.ListComp elt [⟨tg,iter,ifs,0⟩] scope pos) (some (.Name x px)) ps.line X.env=pure true:=by rfl)(hx:X.N[i]? =some x:=by rfl)(hl:X.env.scope.names.lookup x=some .local:=by rfl):sG X c (.Assign [.Name x px] (.ListComp elt [⟨tg,iter,ifs,0⟩] scope pos) ps) (bI i (kX (dW false fi k caps t p fd))):=by
 have hi:=hi.out;have hg:=λ C s₀ H₀ ex=>(hg C s₀ H₀ ex).out;have hp:=λ C s₀ H₀ ex=>(hp C s₀ H₀ ex).out;have he:=λ C s₀ H₀ ex=>(he C s₀ H₀ ex).out;refine ⟨?_⟩;refine λ pins s σ H E I=>ah λ Γ j h=>?_;have h':Ok X c.z σ H (jj false fi k caps t p (mD fd) Γ) λ ms=>∃ds:List D,ms=ds.map M.d/\Fn X c H (.nx (Γ.set i (.val (.lst ds)))) E:=by
  rw[BY];unfold bI kX at h;cases z:dW false fi k caps t p fd Γ with
  |ok ms=>rw[z] at h;exact af ms rfl h
  |err x=>rw[z] at h;exact λ e s' r=>h σ H e s' (aV.refl H) j r
  |bad=>rw[z] at h;exact h.elim
 refine tQ (tm:=false) i (λ z=>by cases z) hN hc hi co (uZ O9) hg hp (λ C s₀ H₀ ex=>yp (he C s₀ H₀ ex)) (nN hk) hs hsw hx hl I j h' ?_;refine λ acc ys av T S H1 s' I' sm ha ta _ na _ _=>ah λ ds e W=>?_;subst e;obtain ⟨ob,I7⟩:=Inv.freeze I' ha (j.free acc na);have s7:az H (upd H1 acc (.jI ob (.lst av))):=λ b o hb=>by rw[aB (bO hb na)];exact sm b o hb
 refine aM _ _ I7 (W _ _ (az.keep s7) ((j.mono s7).set ?_));simp only[Tl];exact ao acc av rfl (.inl ⟨ob,aI⟩) (ta.Hu.keep (aV.lst ha))
end
noncomputable abbrev HL:List Value:=[.type "ValueError",.type "Exception",.type "BaseException",.type "object"]
structure XC(K:W.Frag)(mg:Str->Option Value)(cb:Cb)(x:Str)(n:String)(C:Addr):Prop where
 bnd:mg x=some (.ref C)
 exc:W.excIn K C HL "ValueError.__new__"=true
 at':cb.exc n=some C
def Pq{K:W.Frag}{h:Heap}{C:Addr}{newId:String}(X:K.In h)(q:W.excIn K C HL newId=true):
  ∃bm N nm qn bs hdct sn sub ab col dd k0 k1 k2 k3 k5 mN,h.get? C=some (excClassObj nm qn C N bs bm hdct sn sub ab col dd k0 k1 k2 k3 k5 newId)/\h.Ns N mN/\mN "__init__"=none/\OwnTail h HL bm:=by
 unfold W.excIn at q;split at q;case h_2=>cases q
 case h_1 dd cd sl lk=>
  split at q;case h_2=>cases q
  case h_1 C' bm k0 k1 k2 k3 n k5 em es=>simp only[Bool.and_eq_true,beq_iff_eq,Bool.not_eq_true'] at q;obtain ⟨⟨⟨⟨⟨e1,e2⟩,e3⟩,e4⟩,e5⟩,e6⟩:=q;subst e1 e2;obtain ⟨nm,bs,mr,ns,qn,hd,sn,sub,ab,col,dl⟩:=cd;simp only at em e3 e5 e6;subst em e3;obtain ⟨sl⟩:=sl;simp only at es;subst es;exact ⟨bm,ns,nm,qn,bs,hd,sn,sub,ab,col,dd,k0,k1,k2,k3,k5,_,X _ _ lk,.of_isNs (W.isNs_of_in X e5),W.nsMap_none_of_in X e5 e6,W.tail_of_in X e4⟩
section
variable{X:Cx}{cf:Cf}{e₀:Expr}{rest:List Expr}{fa:Sg->Res (List D)}{x:Str}{c:String}{C:Addr}{np cpos pos:Pos}
def sL(g:Good X)(M:XC X.K X.mg cf.cb x c C)(ha:pN X cf.z (e₀::rest) fa)(hg:Gl X x:=by rfl)(hd:(x==("__debug__":Str))=false:=by decide)(he:starEach (e₀::rest) X.env=(false,eval e₀ X.env)::starEach rest X.env:=by rfl)(hpl:(backTo cpos (starEach rest X.env)).any (·.1)=false:=by rfl):sG X cf (.Raise (some (.Call (.Name x np) (e₀::rest) [] cpos)) none pos) (uv c fa):=by
 have ha:=ha.out;refine ⟨?_⟩;refine λ pins s σ H E I=>ah λ Γ j h=>?_;obtain ⟨tl,N,nm,q,bs,hdct,sn,sub,ab,col,dd,k0,k1,k2,k3,k5,mN,hC,hN,hni,T⟩:=Pq I.ok.mod.Q3 M.exc;refine wpAny_Raise_call_subT (C:=C) (nm:=nm) (q:=q) (N:=N) (bs:=bs) (bm:=tl) (hdct:=hdct) (sn:=sn) (sub:=sub) (ab:=ab) (col:=col) (dd:=dd) (k0:=k0) (k1:=k1) (k2:=k2) (k3:=k3) (k5:=k5)
  PySem.F.excBase_ValueError (mN:=mN) (T.hasType PySem.F.excBase_ValueError.hasBase) (I.ok.hd g.calm) (by rw[he];show (false||(backTo cpos (starEach rest X.env)).any (·.1))=false;rw[hpl];rfl) hni (uR I hg M.bnd ⟨rfl,?_⟩ hd)
 have h':EB X cf.z fa σ H (λ vs H1=>az H H1/\vs.length<=1000/\Fn X cf H (.err c Γ) E):=af Γ j (Fn.ok j h λ ds _ q vs H1 s1 t1=>by
   split at q
   ·rename_i hl;exact aS s1 (by rw[<-t1.length];exact hl) q
   ·exact q.elim)
 have hp:=ha cpos pins s σ H _ I h';rw[he] at hp ⊢;refine Calls.evalArgs_plain (wpAny_mono hp (λ us s1 ⟨vs,H1,I1,r,sm,hl,q⟩=>An rfl ?_ (I1.bk _ _ hC) (hN.keeps I1.bk) (T.keeps I1.bk) (λ h2 e hm=>?_)) λ _ _ y=>y)
 ·show us.length<=sizeLine;rw[<-r.length];exact Nat.le_of_lt (jW hl)
 ·exact q σ H1 _ _ (az.keep sm) (j.mono sm) (Al pins H1 s1 C I1 (az.refl H1) M.at' (.inl (jy e us h2 rfl rfl hm)))
end
section
variable{X:Cx}{ct:Ct}{pins:List (Addr×Obj)}{σ:St}{H:Hp}{s:Shared}
def pJ{M:Model}{A:Around}{E:Value->Shared->Prop}{i:Nat}{n:Str}{pos:Pos}{Q:Unit->Shared->Prop}(I:Inv X pins σ H s)(hN:X.N.Nodup)(hi:X.N[i]? =some n)(hl:X.env.kindOf n=some .local)
  (h:∀s',Inv X pins (σ.set i none) H s'->Q () s'):wpAny M A (do bindName X.env n .none;unbindBehindTheSuite X.env n pos) Q E s:=by
 refine ah (λ m hn hlk=>?_) (id I.loc)
 have hcls:(X.env.scope.kind== .class||(X.env.scope.kind== .module&&X.env.locals !=X.env.globals))=false:=by rw[I.ok.kind];rfl
 refine wpAny_nameGoes_keeps hl hn hcls λ h' v hn' hs=>h _ ?_
 refine bN (λ oL _ _ LU _=>?_) (id hn)
 have old:∀{b:Addr} {o:Obj},X.s₀.heap.get? b=some o->b≠X.env.locals:=λ e=>Nat.ne_of_lt (Nat.lt_of_lt_of_le (Heap.lt_size e) I.ok.above)
 have HC:=I.HC
 refine ⟨I.ok,I.os,I.bare,⟨λ b o e n hb hx=>(hs.2 b (old e)).trans (I.base.keep b o e n hb hx),λ b o e n hb hx=>?_,I.base.free,λ b o e hx=>?_,I.base.tups,I.base.lR,I.base.mw⟩,
  af _ hn' (λ k y v' e1 e2 e3=>?_),λ y c e=>?_,I.free,I.dX,λ p hp=>?_,λ b ob e=>?_,by simpa using I.len⟩
 ·obtain ⟨sl,e1⟩:=I.base.slot b o e n hb hx
  exact ⟨sl,(hs.2 b (old e)).trans e1⟩
 ·obtain ⟨o',e1⟩:=I.base.there b o e hx
  exact ⟨o',(hs.2 b (old e)).trans e1⟩
 ·by_cases hk:k=i
  ·subst hk
   by_cases hlen:k<σ.length
   ·rw[List.getElem?_set_self hlen] at e2;cases e2
   ·rw[List.getElem?_eq_none (by rw[List.length_set];omega)] at e2;cases e2
  ·rw[List.getElem?_set_ne (Ne.symm hk)] at e2
   refine ah (λ u' r' q=>?_) (hlk k y v' e1 e2 e3)
   refine af u' r' ?_
   rcases q with ⟨kk,e⟩|⟨kk,c,e,z⟩
   ·have:y≠n:=λ e=>hk (qA hN e1 (e▸hi))
    exact .inl ⟨kk,by simp[this,e]⟩
   ·exact .inr (⟨kk,af c e (z.sameBut hs (HC y c e))⟩)
 ·obtain ⟨w',z⟩:=I.cell y c e
  exact ⟨w',z.sameBut hs (HC y c e)⟩
 ·refine iT (λ e n ne nf d=>?_) (I.pin p hp)
  exact lH ((hs.2 p.1 ne).trans e) n ne nf d
 ·refine (I.hok b ob e).stay (λ c w' hc q=>(hs.2 c ?_).trans q) (λ _ q=>q) (λ _ _ q=>q) λ _ _ _ q=>q
  rintro rfl
  rcases hc with rfl|hc
  ·rw[I.free] at e;cases e
  ·rw[I.free] at hc;cases hc
def Inv.RN{φ:Heap->Prop}(I:Inv X pins σ H s)(ha:H a=none)(old:Inv X pins σ H1 s1)(nw:s1.heap.get? a=none)(new:bQ X.prog X.w (upd H a (.ext φ)) s.heap a (.ext φ)):
  Inv X pins σ (upd H a (.ext φ)) s:=by
 have there:∀b o,X.s₀.heap.get? b=some o->b∉X.ex->b≠a:=λ b o e hx z=>by subst z;obtain ⟨o',q⟩:=old.base.there b o e hx;rw[nw] at q;cases q
 have nl:X.env.locals≠a:=λ z=>by refine ah (λ m y _=>?_) old.loc;revert y;refine bN λ o _ _ ho _=>?_;rw[z,nw] at ho;cases ho
 have nc:∀x c,X.env.cells.lookup x=some c->c≠a:=λ x c e z=>by refine aQ (λ v o ho _=>?_) (old.cell x c e);rw[z,nw] at ho;cases ho
 have np:∀p∈X.pn++pins,p.1≠a:=λ p hp z=>by have:=(old.pin p hp).1;rw[z,nw] at this;cases this
 have ne:∀b u,H b=some u->b≠a:=λ b u e=>bO e ha;refine ⟨I.ok,I.os,I.bare,⟨I.base.keep,I.base.slot,λ b o e n hx=>?_,I.base.there,λ b xs e=>?_,λ b o u e=>?_,λ b ps e=>?_⟩,I.loc,I.cell,?_,λ x c e=>?_,λ p hp=>?_,λ b u e=>?_,I.len⟩
 ·rw[aB (there b o e hx)];exact I.base.free b o e n hx
 ·have q:=I.base.tups b xs e;rw[aB (ne _ _ q)];exact q
 ·have q:=I.base.lR b o u e;rw[aB (ne _ _ q)];exact q
 ·obtain ⟨more,q⟩:=I.base.mw b ps e;exact ⟨more,by rw[aB (ne _ _ q)];exact q⟩
 ·rw[aB nl];exact I.free
 ·rw[aB (nc x c e)];exact I.dX x c e
 ·refine aW (λ h1 h2 h3=>?_) (I.pin p hp);exact aS h1 (by rw[aB (np p hp)];exact h2) h3
 ·by_cases hb:b=a
  ·subst hb;rw[aI] at e;cases e;exact new
  ·rw[aB hb] at e;exact (I.hok b u e).stay (λ _ _ _ q=>q) (λ c q=>by rw[aB (ne _ _ q)];exact q) (λ c xs q=>by rw[aB (ne _ _ q)];exact q) λ c ob y q=>by rw[aB (ne _ _ q)];exact q
end
section
variable{X:Cx}{cf:Cf}
noncomputable abbrev L7(X:Cx)(pn:List (Addr×Obj))(xe:Value->Shared->Prop):Cx:={X with pn:=pn,xe:=xe}
abbrev V6(X:Cx)(ev:Value)(pn:List (Addr×Obj)):Cx:={X with A:=X.A.mark (some ev),calm:=false,pn:=pn,xe:=λ _ _=>False}
def Xj(ok:X.Ok)(pn:List (Addr×Obj))(xe:Value->Shared->Prop):(L7 X pn xe).Ok:=⟨ok.mod,ok.kind,ok.glob,ok.blt,ok.above,ok.inj,ok.has,ok.UI,ok.hd,ok.frames,ok.stk,ok.Yo,ok.bs,ok.Ma,ok.Gk,ok.Ho,ok.qS,ok.Rf⟩
def Xk(ok:X.Ok)(ev:Value)(pn:List (Addr×Obj)):(V6 X ev pn).Ok:=⟨ok.mod,ok.kind,ok.glob,ok.blt,ok.above,ok.inj,ok.has,ok.UI,λ z=>absurd z (by exact Bool.false_ne_true),ok.frames,ok.stk,ok.Yo,ok.bs,ok.Ma,ok.Gk,ok.Ho,ok.qS,ok.Rf⟩
variable{pins:List (Addr×Obj)}{σ:St}{H:Hp}{s:Shared}
def Inv.toT(I:Inv X pins σ H s)(xe:Value->Shared->Prop):Inv (L7 X (X.pn++pins) xe) [] σ H s:=⟨Xj I.ok _ _,I.os,I.bare,I.base,I.loc,I.cell,I.free,I.dX,λ p hp=>I.pin p (by simpa using hp),I.hok,I.len⟩
def Inv.ofT(ok:X.Ok)(I:Inv (L7 X (X.pn++pins) xe) sS σ H s):Inv X pins σ H s:=⟨ok,I.os,I.bare,I.base,I.loc,I.cell,I.free,I.dX,λ p hp=>I.pin p (List.mem_append_left _ hp),I.hok,I.len⟩
def Inv.toE(I:Inv X pins σ H s)(ev:Value):Inv (V6 X ev (X.pn++pins)) [] σ H s:=⟨Xk I.ok _ _,I.os,I.bare,I.base,I.loc,I.cell,I.free,I.dX,λ p hp=>I.pin p (by simpa using hp),I.hok,I.len⟩
def Inv.Vx{ev:Value}(ok:X.Ok)(I:Inv (V6 X ev (X.pn++pins)) [] σ H s):Inv X pins σ H s:=⟨ok,I.os,I.bare,I.base,I.loc,I.cell,I.free,I.dX,λ p hp=>I.pin p (by simpa using hp),I.hok,I.len⟩
def GL{Q:Value->Shared->Prop}(I:Inv X pins σ H s)(hg:Gl X x)(hm:X.mg x=some u)(h:Q u s)(hd:(x==("__debug__":Str))=false:=by decide):wpAny (model X.prog X.w) A (eval (.Name x pos) X.env) Q E s:=Calls.Name_function_global I.ok.kind hg (Calls.loadGlobal_global (by rw[I.ok.glob];exact I.mod.glob.keeps I.bk) hm h) hd
def AB{M:Model}{A:Around}{E:Value->Shared->Prop}{base h:Heap}{env:Env}{outer:List Env}{L e:Addr}{cls:Value}{args:List Value}{s:Shared}{Q:Unit->Shared->Prop}(hfr:A.frames=some (env::outer))(hf:env.frame=some L) (hkb:base.StaysIn h) (hl:h.FunFrames base (env::outer)) (hx:Heap.MadeExcOf h s.heap e cls args) (hQ:∀h' t,Heap.HeldW base (env::outer) e cls (.ref t) L h'->s.heap.UpToSlots h'->Q () {s with heap:=h'}):wpAny M A (noteFrame (.ref e) env) Q E s:=by
 refine aD (λ t he htn ht=>?_) hx.there;have nb:base.get? e=none:=by
  cases q:base.get? e with
  |none=>rfl
  |some o=>have:=hkb e o q;rw[hx.new] at this;cases this
 unfold noteFrame;simp only[hf];refine wpAny_bind (wpAny_field he rfl (x:= .none) rfl ?_);rw[if_neg (by simp)];refine wpAny_entryW (a0:= .ref t) hfr (hl.of_keeps λ b o q _=>af o (hx.keeps b o q) rfl) hf he (λ b o q=>hx.keeps b o (hkb b o q)) nb rfl (by simp) rfl λ h' hN=>?_;refine iU (λ k1 k2 k3 k4=>?_) hN;exact hQ h' t (gz k1 nb k2 k3) k4
def GQ{e:Value}{Q:Unit->Shared->Prop}(g:Good X)(ok:X.Ok)(r:eF (L7 X (X.pn++pins) xe) cf.cb σ' H' c e s')(k:∀(a C:Addr) (B:Heap) (a0:Value) (H1 H2:Hp) (s1:Shared) (h5:Heap),e= .ref a->cf.cb.exc c=some C->az H' H1->az H1 H2->Inv X pins σ' H1 s1->s1.heap.get? a=none->H2 a=none->s'.os=s1.os->AllBare s'.gens->Heap.FlyingW B (X.env::X.outer) a (.ref C) a0 h5->(∀h:Heap,B.StaysIn h->h5.UpToSlots h->Un (frs X.stack) [] H1 H2 s1.heap h/\kh X.prog X.w H2 h)->Q () {s' with heap:=h5}):
  wpAny (model X.prog X.w) X.A (noteFrame e X.env) (λ _ s₂=>wpAny (model X.prog X.w) X.A (setFlight e none) Q E s₂) E s':=by
 revert r;refine uF λ Zh H1 s1 C I1 sm hc r=>?_
 have I1:Inv X pins σ' H1 s1:=Inv.ofT ok I1;obtain ⟨own,hf⟩:=g.own;have hfr:X.A.frames=some (X.env::X.outer):=by rw[<-own];exact ok.frames
 rcases r with ⟨a,args,h',rfl,rfl,hx⟩|⟨a,C',H2,B,a0,rfl,⟨q1,q2,q3⟩,q4,q5,fl,na,nw,cl⟩
 ·have hst:s1.heap.FunFrames X.base X.stack:=I1.stack;have hin:∀env∈X.stack,∀b,env.frame=some b->b∈frs X.stack:=λ env he b hb=>List.mem_filterMap.mpr (af env he hb);have hkb:(W.hideAll s1.heap (frs X.stack)).StaysIn s1.heap:=λ b o q=>W.of_hideAll _ q;have na:H1 a=none:=by
   cases z:H1 a with
   |none=>rfl
   |some o=>obtain ⟨ob,hb⟩:=jB (I1.hok a o z);rw[hx.new] at hb;cases hb
  have hff:s1.heap.FunFrames (W.hideAll s1.heap (frs X.stack)) (X.env::X.outer):=by have z:=W.funFrames_hide hst hin;generalize W.hideAll s1.heap (frs X.stack)=B at z ⊢;rw[own] at z;exact z
  refine AB (s:={s1 with heap:=h'}) hfr hf hkb hff hx λ h4 t held Wz=>?_;refine wpAny_landsW held λ h5 Yl Wy=>?_;refine k a C _ _ H1 H1 s1 h5 rfl hc sm (az.refl H1) I1 hx.new na rfl I1.bare Yl λ h3 st3 M8=>?_;have keep:∀b o,s1.heap.get? b=some o->b∉frs X.stack->h3.get? b=some o:=λ b o q nb=>st3 b o (W.hideAll_get _ q nb);have slot:∀b o,s1.heap.get? b=some o->b∈frs X.stack->∃sl,h3.get? b=some {o with slots:=sl}:=λ b o q hb=>by refine bS (λ _=>ah λ o' ho' hd=>?_) (hst.mem hb);rw[q] at ho';cases ho';exact ((Wz.trans Wy).trans M8) b o (hx.keeps b o q) hd
  have un:Un (frs X.stack) [] H1 H1 s1.heap h3:=⟨λ b o q n nb _=>keep b o q nb,λ b o q n hb _=>slot b o q hb,λ b o q n _=>n,λ b o q _=>by
   by_cases hb:b∈frs X.stack
   ·obtain ⟨sl,z⟩:=slot b o q hb;exact ⟨_,z⟩
   ·exact ⟨o,keep b o q hb⟩,λ b xs q=>q,λ b o u q=>q,λ b ps q=>⟨#[],by rw[q];simp⟩⟩
  refine ⟨un,λ b o q=>(I1.hok b o q).stay (λ b' u hb' e'=>?_) (λ _ q=>q) (λ _ _ q=>q) λ _ _ _ q=>q⟩;have tr:H1 b'≠none:=by
   rcases hb' with rfl|hb'
   ·rw[q];exact λ z=>nomatch z
   ·rw[hb'];exact λ z=>nomatch z
  exact keep b' u e' λ z=>tr (I1.mz b' z)
 ·cases q1;have fl:Heap.FlyingW B X.stack a (.ref C) a0 s'.heap:=fl;rw[own] at fl;refine wpAny_looks_onW hfr hf fl λ h4 held Wz=>?_;refine wpAny_landsW held λ h5 Yl Wy=>?_;exact k a C B a0 H1 H2 s1 h5 rfl hc sm q3 I1 nw na q4 q5 Yl λ h3 st3 M8=>cl h3 st3 ((Wz.trans Wy).trans M8)
end
section
variable{X:Cx}{cf:Cf}{body suite:List Stmt}{b₀:Stmt}{F G:Sg->Out}{t n:Str}{hit:String->Option Bool}{T:Value}{np hpos pos:Pos}
noncomputable def Vd(K:W.Frag)(cb:Cb)(T:Value)(hit:String->Option Bool):Prop:=∀c C b,cb.exc c=some C->hit c=some b->W.exmOne K (.ref C) T=some b
def Uo(q:∃o,h.get? a=some o/\o.cls= .ref C):bQ P w (upd H a (.ext (iK a C))) h a (.ext (iK a C)):=by refine ah (λ o h1 h2=>?_) q;exact aS (af o h1 h2) ⟨o,h1⟩ (λ hA hB ⟨o',e1,e2⟩ k=>af o' (k o' e1) e2)
def Dn(i:Nat)(g:Good X)(hT:X.mg t=some T)(hh:Vd X.K cf.cb T hit)(hb:∀pn xe,Good (L7 X pn xe)->oj (L7 X pn xe) cf body F)(hs:∀ev pn,oj (V6 X ev pn) cf (b₀::suite) G)(hg:Gl X t:=by rfl)(hd:(t==("__debug__":Str))=false:=by decide)(hi:X.N[i]? =some n:=by rfl)(hl:X.env.scope.names.lookup n=some .local:=by rfl)(O8:X.env.kindOf n=some .local:=by rfl):sG X cf (.Try body [.ExceptHandler (some (.Name t np)) (some n) (b₀::suite) hpos] [] [] pos) (uu i hit F G):=by
 have hb:=λ pn xe h_1=>(hb pn xe h_1).out;have hs:=λ ev pn=>(hs ev pn).out;refine ⟨?_⟩;refine λ pins s σ H E I=>ah λ Γ j h=>?_;let E1:Value->Shared->Prop:=λ e s'=>wpAny (model X.prog X.w) X.A (noteFrame e X.env) (λ _ s₂=>wpAny (model X.prog X.w) X.A (setFlight e none) (λ _ s₃=>wpAny (model X.prog X.w) X.A (handleBy e X.env [.ExceptHandler (some (.Name t np)) (some n) (b₀::suite) hpos]) (SP X pins E) X.xe s₃) X.xe s₂) X.xe s'
 have g1:Good (L7 X (X.pn++pins) E1):=⟨PassesOwn.looking,g.calm,g.nd,g.own⟩;have hF:Fn (L7 X (X.pn++pins) E1) cf H (F Γ) E:=by
  simp only[uu,tryD] at h;cases q:F Γ with
  |nx Γ'=>rw[q] at h;exact h
  |bk Γ'=>rw[q] at h;exact h
  |ct Γ'=>rw[q] at h;exact h
  |rt d=>rw[q] at h;exact λ v H' b t=>h v H' ⟨b.same,b.free⟩ t
  |xG ds=>rw[q] at h;exact λ v H' S b=>h v H' S ⟨b.same,b.free⟩
  |Ir ds Γ9=>rw[q] at h;exact h
  |rW ds Γ9=>rw[q] at h;exact h
  |bad=>rw[q] at h;exact h
  |err c Γ1=>
   rw[q] at h;intro σ' H' e s' kp j1 r;dsimp only at h;split at h
   ·rename_i hc';refine GQ g I.ok r λ a C B a0 H1 H2 s1 h5 ea hc Zd rM I1 nw na os' bare fl cl=>?_;subst ea;have inv:∀h:Heap,B.StaysIn h->h5.UpToSlots h->Inv X pins σ' H2 {s' with heap:=h}:=λ h st up=>I1.CB (s':={s' with heap:=h}) (ch:=[]) os' (cl h st up).1 (cl h st up).2 bare (λ b z=>absurd z (by simp));have I5:=inv h5 fl.1 (Heap.UpToSlots.refl h5);refine wpAny_handleBy_cons (codeAny_handlers_test (GL I5 hg hT ?_ hd)) (by intro z;cases z);have LT:W.Looks (model X.prog X.w) h5 (typeOf (.ref a)) (.ref C):=by refine ah (λ ob hob hcl=>?_) fl.there;rw[<-hcl];exact (W.Looks.ld hob).andThen .now
    refine (W.exm_one I5.DY LT (hh c C true hc hc')).here ?_;refine codeAny_handlers_suite_as ?_;refine lands_againW fl λ h6 ZS up6=>?_;have I6:=inv h6 ZS.1 up6;have I7:Inv X pins σ' (upd H2 a (.ext (iK a C))) {s' with heap:=h6}:=Inv.RN I6 na (I1.kept (h':=s1.heap) (t':=s1.toks) λ _ _ z=>z) nw (Uo ZS.there);have k7:aV cf.cb H (upd H2 a (.ext (iK a C))):=((kp.trans (az.keep Zd)).trans (az.keep rM)).trans (az.keep (bx na _));refine jv (A:=X.A.mark (some (.ref a))) (i:=i) (v:= .ref a) I7 g.nd hi (Or.inl hl) rfl (λ s8 I8=>?_) (.inr hl);have j7:Jx X cf.z (Γ1.set i (.val (.exc c))) (σ'.set i (some (.ref a))) (upd H2 a (.ext (iK a C))):=by refine ((j1.mono (Zd.trans rM)).mono (bx na _)).set ?_;simp only[Tl];exact ao a C rfl hc aI
    refine wpAny_mono (hs (.ref a) (X.pn++pins) [] s8 _ _ {nx:=λ σ9 H9=>E.nx (σ9.set i none) H9,bk:=λ σ9 H9=>E.bk (σ9.set i none) H9,ct:=λ σ9 H9=>E.ct (σ9.set i none) H9,rt:=E.rt} (Inv.toE I8 (.ref a)) (af _ j7 ?_)) (λ f s9 q9=>?_) λ _ _ z=>z.elim
    ·cases qG:G (Γ1.set i (.val (.exc c))) with
     |nx Γ9=>rw[qG] at h;exact λ σ9 H9 k9 j9=>h _ H9 (k7.trans k9) j9.unset
     |bk Γ9=>rw[qG] at h;exact λ σ9 H9 k9 j9=>h _ H9 (k7.trans k9) j9.unset
     |ct Γ9=>rw[qG] at h;exact λ σ9 H9 k9 j9=>h _ H9 (k7.trans k9) j9.unset
     |rt d=>rw[qG] at h;exact λ v H' b t=>h v H' ⟨b.same,b.free⟩ t
     |xG ds=>rw[qG] at h;exact λ v H' S b=>h v H' S ⟨b.same,b.free⟩
     |Ir ds Γ9=>rw[qG] at h;exact h
     |rW ds Γ9=>rw[qG] at h;exact h
     |err c' Γ9=>rw[qG] at h;exact h.elim
     |bad=>rw[qG] at h;exact h.elim
    ·cases f with
     |next=>revert q9;refine aQ λ σ9 H9 I9 q=>?_;exact pJ (Inv.Vx I.ok I9) g.nd hi O8 λ s' I'=>aM _ H9 I' q
     |brk=>revert q9;refine aQ λ σ9 H9 I9 q=>?_;exact pJ (Inv.Vx I.ok I9) g.nd hi O8 λ s' I'=>aM _ H9 I' q
     |cont=>revert q9;refine aQ λ σ9 H9 I9 q=>?_;exact pJ (Inv.Vx I.ok I9) g.nd hi O8 λ s' I'=>aM _ H9 I' q
     |ret u=>revert q9;refine dO λ v σ9 H9 I9 rv q=>?_;exact pJ (Inv.Vx I.ok I9) g.nd hi O8 λ s' I'=>jy v _ H9 I' rv q
   ·exact h.elim
 refine wpAny_Try_except (wpAny_mono (hb (X.pn++pins) E1 g1 [] s σ H E (Inv.toT I E1) (af Γ j hF)) (λ f s1 q=>?_) λ e s1 q=>q);cases f with
 |next=>refine aQ (λ σ' H' I' q=>?_) q;exact wpAny_execs_nil (aM σ' H' (Inv.ofT I.ok I') q)
 |brk=>refine aQ (λ σ' H' I' q=>?_) q;exact aM σ' H' (Inv.ofT I.ok I') q
 |cont=>refine aQ (λ σ' H' I' q=>?_) q;exact aM σ' H' (Inv.ofT I.ok I') q
 |ret u=>refine dO (λ v σ' H' I' r q=>?_) q;exact jy v σ' H' (Inv.ofT I.ok I') r q
end
structure XT(K:W.Frag)(C:Addr):Prop where
 ga:W.findIn K (.ref C) "__getattribute__"=some (some (.builtin "BaseException.__getattribute__"))
 gt:W.findIn K (.ref C) "__getattr__"=some none
 ca:W.findIn K (.ref C) "__class__"=some (some (.builtin "object.__class__"))
 mo:W.mroIn K C (.type "object")=some true
 mb:W.subIn K (.ref C) (.type "BaseException")=some true
 cl:(W.clsIn K C).isSome=true
section
open PySem.W Builtin Builtin.ObjectAttr Builtin.Getset_descriptor
variable{prog:Program}{w:World}{A:Around}{E:Value->Shared->Prop}{h:Heap}{g:Array GenState}{d:Drawn}{t:Nat}{os:OsState}{a C:Addr}{K:Frag}
def Bb{M:Model}(p:iK a C h):Looks M h (typeOf (.ref a)) (.ref C):=by refine ah (λ o h1 h2=>?_) p;exact h2▸(Looks.ld h1).andThen .now
def MQ{R:Result->Shared->Prop}(X:K.In h)(T:XT K C)(p:iK a C h)(hq:R (.ok (.ret (.ref C))) ⟨h,g,d,t,os⟩):
  codeAny (model prog w) A (.call (.builtin "getset_descriptor.__get__") ⟨[.builtin "object.__class__",.ref a,.ref C],[]⟩) R ⟨h,g,d,t,os⟩:=by
 have la:=Bb (M:=model prog w) p;have lb:=looks_mroIn (M:=model prog w) X T.mo;refine codeAny_call_builtin KF.slot_gs.plain KF.entry_gs
  (KF.slot_gs.check _ _ _ _ _ _ _ _ KF.type_class (KF.args_gs _ _ _) ?_)
 unfold Builtin.«getset_descriptor.__get__» descrGet;rw[dga_obj];refine wpAny_bind (wpAny_pure ?_);unfold descrGetter descrCheckInstance descrNameAndClass isInstance;simp only[KF.owner_class];repeat lk
 refine ⟨Code.quiet_builtin _ (by decide+kernel),codeAny_builtin KF.entry_class ?_⟩;unfold Builtin.«object.__class__» shownTypeOf;repeat lk
 exact hq
def EG{tk:Tok}{Q:Fin->Shared->Prop}(X:K.In h)(T:XT K C)(p:iK a C h)(hq:Q (.done (.ret (.ref C))) ⟨h,g,d,t,os⟩):
  wpAny (model prog w) A (Builtin.«object.__getattribute__» ⟨[.ref a,.str "__class__" tk],[]⟩) Q E ⟨h,g,d,t,os⟩:=by
 have hT5:(⟨h,g,d,t,os⟩:Shared).TypeIs (.builtin "object.__class__") "getset_descriptor":=F.typeOf_object_class;have f5:=F.typeOf_object_class;have f6:=F.slot_gs_get.lookup;have f7:=F.slot_gs_set.lookup;have la:=Bb (M:=model prog w) p;have lb:=looks_findIn (M:=model prog w) X T.ca
 revert p;refine ah λ o h1 h2=>?_
 repeat (any_goals (first|assumption|(with_reducible refine wpAny_loadPart_at h1 ?_;rw[h2])|with_reducible refine Looks.at lb ?_|wp_step))
 refine MQ X T (af o h1 h2) ?_;repeat (any_goals (first|assumption|wp_step))
def EH{nameV:Value}{Q:Unit->Shared->Prop}(X:K.In h)(T:XT K C)(p:iK a C h)(hq:Q () ⟨h,g,d,t,os⟩):
  wpAny (model prog w) A (checkBuiltinCall "BaseException.__getattribute__" ⟨[.ref a,nameV],[]⟩) Q E ⟨h,g,d,t,os⟩:=by
 have hk:builtinKind "BaseException.__getattribute__"=some .slot:=by decide+kernel
 have Ey:splitId "BaseException.__getattribute__"=some ("BaseException","__getattribute__"):=by decide+kernel
 have hargs:=F.args_bexc_ga (.ref a) nameV;have la:=Bb (M:=model prog w) p;have lb:=looks_subIn (M:=model prog w) X T.mb;simp only[checkBuiltinCall,hk,Ey];refine wpAny_bind ?_;unfold isInstance;refine ah (λ o h1 h2=>?_) p;repeat (first|(with_reducible refine wpAny_loadPart_at h1 ?_;rw[h2])|with_reducible refine Looks.at lb ?_|wp_step)
 exact hq
def IJ{tk:Tok}(X:K.In h)(T:XT K C)(p:iK a C h)(hq:R (.ok (.ret (.ref C))) ⟨h,g,d,t,os⟩):
  codeAny (model prog w) A (.call (.builtin "BaseException.__getattribute__") ⟨[.ref a,.str "__class__" tk],[]⟩) R ⟨h,g,d,t,os⟩:=
 codeAny_call_builtin F.attr_ValueError.ga.plain F.entry_bexc_ga (EH X T p (EG X T p hq))
def Ry{tk:Tok}{Q:Value->Shared->Prop}(X:K.In h)(T:XT K C)(p:iK a C h)(hq:Q (.ref C) ⟨h,g,d,t,os⟩):
  wpAny (model prog w) A (getAttrBy (.ref a) (.str "__class__" tk) false) Q E ⟨h,g,d,t,os⟩:=by
 have f3:=F.attr_ValueError.ga.bind (.ref a);have hx2:(Value.builtin "BaseException.__getattribute__"==Value.builtin "object.__getattribute__")=false:=by decide+kernel
 have hx1:(onTheHeap (Value.ref C)&&Value.builtin "BaseException.__getattribute__"==Value.builtin "object.__getattribute__")=false:=by rw[hx2];rfl
 have lb:=looks_findIn (M:=model prog w) X T.ga;have lc:=looks_findIn (M:=model prog w) X T.gt
 revert p;refine ah λ o h1 h2=>?_
 repeat (any_goals (first|assumption|(with_reducible refine wpAny_loadPart_at h1 ?_;rw[h2])|with_reducible refine Looks.at lb ?_|with_reducible refine Looks.at lc ?_|wp_step))
 refine IJ X T (af o h1 h2) ?_;repeat (any_goals (first|assumption|wp_step))
def GW(T:XT K C):KitX K (.ref a) (.ref C) (iK a C) where
 ty:=λ _ _ _ p=>Bb p
 it:=λ _ _ X _=>by
  have z:=T.cl
  unfold clsIn at z
  split at z
  ·rename_i c' d' cd' Ex ho
   intro A' Q' E' s' k q
   unfold isType loadHead
   exact wpAny_bind (wpAny_loadPart (k _ _ (X _ _ ho))
    (wpAny_pure q))
  ·cases z
 ne:=λ h tp dd its n sl X htp=>by
  have z:=T.cl
  refine Bool.eq_false_iff.mpr λ q=>?_
  have e:C=tp:=Value.ref.inj (beq_iff_eq.mp q)
  subst e
  unfold clsIn at z
  split at z
  ·rename_i ho
   have z:=(X _ _ ho).symm.trans htp
   cases z
  ·cases z
 ca:=λ{_ _ _ _ _ s} X p k=>by
  obtain ⟨h,g,d,t,os⟩:=s
  unfold getAttr? getAttrBy?
  repeat (any_goals (first|assumption|with_reducible apply Ry X T p|wp_step))
end
structure IC(K:W.Frag)(C:Addr):Prop where
 cl:Vg K C
 ha:W.findIn K (.ref C) "__class__"=some (some (.builtin "object.__class__"))
 hn:W.specialIn K (.builtin "object.__class__") "__get__"=some (some (.builtin "getset_descriptor.__get__"))
 tk:W.takesIn K (.builtin "object.__class__")=some true
 hm:W.mroIn K C (.type "object")=some true
structure Rq(K:W.Frag)(cb:Cb)(mt:List (String×List String)):Prop where
 xt:∀c C,cb.exc c=some C->(mt.lookup c).isSome=true->XT K C
 ic:∀c C ns,cb.cls c=some (C,ns)->IC K C
structure EC(K:W.Frag)(cb:Cb)(mt:List (String×List String))(cv:Value)(n:String):Prop where
 nn:W.kitOne K (.type "NoneType") cv=some (["NoneType"].contains n)
 bb:W.kitOne K (.type "bool") cv=some (["bool","int"].contains n)
 ii:W.kitOne K (.type "int") cv=some (["int"].contains n)
 ss:W.kitOne K (.type "str") cv=some (["str"].contains n)
 tt:W.kitOne K (.type "tuple") cv=some (["tuple"].contains n)
 ll:W.kitOne K (.type "list") cv=some (["list"].contains n)
 dd:W.kitOne K (.type "dict") cv=some (["dict"].contains n)
 own:∀c C ks,cb.exc c=some C->mt.lookup c=some ks->W.kitOne K (.ref C) cv=some (ks.contains n)
 ins:∀c C ns ks,cb.cls c=some (C,ns)->mt.lookup c=some ks->W.kitOne K (.ref C) cv=some (ks.contains n)
def sY{X:Cx}{ct:Ct}{mt:List (String×List String)}{pins:List (Addr×Obj)}{σ:St}{H:Hp}{s:Shared}{d:D}{v:V}{u:Value}{ks:List String}(I:Inv X pins σ H s)(lL:az ct.f.L H)(lB:az ct.B H)(t:Tl X.K ct H d v)(r:RelV v u)(hk:kinds mt d=some ks) (hx:Rq X.K ct.f.cb mt):
  u≠.builtin "__main__.__loader__#opaque"/\∃(ty:Value) (P:Heap->Prop),W.KitX X.K u ty P/\P s.heap/\∀cv n,EC X.K ct.f.cb mt cv n->W.kitOne X.K ty cv=some (ks.contains n):=by
 cases d with
 |eU=>simp only[Tl] at t;subst t;cases r;cases hk;exact ⟨(λ z=>nomatch z),ao _ _ W.kitx_none trivial (λ cv n k=>k.nn)⟩
 |bl b=>simp only[Tl] at t;subst t;cases r;cases hk;exact ⟨(λ z=>nomatch z),ao _ _ W.kitx_bool trivial (λ cv n k=>k.bb)⟩
 |int i=>simp only[Tl] at t;subst t;obtain ⟨tk,rfl⟩:=r;cases hk;exact ⟨(λ z=>nomatch z),ao _ _ W.kitx_int trivial (λ cv n k=>k.ii)⟩
 |str x=>simp only[Tl] at t;subst t;obtain ⟨tk,rfl⟩:=r;cases hk;exact ⟨(λ z=>nomatch z),ao _ _ W.kitx_str trivial (λ cv n k=>k.ss)⟩
 |tup ds=>
  simp only[Tl] at t
  revert t;refine ak λ a vs y t1 _=>?_;subst y
  cases r;cases hk;refine aD (λ its _ y _=>?_) (I.tuple (kG t1));revert y;refine aD λ o h1 h2 _=>?_;exact ⟨(λ z=>nomatch z),ao _ _ W.kitx_tuple (af o h1 h2) (λ cv n k=>k.tt)⟩
 |gt ds=>
  simp only[Tl] at t
  revert t;refine ak λ a vs y t1 _=>?_;subst y
  cases r;cases hk;refine aD (λ its _ y _=>?_) (I.tuple t1.sq);revert y;refine aD λ o h1 h2 _=>?_;exact ⟨(λ z=>nomatch z),ao _ _ W.kitx_tuple (af o h1 h2) (λ cv n k=>k.tt)⟩
 |lst ds=>
  simp only[Tl] at t
  revert t;refine ak λ a vs y t1 _=>?_;subst y
  cases r;cases hk;refine aD (λ its _ y _=>?_) (I.list t1.sq);revert y;refine ak λ o _ h1 h2 _=>?_;exact ⟨(λ z=>nomatch z),ao _ _ W.kitx_list (af o h1 h2) (λ cv n k=>k.ll)⟩
 |bor tm ds=>refine ak (λ a vs y t1 _=>?_) (t.gJ lL lB rfl);subst y;cases r;cases hk;refine aD (λ its _ y _=>?_) (I.list t1);revert y;refine ak λ o _ h1 h2 _=>?_;exact ⟨(λ z=>nomatch z),ao _ _ W.kitx_list (af o h1 h2) (λ cv n k=>k.ll)⟩
 |lS ks' xs=>
  simp only[Tl] at t
  revert t;refine ak λ a vs y w _=>?_;subst y;obtain ⟨o,t1⟩:=w
  cases r;cases hk;cases ks' with
  |s _=>refine iU (λ _ _ _=>ah λ vs' _=>dO λ o' es ep h1 h2 _=>?_) (I.hok a _ t1);exact ⟨(λ z=>nomatch z),ao _ _ W.kitx_dict (af o' h1 h2.1) (λ cv n k=>k.dd)⟩
  |t _=>refine iU (λ _ _ _=>ah λ vs' _=>dO λ o' es ep h1 h2 _=>?_) (I.hok a _ t1);exact ⟨(λ z=>nomatch z),ao _ _ W.kitx_dict (af o' h1 h2.1) (λ cv n k=>k.dd)⟩
 |mj tm ks' xs=>
  simp only[Tl] at t
  revert t;refine ak λ a vs y t1 _=>?_;subst y
  cases r;cases hk;have t2:H a=some (ks'.ho vs):=by
   cases tm with
   |true=>exact lB a _ t1
   |false=>exact lL a _ t1
  cases ks' with
  |s _=>refine aW (λ _ _=>ah λ vs' _=>dO λ o' es ep h1 h2 _=>?_) (I.hok a _ t2);exact ⟨(λ z=>nomatch z),ao _ _ W.kitx_dict (af o' h1 h2.1) (λ cv n k=>k.dd)⟩
  |t _=>refine aW (λ _ _=>ah λ vs' _=>dO λ o' es ep h1 h2 _=>?_) (I.hok a _ t2);exact ⟨(λ z=>nomatch z),ao _ _ W.kitx_dict (af o' h1 h2.1) (λ cv n k=>k.dd)⟩
 |rz tm c ns xs=>cases hk
 |obj c ns xs=>
  simp only[Tl] at t
  revert t;refine uF λ a C dx vs y hc ha _=>?_;subst y
  cases r;have hk:mt.lookup c=some ks:=hk;refine ah (λ mA O _=>?_) (Kp I.hok ha);refine ah (λ od J _=>?_) O.look;have ic:=hx.ic c C ns hc;exact ⟨(λ z=>nomatch z),ao _ _ (W.kitx_own (ic.cl.get _) ic.cl.hd ic.ha ic.hn ic.tk ic.hm) J (λ cv n k=>k.ins c C ns ks hc hk)⟩
 |exc c=>
  simp only[Tl] at t
  revert t;refine ak λ a C y hc ha=>?_;subst y
  cases r;obtain ⟨p,_⟩:=I.hok a _ ha;have hk:mt.lookup c=some ks:=hk;exact ⟨(λ z=>nomatch z),ao _ _ (GW (hx.xt c C hc (by rw[hk];rfl))) p (λ cv n k=>k.own c C ks hc hk)⟩
section
variable{X:Cx}{ct:Ct}{mt:List (String×List String)}{a b e:Expr}{f g:Sg->Res D}{c:Str}{n:String}{cv:Value}{p p2 pos:Pos}
structure Im(X:Cx)(c:Str)(v:V)(u:Value):Prop where
 rel:RelV v u
 one:∀u',RelV v u'->u'=u
 ld:(X.mg c=some u)\/(X.mg c=none/\bootBuiltins c=some u/\c≠"__name__")
def qZ(h:X.mg c=some (.ref C)):Im X c (.ref C) (.ref C):=⟨rfl,λ _ z=>z,.inl h⟩
def Cz(h:X.mg c=none)(hv:bootBuiltins c=some (.type T))(hn:c≠"__name__"):Im X c (.ty T) (.type T):=⟨rfl,λ _ z=>z,.inr (aS h hv hn)⟩
def FZ{v:V}(h:Im X c v u)(hg:Gl X c:=by rfl)(hd:(c==("__debug__":Str))=false:=by decide):PE X (.Name c pos) (tC v):=by
 rcases h.ld with q|⟨q1,q2,q3⟩
 ·exact BK hg q h.rel hd
 ·exact JM hg q1 q2 h.rel q3 hd
def EN{v:V}(h:Im X c v u)(hg:Gl X c:=by rfl)(hd:(c==("__debug__":Str))=false:=by decide):WE X (.Name c pos) (tC v):=⟨FZ (h:=h) (hg:=hg) (hd:=hd)⟩
def HG{y:V}(hx:Rq X.K ct.f.cb mt)(hk:EC X.K ct.f.cb mt cv n)(hy:∀u,RelV y u->u=cv):nD X (.builtin "isinstance") (λ xs H Q=>az ct.f.L H/\az ct.B H/\∃d v ks,xs=[v,y]/\Tl X.K ct H d v/\kinds mt d=some ks/\Q (.bl (ks.contains n)) H):=by
 refine λ pins s σ H xs us Q I r=>aW λ lL lB=>nQ λ d v ks ex t hd q=>?_;subst ex;cases r with
 |cons r1 r2=>
  cases r2 with
  |cons r2 r3=>cases r3;refine bS (λ nb=>ak λ ty P Z pp k=>?_) (sY I lL lB t r1 hd hx);rw[hy _ r2];exact W.kia_one Z I.DY pp (k cv n hk) nb λ tk=>ao (.bl _) H (I.tok tk) rfl q
def B8{cs:List String}{d x:D}(h:pA mt cs d= .ok x):∃ks,kinds mt d=some ks/\x= .bl (cs.any λ c=>ks.contains c):=by
 unfold pA at h;split at h
 ·rename_i ks hk;cases h;exact af ks hk rfl
 ·cases h
def B9{cs:List String}{d:D}{c:String}:pA mt cs d≠.err c:=by unfold pA;split<;>exact λ z=>nomatch z
def zW{y:V}(hm:X.mg "isinstance"=none)(hx:Rq X.K ct.f.cb mt)(hk:EC X.K ct.f.cb mt cv n)(hc:Im X c y cv)(he:WD X ct e f)(hg:Gl X "isinstance":=by rfl)(hgc:Gl X c:=by rfl)(hdc:(c==("__debug__":Str))=false:=by decide)(hs:starEach [e,.Name c p2] X.env=(false,eval e X.env)::starEach [.Name c p2] X.env:=by rfl)(hs2:starEach [.Name c p2] X.env=(false,eval (.Name c p2) X.env)::starEach [] X.env:=by rfl)(hpl:(backTo pos (starEach [.Name c p2] X.env)).any (·.1)=false:=by rfl):WD X ct (.Call (.Name "isinstance" p) [e,.Name c p2] [] pos) (AV mt [n] f):=by
 have he:=he.out;refine ⟨?_⟩;refine PE.imp (iG (HG hx hk hc.one) hg hm PyProof.Rows.boot_isinstance (iV he (iV (FZ hc hgc hdc) qi hs2) hs) (by decide) (by decide) hs hpl) ?_;refine λ σ H Q=>ah λ Γ j h=>?_;refine nE.bnd j h λ d v H' s t j' h'=>?_;cases q:pA mt [n] d with
 |bad=>rw[q] at h';exact h'.elim
 |err c=>exact (B9 q).elim
 |ok x=>rw[q] at h';refine ah (λ ks hks z=>?_) (B8 q);subst z;exact aS j'.lL j'.lB (g7 d v ks rfl t hks (by simpa using h' (.bl _) H' s (by simp[Tl])))
theorem qK{K:W.Frag}{ty:Value}{ks:List String}:∀{KR:List Value} {ns:List String},Paired (λ cv n=>W.kitOne K ty cv=some (ks.contains n)) KR ns->W.kitAny K ty KR=some (ns.any λ c=>ks.contains c)
 |_,_,.nil=>rfl
 |_,_,.cons r t=>by
  unfold W.kitAny;rw[r,List.any_cons];cases ks.contains _ with
  |true=>rfl
  |false=>simpa using qK t
def Em{ys:List V}{KR:List Value}{ns:List String}(hx:Rq X.K ct.f.cb mt)(hk:Paired (EC X.K ct.f.cb mt) KR ns)(hy:∀us,Vals ys us->us=KR):
  nD X (.builtin "isinstance") (λ xs H Q=>az ct.f.L H/\az ct.B H/\∃d v ks a,xs=[v,.ref a]/\H a=some (.tup ys)/\Tl X.K ct H d v/\kinds mt d=some ks/\Q (.bl (ns.any λ c=>ks.contains c)) H):=by
 refine λ pins s σ H xs us Q I r=>aW λ lL lB=>cA λ d v ks a ex ha t hd q=>?_;subst ex;cases r with
 |cons r1 r2=>
  cases r2 with
  |cons r2 r3=>cases r3;cases r2;refine bS (λ nb=>ak λ ty P Z pp k=>?_) (sY I lL lB t r1 hd hx);refine bS (λ _=>ah λ its ri=>aD λ o h1 h2 y=>?_) (I.hok a _ ha);obtain ⟨m,h3⟩:=y;have e:=hy _ ri;subst e;obtain ⟨oc,od,Zn,osl⟩:=o;simp only at h2 h3;subst h2 h3;exact W.kia_tup Z I.DY pp h1 (qK (Paired.J3 hk λ cv n z=>k cv n z)) nb λ tk=>ao (.bl _) H (I.tok tk) rfl q
def IX{cs:List Expr}{x1}(hm:X.mg "isinstance"=none)(hx:Rq X.K ct.f.cb mt)(hk:Paired (EC X.K ct.f.cb mt) KR ns)(hy:∀us,Vals ys us->us=KR)(he:WD X ct e f)(hc:WA X cs t)(ht:∀σ H Q,Q ys H->t σ H Q)(hl:ys.length<=100)(hg:Gl X "isinstance":=by rfl)(hs:starEach [e,.Tuple cs x1 p2] X.env=(false,eval e X.env)::starEach [.Tuple cs x1 p2] X.env:=by rfl)(hs2:starEach [.Tuple cs x1 p2] X.env=(false,eval (.Tuple cs x1 p2) X.env)::starEach [] X.env:=by rfl)(hpl:(backTo pos (starEach [.Tuple cs x1 p2] X.env)).any (·.1)=false:=by rfl):WD X ct (.Call (.Name "isinstance" p) [e,.Tuple cs x1 p2] [] pos) (AV mt ns f):=by
 have he:=he.out;have hc:=hc.out;refine ⟨?_⟩;refine PE.imp (iG (Em hx hk hy) hg hm PyProof.Rows.boot_isinstance (iV he (iV (FP hc) qi hs2) hs) (by decide) (by decide) hs hpl) ?_;refine λ σ H Q=>ah λ Γ j h=>?_;refine nE.bnd j h λ d v H' s t' j' h'=>?_;cases q:pA mt ns d with
 |bad=>rw[q] at h';exact h'.elim
 |err c=>exact (B9 q).elim
 |ok x=>rw[q] at h';refine ah (λ ks hks z=>?_) (B8 q);subst z;refine ht σ H' _ ⟨Nat.le_of_lt (jW (by omega)),λ a ha=>?_⟩;have s2:=bx ha (.tup ys);exact aS (j'.lL.trans s2) (j'.lB.trans s2) (bT d v ks a rfl aI (t'.keep (az.keep s2)) hks (h' (.bl _) _ (s.trans s2) (by simp[Tl])))
end
def KY:bootBuiltins "list"=some (.type "list"):=by decide+kernel
def sA:bootBuiltins "ValueError"=some (.type "ValueError"):=by decide+kernel
def M6:∀us,Vals [] us->us=[]:=λ us h=>by cases h;rfl
def EY(t:∀us,Vals ys us->us=KR):∀us,Vals (.ref C::ys) us->us= .ref C::KR:=λ us r=>by
 cases r with
 |cons r1 r2=>cases r1;rw[t _ r2]
section
variable{X:Cx}{ct:Ct}{c:Cf}{k n:Nat}{f:Addr}{fd:FuncData}{ps:List Str}{F:List Slot->dh}{x:Str}{p pos:Pos}{e:Expr}{es:List Expr}{fa:Sg->Res (List D)}
def RC(G:jn X.prog X.w X.K X.mg X.base c.z.f.cb k f fd ps F)(hr:dw k X.A)(hm:X.mg x=some (.ref f))(hk:W.keepIn X.K (.ref f)=true)(hb:Binds X.K fd ps [])(ha:pN X c.z (e::es) fa)(hn:ps.length=n:=by rfl)(hg:Gl X x:=by rfl)(hdb:(x==("__debug__":Str))=false:=by decide)(he:starEach (e::es) X.env=(false,eval e X.env)::starEach es X.env:=by rfl)(hpl:(backTo pos (starEach es X.env)).any (·.1)=false:=by rfl):WD X c.z (.Call (.Name x p) (e::es) [] pos) (bh n F fa):=by have ha:=ha.out;refine ⟨?_⟩;subst hn;exact F3 (mK (yM c) G hr hm hk hb ha hg hdb he hpl)
def M3(G:jn X.prog X.w X.K X.mg X.base ct.f.cb k f fd ps F)(hr:dw k X.A)(hm:X.mg x=some (.ref f))(hk:W.keepIn X.K (.ref f)=true)(hb:Binds X.K fd ps [])(ha:pN X ct (e::es) fa)(hn:ps.length=n:=by rfl)(hg:Gl X x:=by rfl)(hdb:(x==("__debug__":Str))=false:=by decide)(he:starEach (e::es) X.env=(false,eval e X.env)::starEach es X.env:=by rfl)(hpl:(backTo pos (starEach es X.env)).any (·.1)=false:=by rfl):WD X ct (.Call (.Name x p) (e::es) [] pos) (qW n F fa):=by have ha:=ha.out;refine ⟨?_⟩;subst hn;exact F5 (mK (BX ct) G hr hm hk hb ha hg hdb he hpl)
def MR(G:jn X.prog X.w X.K X.mg X.base ct.f.cb k f fd ps F)(hr:dw k X.A)(hm:X.mg x=some (.ref f))(hk:W.keepIn X.K (.ref f)=true)(hb:Binds X.K fd ps [])(ha:pN X ct (e::es) fa)(hn:ps.length=n:=by rfl)(hg:Gl X x:=by rfl)(hdb:(x==("__debug__":Str))=false:=by decide)(he:starEach (e::es) X.env=(false,eval e X.env)::starEach es X.env:=by rfl)(hpl:(backTo pos (starEach es X.env)).any (·.1)=false:=by rfl):WM X ct (.Call (.Name x p) (e::es) [] pos) (nV n F fa):=by have ha:=ha.out;refine ⟨?_⟩;subst hn;exact yr (mK (BX ct) G hr hm hk hb ha hg hdb he hpl)
def MZ(G:jn X.prog X.w X.K X.mg X.base ct.f.cb k f fd ps F)(hr:dw k X.A)(hm:X.mg x=some (.ref f))(hk:W.keepIn X.K (.ref f)=true)(hb:Binds X.K fd ps [])(ha:pN X ct (e::es) fa)(hn:ps.length=n:=by rfl)(hg:Gl X x:=by rfl)(hdb:(x==("__debug__":Str))=false:=by decide)(he:starEach (e::es) X.env=(false,eval e X.env)::starEach es X.env:=by rfl)(hpl:(backTo pos (starEach es X.env)).any (·.1)=false:=by rfl):WD X ct (.Call (.Name x p) (e::es) [] pos) (qV n F fa):=by have ha:=ha.out;refine ⟨?_⟩;subst hn;exact F4 (mK (J5 ct) G hr hm hk hb ha hg hdb he hpl)
end
def E5{K:W.Frag}{ct:Ct}{H:Hp}:∀ns:List Int,aK K ct H (ns.map D.int) (ns.map V.int):=by
 intro v_;induction v_ with
 |nil=>simp[aK]
 |cons n ns j4=>exact aK.cons (by simp[Tl]) (j4)
section
variable{X:Cx}{ct:Ct}{c:Cf}{o e:Expr}{es:List Expr}{f m:Str}{fo g:Sg->Res D}{fa:Sg->Res (List D)}{pos apos:Pos}
variable{md:List D->Option (List D)}{bk:D->Bool}{A0:M->Bool}{Jb:List (String×(List Slot->dh))}{n:Nat}
noncomputable def YK(cb:Cb)(ft:List (String×List Str)):Prop:=∀c C full,cb.ins c=some C->ft.lookup c=some full->∀c' ns',cb.cls c'=some (C,ns')->ns'=full
end
section
variable{X:Cx}{ct:Ct}{c:Cf}{o e:Expr}{es:List Expr}{x:Str}{fa:Sg->Res (List D)}{p pos:Pos}{md:List D->Option (List D)}{bk:D->Bool}{A0:M->Bool}{n k:Nat}{F:List Slot->dh}{cn:String}{ns:List Str}{C f:Addr}{fd:FuncData}{ps:List Str}
end
section
variable{P:Program}{w:World}{K:W.Frag}{mg:Str->Option Value}{base:Heap}{cb:Cb}
end
section
variable{K:W.Frag}{ct:Ct}{H:Hp}
end
section
variable{X:Cx}{c:Cf}{x:Str}{e:Expr}{es:List Expr}{i q n k:Nat}{f:Sg->Res D}{r fa:Sg->Res (List D)}{p pos:Pos}{F:List Slot->dh}{fn:Addr}{fd:FuncData}{ps:List Str}
variable{g:Sg->Res (D×Sg)}{Γ:Sg}{σ:St}{H:Hp}
end
section
variable{X:Cx}{ct:Ct}{a b e:Expr}{f g:Sg->Res D}{fa:Sg->Res (List D)}{p pos:Pos}
theorem Tl.pW{K:W.Frag}{H:Hp}{d:D}{v:V}{ds:List D}(l:az ct.f.L H)(b:az ct.B H)(h:Tl K ct H d v)(e:L4.pW d=some ds):∃a vs,v= .ref a/\(fV K H a vs\/rQ K H a vs)/\aK K ct H ds vs:=by
 cases d with
 |lst xs=>cases e;refine ak (λ a vs h1 h2 h3=>?_) (h.gJ l b rfl);exact ao a vs h1 (.inl h2) h3
 |bor t xs=>cases e;refine ak (λ a vs h1 h2 h3=>?_) (h.gJ l b rfl);exact ao a vs h1 (.inl h2) h3
 |tup xs=>cases e;simp only[Tl] at h;revert h;refine ak λ a vs h1 h2 h3=>?_;exact ao a vs h1 (.inr (kG h2)) h3
 |gt xs=>cases e;simp only[Tl] at h;revert h;refine ak λ a vs h1 h2 h3=>?_;exact ao a vs h1 (.inr h2.sq) h3
 |_=>cases e
def ve{K:W.Frag}{H:Hp}{d:D}{v:V}(h:Tl K ct H d v)(e:gF d=true):kW v=true:=by cases d<;>first|(simp only[Tl] at h;subst h;rfl)|cases e
def Py{K:W.Frag}{H:Hp}{d d':D}{v v':V}(h:Tl K ct H d v)(h':Tl K ct H d' v')(e:gF d=true)(e':gF d'=true):Yp d d'=KN v v':=by cases d<;>cases d'<;>first|cases e;done|cases e';done|(simp only[Tl] at h h';subst h h';rfl)
def zj{K:W.Frag}{H:Hp}:∀{ds:List D} {vs:List V},aK K ct H ds vs->ds.all gF=true->vs.all kW=true:=by
 intro v_;induction v_ with
 |nil=>
  rintro vs h _
  simp only[aK] at h;subst h;rfl
 |cons d ds j4=>
  rintro vs h e
  simp only[aK] at h
  revert h;refine ak λ v r z t1 t2=>?_;subst z
  simp only[List.all_cons,Bool.and_eq_true] at e ⊢;exact ⟨ve t1 e.1,j4 t2 e.2⟩
def G7{K:W.Frag}{H:Hp}{x:D}{y:V}(h:Tl K ct H x y)(e:gF x=true):∀{ds:List D} {vs:List V},aK K ct H ds vs->ds.all gF=true->Iv x ds=VT y vs:=by
 intro v_;induction v_ with
 |nil=>
  rintro vs t _
  simp only[aK] at t;subst t;rfl
 |cons d ds j4=>
  rintro vs t q
  simp only[aK] at t
  revert t;refine ak λ v r z t1 t2=>?_;subst z
  simp only[List.all_cons,Bool.and_eq_true] at q;have ih:=j4 t2 q.2;simp only[Iv,VT,List.any_cons] at ih ⊢;rw[ih,Py t1 h q.1 e]
def Oj:IF X ct (Vv X.K false) inD:=by
 intro σ H x y d1 d2 Q lL lB t1 t2 h;unfold inD at h;split at h
 ·rename_i xs hs;split at h
  ·rename_i hc;refine ak (λ a vs z q1 q2=>?_) (t2.pW lL lB hs);subst z;refine bG a vs rfl q1 (ve t1 hc.1) (zj q2 hc.2) ?_;have:=h (.bl (Iv d1 xs)) H (az.refl H) (by simp[Tl]);rw[G7 t1 hc.1 q2 hc.2] at this;simpa using this
  ·exact h.elim
 ·exact h.elim
def DJ:IF X ct (Vv X.K true) lK:=by
 intro σ H x y d1 d2 Q lL lB t1 t2 h;unfold lK at h;split at h
 ·rename_i xs hs;split at h
  ·rename_i hc;refine ak (λ a vs z q1 q2=>?_) (t2.pW lL lB hs);subst z;refine bG a vs rfl q1 (ve t1 hc.1) (zj q2 hc.2) ?_;have:=h (.bl (!Iv d1 xs)) H (az.refl H) (by simp[Tl]);rw[G7 t1 hc.1 q2 hc.2] at this;simpa using this
  ·exact h.elim
 ·exact h.elim
def MT(ha:WD X ct a f)(hb:WD X ct b g)(hm:behindInMarks .In b=false:=by rfl):A4 X ct (.Compare a [.In] [b] pos) (dT (aO inD f g)):=by have ha:=ha.out;have hb:=hb.out;exact ⟨jY DI Oj ha hb hm⟩
def sI(ha:WD X ct a f)(hb:WD X ct b g)(hm:behindInMarks .NotIn b=false:=by rfl):A4 X ct (.Compare a [.NotIn] [b] pos) (dT (aO lK f g)):=by have ha:=ha.out;have hb:=hb.out;exact ⟨jY uK DJ ha hb hm⟩
variable{cc:Expr}{h:Sg->Res D}
variable{es:List Expr}
def IW(hcm:X.calm=true)(hm:X.mg "min"=none)(ha:pN X ct (e::es) fa)(hg:Gl X "min":=by rfl)(he:starEach (e::es) X.env=(false,eval e X.env)::starEach es X.env:=by rfl)(hpl:(backTo pos (starEach es X.env)).any (·.1)=false:=by rfl):WD X ct (.Call (.Name "min" p) (e::es) [] pos) (pC yJ fa):=by
 have ha:=ha.out;refine ⟨?_⟩;refine PE.imp (iG (El hcm) hg hm (by decide+kernel) ha (by decide) (by decide) he hpl) (CA λ σ H vs ds Q lL lB t h=>?_);unfold yJ at h;split at h
 ·rename_i i j;refine ak (λ v v' z t1 t2=>?_) (WJ t);subst z;simp only[Tl] at t1 t2;subst t1 t2;exact aM i j rfl (h _ H (az.refl H) (by simp[Tl]))
 ·exact h.elim
def IL(hm:X.mg "list"=none)(ha:pN X ct (e::es) fa)(hg:Gl X "list":=by rfl)(he:starEach (e::es) X.env=(false,eval e X.env)::starEach es X.env:=by rfl)(hpl:(backTo pos (starEach es X.env)).any (·.1)=false:=by rfl):WL X ct (.Call (.Name "list" p) (e::es) [] pos) (VR yL fa):=by
 have ha:=ha.out;refine ⟨?_⟩;refine PE.imp (DH vj hg hm (by decide+kernel) ha (by decide) (by decide) he hpl) ?_;refine λ σ H Q=>ah λ Γ j h=>?_;refine EB.bnd j h λ ds vs H' s t j' h'=>?_;unfold yL at h';split at h'
 ·rename_i x;split at h'
  ·rename_i xs hs;refine ah (λ v z t1=>?_) (nK t);subst z;refine ak (λ a us z q1 q2=>?_) (t1.pW j'.lL j'.lB hs);subst z;refine ao a us rfl q1 (λ l hl=>?_);have s2:=bx hl (.lst us);exact h' l us _ (s.trans s2) (s.free hl) aI (q2.keep (az.keep s2))
  ·exact h'.elim
 ·exact h'.elim
end
section
variable{X:Cx}{ct:Ct}{a b e:Expr}{f g:Sg->Res D}{pos:Pos}
def BZ{K:W.Frag}{H:Hp}{d:D}{v:V}{k:Key}(h:Tl K ct H d v)(e:AG d=some k):v=kV k:=by
 cases d with
 |int i=>cases e;simp only[Tl] at h;exact h
 |str x=>cases e;simp only[Tl] at h;exact h
 |_=>cases e
theorem Cg{K:W.Frag}{H:Hp}{k:Key}:∀{ks:List Key} {xs:List D} {vs:List V} {d:D},aK K ct H xs vs->yZ ks xs k=some d->∃v,mq (ks.zip vs) k=some v/\Tl K ct H d v
 |[],xs,vs,d,t,h=>by simp[yZ] at h
 |n::ks,[],vs,d,t,h=>by simp[yZ] at h
 |n::ks,x::xs,vs,d,t,h=>by
  simp only[aK] at t
  revert t;refine ak λ v r z t1 t2=>?_;subst z
  by_cases q:n=k
  ·subst q;simp only[yZ,List.zip_cons_cons,List.find?_cons,decide_true,Option.map_some,Option.some.injEq] at h;subst h;exact af v (by simp[mq,List.find?_cons]) t1
  ·simp only[yZ,List.zip_cons_cons,List.find?_cons,q,decide_false] at h;refine ah (λ v' g1 g2=>?_) (Cg t2 h);exact af v' (by simpa[mq,List.find?_cons,q] using g1) g2
def Tl.dict{K:W.Frag}{H:Hp}{d:D}{v:V}{ks:List Key}{xs:List D}(l:az ct.f.L H)(b:az ct.B H)(h:Tl K ct H d v)(e:VY d=some (ks,xs)):∃a vs,v= .ref a/\Rd H a (.dK (ks.zip vs))/\ks.length=vs.length/\aK K ct H xs vs:=by
 cases d with
 |lS ks' xs'=>
  cases ks' with
  |t _=>cases e
  |s ks'=>
  cases e;simp only[Tl] at h
  revert h;refine aN λ a vs h1 z h3 h4=>?_;obtain ⟨o,h2⟩:=z
  exact bg a vs h1 (.inr ⟨o,h2⟩) h3 h4
 |mj t ks' xs'=>
  cases ks' with
  |t _=>cases e
  |s ks'=>
  cases e;simp only[Tl] at h
  revert h;refine aN λ a vs h1 h2 h3 h4=>?_
  refine bg a vs h1 (.inl ?_) h3 h4;cases t with
  |true=>exact b a _ h2
  |false=>exact l a _ h2
 |_=>cases e
def MY(hu:X.A.units+1<cLine)(ha:WD X ct a f)(hb:WD X ct b g)(hs:nv b:=by exact λ _ _=>rfl)(hn:Qc b:=by exact λ _ _=>rfl):WD X ct (.Subscript a b pos) (aO getD f g):=by
 have ha:=ha.out;have hb:=hb.out;refine ⟨?_⟩;refine λ pins s σ H Q I=>ah λ Γ j h=>?_;cases z:f Γ with
 |bad=>simp only[aO,z,Res.vn] at h;exact h.elim
 |err x=>refine F1 ha hb hs pins s σ H Q I (af Γ j ?_);simp only[aO,z,Res.vm] at h ⊢;exact h
 |ok o=>
  cases zd:VY o with
  |none=>
   refine F1 ha hb hs pins s σ H Q I (af Γ j ?_);have e1:aO getD f g Γ=aO bD f g Γ:=by simp only[aO,z,Res.iu,getD,zd]
   rw[<-e1];exact h
  |some p=>
   obtain ⟨ks,xs⟩:=p;refine JK hu ha hb hn pins s σ H Q I ?_;refine af Γ j ?_;rw[z];intro v H1 s1 t1;simp only[aO,z,Res.iu] at h;refine nE.bnd (f:=g) (r:=λ y=>getD o y) (W:=Wd X ct H Q) (j.mono s1) (Ok.mono s1 h λ _ z=>z) λ y u H2 s2 t2 j2 h2=>?_;simp only[getD,zd] at h2;refine aN (λ a vs z1 q1 q2 q3=>?_) ((t1.keep (az.keep s2)).dict j2.lL j2.lB zd);subst z1;split at h2
   ·rename_i k hk;split at h2
    ·rename_i d hd;refine ah (λ w w1 w2=>?_) (Cg q3 hd);exact ao a w rfl (.inl (ao _ k q1 (BZ t2 hk) w1.symm)) (h2 w H2 (s1.trans s2) w2)
    ·exact h2.elim
   ·exact h2.elim
def II{ks:List Key}{vs:List V}{k:Key}(h:ks.length=vs.length):((ks.zip vs).any λ kv=>decide (kv.1=k))=ks.any λ n=>decide (n=k):=by
 induction ks generalizing vs with
 |nil=>simp
 |cons n ks ih=>
  cases vs with
  |nil=>simp at h
  |cons v vs=>simp only[List.zip_cons_cons,List.any_cons];rw[ih (by simpa using h)]
def Jy{K:W.Frag}{H:Hp}{ks:List Key}{xs:List D}{vs:List V}{k:Key}{d:D}{v:V}(h:ks.length=vs.length)(t:aK K ct H xs vs)(td:Tl K ct H d v):
  ∃us,putK (ks.zip vs) k v=(yd ks k).zip us/\(yd ks k).length=us.length/\aK K ct H (Bu ks xs k d) us:=by
 unfold putK yd Bu;rw[II h];by_cases q:(ks.any λ n=>decide (n=k))=true
 ·simp only[q,if_true];clear q;induction ks generalizing xs vs with
  |nil=>
   cases vs with
   |nil=>exact aX [] (by simp) rfl (by simp[aK])
   |cons v vs=>simp at h
  |cons n ks ih=>
   cases vs with
   |nil=>simp at h
   |cons w vs=>
    cases xs with
    |nil=>simp only[aK] at t;cases t
    |cons x xs=>
     simp only[aK] at t
     revert t;refine ak λ w' r e t1 t2=>?_
     cases e;refine aD (λ us u1 u2 u3=>?_) (ih (by simpa using h) t2);simp only[List.zip_cons_cons,List.map_cons];by_cases q:n=k
     ·subst q;exact aX (v::us) (by simp[u1]) (by simp[u2]) (by simpa using aK.cons td u3)
     ·exact aX (w::us) (by simp[q,u1]) (by simp[u2]) (by simpa[q] using aK.cons t1 u3)
 ·simp only[q,if_false,Bool.false_eq_true];exact aX (vs++[v]) (by rw[List.zip_append h];simp) (by simp[h]) (t.append (aK.cons td aK.nil))
end
section
variable{X:Cx}{c:Cf}{r ix e:Expr}{i:Nat}{g:Sg->Res (List Nat)}{f fk:Sg->Res D}{pos:Pos}{Γ:Sg}{σ:St}{H:Hp}
def BG{K:W.Frag}{d:D}{y:V}{k:Key}{v:V}{B:Hp}{m' eK:M}{S':Fp}(t:Tl K (c.at' B) H d y)(e:mJ k d m'=some eK)(o:Ow K c.z H m' v S'):
  ∃a kvs,v= .ref a/\H a=some (.dK kvs)/\kvs.length<1000000/\S' a/\Ow K c.z (upd H a (.dK (putK kvs k y))) eK (.ref a) S':=by
 cases m' with
 |k ks xs=>
  cases ks with
  |t _=>cases e
  |s ks=>
  simp only[mJ] at e;split at e
  ·rename_i hc;cases e;simp only[Ow] at o ⊢
   revert o;refine cC λ a vs z o2 o3 o4 o5=>?_;subst z
   refine aD (λ us u1 u2 u3=>?_) (Jy (k:=k) o4 o5 (Tl.down (B:=B) (tm:=true) t hc.1));refine bG a _ rfl o3 (by rw[List.length_zip];omega) o2 (bG a us rfl o2 ?_ u2 (u3.keep (aV.dK o3)));rw[aI,u1];rfl
  ·cases e
 |_=>cases e
end
section
variable{X:Cx}{ct:Ct}{pos:Pos}{e:Expr}{f:Sg->Res D}{fa:Sg->Res (List D)}{keys:List (Option Expr)}{values:List Expr}{ks:List Key}
end
section
variable{X:Cx}{c:Cf}{tg iter:Expr}{fi:Sg->Res (List D)}{t:Tg}{B:Sg->Out}{body:List Stmt}{pos:Pos}
def cU(g:Good X)(hi:Ib X c.z tg iter fi)(hg:P1 X c.z tg t)(hb:oj X c body B)(hs:∀x,foldedSetIterable iter X.env x=pure x:=by intro _;rfl):sG X c (.For tg iter body [] pos) (iF fi t B):=by
 have hi:=hi.out;have hg:=hg.out;have hb:=hb.out;refine ⟨?_⟩;refine PS.imp (NQ g.po g.calm hi hg hb hs) λ E σ H z_=>zR z_ λ Γ j h=>af Γ j (Fn.ok j h λ xs _ q J H' s it=>?_)
 revert it;refine dc λ P p0 pk pg pst=>?_
 have h':Fn X c H' (cS t B xs Γ) E:=q.mono (az.keep s);refine af (λ i m σ1 H1=>i+m=xs.length/\P H1/\∃Γ1,Jx X c.z Γ1 σ1 H1/\aV c.cb H' H1/\cS t B (xs.drop i) Γ1=cS t B xs Γ) (aX xs.length (by simp) p0 (aX Γ (j.mono s) (aV.refl H') rfl)) ?_;refine λ i m σ1 H1=>aW λ hm p1=>aD λ Γ1 j1 k1 e1=>?_;cases hd:xs[i]? with
 |none=>
  have hl:xs.length<=i:=by simpa using hd
  refine .inl ⟨pst i H1 p1 hl,?_⟩;rw[List.drop_eq_nil_of_le hl] at e1;rw[<-e1] at h';exact h' σ1 H1 k1 j1
 |some d=>
  obtain ⟨g1,g2⟩:=pg i d H1 p1 hd;have hl:i<xs.length:=(List.getElem?_eq_some_iff.mp hd).1;refine .inr (⟨g1,af (λ σ3 H3=>P H3/\∃Γ3,Jx X c.z Γ3 σ3 H3/\aV c.cb H' H3/\cS t B (xs.drop (i+1)) Γ3=cS t B xs Γ) (λ σ3 H3 ⟨p3,z⟩=>bY (m- 1) (by omega) (by omega) p3 z) (λ x H2 y=>?_)⟩);obtain ⟨rM,td⟩:=g2 x H2 y;have k2:aV c.cb H' H2:=k1.trans (az.keep rM);rw[drop_one hd] at e1;cases e2:t d Γ1 with
  |none=>exact (JW e2 e1 h').elim
  |some Γ2=>exact g7 Γ1 d Γ2 (j1.mono rM) td e2 (λ σ2 j2=>af Γ2 j2 (Ja k2 e2 e1 h' λ Γ3 σ3 H3 k3 j3 e3=>⟨pk H' H3 p0 k3 j3.lL j3.lB,aX Γ3 j3 k3 e3⟩))
end
section
variable{X:Cx}{ct:Ct}{a b e:Expr}{f g:Sg->Res D}{fa:Sg->Res (List D)}{p pos:Pos}
end
section
variable{X:Cx}{ct:Ct}{x:Str}{p pos:Pos}{C a:Addr}{cn:String}
def E6{K:W.Frag}{H:Hp}{ds:List D}{vs:List V}{o:Obj}{its:Array Value}{n:Nat}(hl:K.lookup a=some o)(hc:o.cls= .type "tuple")(hd:o.data= .seq its n)(hz:its.size<=sizeLine)(r:Vals vs its.toList)(t:aK K ct H ds vs):Tl K ct H (.gt ds) (.ref a):=by simp only[Tl];exact ao a vs rfl (lF o its n hl hc hd hz r) t
def Ve(K:W.Frag)(u:Value)(d:D):Prop:=∃v:V,RelV v u/\∀(ct:Ct) (H:Hp),Tl K ct H d v
def xR{d:D}(hm:X.mg x=some u)(ht:Ve X.K u d)(hg:Gl X x:=by rfl)(hd:(x==("__debug__":Str))=false:=by decide):WD X ct (.Name x pos) (dC d):=by refine ⟨?_⟩;refine ah (λ v r t=>?_) ht;exact JP (v:=v) hg hm r (λ H=>t ct H) hd
def pK{K:W.Frag}{i:Int}{t:Tok}:Ve K (.int i t) (.int i):=af (.int i) ⟨t,rfl⟩ (λ _ _=>by simp[Tl])
def Lh(K:W.Frag)(us:List Value)(ds:List D):Prop:=∃vs:List V,Vals vs us/\∀(ct:Ct) (H:Hp),aK K ct H ds vs
def yY{K:W.Frag}:Lh K [] []:=af [] .nil (λ _ _=>aK.nil)
def j5{K:W.Frag}{u:Value}{us:List Value}{d:D}{ds:List D}(h:Ve K u d)(t:Lh K us ds):Lh K (u::us) (d::ds):=by refine ah (λ v r q=>?_) h;refine ah (λ vs rs qs=>?_) t;exact af (v::vs) (.cons r rs) (λ ct H=>aK.cons (q ct H) (qs ct H))
def Cd{K:W.Frag}{us:List Value}{ds:List D}{od:Option Addr}{sl:Array (Option Value)}{n:Nat}(hl:K.lookup a=some ⟨.type "tuple",od,.seq us.toArray n,sl⟩)(hz:us.length<=1000)(h:Lh K us ds):Ve K (.ref a) (.gt ds):=by
 revert h;refine ah λ vs rs qs=>?_
 exact af (.ref a) rfl (λ ct H=>E6 hl rfl rfl (by rw[sizeLine_eq];simp;omega) (by simpa using rs) (qs ct H))
structure Mk0(K:W.Frag)(C:Addr):Prop where
 makes:W.makesIn K C=true
 init:W.findIn K (.ref C) "__init__"=some (some (.builtin "object.__init__"))
 kp:W.keepIn K (.ref C)=true
end
section
variable{X:Cx}{c:Cf}{e:Expr}{f:Sg->Res D}{p:Sg->Res Bool}{F G B:Sg->Out}{pos:Pos}{body:List Stmt}
def Dq(he:WD X c.z e f)(hs:swapsWith e none pos.line X.env=pure false:=by rfl):sG X c (.Expr e pos) (Fg f):=by have he:=he.out;refine ⟨?_⟩;refine λ pins s σ H E I=>ah λ Γ j h=>?_;exact BH he hs pins s σ H E I (af Γ j (Fn.ok j h λ d _ q v H' s t=>q σ H' (az.keep s) (j.mono s)))
def cG(hc:A4 X c.z ce p)(ha:oj X c a F)(hb:oj X c b G):sG X c (.If ce a b pos) (yk p F G):=by
 have hc:=hc.out;have ha:=ha.out;have hb:=hb.out;refine ⟨?_⟩;refine λ pins s σ H E I=>ah λ Γ j h=>?_;refine SI hc ha hb pins s σ H E I (af Γ j (Fn.ok j h λ x _ q H' s=>?_));cases x with
 |true=>exact Kf (af Γ (j.mono s) (Fn.mono (az.keep s) q))
 |false=>exact Kg (af Γ (j.mono s) (Fn.mono (az.keep s) q))
def lz(n:Nat)(g:Good X)(hc:A4 X c.z ce p)(hb:oj X c body B):sG X c (.While ce body [] pos) (bC p B n):=by
 have hc:=hc.out;have hb:=hb.out;refine ⟨?_⟩;refine PS.imp (Ft g.po hc hb) ?_;refine λ E σ H=>ah λ Γ j h=>?_;refine af (λ m σ1 H1=>∃Γ1,Jx X c.z Γ1 σ1 H1/\aV c.cb H H1/\bC p B m Γ1=bC p B n Γ) (ao n Γ j (aV.refl H) rfl) ?_;refine λ m σ1 H1=>aD λ Γ1 j1 k1 e1=>?_;cases m with
 |zero=>rw[<-e1] at h;exact h.elim
 |succ m=>
  refine af Γ1 j1 ?_;rw[<-e1] at h;have h2:=h.mono k1;simp only[bC] at h2;refine Fn.ok j1 h2 λ x ec q H2 s2=>?_;cases x with
  |false=>exact Kg (q σ1 H2 (az.keep s2) (j1.mono s2))
  |true=>
   refine Kf (af (λ σ3 H3=>∃Γ3,Jx X c.z Γ3 σ3 H3/\aV c.cb H H3/\bC p B m Γ3=bC p B n Γ) (λ σ3 H3 z=>af m (Nat.lt_succ_self m) z) (af Γ1 (j1.mono s2) ?_));simp only[if_true] at q;simp only[bC,ec,LH,if_true] at e1;have k2:aV c.cb H H2:=k1.trans (az.keep s2);cases eb:B Γ1 with
   |nx Γ3=>rw[eb] at e1;exact λ σ3 H3 k3 j3=>aX Γ3 j3 (k2.trans k3) e1
   |ct Γ3=>rw[eb] at e1;exact λ σ3 H3 k3 j3=>aX Γ3 j3 (k2.trans k3) e1
   |bk Γ3=>rw[eb] at q;exact λ σ3 H3 k3 j3=>q σ3 H3 ((az.keep s2).trans k3) j3
   |rt d=>rw[eb] at q;exact q
   |xG d=>rw[eb] at q;exact q
   |Ir d Γ3=>rw[eb] at q;exact q
   |rW d Γ3=>rw[eb] at q;exact q
   |err x Γ3=>rw[eb] at q;exact λ σ3 H3 e s' k3 j3 r=>q σ3 H3 e s' ((az.keep s2).trans k3) j3 r
   |bad=>rw[eb] at q;exact q
end
section
variable{X:Cx}{ct:Ct}
end
def z8{α:Type}{a c:String}{A C:α}{r:List (String×α)}(h:((a,A)::r).lookup c=some C):(c=a/\C=A)\/r.lookup c=some C:=by
 rw[List.lookup_cons] at h;by_cases q:(c==a)=true
 ·rw[q] at h;exact .inl ⟨by simpa using q,(Option.some.inj h).symm⟩
 ·rw[Bool.not_eq_true] at q;rw[q] at h;exact .inr h
def nM{α:Type}{c:String}{C:α}:∀{r:List (String×α)},r.lookup c=some C->(c,C)∈r:=by
 intro v_;induction v_ with
 |nil=>
  rintro h
  cases h
 |cons e_ r j4=>
  obtain ⟨a,A⟩:=e_
  rintro h
  rcases z8 h with ⟨rfl,rfl⟩|h
  ·exact List.mem_cons_self ..
  ·exact List.mem_cons_of_mem _ (j4 h)
noncomputable abbrev rK:=List (String×(Addr×List Str))
abbrev KW(E:List (String×Addr))(T:rK)(Z:Hp:=λ _=>none):Cb:=⟨λ c=>E.lookup c,λ c=>T.lookup c,λ c=>(T.lookup c).map (·.1),Z⟩
def eY{α:Type}{p:α->Prop}:∀e∈([]:List α),p e:=λ e h=>nomatch h
def bR{α:Type}{p:α->Prop}{a:α}{r:List α}(h:p a)(t:∀e∈r,p e):∀e∈a::r,p e:=λ e he=>by
 rcases List.mem_cons.mp he with rfl|he
 ·exact h
 ·exact t e he
def Hq{E:List (String×Addr)}{P:String->Addr->Prop}(h:∀e∈E,P e.1 e.2){c:String}{C:Addr}(hc:E.lookup c=some C):P c C:=h _ (nM hc)
def hb1{f:String->Option Bool}{c:String}{b:Bool}(e:f c=some b){P:Bool->Prop}(h:P b):∀b',f c=some b'->P b':=λ b' q=>by rw[e] at q;cases q;exact h
def len0(h:us.length=0):us=[]:=List.eq_nil_of_length_eq_zero h
def TJ(h:us.length=1):∃u0,us=[u0]:=by
 cases us with
 |nil=>cases h
 |cons a r=>obtain rfl:=len0 (us:=r) (Nat.succ.inj h);exact ⟨a,rfl⟩
def TH(h:us.length=2):∃u0 u1,us=[u0,u1]:=by
 cases us with
 |nil=>cases h
 |cons a r=>obtain ⟨v0,rfl⟩:=TJ (us:=r) (Nat.succ.inj h);exact lG a v0 rfl
def TF(h:us.length=3):∃u0 u1 u2,us=[u0,u1,u2]:=by
 cases us with
 |nil=>cases h
 |cons a r=>refine Aj (λ v0 v1 z=>?_) (TH (us:=r) (Nat.succ.inj h));subst z;exact ⟨a,v0,v1,rfl⟩
def XI(h:us.length=4):∃u0 u1 u2 u3,us=[u0,u1,u2,u3]:=by
 cases us with
 |nil=>cases h
 |cons a r=>refine qb (λ v0 v1 v2 z=>?_) (TF (us:=r) (Nat.succ.inj h));subst z;exact NI a v0 v1 v2 rfl
end L4
end
section
namespace L4
open PySem PySem.Spec PyProof.Rows L2 PySem.W
noncomputable def DY{α:Type}(n:Nat):KasT α->Prop
 | .ret _=>True
 | .ask i j k=>i<n/\j<n/\i≠j/\∀b,DY n (k b)
section
variable{prog:Program}{w:World}{A:Around}{E:Value->Shared->Prop}{s:Shared}
end
section
variable{X:Cx}{ct:Ct}{e:Expr}{es:List Expr}{fa:Sg->Res (List D)}{p pos:Pos}
end
end L4
end
section
namespace L4
open PySem
noncomputable abbrev zJ:=Sum Int Str
end L4
end
section
namespace L4
open PySem PySem.Spec PyProof.Rows L2
open AutoSeq1 (wpAny_loadPart')
section
variable{prog:Program}{w:World}{A:Around}{E:Value->Shared->Prop}{s:Shared}
end
section
variable{X:Cx}{pins:List (Addr×Obj)}{σ:St}{H:Hp}{s:Shared}
def Bm{t':Nat}{h':Heap}{ch:List Addr}(I:Inv X pins σ H s)(k:∀b o,b∉ch->s.heap.get? b=some o->h'.get? b=some o)(hf:∀b∈ch,fQ X pins H b):Inv X pins σ H {s with heap:=h',toks:=t'}:=by
 have LK:∀b u,H b=some u->b∉ch:=λ b u e z=>by rw[(hf b z).1] at e;cases e
 have hL:X.env.locals∉ch:=λ z=>(hf _ z).2.1 rfl;refine I.step (g':=s.gens) (d':=s.drawn) (ch:=ch) (λ b hb=>?_) (λ b o _ _ hc e _=>k b o hc e) (λ b o _ _ hc e _=>⟨o.slots,k b o hc e⟩) (λ _ _ _ _ n=>n)
  (λ b o hc e=>⟨o,k b o hc e⟩) (λ _ _ e=>e) (λ _ _ _ e=>e) (λ b ps e=>⟨#[],by rw[e];simp⟩) (λ m hm=>?_) (λ b u e=>?_) I.bare
 ·refine eO (λ _ f1 _ f3 f4 f5=>?_) (hf b hb);exact gz f3 f1 f4 f5
 ·revert hm;refine bN λ o es ep ho r=>?_
  exact g8 o es ep (k _ o hL ho) r
 ·refine (I.hok b u e).stay (λ c v hc q=>k c v ?_ q) (λ _ q=>q) (λ _ _ q=>q) λ _ _ _ q=>q;rcases hc with z|z
  ·rw[z];exact LK b u e
  ·exact LK c _ z
end
section
variable{X:Cx}{ct:Ct}{a b e:Expr}{f g h:Sg->Res D}{pos:Pos}
end
section
variable{X:Cx}{c:Cf}{r ix e:Expr}{i:Nat}{g:Sg->Res (List Nat)}{f fk:Sg->Res D}{pos:Pos}{Γ:Sg}{σ:St}{H:Hp}
end
end L4
end
section
namespace L4
open PySem PySem.W PyProof.Rows
structure Ord(lt:Nat->Nat->Bool)(n:Nat):Prop where
 tot:∀i j,i<n->j<n->i≠j->lt i j=!lt j i
 tr:∀i j k,i<n->j<n->k<n->lt i j=true->lt j k=true->lt i k=true
structure Pm(n:Nat)(p:Array Nat):Prop where
 size:p.size=n
 low:∀k,k<n->p.getD k 0<n
 inj:∀i j,i<n->j<n->p.getD i 0=p.getD j 0->i=j
section
variable{lt:Nat->Nat->Bool}{n:Nat}
end
end L4
end
section
namespace L4
open PySem PySem.Calls PyProof.Rows PySem.W PyProof.V PySem.Spec
noncomputable def Ent(h:Heap)(d:Addr)(es:Array DictEntry)(ep:Nat):Prop:=∃o,h.get? d=some o/\o.data= .dict es ep
abbrev ZC(x y:Value)(d:Addr)(i n ep:Nat)(p q:Value):Obj:={cls:= .type "dict_itemiterator",dict:=none,data:= .fields #[x,y,.ref d,.int i 0,.int n 0,.int ep 0,p,q],slots:= #[]}
noncomputable abbrev prO(a b:Value):Obj:={cls:= .type "tuple",data:= .seq #[a,b]}
section
variable{prog:Program}{w:World}{A:Around}{E:Value->Shared->Prop}{s:Shared}
structure Told(h:Heap)(es:Array DictEntry)(lo:Addr)(as:List Addr):Prop where
 above:∀a∈as,lo<a/\a<h.objs.size
 nd:as.Pairwise (· < ·)
 pair:∀(j:Nat) (a:Addr),as[j]? =some a->∃e:DictEntry,es[j]? =some e/\h.get? a=some (prO e.key e.val)
noncomputable abbrev QG(d:Addr):Obj:={cls:= .type "dict_items",data:= .fields #[.ref d]}
def AH{v d:Addr}{Q:Value->Shared->Prop}(hv:s.heap.get? v=some (QG d))(hd:Ent s.heap d es ep)(hQ:Q (.ref s.heap.objs.size) {s with heap:=s.heap.push (ZC .none (.bool false) d 0 es.size ep .none .none)}):wpAny (model prog w) A (pyIter (.ref v)) Q E s:=by
 revert hd;refine ah λ od ho ZH=>?_
 have ty:s.TypeIs (.ref v) "dict_items":=af _ hv rfl;refine wpAny_pyIter_slot ty PySem.F.slot_dict_items_iter (wpAny_call_entry PySem.F.slot_dict_items_iter ty PySem.F.entry_dict_items_iter ?_ (PySem.F.args_dict_items_iter_1 _));unfold Builtin.«dict_items.__iter__»;refine wpAny_bind (wpAny_pure (wpAny_bind ?_));unfold Builtin.Dict_items.dictOf;refine wpAny_bind (wpAny_field hv rfl (x:= .ref d) rfl (wpAny_pure (wpAny_bind ?_)));unfold Builtin.Dict_items.newIterator;refine wpAny_bind (wpAny_dictEntries ho ZH (wpAny_bind (wpAny_dictEpoch ho ZH ?_)));have own:Builtin.Dict_items.ownsTuple "dict_itemiterator"=true:=by decide
 simp only[own,if_true];refine wpAny_newObj_type (wpAny_pure (af _ rfl (ao ("dict_itemiterator") _ (af _ (Heap.get?_push_size _ rfl) rfl) PySem.F.slot_dict_itemiterator_next.lookup ?_))) (by simp only[sizeOk,Builtin.Dict_items.ownedTupleFields,List.size_toArray,List.length_append,List.length_cons,List.length_nil,sizeLine_eq];omega);simpa[rawInt,ZC,Builtin.Dict_items.ownedTupleFields] using hQ
end
end L4
end
section
namespace LM
open PySem PySem.W PyProof.Rows
end LM
end
section
namespace LM
open PySem PySem.W PyProof.Rows L4
structure Mg(R:Nat->Nat->Prop)(o X Y T:List Nat):Prop where
 perm:(o++(X++Y)).Perm T
 uo:o.Pairwise R
 lo:∀x∈o,∀y∈X++Y,R x y
 ux:X.Pairwise R
 uy:Y.Pairwise R
namespace Mg
variable{R:Nat->Nat->Prop}{o X X1 X2 Y T:List Nat}{x y:Nat}
end Mg
section
variable{prog:Program}{w:World}{A:Around}{E:Value->Shared->Prop}{s:Shared}{κ:SortKind}{it:Array Keyed}{lt:Nat->Nat->Bool}{n:Nat}
noncomputable def kar(it:Array Keyed)(l:List Nat):Array Keyed:=(l.map (kas_item it)).toArray
structure Cut(lt:Nat->Nat->Bool)(it:Array Keyed)(n:Nat)(arr:Array Keyed)(base N k B:Nat):Prop where
 g:∀i,i<N->∃x,arr[base+i]? =some (kas_item it x)/\x<n/\x≠k/\lt x k=decide (i<B)
 le:B<=N
 kn:k<n
noncomputable abbrev Rl(lt:Nat->Nat->Bool)(a b:Nat):Prop:=lt a b=true
structure Two(lt:Nat->Nat->Bool)(n:Nat)(la lb:List Nat):Prop where
 hn:∀x∈la++lb,x<n
 nd:(la++lb).Nodup
 ua:la.Pairwise (Rl lt)
 ub:lb.Pairwise (Rl lt)
def Good(lt:Nat->Nat->Bool)(it:Array Keyed)(la lb:List Nat)(r:Array Keyed):Prop:=∃l,r=kar it l/\l.Perm (la++lb)/\l.Pairwise (Rl lt)
section
variable{la lb:List Nat}
structure LI(lt:Nat->Nat->Bool)(la lb o:List Nat)(ia ib:Nat):Prop where
 m:Mg (Rl lt) o (la.drop ia) (lb.drop ib) (la++lb)
 ha:ia+1<la.length
 hb:ib<lb.length
end
end
section
variable{prog:Program}{w:World}{A:Around}{E:Value->Shared->Prop}{s:Shared}{κ:SortKind}{it:Array Keyed}{lt:Nat->Nat->Bool}{n:Nat}
noncomputable abbrev Rg(lt:Nat->Nat->Bool)(a b:Nat):Prop:=lt b a=true
noncomputable abbrev tr(l:List Nat)(k:Nat):List Nat:=(l.take k).reverse
section
variable{la lb:List Nat}
structure HI(lt:Nat->Nat->Bool)(la lb o:List Nat)(na nb:Nat):Prop where
 m:Mg (Rg lt) o (tr la na) (tr lb nb) (la++lb)
 a1:1<=na
 a2:na<=la.length
 b1:2<=nb
 b2:nb<=lb.length
end
end
section
variable{prog:Program}{w:World}{A:Around}{E:Value->Shared->Prop}{s:Shared}{κ:SortKind}{it:Array Keyed}{lt:Nat->Nat->Bool}{n:Nat}
structure Nd(n:Nat)(l:List Nat):Prop where
 hn:∀x∈l,x<n
 nd:l.Nodup
def PR(lt:Nat->Nat->Bool):List (Nat×Nat×Nat)->Nat->List (List Nat)->Prop
 |[],_,[]=>True
 |(a,k,_)::t,b,r::rs=>a=b/\k=r.length/\0<r.length/\r.Pairwise (Rl lt)/\PR lt t (b+r.length) rs
 |_,_,_=>False
structure RI(lt:Nat->Nat->Bool)(it:Array Keyed)(κ:SortKind)(n:Nat)(rs:List (List Nat))(rest:List Nat)(pe:Array (Nat×Nat×Nat)):Prop where
 pr:PR lt pe.toList 0 rs
 pm:(rs.flatten++rest).Perm (List.range n)
end
end LM
end
section
namespace L4
open PySem PySem.Spec PyProof.Rows L2 PySem.W LM
section
variable{prog:Program}{w:World}{A:Around}{E:Value->Shared->Prop}{s:Shared}
end
end L4
end
section
namespace L4
open PySem PySem.Spec PyProof.Rows L2 PySem.W
section
variable{prog:Program}{w:World}{A:Around}{E:Value->Shared->Prop}{s:Shared}{Q:Bool->Shared->Prop}
end
section
variable{X:Cx}{ct:Ct}{e:Expr}{es:List Expr}{f:Sg->Res D}{fa:Sg->Res (List D)}{p pos:Pos}
end
def Lg(v a:Addr):Heap->Prop:=λ h=>h.get? v=some (QG a)
def G6{v a:Addr}(e:h.get? v=some (QG a)):bQ P w H h v (.ext (Lg v a)):=aS e ⟨_,e⟩ (λ h1 h2 e1 k=>k _ e1)
def Nj(td:TE):TE:=λ σ H Q=>td σ H λ x H1=>∃a,x= .ref a/\Z0 H1 a/\∀v,H1 v=none->Q (.ref v) (upd H1 v (.ext (Lg v a)))
section
variable{X:Cx}{ct:Ct}{o:Expr}{td:TE}{f:Sg->Res D}{ap cp p pos:Pos}
def FU(ho:PE X o td)(h1:attributeBase o "items" X.env (eval o X.env)=eval o X.env:=by rfl)(h3:(ap.endLine==cp.line)=true:=by rfl):PE X (.Call (.Attribute o "items" ap) [] [] cp) (Nj td):=by intro pins s σ H Q I h;refine wpAny_Call_method h1 rfl h3 PySem.F.plainAttrs_dict PySem.F.slot_dict_items PySem.F.type_dict_items (dN (ho pins s σ H _ I h) ?_);refine λ u s1=>ak λ x H1 I1 rx=>aD λ a ex d q1=>?_;subst ex;obtain rfl:u=Value.ref a:=rx;refine aW (λ t1 t2 hy=>?_) (OW I1 d);refine aS t1 t2 ?_;show wpAny _ _ (callWith cp (.builtin "dict.items") [.ref a] [] []) _ _ s1;refine Calls.callWith_builtin rfl (PyProof.Rows.evalArgs_none ?_);refine wpAny_call_entry PySem.F.slot_dict_items t1 PySem.F.entry_dict_items ?_ (PySem.F.args_dict_items_1 _);unfold Builtin.«dict.items»;refine wpAny_bind ?_;unfold Builtin.Dict.noArgs;refine wpAny_bind (wpAny_notOrdered_dict t1 ?_);show wpAny _ _ (pure a) _ _ s1;refine wpAny_pure ?_;show wpAny _ _ (Builtin.Dict.showsAll a>>=_) _ _ s1;unfold Builtin.Dict.showsAll;rw[if_neg (by rw[hy];exact Bool.false_ne_true)];refine wpAny_bind (wpAny_pure (wpAny_bind (wpAny_newObj_type (wpAny_pure (af _ rfl ?_)))));have e:(s1.heap.push (QG a)).get? s1.heap.objs.size=some (QG a):=Heap.get?_push_size _ rfl;exact ao (.ref s1.heap.objs.size) _ (I1.laid (t':=s1.toks) (λ _ _ z=>Heap.get?_push_of_some _ z) (Nat.le_refl _) (G6 e)) rfl (q1 _ (I1.hok.fresh (Nat.le_refl _)))
end
section
variable{X:Cx}{c:Cf}{e:Expr}{fm:Sg->Res M}{pos:Pos}
end
end L4
end
section
namespace L4
open PySem PySem.Spec PyProof.Rows L2
section
variable{X:Cx}{pins:List (Addr×Obj)}{σ:St}{H:Hp}{s:Shared}
def uh{t':Nat}{h':Heap}{ch:List Addr}{T:Addr}{o:HO}(I:Inv X pins σ H s)(k:∀b o,b∉ch->s.heap.get? b=some o->h'.get? b=some o)(hf:∀b∈ch,fQ X pins H b)(hT:s.heap.objs.size<=T) (new:bQ X.prog X.w (upd H T o) h' T o):Inv X pins σ (upd H T o) {s with heap:=h',toks:=t'}:=by
 have LK:∀b u,H b=some u->b∉ch:=λ b u e z=>by rw[(hf b z).1] at e;cases e
 have hL:X.env.locals∉ch:=λ z=>(hf _ z).2.1 rfl;have hTn:H T=none:=I.hok.fresh hT;have ne:∀b u,s.heap.get? b=some u->b≠T:=λ b u e=>Nat.ne_of_lt (Nat.lt_of_lt_of_le (Heap.lt_size e) hT);have Q0:∀b u,H b=some u->b≠T:=λ b u e z=>by rw[z,hTn] at e;cases e
 refine I.step (g':=s.gens) (d':=s.drawn) (ch:=ch) (λ b hb=>?_) (λ b o _ _ hc e _=>k b o hc e) (λ b o _ _ hc e _=>⟨o.slots,k b o hc e⟩) (λ b o _ e n=>by rw[aB (ne b o e)];exact n)
  (λ b o hc e=>⟨o,k b o hc e⟩) (λ b xs e=>by rw[aB (Q0 b _ e)];exact e) (λ b o u e=>by rw[aB (Q0 b _ e)];exact e) (λ b ps e=>⟨#[],by rw[aB (Q0 b _ e),e];simp⟩) (λ m hm=>?_) (λ b u e=>?_) I.bare
 ·refine eO (λ _ f1 _ f3 f4 f5=>?_) (hf b hb);exact gz f3 f1 f4 f5
 ·revert hm;refine bN λ o es ep ho r=>?_
  exact g8 o es ep (k _ o hL ho) r
 ·by_cases hb:b=T
  ·subst hb;rw[aI] at e;cases e;exact new
  ·rw[aB hb] at e;refine (I.hok b u e).stay (λ c v hc q=>k c v ?_ q) (λ c q=>by rw[aB (Q0 c _ q)];exact q) (λ c u q=>by rw[aB (Q0 c _ q)];exact q) λ c ob y q=>by rw[aB (Q0 c _ q)];exact q
   rcases hc with z|z
   ·rw[z];exact LK b u e
   ·exact LK c _ z
end
def I0(h:a≠b):Value.type a≠Value.type b:=λ z=>h (Value.type.inj z)
end L4
end
section
namespace L4
open PySem
noncomputable def eB:Nat->List D->List D
 |_,[]=>[]
 |k,x::t=> .tup [.int k,x]::eB (k+1) t
noncomputable def gJ:D->Res (List D)
 | .lst xs=> .ok xs
 | .bor _ xs=> .ok xs
 | .tup xs=> .ok xs
 | .gt xs=> .ok xs
 |_=> .bad
def gW(f:Sg->Res D):Sg->Res (List D):=λ Γ=>(f Γ).bnd gJ
@[simp] theorem Q5:gW f Γ=(f Γ).bnd gJ:=(rfl)
@[simp] theorem Sd(xs:List D):gJ (.lst xs)= .ok xs:=(rfl)
noncomputable def d3:D->Option (List Int)
 | .tup [.int a,.int b,.int c]=>some [a,b,c]
 |_=>none
end L4
end
section
namespace L4
open PySem PySem.Spec PyProof.Rows L2 PySem.W
section
variable{X:Cx}{ct:Ct}{e:Expr}{es:List Expr}{f:Sg->Res D}{fa:Sg->Res (List D)}{p pos:Pos}
end
end L4
end
section
namespace L4
open PySem PySem.Spec PyProof.Rows L2
section
variable{X:Cx}{c:Cf}{st:Stmt}{sts:List Stmt}
end
def hU1(h:a+64<b):a+1<b:=by omega
def CQ(X:Cx)(scope:Scope)(c:Nat)(y:Str):Prop:=X.N[c]? =some y/\Ic X.env.scope y/\X.env.kindOf y≠some .local/\(y,NameKind.free)∈scope.names
def m6{y:Str}(h1:X.N[c]? =some y)(h2:Ic X.env.scope y:=by first|exact Or.inl rfl|exact Or.inr (Or.inl rfl)|exact Or.inr (Or.inr rfl))(h3:X.env.kindOf y≠some .local:=by exact λ h=>nomatch h)(h4:(y,NameKind.free)∈scope.names:=by decide+kernel):CQ X scope c y:=gz h1 h2 h3 h4
def rj{X:Cx}{scope:Scope}{k:Nat}{caps:List Nat}{N':List Str}(h:∀p∈caps.zip (N'.drop k),CQ X scope p.1 p.2)(i c:Nat)(y:Str)(h1:caps[i]? =some c)(h2:N'[k+i]? =some y):X.N[c]? =some y/\Ic X.env.scope y/\X.env.kindOf y≠some .local/\(y,NameKind.free)∈scope.names:=h (c,y) (List.mem_of_getElem? (i:=i) (List.getElem?_zip_eq_some.mpr ⟨h1,by rw[List.getElem?_drop];exact h2⟩))
section
variable{X:Cx}{ct:Ct}{a b:Expr}{f g:Sg->Res D}{pos:Pos}
end
section
variable{X:Cx}{c:Cf}{r ix e:Expr}{i:Nat}{g:Sg->Res (List Nat)}{f:Sg->Res (List D)}{pos:Pos}{Γ:Sg}{σ:St}{H:Hp}
end
section
variable{X:Cx}{ct:Ct}{tg:Expr}{elts:List Expr}{cx:Nat}{tp:Pos}
theorem tN:∀(k:Nat) (xs:List D),(eB k xs).length=xs.length
 |_,[]=>rfl
 |k,x::xs=>by simp[eB,tN (k+1) xs]
theorem tO:∀(k:Nat) (xs:List D) (i:Nat),(eB k xs)[i]? =(xs[i]?).map λ x=> .tup [.int ((k+i:Nat):Int),x]
 |_,[],i=>by simp[eB]
 |k,x::xs,0=>by simp[eB]
 |k,x::xs,i+1=>by simp only[eB,List.getElem?_cons_succ];rw[tO (k+1) xs i,show k+1+i=k+(i+1) by omega]
end
section
variable{X:Cx}{ct:Ct}{tg:Expr}
def Kq:fastTable "dict_itemiterator.__iter__"=none:=by kernel_rfl
def OZ:"dict_itemiterator.__iter__".cutAt '#'=["dict_itemiterator.__iter__"]:=by kernel_rfl
def OY:fastTable "dict_keyiterator.__iter__"=some Builtin.«dict_keyiterator.__iter__»:=by kernel_rfl
def kB:entryFor table "dict_itemiterator.__iter__"=some Builtin.«dict_keyiterator.__iter__»:=entryFor_alias Kq OZ (by decide+kernel) OY
def se{s:Shared}{Q:Value->Shared->Prop}(h:s.heap.get? it=some o)(hc:o.cls= .type "dict_itemiterator")(q:Q (.ref it) s):wpAny (model prog w) A (pyIter (.ref it)) Q E s:=by have ty:s.TypeIs (.ref it) "dict_itemiterator":=af o h hc;refine wpAny_pyIter_slot ty PySem.F.slot_dict_itemiterator_iter (wpAny_call_entry PySem.F.slot_dict_itemiterator_iter ty kB ?_ (PySem.F.args_dict_itemiterator_iter_1 _));unfold Builtin.«dict_keyiterator.__iter__»;exact wpAny_pure (af _ rfl (ao ("dict_itemiterator") _ ty PySem.F.slot_dict_itemiterator_next.lookup q))
end
noncomputable def Ka(K:W.Frag)(cv:Value)(n:String)(l:List (Value×List String)):Bool:=l.all λ p=>W.kitOne K p.1 cv==some (p.2.contains n)
noncomputable def kN:List (Value×List String):=[(.type "NoneType",["NoneType"]),(.type "bool",["bool","int"]),(.type "int",["int"]),(.type "str",["str"]),(.type "tuple",["tuple"]),(.type "list",["list"]),(.type "dict",["dict"])]
def isAll(K:W.Frag)(mt:List (String×List String))(E:List (String×Addr))(T:rK)(IS:List (Value×String)):Bool:=IS.all λ x=>Ka K x.1 x.2 kN&&Ka K x.1 x.2 (E.map λ e=>(.ref e.2,(mt.lookup e.1).getD []))&&Ka K x.1 x.2 (T.map λ e=>(.ref e.2.1,(mt.lookup e.1).getD []))
def fZ{K:W.Frag}{cv:Value}{n:String}{l:List (Value×List String)}(h:Ka K cv n l=true){p:Value×List String}(hp:p∈l):W.kitOne K p.1 cv=some (p.2.contains n):=eq_of_beq (List.all_eq_true.mp h p hp)
def XO{K:W.Frag}{mt:List (String×List String)}{E:List (String×Addr)}{T:rK}{IS:List (Value×String)}{cv:Value}{n:String}(h:isAll K mt E T IS=true)(hm:(cv,n)∈IS):EC K (KW E T) mt cv n:=by
 have h1:=List.all_eq_true.mp h _ hm;simp only[Bool.and_eq_true] at h1;obtain ⟨⟨h1,h2⟩,h3⟩:=h1;refine ⟨fZ h1 (.head _),fZ h1 (.tail _ (.head _)),fZ h1 (.tail _ (.tail _ (.head _))),fZ h1 (.tail _ (.tail _ (.tail _ (.head _)))),fZ h1 (.tail _ (.tail _ (.tail _ (.tail _ (.head _))))),fZ h1 (.tail _ (.tail _ (.tail _ (.tail _ (.tail _ (.head _)))))),fZ h1 (.tail _ (.tail _ (.tail _ (.tail _ (.tail _ (.tail _ (.head _))))))),λ c C ks hc hk=>?_,λ c C ns ks hc hk=>?_⟩
 ·have:=fZ h2 (List.mem_map.mpr (af _ (nM hc) rfl));simp only[hk,Option.getD_some] at this;exact this
 ·have:=fZ h3 (List.mem_map.mpr (af _ (nM hc) rfl));simp only[hk,Option.getD_some] at this;exact this
section
variable{P:Program}{w:World}{K:W.Frag}{mg:Str->Option Value}{cb:Cb}{base:Heap}
def tZ{x qual:Str}{st:Stmt}{f:Addr}{fd:FuncData}{N ps:List Str}{k:Nat}{F:List Slot->dh}(B:Nat->Sg->Out)(IG:Et K x qual st f fd)(hF:∀as,as.length=ps.length->F as≠.bad->∃n,jN (B n (di N as))=F as)(hbody:∀(c:Cf) (cdv:Value) (A:Around) (outer:List Env) (s:Shared) (H:Hp) (E:XK),c.cb=cb->dw k (A.deeper (envOfC qual (aT st) s.heap.objs.size f cdv))->Good (i6 (A8 P w) P w K mg base N qual (aT st) f cdv A outer s H E)->∀n,oj (i6 (A8 P w) P w K mg base N qual (aT st) f cdv A outer s H E) c (cR st) (B n)) (S:jc N ps (aT st):=by exact ⟨rfl,rfl,rfl,by decide+kernel,rfl,by decide+kernel,by decide+kernel⟩):jn P w K mg base cb (k+1) f fd ps F:=IQ IG S hbody hF
end
section
variable{X:Cx}{ct:Ct}{tg iter e:Expr}{f:Sg->Res D}{pos:Pos}
def d7(he:WD X ct iter f):Ib X ct tg iter (gW f):=by
 have he:=he.out;refine ⟨?_⟩;refine λ pins s σ H R I=>ah λ Γ j h=>?_;cases q:f Γ with
 |bad=>simp only[gW,q,Res.vn] at h;exact h.elim
 |err c=>simp only[gW,q,Res.vm] at h;exact uH he pins s σ H R I (af Γ j (by rw[q];exact h))
 |ok d=>
  simp only[gW,q,Res.iu] at h;cases d with
  |lst xs=>
   replace h:∀J H',az H H'->xN X.K ct J xs H'->R J H':=h;refine uH he pins s σ H R I (af Γ j ?_);rw[q];intro v H' sm tl;simp only[Tl] at tl
   revert tl;refine ak λ a vs z fz tl=>?_;subst z
   exact aX a rfl ⟨vs,fz.sq⟩ (h _ H' sm (G5 fz tl))
  |bor tm xs=>replace h:∀J H',az H H'->xN X.K ct J xs H'->R J H':=h;refine uH he pins s σ H R I (af Γ j ?_);rw[q];intro v H' sm tl;have j':=j.mono sm;refine aD (λ a z sq it=>?_) (Kl j'.lL j'.lB tl);subst z;exact aX a rfl sq (h _ H' sm it)
  |tup xs=>
   replace h:∀J H',az H H'->xN X.K ct J xs H'->R J H':=h;refine FJ he pins s σ H R I (af Γ j ?_);rw[q];intro v H' sm tl;simp only[Tl] at tl
   revert tl;refine ak λ a vs z fz tl=>?_;subst z
   exact aX a rfl ⟨vs,kG fz⟩ (h _ H' sm (B5 (kG fz) tl))
  |gt xs=>
   replace h:∀J H',az H H'->xN X.K ct J xs H'->R J H':=h;refine FJ he pins s σ H R I (af Γ j ?_);rw[q];intro v H' sm tl;simp only[Tl] at tl
   revert tl;refine ak λ a vs z fz tl=>?_;subst z
   exact aX a rfl ⟨vs,fz.sq⟩ (h _ H' sm (B5 fz.sq tl))
  |_=>exact h.elim
end
section
variable{X:Cx}{ct:Ct}{a b:Expr}{f g:Sg->Res D}
end
end L4
end
section
namespace L4
open PySem
def Zy(ks:List zJ)(k:zJ):Option Nat:=ks.findIdx? λ n=>decide (n=k)
def KQ(ks:List zJ)(ms:List M)(k:zJ):M:=match Zy ks k with
 |some _=> .q (.s ks) ms
 |none=> .q (.s (ks++[k])) (ms++[.l []])
def Uu(ks:List zJ)(k:zJ):Nat:=(Zy ks k).getD ks.length
def Vq(i:Nat)(fk f:Sg->Res D):Sg->Out:=λ Γ=>match Γ[i]? with
 |some (.own (.q (.s ks) ms))=>oE (fk Γ) Γ λ z=>match AG z with
  |some k=>if ks.length<1000000/\ks.length=ms.length/\yR (kT i [Uu ks k] (Γ.set i (.own (KQ ks ms k))))=true then oE (f (Γ.set i (.own (KQ ks ms k)))) (Γ.set i (.own (KQ ks ms k))) λ d=>JV (pT i [Uu ks k] (sC d) (Γ.set i (.own (KQ ks ms k)))) else .bad
  |none=> .bad
 |_=> .bad
def kD:zJ->D
 | .inl i=> .int i
 | .inr x=> .str x
def qN:D->Res (List D)
 | .lS (.s ks) xs=>if ks.length=xs.length then .ok ((ks.zip xs).map λ p=> .tup [kD p.1,p.2]) else .bad
 |_=> .bad
def AI(f:Sg->Res D):Sg->Res (List D):=λ Γ=>(f Γ).bnd qN
@[simp] theorem O3:AI f Γ=(f Γ).bnd qN:=(rfl)
end L4
end
section
namespace L4
open PySem PySem.Spec PyProof.Rows L2
section
variable{X:Cx}{pins:List (Addr×Obj)}{σ:St}{H:Hp}{s:Shared}{a:Addr}{kvs:List (Key×V)}{A:Around}{E:Value->Shared->Prop}{k:Key}{u r:Value}{z:V}
end
section
variable{X:Cx}{o e f:Expr}{apos cpos:Pos}{td ty tx:TE}
end
section
variable{X:Cx}{c:Cf}{i:Nat}{x:Str}{ke le e:Expr}{fk f:Sg->Res D}{pos xp ap cp ap2 cp2:Pos}
end
def TV(h:oW k u=true):L2.RelV (kV k) u:=by
 rcases bJ h with ⟨i,t,rfl,rfl⟩|⟨x,t,rfl,rfl⟩
 ·exact ⟨t,rfl⟩
 ·exact ⟨t,rfl⟩
def ZZ(d:Addr)(ob:Obj)(kvs:List (Key×V)):It:=⟨λ i H=>(∃u,H d=some (.jI ob u))/\i<kvs.length,λ i H x H'=>∃p k v,H p=none/\kvs[i]? =some (k,v)/\x= .ref p/\H'=upd H p (.tup [kV k,v]),λ i H=>(∃u,H d=some (.jI ob u))/\kvs.length<=i⟩
def KV.get{kvs:List (Key×V)}{vs:List (Key×Value)}(r:KV kvs vs){i:Nat}{k:Key}{v:V}(h:kvs[i]? =some (k,v)):∃w,vs[i]? =some (k,w)/\L2.RelV v w:=by
 induction r generalizing i with
 |nil=>simp at h
 |cons e r ih=>
  cases i with
  |zero=>simp only[List.getElem?_cons_zero,Option.some.injEq] at h ⊢;subst h;exact af _ (Prod.ext e.1.symm rfl) e.2
  |succ i=>simp only[List.getElem?_cons_succ] at h ⊢;exact ih h
def z6{P:Program}{w:World}{K:W.Frag}{elts:List Expr}{c:Nat}{pos:Pos}(it d:Addr)(ob:Obj)(ep:Nat){kvs:List (Key×V)}{vs:List (Key×Value)}(rel:KV kvs vs)
  (at':∀h:Heap,h.get? d=some ob->Heap.DictAt (cI P w) h d vs ep) (ne:d≠it):
  Turn P w K (.Tuple elts c pos) (ZZ d ob kvs) [it] it (λ i h=>(∃ok ov,IsItemIter h it d i vs.length ep ok ov)/\i<=kvs.length) where
 mem:=by simp
 obj:=λ i h st b hb=>by
  have e:b=it:=by simpa using hb
  subst e
  obtain ⟨⟨ok,ov,h1⟩,_⟩:=st
  exact af _ h1 (λ v z=>by cases z)
 keep:=λ i h h' st k=>by
  obtain ⟨⟨ok,ov,h1⟩,h2⟩:=st
  exact ⟨lG ok ov (k it (by simp) _ h1),h2⟩
 item:=by
  intro X hP hw hK hc i pins s σ H E I hf st hg
  subst hP hw hK
  obtain ⟨⟨ok,ov,h1⟩,h2⟩:=st
  obtain ⟨⟨u,hu⟩,hi⟩:=hg
  have da:=at' s.heap (I.hok d _ hu).1
  obtain ⟨k,v,hkv⟩:∃k v,kvs[i]? =some (k,v):=lG (kvs[i].1) (kvs[i].2) (List.getElem?_eq_getElem hi)
  refine ah (λ w' hw' rw'=>?_) (KV.get rel hkv)
  have hfp:=hf it (by simp)
  refine wpAny_pyNext_items_item h1 da hw' λ key h' hk ho hT hsz kk=>af _ rfl (wpAny_letOwnedTupleGo_items ho λ D9 X7 sb=>?_)
  have ZJ:s.heap.objs.size≠it:=Nat.ne_of_gt (Heap.lt_size h1)
  have hT2:D9.get? s.heap.objs.size=some {cls:= .type "tuple",data:= .seq #[key,w']}:=(sb.2 _ ZJ).trans hT
  have I2:Inv X pins σ (upd H s.heap.objs.size (.tup [kV k,v])) {s with heap:=D9}:=by
   refine uh (t':=s.toks) (ch:=[it]) I (λ b o hb q=>?_) (λ b hb=>hf b hb) (Nat.le_refl _) (⟨by simp[sizeLine_eq],af [key,w'] (.cons (TV hk) (.cons rw' .nil)) (aX _ hT2 rfl ⟨0,rfl⟩)⟩)
   have hb':b≠it:=by simpa using hb
   exact (sb.2 b hb').trans (kk b o hb' q)
  refine bG (.ref s.heap.objs.size) _ I2 rfl (g7 _ k v (I.hok.fresh (Nat.le_refl _)) hkv rfl rfl) ⟨lG _ _ X7,hi⟩ (λ b hb=>?_)
  have e:b=it:=by simpa using hb
  subst e
  rw[aB (Ne.symm ZJ)]
  exact hfp.1
 done:=by
  intro X hP hw hK hc i pins s σ H E I hf st hg
  subst hP hw hK
  obtain ⟨⟨ok,ov,h1⟩,h2⟩:=st
  obtain ⟨⟨u,hu⟩,hi⟩:=hg
  have da:=at' s.heap (I.hok d _ hu).1
  refine eO (λ f0 f1 f2 f3 f4 f5=>?_) (hf it (by simp))
  refine wpAny_pyNext_items_end (I.ok.hd hc) h1 da (by rw[List.getElem?_eq_none];rw[<-rel.length];exact hi) λ h' eb=>⟨rfl,I.turned (t':=s.toks) (λ b o hb e=>eb b o hb e) f0 f1 f3 f4 f5⟩
 self:=λ _ _ _ _ _ st h=>by
  obtain ⟨⟨ok,ov,h1⟩,_⟩:=st
  exact se h1 rfl h
theorem Rv{K:W.Frag}{ct:Ct}{H:Hp}:∀{ks:List Key} {xs:List D} {vs:List V} {i:Nat} {d:D},aK K ct H xs vs->ks.length=vs.length->((ks.zip xs).map λ p=>D.tup [kD p.1,p.2])[i]? =some d->∃k v x,(ks.zip vs)[i]? =some (k,v)/\d= .tup [kD k,x]/\Tl K ct H x v
 |[],xs,vs,i,d,t,hl,h=>by simp at h
 |k::ks,[],vs,i,d,t,hl,h=>by simp at h
 |k::ks,x::xs,vs,i,d,t,hl,h=>by
  simp only[aK] at t
  revert t;refine ak λ v r z t1 t2=>?_;subst z
  cases i with
  |zero=>simp only[List.zip_cons_cons,List.map_cons,List.getElem?_cons_zero,Option.some.injEq] at h;exact jy k v x rfl h.symm t1
  |succ i=>simp only[List.zip_cons_cons,List.map_cons,List.getElem?_cons_succ] at h;refine dO (λ k' v' x' e1 e2 e3=>?_) (Rv t2 (by simpa using hl) h);exact jy k' v' x' (by simpa using e1) e2 e3
def TN{K:W.Frag}{ct:Ct}{H:Hp}(k:Key):Tl K ct H (kD k) (kV k):=by cases k<;>simp[kD,kV,Tl]
section
variable{X:Cx}{ct:Ct}{elts:List Expr}{c:Nat}{tp:Pos}
def Dk{ap cp:Pos}(ho:WD X ct o f)(h1:attributeBase o "items" X.env (eval o X.env)=eval o X.env:=by rfl)(h3:(ap.endLine==cp.line)=true:=by rfl):Ib X ct (.Tuple elts c tp) (.Call (.Attribute o "items" ap) [] [] cp) (AI f):=by
 have ho:=ho.out;refine ⟨?_⟩;refine λ pins s σ H R I=>ah λ Γ j h=>?_;refine dN (FU ho h1 h3 pins s σ H (λ x H2=>∃v d ob kvs,x= .ref v/\H2 v=some (.ext (Lg v d))/\H2 d=some (.jI ob (.dK kvs))/\R (ZZ d ob kvs) H2) I (af Γ j (h.bnd λ x _ q v H' sm tl=>?_))) ?_
 ·unfold qN at q;split at q
  ·rename_i ks xs _;split at q
   ·rename_i hlen;replace q:∀J H',az H H'->xN X.K ct J ((ks.zip xs).map λ p=>D.tup [kD p.1,p.2]) H'->R J H':=q;simp only[Tl] at tl
    revert tl;refine aN λ a vs z1 z2 hl tl=>?_;subst z1;obtain ⟨ob,ZG⟩:=z2
    have hl':ks.length=vs.length:=hl;refine aX a rfl (.inl ⟨_,.inr ⟨_,ZG⟩⟩) (λ v hvn=>?_);have rM:=bx hvn (.ext (Lg v a));have hd2:=rM _ _ ZG;have tl2:=tl.keep (az.keep rM);refine Al v a ob _ rfl aI hd2 (q _ _ (sm.trans rM) (bY (λ H1=>(∃u,H1 a=some (.jI ob u))/\aK X.K ct H1 xs vs) ⟨⟨_,hd2⟩,tl2⟩ (λ H1 H3 ⟨⟨u,hu⟩,t1⟩ k _ _=>⟨⟨u,k a _ hu trivial⟩,t1.keep k⟩) (λ i d H1 ⟨hu,t1⟩ z=>?_) (λ i H1 ⟨hu,t1⟩ z=>⟨hu,?_⟩)))
    ·refine dO (λ k w y e1 z1 e3=>?_) (Rv t1 hl' z);subst z1;refine ⟨⟨hu,(List.getElem?_eq_some_iff.mp e1).1⟩,λ x H3 ⟨p,k',v',hp,hkv,ex,eH⟩=>?_⟩;rw[e1] at hkv;cases hkv;subst ex eH;have Zc:=bx hp (.tup [kV k,w]);refine ⟨Zc,?_⟩;simp only[Tl];exact ao p _ rfl aI (aK.cons (TN k) (aK.cons (e3.keep (az.keep Zc)) aK.nil))
    ·have:=tl.length;simp only[List.length_map,List.length_zip] at z ⊢;omega
   ·exact q.elim
  ·exact q.elim
 ·refine λ v s1=>ak λ x H2 I2 rx=>uF λ vv d ob kvs ex hv hd q=>?_;subst ex;cases rx;obtain ⟨g1,g2⟩:=I2.hok d _ hd;refine aW (λ z0 _=>ah λ vs rel z1=>?_) (show bQ X.prog X.w H2 s1.heap d (.dK kvs) from g2);obtain ⟨o',es,ep,e1,e2,e3,e4,e5,e6⟩:=z1;rw[g1] at e1;cases e1;have hvw:s1.heap.get? vv=some (QG d):=(I2.hok vv _ hv).1;have hsz:es.size=vs.length:=by have:=e5.length;simpa using this
  refine AH hvw (af ob g1 e3) ?_;have X8:d≠s1.heap.objs.size:=Nat.ne_of_lt (Heap.lt_size g1);refine jx s1.heap.objs.size [s1.heap.objs.size] _ _ H2 rfl (I2.kept (t':=s1.toks) λ b o e=>Heap.get?_push_of_some _ e) (z6 _ d ob ep rel (λ h hg=>⟨ob,es,hg,e2,e3,e4,e5,e6⟩) X8) ⟨lG .none .none ?_,Nat.zero_le _⟩ (λ b hb=>?_) q
  ·rw[<-hsz];exact Heap.get?_push_size _ rfl
  ·have e:b=s1.heap.objs.size:=by simpa using hb
   subst e;exact I2.n5 (Nat.le_refl _) (I2.hok.fresh (Nat.le_refl _))
end
section
variable{X:Cx}{ct:Ct}{e:Expr}{a b:Str}{te:TE}{p1 p2 p3 pos:Pos}{k1 k3:Nat}{f:Sg->Res D}
end
section
variable{X:Cx}{c:Cf}{x:Str}{e:Expr}{es:List Expr}{i q n k:Nat}{f:Sg->Res D}{r fa:Sg->Res (List D)}{p pos:Pos}{F:List Slot->dh}{fn:Addr}{fd:FuncData}{ps:List Str}
variable{g:Sg->Res Sg}{Γ:Sg}{σ:St}{H:Hp}
end
section
variable{X:Cx}{ct:Ct}{pos:Pos}
end
end L4
end
section
namespace L4
open PySem
def p3:D->Option (List Int)
 | .tup [x,_]=>d3 x
 |_=>none
noncomputable def W7:D->Res (List D)
 | .lst xs=> .ok xs.reverse
 | .tup xs=> .ok xs.reverse
 |_=> .bad
def Sw:List D->Res (List D)
 |[d]=>W7 d
 |_=> .bad
def Kv(r:Sg->Res (List D)):Sg->Res (List D):=λ Γ=>(r Γ).bnd Sw
@[simp] theorem Sv(xs:List D):Sw [.lst xs]= .ok xs.reverse:=(rfl)
noncomputable def J0:D->D->Res D
 | .str x,.int n=>if n=0 then .ok (.str Str.empty) else if n=1 then .ok (.str x) else .bad
 |_,_=> .bad
end L4
end
section
namespace L4
open PySem PySem.Spec PyProof.Rows L2 PySem.W
section
variable{X:Cx}{ct:Ct}{a b e:Expr}{f g:Sg->Res D}{pos:Pos}
end
section
variable{X:Cx}{ct:Ct}{e:Expr}{es:List Expr}{f:Sg->Res D}{fa:Sg->Res (List D)}{p pos:Pos}
end
end L4
end
section
namespace L4
open PySem PySem.Spec PyProof.Rows L2
section
variable{X:Cx}{ct:Ct}{elts:List Expr}{c:Nat}{tp:Pos}
end
section
variable{X:Cx}{ct:Ct}{tg:Expr}
end
section
variable{X:Cx}{ct:Ct}{a b:Expr}{f g:Sg->Res D}{pos:Pos}
end
section
variable{X:Cx}{ct:Ct}{pos:Pos}
def IK:WM X ct (.Dict [] [] pos) (λ _=> .ok (.k (.s []) [])):=by
 refine ⟨?_⟩;refine PE.imp FW ?_;refine λ σ H Q=>ah λ Γ j h=>?_;intro p hp;refine h (.ref p) _ (λ b=>b=p) (bx hp _) ?_ (λ b z=>z▸hp) λ b z q=>by subst z;rw[aI] at q;cases q
 simp only[Ow];exact bG p [] rfl rfl aI rfl aK.nil
end
end L4
end
section
namespace L4
open PySem PySem.Spec PyProof.Rows L2 PySem.W
section
variable{X:Cx}{ct:Ct}{e:Expr}{es:List Expr}{fa:Sg->Res (List D)}{p pos:Pos}
end
section
variable{prog:Program}{w:World}{A:Around}{E:Value->Shared->Prop}{s:Shared}
end
section
variable{X:Cx}{ct:Ct}{e:Expr}{f:Sg->Res D}{pos:Pos}
end
structure Fy(K:W.Frag)(n q:Str)(st:Stmt)(ps:List Str) where
 a:Addr
 fd:FuncData
 f:Et K n q st a fd
 b:Binds K fd ps []
structure Fx(K:W.Frag)(mg:Str->Option Value)(n:Str)(st:Stmt)(ps:List Str) where
 y:Fy K n n st ps
 m:mg n=some (.ref y.a)
structure Gc(mg:Str->Option Value)(n:Str) where
 a:Addr
 m:mg n=some (.ref a)
structure Gu(K:W.Frag)(mg:Str->Option Value)(n:Str)(d:D) where
 u:Value
 v:mg n=some u
 g:Ve K u d
structure Gx(K:W.Frag)(n:Str)(st:Stmt)(f:Addr):Prop where
 s:W.nsIn K mainGlobals n=some (some (.ref f))
 e:∃fd,Et K n n st f fd
structure Gy(K:W.Frag)(C:Addr)(m q:Str)(st:Stmt)(f:Addr):Prop where
 s:W.findIn K (.ref C) m=some (some (.ref f))
 e:∃fd,Et K m q st f fd
 w:W.isFn K (.ref f)=true
def HB(n q:Str)(st:Stmt)(ps:List Str):Prop:=∀(kV doc pm:Value) (an:Option Addr) (cdv ct:Value) (us:List Value),us.length=ps.length->bindArgs (W.fnOf n q (gc st) (cR st) (aT st) .none kV doc pm an cdv ct) ⟨us,[]⟩=pure (ps.zip us)
def mkY{K:W.Frag}{n q:Str}{st:Stmt}{ps:List Str}{f:Addr}(h:∃fd,Et K n q st f fd)(hb:HB n q st ps):Fy K n q st ps:=⟨f,h.choose,h.choose_spec,h.choose_spec.binds hb⟩
def rO{K:W.Frag}{mg:Str->Option Value}{h:Heap}{n:Str}{st:Stmt}{ps:List Str}{f:Addr}(X:K.In h)(G:h.Ns mainGlobals mg)(g:Gx K n st f)(hb:HB n n st ps):Fx K mg n st ps:=⟨mkY g.e hb,W.mg_of X G g.s⟩
def Ep{n q:Str}{st:Stmt}{ps:List Str}(h:∀(kV doc pm:Value) (an:Option Addr) (cdv ct:Value) (u0:Value),bindArgs (W.fnOf n q (gc st) (cR st) (aT st) .none kV doc pm an cdv ct) ⟨[u0],[]⟩=pure (ps.zip [u0]):=by intros;rfl)(hl:ps.length=1:=by rfl):HB n q st ps:=λ a b c d e f us l=>by rw[hl] at l;obtain ⟨_,rfl⟩:=TJ l;exact h a b c d e f _
def pD{n q:Str}{st:Stmt}{ps:List Str}(h:∀(kV doc pm:Value) (an:Option Addr) (cdv ct:Value) (u0 u1:Value),bindArgs (W.fnOf n q (gc st) (cR st) (aT st) .none kV doc pm an cdv ct) ⟨[u0,u1],[]⟩=pure (ps.zip [u0,u1]):=by intros;rfl)(hl:ps.length=2:=by rfl):HB n q st ps:=λ a b c d e f us l=>by rw[hl] at l;refine Aj (λ _ _ z=>?_) (TH l);subst z;exact h a b c d e f _ _
def K3{n q:Str}{st:Stmt}{ps:List Str}(h:∀(kV doc pm:Value) (an:Option Addr) (cdv ct:Value) (u0 u1 u2:Value),bindArgs (W.fnOf n q (gc st) (cR st) (aT st) .none kV doc pm an cdv ct) ⟨[u0,u1,u2],[]⟩=pure (ps.zip [u0,u1,u2]):=by intros;rfl)(hl:ps.length=3:=by rfl):HB n q st ps:=λ a b c d e f us l=>by rw[hl] at l;refine qb (λ _ _ _ z=>?_) (TF l);subst z;exact h a b c d e f _ _ _
def Yz{n q:Str}{st:Stmt}{ps:List Str}(h:∀(kV doc pm:Value) (an:Option Addr) (cdv ct:Value) (u0 u1 u2 u3:Value),bindArgs (W.fnOf n q (gc st) (cR st) (aT st) .none kV doc pm an cdv ct) ⟨[u0,u1,u2,u3],[]⟩=pure (ps.zip [u0,u1,u2,u3]):=by intros;rfl)(hl:ps.length=4:=by rfl):HB n q st ps:=λ a b c d e f us l=>by rw[hl] at l;refine NF (λ _ _ _ _ z=>?_) (XI l);subst z;exact h a b c d e f _ _ _ _
structure CK(K:W.Frag)(fl:List Str)(C:Addr)(i:Value):Prop where
 cl:Vg K C
 i1:W.findIn K (.ref C) "__class__"=some (some (.builtin "object.__class__"))
 i4:W.mroIn K C (.type "object")=some true
 mm:W.makesIn K C=true
 kp:W.keepIn K (.ref C)=true
 ini:W.findIn K (.ref C) "__init__"=some (some i)
 na:(fl.all λ x=>match W.findIn K (.ref C) x with
  |some none=>true
  |_=>false)=true
def qH{α:Type}{l:List α}{a:α}(i:Nat)(h:l[i]? =some a):a∈l:=List.mem_of_getElem? h
section
variable{X:Cx}{c:Cf}{e:Expr}{es:List Expr}{fa:Sg->Res (List D)}{p pos:Pos}{k k' n:Nat}{ps:List Str}{st:Stmt}{x:Str}{F:List Slot->dh}
def bq{M:Fx X.K X.mg x st ps}(G:jn X.prog X.w X.K X.mg X.base c.z.f.cb k M.y.a M.y.fd ps F)(hr:dw k' X.A)(ha:pN X c.z (e::es) fa)(hk:k<=k':=by decide)(hn:ps.length=n:=by rfl)(hg:Gl X x:=by rfl)(hdb:(x==("__debug__":Str))=false:=by decide)(he:starEach (e::es) X.env=(false,eval e X.env)::starEach es X.env:=by rfl)(hpl:(backTo pos (starEach es X.env)).any (·.1)=false:=by rfl):WD X c.z (.Call (.Name x p) (e::es) [] pos) (bh n F fa):=RC G (hr.mono hk) M.m M.y.f.kp M.y.b ha hn hg hdb he hpl
end
end L4
end
section
namespace L4
open PySem PySem.Spec PyProof.Rows L2
def Jm:typeLookup (.type "tuple") "__reversed__"=pure none:=by rw[typeLookup_type,builtinLookup_eq_fast];kernel_rfl
def Jo:isSubtype (.type "tuple") (.type "dict")=pure false:=by rw[isSubtype_type];kernel_rfl
def eg:PySem.Slot "reversed" "__next__" "reversed.__next__":=.of (owner:="reversed") (n:="__next__") (by rw[typeLookup_type,builtinLookup_eq_fast];kernel_rfl) (by decide+kernel) (by decide+kernel) (by decide+kernel)
  (by first|exact .inl (by decide+kernel)|exact .inr (by decide+kernel)) (by rw[isSubtype_type];kernel_rfl)
def mE:PySem.Slot "reversed" "__iter__" "reversed.__iter__":=.of (owner:="reversed") (n:="__iter__") (by rw[typeLookup_type,builtinLookup_eq_fast];kernel_rfl) (by decide+kernel) (by decide+kernel) (by decide+kernel)
  (by first|exact .inl (by decide+kernel)|exact .inr (by decide+kernel)) (by rw[isSubtype_type];kernel_rfl)
def uw:PySem.Slot "reversed" "__init__" "object.__init__":=.of (owner:="object") (n:="__init__") (by rw[typeLookup_type,builtinLookup_eq_fast];kernel_rfl) (by decide+kernel) (by decide+kernel) (by decide+kernel)
  (by first|exact .inl (by decide+kernel)|exact .inr (by decide+kernel)) (by rw[isSubtype_type];kernel_rfl)
def kM:entryFor table "reversed.__next__"=some Builtin.«reversed.__next__»:=entryFor_of_tree (by kernel_rfl)
def rV:entryFor table "reversed.__iter__"=some Builtin.«dict_keyiterator.__iter__»:=entryFor_alias (id':="dict_keyiterator.__iter__") (by kernel_rfl) (by first|rfl|decide+kernel|(unfold String.splitOn;simp+decide [String.splitOnAux])) (by decide+kernel) (by kernel_rfl)
def yl:Manifest.owners.lookup (String.ofList ['d','e','s','r','e','v','e','r'].reverse)=some Manifest.sig_reversed:=by kernel_rfl
def mF(a:Value):argsOk "reversed.__next__" ⟨[a],[]⟩:=by unfold argsOk;rw[signature?_of (id:="reversed.__next__") (n:=['_','_','t','x','e','n','_','_']) (o:=['d','e','s','r','e','v','e','r']) (by kernel_rfl) yl];kernel_rfl
def uz(a:Value):argsOk "reversed.__iter__" ⟨[a],[]⟩:=by unfold argsOk;rw[signature?_of (id:="reversed.__iter__") (n:=['_','_','r','e','t','i','_','_']) (o:=['d','e','s','r','e','v','e','r']) (by kernel_rfl) yl];kernel_rfl
section
variable{prog:Program}{w:World}{A:Around}{E:Value->Shared->Prop}{s:Shared}
def nZ(v:Value):Sem Bool:=do
 if <-isInstance v (.type "dict") then return false
 match <-specialOf v "__getitem__" with
 |none=>return false
 |some (.builtin id)=>
  if ["tuple.__getitem__","str.__getitem__","bytes.__getitem__","bytearray.__getitem__","memoryview.__getitem__","numpy.ndarray.__getitem__","sqlite3.Row.__getitem__"].contains id then return true
  if id=="sqlite3.Blob.__getitem__" then return false
  unsupported "reversed.__new__:is-it-a-sequence"
 |some _=>return true
def uS{l:Addr}{items:Array Value}{Q:Bool->Shared->Prop}(hl:IsTup s.heap l items)(h:Q true s):wpAny (model prog w) A (nZ (.ref l)) Q E s:=by unfold nZ;refine wpAny_bind (wpAny_isInstance hl.typeIs Jo ?_);rw[if_neg Bool.false_ne_true];refine wpAny_bind (wpAny_specialOf hl.typeIs PySem.F.slot_tuple_getitem.lookup ?_);exact wpAny_pure h
noncomputable def So(l:Addr)(i:Int):Obj:={cls:= .type "reversed",data:= .fields #[.ref l,rawInt i]}
def AY:TypeCalled "reversed" "reversed.__new__" "object.__init__":=⟨by decide+kernel,by decide+kernel,lG _ _ PySem.F.mro_reversed,madeBy_type PySem.F.mro_reversed PySem.F.lookup_reversed_new (by decide+kernel),by decide+kernel,by rw[isSubtype_type];kernel_rfl,uw⟩
def Ay(l:Addr)(items:Array Value):Meets (Builtin.«reversed.__new__» ⟨[.type "reversed",.ref l],[]⟩) (λ _ R s=>IsTup s.heap l items/\(items.size:Int)<2^63/\R (.ok (.ret (.ref s.heap.objs.size))) {s with heap:=s.heap.push (So l ((items.size:Int) - 1)),toks:=s.toks+1+1}):=λ prog w A R s ⟨hl,hf,h⟩=>by
 unfold Builtin.«reversed.__new__»;refine wpAny_bind (wpAny_of_eq (newClass_reversed _) ?_);try dsimp only
 refine wpAny_bind (wpAny_of_eq (a:=()) (by first|rfl|kernel_rfl) ?_);refine wpAny_bind (wpAny_of_eq (a:=()) (by first|rfl|kernel_rfl) ?_);try dsimp only
 refine wpAny_bind (wpAny_specialOf hl.typeIs Jm ?_);try dsimp only
 refine wpAny_bind (show wpAny _ _ (nZ (.ref l)) _ _ _ from uS hl ?_);rw[if_neg (by simp)];refine wpAny_bind (len_tuple hl hf ?_);try dsimp only
 refine wpAny_bind (m:=asInt? _) (wpAny_of_eq (a:=some (items.size:Int)) rfl ?_);try dsimp only
 unfold Builtin.SmallTypes.newRecord;refine wpAny_bind (wpAny_newObj_type ?_ (by size_fits));exact wpAny_pure h
def vh{l:Addr}{items:Array Value}{Q:Value->Shared->Prop}(hl:IsTup s.heap l items)(hf:(items.size:Int)<2^63) (h:Q (.ref s.heap.objs.size) {s with heap:=s.heap.push (So l ((items.size:Int) - 1)),toks:=s.toks+1+1}):wpAny (model prog w) A (call (.type "reversed") [.ref l]) Q E s:=callType_new AY (by decide) (PySem.F.typeCall_reversed_1 _) (PySem.F.newCall_reversed_1 _) (λ obj=>PySem.F.args_object_init_2 obj _) PySem.F.entry_reversed_new (Ay l items) (gz hl hf (af _ (Heap.get?_push_size _ rfl) rfl) h)
noncomputable def zN(h:Heap)(a l:Addr)(i:Int):Prop:=∃o,h.get? a=some o/\o.cls= .type "reversed"/\o.data= .fields #[.ref l,rawInt i]
def zN.typeIs{a l:Addr}{i:Int}(x:zN s.heap a l i):s.TypeIs (.ref a) "reversed":=let ⟨o,ho,hc,_⟩:=x;(af o ho hc)
def Jj{it l:Addr}{i:Nat}{items:Array Value}{x:Value}{Q:Option Value->Shared->Prop}(hit:zN s.heap it l (i:Int))(hl:IsTup s.heap l items)(hx:items[i]? =some x)(hf:(items.size:Int)<2^63) (hQ:∀h',zN h' it l ((i:Int) - 1)->Heap.SameBut it s.heap h'->Q (some x) {s with heap:=h',toks:=s.toks+1}):wpAny (model prog w) A (pyNext (.ref it)) Q E s:=by
 refine aD (λ o ho hc hd=>?_) (id hit);have hi:i<items.size:=(Array.getElem?_eq_some_iff.mp hx).1;unfold pyNext;refine wpAny_bind (wpAny_attempt (wpAny_callSpecial?_slot (name:=Str.ofString "__next__") hit.typeIs eg
  (wpAny_call_entry eg hit.typeIs kM ?_ (mF _))))
 unfold Builtin.«reversed.__next__»;refine wpAny_bind (wpAny_of_eq (a:=(Value.ref it,[])) rfl ?_);try dsimp only
 refine wpAny_bind (wpAny_field ho hd (x:= .ref l) rfl ?_);refine wpAny_bind (wpAny_field ho hd (x:=rawInt (i:Int)) rfl ?_);show wpAny _ _ (if (i:Int)<0 then _ else _) _ _ s;rw[if_neg (by omega)];refine wpAny_bind (wpAny_specialOf hl.typeIs PySem.F.slot_tuple_getitem.lookup ?_);rw[if_neg (by simp)];refine wpAny_bind (wpAny_mkInt ?_);refine wpAny_bind (wpAny_attempt (getItem_tuple (k:=(i:Int)) hl (by omega) (by omega) (seqIndex_of (by omega) (by omega)) (by simpa using hx) ?_));try dsimp only
 refine wpAny_bind (wpAny_field ho hd (x:=rawInt (i:Int)) rfl ?_);show wpAny _ _ (setField (.ref it) 1 (rawInt ((i:Int) - 1))>>=_) _ _ _;refine wpAny_bind (wpAny_setField ho hd (by simp) ?_);refine wpAny_pure (af x rfl (wpAny_pure (hQ _ ?_ (Heap.SameBut.update ..))));exact aX _ (Heap.get?_update_self _ ho (Obj.isFreed_of_fields (Obj.data_mapFields hd _))) ((Obj.cls_mapFields ..).trans hc) (by rw[Obj.data_mapFields hd];simp)
def NB{it l:Addr}{Q:Option Value->Shared->Prop}(hh:A.handled=none)(hit:zN s.heap it l (-1)) (hQ:∀h',Heap.ExtBut it s.heap h'->Q none {s with heap:=h'}):wpAny (model prog w) A (pyNext (.ref it)) Q E s:=by
 refine aD (λ o ho hc hd=>?_) (id hit);unfold pyNext;refine wpAny_bind (wpAny_attempt (wpAny_callSpecial?_slot (name:=Str.ofString "__next__") hit.typeIs eg
  (wpAny_call_entry eg hit.typeIs kM ?_ (mF _))))
 unfold Builtin.«reversed.__next__»;refine wpAny_bind (wpAny_of_eq (a:=(Value.ref it,[])) rfl ?_);try dsimp only
 refine wpAny_bind (wpAny_field ho hd (x:= .ref l) rfl ?_);refine wpAny_bind (wpAny_field ho hd (x:=rawInt (-1)) rfl ?_);show wpAny _ _ (if (-1:Int)<0 then _ else _) _ _ s;rw[if_pos (by decide)];refine wpAny_bind (wpAny_rule ?_);refine wpAny_bind (show wpAny _ _ (setField (.ref it) 1 (rawInt (-1))>>=λ _=>setField (.ref it) 0 .none) _ _ s from wpAny_bind (wpAny_setField ho hd (by simp) ?_));refine wpAny_setField (Heap.get?_update_self _ ho (Obj.isFreed_of_fields (Obj.data_mapFields hd _))) (Obj.data_mapFields hd _) (by simp) ?_;refine wpAny_bind ?_;show wpAny _ _ (newExc (.type "StopIteration") []>>=_) _ _ _;refine wpAny_bind ?_;simp only[newExc,newTuple];refine wpAny_bind (wpAny_newObj_type ?_ (by size_fits));refine wpAny_bind (m:=firstArgMember _ _) (wpAny_of_eq (a:=Value.none) (by first|rfl|(simp only[firstArgMember];rfl)) ?_);refine wpAny_newObj_type ?_ (by size_fits);simp only[raiseNew];refine wpAny_bind (wpAny_handled ?_);first|rw[show A.in1.handled=none from hh]|rw[hh]
 refine wpAny_bind (wpAny_pure (wpAny_throw ?_));refine wpAny_bind (wpAny_isInstance (T:="StopIteration") (b:=true) (af _ (Heap.get?_push_size _ rfl) rfl) isSubtype_stop ?_);exact wpAny_pure (hQ _ (((((Heap.SameBut.update ..).trans (Heap.SameBut.update ..)).extBut).push _).push _))
def BC{it l:Addr}{i:Int}{Q:Value->Shared->Prop}(hit:zN s.heap it l i)(h:Q (.ref it) s):wpAny (model prog w) A (pyIter (.ref it)) Q E s:=by refine wpAny_pyIter_slot hit.typeIs mE (wpAny_call_entry mE hit.typeIs rV ?_ (uz _));show wpAny _ _ (ret (.ref it)) _ _ s;exact wpAny_pure (af _ rfl (ao ("reversed") _ hit.typeIs eg.lookup h))
end
def Va(q:Hp->List V->Prop)(N:Nat):It:=⟨λ i H=>∃xs x,q H xs/\xs.length=N/\i<N/\xs[N- 1- i]? =some x,λ i H x H'=>H'=H/\∀xs,q H xs->xs[N- 1- i]? =some x,λ i H=>∃xs,q H xs/\xs.length=N/\N<=i⟩
def Ds{P:Program}{w:World}{K:W.Frag}{tg:Expr}(a it:Addr)(N:Nat):Turn P w K tg (Va (rQ K · a) N) [it] it (λ i h=>zN h it a ((N:Int) - 1-(i:Nat))/\i<=N) where
 mem:=by simp
 obj:=λ i h st b hb=>by
  have e:b=it:=by simpa using hb
  subst e
  obtain ⟨⟨o,e,c,d⟩,_⟩:=st
  exact af o e (λ v z=>by rw[d] at z;cases z)
 keep:=λ i h h' st k=>by
  obtain ⟨⟨o,e,c,d⟩,r⟩:=st
  exact ⟨aX o (k it (by simp) o e) c d,r⟩
 item:=by
  intro X hP hw hK hc i pins s σ H E I hf st hg
  subst hP hw hK
  obtain ⟨st,hi⟩:=st
  revert hg;refine aN λ xs x hq hN hi hx=>?_
  refine aD (λ its rv p hz=>?_) (I.tuple hq)
  refine ah (λ u hu ru=>?_) (rv.get hx)
  refine eO (λ f0 f1 f2 f3 f4 f5=>?_) (hf it (by simp))
  rw[show (N:Int) - 1-(i:Nat)=((N- 1- i:Nat):Int) by omega] at st
  have hl:=rv.length
  refine Jj st p (x:=u) (by simpa using hu) (by simp[sizeLine] at hz ⊢;omega) λ h' st' sb=>?_
  rw[show ((N- 1- i:Nat):Int) - 1=(N:Int) - 1-((i+1:Nat):Int) by omega] at st'
  have I1:Inv X pins σ H {s with heap:=h',toks:=s.toks+1}:=I.turned (t':=s.toks+1) (λ b o hb e=>(sb.2 b hb).trans e) f0 f1 f3 f4 f5
  refine aD (λ o e c d=>?_) (id st')
  exact af u rfl (yX (s:={s with heap:=h',toks:=s.toks+1}) e c d (by decide) (bG x H I1 ru ⟨rfl,λ ys hy=>by rw[I.sN hy hq];exact hx⟩ ⟨st',hi⟩ (λ b hb=>(hf b hb).1)))
 done:=by
  intro X hP hw hK hc i pins s σ H E I hf st hg
  subst hP hw hK
  obtain ⟨st,hi⟩:=st
  revert hg;refine aD λ xs hq hN hx=>?_
  refine eO (λ f0 f1 f2 f3 f4 f5=>?_) (hf it (by simp))
  rw[show (N:Int) - 1-(i:Nat)= -1 by omega] at st
  exact NB (I.ok.hd hc) st λ h' eb=>⟨rfl,I.turned (t':=s.toks) (λ b o hb e=>eb b o hb e) f0 f1 f3 f4 f5⟩
 self:=λ _ _ _ _ _ st h=>BC st.1 h
def Dt{P:Program}{w:World}{K:W.Frag}{tg:Expr}(a it:Addr)(N:Nat):Turn P w K tg (Va (fV K · a) N) [it] it (λ i h=>h.IsRevIter it a ((N:Int) - 1-(i:Nat))/\i<=N) where
 mem:=by simp
 obj:=λ i h st b hb=>by
  have e:b=it:=by simpa using hb
  subst e
  obtain ⟨⟨o,e,c,d⟩,_⟩:=st
  exact af o e (λ v z=>by rw[d] at z;cases z)
 keep:=λ i h h' st k=>⟨st.1.at λ o e=>k it (by simp) o e,st.2⟩
 item:=by
  intro X hP hw hK hc i pins s σ H E I hf st hg
  subst hP hw hK
  obtain ⟨st,hi⟩:=st
  revert hg;refine aN λ xs x hq hN hi hx=>?_
  refine aD (λ its rv p hz=>?_) (I.list hq)
  refine ah (λ u hu ru=>?_) (rv.get hx)
  refine eO (λ f0 f1 f2 f3 f4 f5=>?_) (hf it (by simp))
  rw[show (N:Int) - 1-(i:Nat)=((N- 1- i:Nat):Int) by omega] at st
  refine wpAny_pyNext_rev_item st p.isList (x:=u) (by simpa using hu) λ h' st' sb=>?_
  rw[show ((N- 1- i:Nat):Int) - 1=(N:Int) - 1-((i+1:Nat):Int) by omega] at st'
  have I1:Inv X pins σ H {s with heap:=h'}:=I.turned (t':=s.toks) (λ b o hb e=>(sb.2 b hb).trans e) f0 f1 f3 f4 f5
  refine aD (λ o e c d=>?_) (id st')
  exact af u rfl (yX (s:={s with heap:=h'}) e c d (by decide) (bG x H I1 ru ⟨rfl,λ ys hy=>by rw[I.jE hy hq];exact hx⟩ ⟨st',hi⟩ (λ b hb=>(hf b hb).1)))
 done:=by
  intro X hP hw hK hc i pins s σ H E I hf st hg
  subst hP hw hK
  obtain ⟨st,hi⟩:=st
  revert hg;refine aD λ xs hq hN hx=>?_
  refine eO (λ f0 f1 f2 f3 f4 f5=>?_) (hf it (by simp))
  rw[show (N:Int) - 1-(i:Nat)= -1 by omega] at st
  exact wpAny_pyNext_rev_end (I.ok.hd hc) st λ h' eb=>⟨rfl,I.turned (t':=s.toks) (λ b o hb e=>eb b o hb e) f0 f1 f3 f4 f5⟩
 self:=λ _ _ _ _ _ st h=>wpAny_pyIter_revIter st.1 h
section
variable{X:Cx}{ct:Ct}{tg:Expr}
def B7{K:W.Frag}{H:Hp}{q:Hp->List V->Prop}{vs:List V}{xs:List D}(hk:∀H1,aV ct.f.cb H H1->q H1 vs)(t:aK K ct H xs vs):xN K ct (Va q xs.length) xs.reverse H:=by
 have hl:=t.length;refine bY (λ H1=>aV ct.f.cb H H1) (aV.refl H) (λ H1 H2 k1 k2 _ _=>k1.trans k2) (λ i d H1 k1 hd=>?_) (λ i H1 k1 hi=>aX vs (hk H1 k1) hl.symm (by simpa using hi));have hi:i<xs.length:=by have:=(List.getElem?_eq_some_iff.mp hd).1;simpa using this
 rw[List.getElem?_reverse hi] at hd;refine ah (λ v hv tv=>?_) (t.get hd);refine ⟨bg vs v (hk H1 k1) hl.symm hi hv,λ x H2 ⟨e,y⟩=>⟨by rw[e];exact az.refl _,?_⟩⟩;subst e;have:=y vs (hk _ k1);rw[hv] at this;cases this;exact tv.keep k1
def XS(K:W.Frag)(ta:TA):TI:=λ σ H R=>ta σ H λ vs H'=>∃l xs,vs=[.ref l]/\((rQ K H' l xs/\R (Va (rQ K · l) xs.length) H')\/(fV K H' l xs/\R (Va (fV K · l) xs.length) H'))
def boot_reversed:bootBuiltins "reversed"=some (.type "reversed"):=by decide+kernel
def NX{a:Expr}{ta:TA}{p pos:Pos}(hg:Gl X "reversed")(hm:X.mg "reversed"=none)(ha:PA X [a] ta)(hs:starEach [a] X.env=[(false,eval a X.env)]:=by rfl):PI X tg (.Call (.Name "reversed" p) [a] [] pos) (XS X.K ta):=by
 intro pins s σ H R I h;refine Call_ (iY I hg hm boot_reversed (PyProof.Rows.callWith_type1 (dN (ha pos pins s σ H _ I h) λ us s1 z_=>vf z_ λ vs H1 I1 r1 q1=>?_) hs rfl))
 revert q1;refine aQ λ l xs e q=>?_
 subst e;cases r1 with
 |cons r rr=>
  cases rr;cases r;rcases q with ⟨hq,q⟩|⟨hq,q⟩
  ·refine aD (λ its rv p hz=>?_) (I1.tuple hq);have hl:=rv.length;refine vh (l:=l) p (by simp[sizeLine] at hz ⊢;omega) ?_;have k:∀b o,s1.heap.get? b=some o->(s1.heap.push (So l ((its.toArray.size:Int) - 1))).get? b=some o:=λ b o x=>Heap.get?_push_of_some _ x;have hr:zN (s1.heap.push (So l ((its.toArray.size:Int) - 1))) s1.heap.objs.size l ((xs.length:Int) - 1-(0:Nat)):=aX _ (Heap.get?_push_size _ rfl) rfl (by simp[So,hl]);refine BC hr ?_;refine jx s1.heap.objs.size [s1.heap.objs.size] _ _ H1 rfl (I1.kept (t':=s1.toks+1+1) k) (Ds l _ xs.length) ⟨hr,Nat.zero_le _⟩ (λ b hb=>?_) q;have e:b=s1.heap.objs.size:=by simpa using hb
   subst e;exact I1.n5 (Nat.le_refl _) (I1.hok.fresh (Nat.le_refl _))
  ·refine aD (λ its rv p hz=>?_) (I1.list hq);have hl:=rv.length;refine call_reversed_list (l:=l) p.isList ?_;have k:∀b o,s1.heap.get? b=some o->(s1.heap.push (revObj l ((its.toArray.size:Int) - 1))).get? b=some o:=λ b o x=>Heap.get?_push_of_some _ x;have hr:(s1.heap.push (revObj l ((its.toArray.size:Int) - 1))).IsRevIter s1.heap.objs.size l ((xs.length:Int) - 1-(0:Nat)):=aX _ (Heap.get?_push_size _ rfl) rfl (by simp[revObj,hl]);refine wpAny_pyIter_revIter hr ?_;refine jx s1.heap.objs.size [s1.heap.objs.size] _ _ H1 rfl (I1.kept (t':=s1.toks) k) (Dt l _ xs.length) ⟨hr,Nat.zero_le _⟩ (λ b hb=>?_) q;have e:b=s1.heap.objs.size:=by simpa using hb
   subst e;exact I1.n5 (Nat.le_refl _) (I1.hok.fresh (Nat.le_refl _))
def IP{a:Expr}{r:Sg->Res (List D)}{p pos':Pos}(hm:X.mg "reversed"=none)(ha:pN X ct [a] r)(AJ:Gl X "reversed":=by rfl)(hs:starEach [a] X.env=[(false,eval a X.env)]:=by rfl):Ib X ct tg (.Call (.Name "reversed" p) [a] [] pos') (Kv r):=by
 have ha:=ha.out;refine ⟨?_⟩;refine λ pins s σ H R I=>ah λ Γ j h=>?_;refine NX AJ hm ha hs pins s σ H R I (af Γ j (h.bnd λ ds _ q vs H' s tl=>?_));rcases ds with _|⟨d,_|⟨d2,r2⟩⟩
 ·exact q.elim
 ·refine ah (λ v z t1=>?_) (nK tl);subst z;cases d with
  |lst xs=>
   replace q:∀J H',az H H'->xN X.K ct J xs.reverse H'->R J H':=q;simp only[Tl] at t1
   revert t1;refine ak λ b us z hb t2=>?_;subst z
   refine aM b us rfl (.inr ⟨hb.sq,?_⟩);rw[<-t2.length];exact q _ H' s (B7 (λ H1 k=>(k.Hg hb).sq) t2)
  |tup xs=>
   replace q:∀J H',az H H'->xN X.K ct J xs.reverse H'->R J H':=q;simp only[Tl] at t1
   revert t1;refine ak λ b us z hb t2=>?_;subst z
   refine aM b us rfl (.inl ⟨kG hb,?_⟩);rw[<-t2.length];exact q _ H' s (B7 (λ H1 k=>k.Vo (kG hb)) t2)
  |_=>exact q.elim
 ·exact q.elim
end
section
variable{X:Cx}{ct:Ct}{a b:Expr}{f g:Sg->Res D}{pos:Pos}
end
structure Wj(X:Cx)(scope:Scope)(cl:List (Str×Addr))(k:Nat)(caps:List Nat)(N':List Str):Prop where
 clos:jl X.env.cells scope.names []=some cl
 kind:scope.kind= .function
 names:∀y∈scope.names,y.2= .local->scope.names.lookup y.1=some .local
 len:N'.length=k+caps.length
 cap:∀(i c:Nat) (y:Str),caps[i]? =some c->N'[k+i]? =some y->X.N[c]? =some y/\Ic X.env.scope y/\X.env.kindOf y≠some .local/\(y,NameKind.free)∈scope.names
section
variable{X:Cx}{ct:Ct}{elt iter tg:Expr}{ifs:List Expr}{scope:Scope}{cl:List (Str×Addr)}{pos:Pos}{k:Nat}{caps:List Nat}{N':List Str}{fi:Sg->Res (List D)}{t:Tg}{p:Sg->Res Bool}{fe:Sg->Res M}{fd:Sg->Res D}{tm:Bool}
end
section
variable{X:Cx}{c:Cf}{pos:Pos}
end
section
variable{X:Cx}{ct:Ct}{a b:Expr}{f g:Sg->Res D}{pos:Pos}
end
section
variable{prog:Program}{w:World}{A:Around}{E:Value->Shared->Prop}{s:Shared}
end
section
variable{X:Cx}{ct:Ct}
end
section
variable{X:Cx}{c:Cf}{pos:Pos}
end
end L4
end
section
namespace L4
open PySem PySem.Spec PyProof PyProof.Rows L2
section
variable{X:Cx}{ct:Ct}{e:Expr}{p pos:Pos}
end
section
variable{X:Cx}{ct:Ct}{a b:Expr}{f g:Sg->Res D}{pos:Pos}
end
section
variable{X:Cx}{c:Cf}{pos:Pos}{e:Expr}{f:Sg->Res M}
end
section
variable{X:Cx}{cf:Cf}{body suite:List Stmt}{b₀:Stmt}{F G:Sg->Out}{t:Str}{hit:String->Option Bool}{T:Value}{np hpos pos:Pos}
end
section
variable{X:Cx}{c:Cf}{pos:Pos}{ce e:Expr}{p:Sg->Res Bool}{f:Sg->Res D}
structure FAs(X:Cx)(c:Cf)(k i:Nat)(xs:List D)(a:Addr)(vs:List V)(H:Hp)(B:Sg->Out)(R:Out)(m:Nat)(Γ1:Sg)(σ1:St)(H1:Hp):Prop where
 j:Jx X c.z Γ1 σ1 H1
 q0:Γ1[i]? =some (.own (.l xs))
 q1:σ1[i]? =some (some (.ref a))
 qk:k<Γ1.length
 qa:H1 a=some (.lst vs)
 kp:aV c.cb H H1
 qf:cS (aG k) B (xs.drop m) Γ1=R
end
end L4
end
section
namespace L4
open PySem PySem.Spec PyProof.Rows L2 PySem.W
section
variable{X:Cx}{ct:Ct}{e:Expr}{es:List Expr}{fa:Sg->Res (List D)}{p pos:Pos}
def Nq(k:D->D->Option Bool):List D->Res (List D)
 |[x]=>match rC x with
  |some []=> .ok []
  |some [a]=> .ok [a]
  |some [a,b]=>(match k a b with
   |some true=> .ok [b,a]
   |some false=> .ok [a,b]
   |none=> .bad)
  |_=> .bad
 |_=> .bad
def QK:Nr=Nq λ a b=>Zu b a:=rfl
end
end L4
end
section
namespace L4
open PySem
noncomputable abbrev Lt:=List (List Int×Rat)
def Ge(r:Rat):Int×Int:=(r.num,(r.den:Int))
def pI(t:Int)(b:Nat)(h:b≠0):(xH t b,xK t b)=Ge (Rat.normalize t b h):=by
 have e:xJ (b:Int) (Int.gcd t b)=(Int.gcd t b:Int):=by unfold xJ;rw[if_neg (by omega)]
 have g:Int.gcd t (b:Int)=Nat.gcd t.natAbs b:=rfl;rw[Rat.normalize_eq];unfold xH xK Ge;rw[e,g,Int.fdiv_eq_ediv_of_nonneg _ (by omega),Int.fdiv_eq_ediv_of_nonneg _ (by omega)];rfl
def PZ(r s:Rat):(xH (r.num*s.den+s.num*r.den) ((r.den:Int)*s.den),xK (r.num*s.den+s.num*r.den) ((r.den:Int)*s.den))=Ge (r+s):=by have:=pI (r.num*s.den+s.num*r.den) (r.den*s.den) (Nat.mul_ne_zero r.den_nz s.den_nz);rw[Rat.add_def, <-this];simp
def OF(r s:Rat):(xH (r.num*s.num) ((r.den:Int)*s.den),xK (r.num*s.num) ((r.den:Int)*s.den))=Ge (r*s):=by have:=pI (r.num*s.num) (r.den*s.den) (Nat.mul_ne_zero r.den_nz s.den_nz);rw[Rat.mul_def, <-this];simp
structure Sz(c k:Nat)(r:Rat):Prop where
 nn:0<=r.num
 top:r.num.natAbs<2^(8*k+c)
 bot:r.den<2^(7*k)
def BQ{r s:Rat}(h:Ge r=Ge s):r=s:=Rat.ext (congrArg Prod.fst h) (Int.ofNat.inj (congrArg Prod.snd h))
end L4
end
section
namespace L4
open PySem PySem.W PyProof.Rows
noncomputable def Q4{α:Type}(lt:Nat->Nat->Bool):KasT α->α
 | .ret a=>a
 | .ask i j k=>Q4 lt (k (lt i j))
def VM(ks:List Int)(i j:Nat):Bool:=decide (ks.getD i 0<ks.getD j 0)
def tF(ks:List Int):List Nat:=if ks.length<2 then List.range ks.length else (Q4 (VM ks) (kas_sort ks.length)).toList
def mT{α:Type}(n:Nat):KasT α->(α->Prop)->Prop
 | .ret a,Q=>Q a
 | .ask i j k,Q=>i<n/\j<n/\∀b,mT n (k b) Q
theorem B0{α:Type}{n:Nat}{lt:Nat->Nat->Bool}{cmp:Nat->Nat->(Bool->Shared->Prop)->Shared->Prop}{s:Shared}{Q:α->Shared->Prop}{R:α->Prop}(hc:∀i j C,i<n->j<n->C (lt i j) s->cmp i j C s):
  ∀{t:KasT α},mT n t R->Q (Q4 lt t) s->t.kasWp cmp Q s
 | .ret _,_,h=>h
 | .ask i j k,l,h=>hc i j _ l.1 l.2.1 (B0 hc (l.2.2 _) h)
theorem yQ{α:Type}{n:Nat}{lt:Nat->Nat->Bool}{Q:α->Prop}:∀{t:KasT α},mT n t Q->Q (Q4 lt t)
 | .ret _,h=>h
 | .ask i j k,h=>yQ (t:=k (lt i j)) (h.2.2 _)
theorem gn{α β:Type}{n:Nat}{f:α->KasT β}{Q:β->Prop}{R:α->Prop}(hf:∀a,R a->mT n (f a) Q):∀{t:KasT α},mT n t R->mT n (t.bind f) Q
 | .ret _,h=>hf _ h
 | .ask _ _ _,h=>⟨h.1,h.2.1,λ b=>gn hf (h.2.2 b)⟩
structure xy(n:Nat)(p:Array Nat):Prop where
 pm:p.toList.Perm (List.range n)
 n1:1<=n
def xy.low{n:Nat}{p:Array Nat}(h:xy n p)(k:Nat):p.getD k 0<n:=by
 by_cases hk:k<p.size
 ·have e:p.getD k 0=p[k]:=by simp[Array.getD,hk]
  rw[e];have:p[k]∈p.toList:=by simp
  have:=h.pm.mem_iff.mp this;simpa using this
 ·have e:p.getD k 0=0:=by simp[Array.getD,hk]
  rw[e];exact h.n1
def qe{n:Nat}{p:Array Nat}(h:xy n p)(i j:Nat):xy n (kas_rev p i j):=⟨(Array.perm_iff_toList_perm.mp (mirror_perm p i j ((j- i)/ 2))).trans h.pm,h.n1⟩
def NU{n:Nat}{p:Array Nat}(h:xy n p)(k d:Nat):xy n (bubble p k d):=⟨(Array.perm_iff_toList_perm.mp (bubble_perm p k d)).trans h.pm,h.n1⟩
theorem Aq{n:Nat}{p:Array Nat}(h:xy n p):∀(f m:Nat),mT n (kas_asc p f m) λ _=>True
 |0,m=>trivial
 |f+1,m=>⟨h.low _,h.low _,λ c=>by
  cases c with
  |true=>exact trivial
  |false=>exact Aq h f _⟩
theorem pH{l:Nat}:∀(f:Nat) {p:Array Nat} (n q:Nat),xy l p->mT l (kas_desc f p n q) λ r=>xy l r.1
 |0,p,n,q,h=>h
 |f+1,p,n,q,h=>⟨h.low _,h.low _,λ c=>by
  cases c with
  |true=>
   simp only[if_true];split
   ·exact pH f _ _ (qe h _ _)
   ·exact pH f _ _ h
  |false=>
   simp only[Bool.false_eq_true,if_false];refine ⟨h.low _,h.low _,λ d=>?_⟩;cases d with
   |true=>exact h
   |false=>exact pH f _ _ h⟩
def BI{l:Nat}{p:Array Nat}(n m:Nat)(h:xy l p):mT l (kas_tail3 n m p) λ r=>xy l r.2:=by unfold kas_tail3;refine gn (R:=λ _=>True) (f:=λ k=> .ret (k,kas_rev p 0 n)) (λ k _=>?_) (Aq (qe h _ _) _ _);exact qe h _ _
def yq{l:Nat}{p:Array Nat}(n m:Nat)(h:xy l p):mT l (kas_descPart n m p) λ r=>xy l r.2:=by
 refine gn (λ a ha=>?_) (pH _ _ _ h);split
 ·exact BI _ _ (qe ha _ _)
 ·exact BI _ _ ha
def Fw{l:Nat}{p:Array Nat}(n:Nat)(h:xy l p):mT l (kas_count n p) λ r=>xy l r.2:=by
 refine gn (λ k _=>?_) (Aq h _ _);split
 ·exact h
 ·split
  ·refine ⟨h.low _,h.low _,λ c=>?_⟩;cases c with
   |true=>exact h
   |false=>exact yq _ _ (qe h _ _)
  ·exact yq _ _ h
theorem qg{n:Nat}{p:Array Nat}(h:xy n p)(k:Nat):∀(f l r:Nat),mT n (kas_place p k f l r) λ _=>True
 |0,l,r=>trivial
 |f+1,l,r=>by
  unfold kas_place;split
  ·exact trivial
  ·refine ⟨h.low _,h.low _,λ c=>?_⟩;cases c with
   |true=>exact qg h k f _ _
   |false=>exact qg h k f _ _
theorem FG{l:Nat}:∀(f:Nat) {p:Array Nat} (k:Nat),xy l p->mT l (kas_bin f p k) (xy l)
 |0,p,k,h=>h
 |f+1,p,k,h=>gn (λ _ _=>FG f _ (NU h _ _)) (qg h _ _ _ _)
def BJ{n:Nat}(h:1<=n):mT n (kas_sort n) (xy n):=by
 refine gn (λ a ha=>?_) (Fw n ⟨by simp,h⟩);split
 ·exact FG _ _ ha
 ·exact ha
def jH(ks:List Int):(tF ks).Perm (List.range ks.length):=by
 unfold tF;split
 ·exact .refl _
 ·exact (yQ (BJ (by omega))).pm
noncomputable def ez(fk:D->Res D):List D->Option (List Int)
 |[]=>some []
 |x::xs=>match fk x with
  | .ok (.int i)=>(ez fk xs).map λ ks=>i::ks
  |_=>none
def lO(d:D)(caps:List Nat)(Γ:Sg):Sg:= .val d::caps.map λ j=>(match (Γ[j]? :Option Slot) with
 |some (Slot.val d)=>Slot.val d
 |_=>Slot.no)
def pF(g:D->Res D):List D->Res (List D)
 |[d]=>(match rC d with
  |some xs=>if xs.length<64 then (match ez g xs with
   |some ks=> .ok ((tF ks).map λ i=>xs.getD i .eU)
   |none=> .bad) else .bad
  |none=> .bad)
 |_=> .bad
def nX(fa:Sg->Res (List D))(caps:List Nat)(fk:Sg->Res D):Sg->Res (List D):=λ Γ=>(fa Γ).bnd (pF λ x=>fk (lO x caps Γ))
noncomputable def gA:List Int->Nat
 |[]=>0
 |k::ks=>go 0 k 1 ks
where go (b:Nat) (kb:Int) (i:Nat):List Int->Nat
 |[]=>b
 |k::ks=>if k<kb then go i k (i+1) ks else go b kb (i+1) ks
def BU(g:D->Res D):List D->Res D
 |[d]=>(match rC d with
  |some xs=>(match xs with
   |[]=> .bad
   |_::_=>(match ez g xs with
    |some ks=>(match xs[gA ks]? with
     |some d=> .ok d
     |none=> .bad)
    |none=> .bad))
  |none=> .bad)
 |_=> .bad
def zu(fa:Sg->Res (List D))(caps:List Nat)(fk:Sg->Res D):Sg->Res D:=λ Γ=>(fa Γ).bnd (BU λ x=>fk (lO x caps Γ))
end L4
end
section
namespace L4
open PySem
def Nz(i:Nat)(F:Sg->Out):Sg->Out:=λ Γ=>match (Γ[i]? :Option Slot) with
 |some (.own (.l ds))=>F (Γ.set i (.val (.lst ds)))
 |_=> .bad
def rX(x y:D):Res (List D):=match rC x,y with
 |some [d],.int n=>if 0<=n/\n<=100000 then .ok (List.replicate n.toNat d) else .bad
 |_,_=> .bad
def gD:List D->Option (List Int)
 |[]=>some []
 | .int i::r=>(gD r).map λ z=>i::z
 |_=>none
noncomputable def PU(zs:List Int):D->Res D
 | .int k=> .ok (.int (zs.count k:Nat))
 |_=> .bad
def sy(f g:Sg->Res D):Sg->Res D:=λ Γ=>(f Γ).bnd λ x=>match (rC x).bind gD with
 |some zs=>(g Γ).bnd (PU zs)
 |none=> .bad
def Dv:List D->Res D
 |[d]=>(match (rC d).bind gD with
  |some zs=>if (zs.all λ z=>decide (0<=z/\z<=1000000000000))&&decide (zs.length<=100000) then .ok (.int zs.sum) else .bad
  |none=> .bad)
 |_=> .bad
noncomputable def Vi:List D->Res (List D)
 |[.lst xs,.lst ys]=> .ok ((xs.zip ys).map λ p=> .tup [p.1,p.2])
 |_=> .bad
def Ku(r:Sg->Res (List D)):Sg->Res (List D):=λ Γ=>(r Γ).bnd Vi
def AU:List D->Res (List D)
 |[.lst xs]=> .ok (eB 0 xs)
 |_=> .bad
def qO(r:Sg->Res (List D)):Sg->Res (List D):=λ Γ=>(r Γ).bnd AU
def Fb:D->D->Res D:=intD (λ _ j=>decide (0<=j)) λ i j=> .int (i.fdiv (2^j.toNat))
def pl:D->Bool
 | .int _=>true
 | .tup ds=>(gD ds).isSome
 |_=>false
def yj(i:Nat)(g:Sg->Res (List Nat))(fk f:Sg->Res D):Sg->Out:=λ Γ=>match (Γ[i]? :Option Slot) with
 |some (.own (.k (.s ks) xs))=>(match f (Γ.set i (.val (.lS (.s ks) xs))) with
  | .ok d=>if pl d=true then Fe i g fk (λ _=> .ok d) Γ else .bad
  |_=> .bad)
 |_=> .bad
end L4
end
section
namespace L4
open PySem PySem.Spec PyProof.Rows L2
def Rn(X:Cx)(q:Str)(scope:Scope)(f c':Addr)(cl:List (Str×Addr))(A:Around)(s:Shared)(H:Hp)(N':List Str):Cx where
 prog:=X.prog
 w:=X.w
 K:=X.K
 mg:=X.mg
 base:=X.base
 A:=A.deeper (W.envX q scope s.heap.objs.size f (.ref c') cl)
 N:=N'
 s₀:=s
 H₀:=H
 env:=W.envX q scope s.heap.objs.size f (.ref c') cl
 outer:=X.stack
 stack:=W.envX q scope s.heap.objs.size f (.ref c') cl::X.stack
 ex:=[]
 fn:=λ _=>false
 calm:=true
 pn:=[]
 xe:=λ _ _=>False
structure jO(X:Cx)(N':List Str)(p:Str)(caps:List Nat)(sc:Scope):Prop where
 kind:sc.kind= .function
 co:sc.isCoroutine=false
 gen:sc.isGenerator=false
 len:N'.length=1+caps.length
 fst:N'[0]? =some p
 par:sc.names.lookup p=some .local
 Gm:∀y∈sc.names,y.2≠.cell
 see:∀(i j:Nat) (x:Str),caps[i]? =some j->N'[i+1]? =some x->X.N[j]? =some x/\sc.names.lookup x=some .free/\(X.env.kindOf x=some .cell\/X.env.kindOf x=some .free)
def yP(v:V)(caps:List Nat)(σ:St):St:=some v::caps.map λ j=>(σ[j]?).join
section
variable{X:Cx}{pins:List (Addr×Obj)}{σ:St}{H:Hp}{s:Shared}{q:Str}{scope:Scope}{f c':Addr}{cl:List (Str×Addr)}{A:Around}{N':List Str}{p:Str}{caps:List Nat}{v:V}{u:Value}{h₁:Heap}{tk:Nat}
def Kn(I:Inv X pins σ H s)(S:jO X N' p caps scope)(hcl:jl X.env.cells scope.names []=some cl)(hA:A.handled=none)(hfr:A.frames=some X.stack)(r:RelV v u) (hns:h₁.Ns s.heap.objs.size (λ y=>[(p,u)].reverse.lookup y)) (hk:∀b o,s.heap.get? b=some o->h₁.get? b=some o):
  Inv (Rn X q scope f c' cl A s H N') [] (yP v caps σ) H {s with heap:=h₁,toks:=tk}:=by
 have sub:∀y c,cl.lookup y=some c->X.env.cells.lookup y=some c:=zA hcl λ y c z=>nomatch z;have JX:∀b:Addr,b∉(Rn X q scope f c' cl A s H N').ex:=λ b z=>absurd (show b∈([]:List Addr) from z) (by simp);have ck:∀{c:Addr} {o:Option Value},s.heap.IsCell c o->h₁.IsCell c o:=λ⟨ob,e,d⟩=>⟨ob,hk _ _ e,d⟩;refine ⟨⟨I.ok.mod,S.kind,rfl,rfl,Nat.le_refl _,λ y z c h1 h2=>I.ok.inj y z c (sub y c h1) (sub z c h2),λ y hy=>?_,λ y c z=>(nomatch z),λ _=>hA,Around.frames_deeper hfr,.inr ⟨rfl,rfl⟩,λ b z=>absurd z (JX b),I.bs,Nat.le_trans I.ok.Ma I.sz,λ b _ _=>JX b,λ b z=>absurd z (JX b),I.stack,I.mz⟩,
  rfl,I.bare,Un.kept hk,⟨_,hns,λ i y v' h1 h2 h3=>?_⟩,λ y c h=>?_,I.hok.fresh (Nat.le_refl _),λ y c h=>I.dX y c (sub y c h),λ p hp=>absurd (show p∈([]:List (Addr×Obj)) from hp) (by simp),I.hok.kept hk,?_⟩
 ·have hy:scope.names.lookup y=some .cell\/scope.names.lookup y=some .free:=hy;rcases hy with hy|hy
  ·exact absurd rfl (S.Gm _ (PySem.mem_of_lookup hy))
  ·exact Option.isSome_iff_exists.mp (m5 hcl y (PySem.mem_of_lookup hy))
 ·have h1:N'[i]? =some y:=h1;cases i with
  |zero=>rw[S.fst] at h1;cases h1;cases h2;exact ⟨u,r,.inl ⟨S.par,by simp⟩⟩
  |succ i=>
   simp only[yP,List.getElem?_cons_succ,List.getElem?_map] at h2;cases hj:caps[i]? with
   |none=>rw[hj] at h2;cases h2
   |some j=>
    rw[hj] at h2;simp only[Option.map_some,Option.some.injEq] at h2;have D9:σ[j]? =some (some v'):=by
     cases w:σ[j]? with
     |none=>rw[w] at h2;cases h2
     |some o=>rw[w] at h2;exact congrArg some (show o=some v' from h2)
    obtain ⟨e1,e2,e3⟩:=S.see i j y hj h1;obtain ⟨m,_,hl⟩:=I.loc;obtain ⟨u',r',lk⟩:=hl j y v' e1 D9 (by rcases e3 with z|z<;>first|exact .inr (.inl z)|exact .inr (.inr z));refine ⟨u',r',.inr ⟨.inr e2,?_⟩⟩;rcases lk with ⟨k,_⟩|⟨_,c,ec,z⟩
    ·rcases e3 with w|w<;> · rw[w] at k;cases k
    ·obtain ⟨c2,hc2⟩:=Option.isSome_iff_exists.mp (m5 hcl y (PySem.mem_of_lookup e2));have:=sub y c2 hc2;rw[ec] at this;cases this;exact ⟨c,hc2,ck z⟩
 ·obtain ⟨w,z⟩:=I.cell y c (sub y c h);exact ⟨w,ck z⟩
 ·show (yP v caps σ).length=N'.length;rw[S.len];simp[yP];omega
abbrev gB(q:Str)(params:Arguments)(body:Expr)(scope:Scope)(cl:List (Str×Addr))(pm:Value)(c':Addr)(ctv:Value):Obj:=W.kla_obj "<lambda>" q params body scope cl pm c' ctv
noncomputable def qJ(f:Addr)(o:Obj):HO:= .ext λ h=>h.get? f=some o
def GR{P:Program}{w:World}{H:Hp}{h:Heap}{f:Addr}{o:Obj}(e:h.get? f=some o):bQ P w H h f (qJ f o):=⟨e,⟨o,e⟩,λ h1 h2 e1 k=>k o e1⟩
def Jk{params:Arguments}{body:Expr}{pm ctv:Value}{Q:VK}{t:TE}(I:Inv X pins σ H s)(S:jO X N' p caps scope)(hcl:jl X.env.cells scope.names []=some cl)(hA:A.handled=none)(hfr:A.frames=some X.stack)(hroom:A.depth<recursionLimit)(r:RelV v u) (hf:H f=some (qJ f (gB q params body scope cl pm c' ctv))) (hcd:s.heap.CodeRec (.ref c') q) (hbind:bindArgs (W.kla_fn "<lambda>" q params body scope cl pm (.ref c') ctv) ⟨[u],[]⟩=pure [(p,u)]) (hb:PE (Rn X q scope f c' cl A s H N') body t) (h:t (yP v caps σ) H Q):wpAny (model X.prog X.w) A (call (.ref f) [u]) (EP X pins σ Q) (λ _ _=>False) s:=by
 obtain ⟨ho,_⟩:=I.hok f _ hf;have ho:s.heap.get? f=some (gB q params body scope cl pm c' ctv):=ho;refine wpAny_call (codeAny_mono (R:=λ r s'=>match r with| .ok (.ret u)=>CE X.stack X.prog X.w H s Q u s'|_=>False) (W.kla_callFunE hroom ho rfl S.co S.gen rfl hcd ?_) λ r s' hq=>?_)
 ·rw[hbind];refine wpAny_pure (wpAny_newFunctionEnv S.Gm (λ y hy=>?_) (λ h₁ hns Q8=>⟨I.nolimit.fresh _ Q8,?_⟩) S.kind)
  ·rw[List.mem_singleton.mp hy];exact S.par
  ·have hk₁:∀b o,s.heap.get? b=some o->h₁.get? b=some o:=λ b o e=>Q8.extBut b o (Nat.ne_of_lt (Heap.lt_size e)) (Heap.get?_push_of_some _ e);show codeAny _ _ (.expr body (W.envX q scope s.heap.objs.size f (.ref c') cl)) _ _;refine W.kla_codeExpr (wpAny_mono (hb [] _ _ H Q (Kn (q:=q) (f:=f) (c':=c') I S hcl hA hfr r hns hk₁) h) (λ u' s' z=>?_) λ _ _ z=>z.elim);obtain ⟨v',H',J,rv,z⟩:=z;exact ⟨v',H',J.os,J.bare,J.base,J.hok,rv,z⟩
 ·cases r with
  |error e=>exact hq.elim
  |ok fl=>
   cases fl with
   |ret u=>exact I.after hq
   |next=>exact hq.elim
   |brk=>exact hq.elim
   |cont=>exact hq.elim
end
structure MM(Z H:Hp):Prop where
 z:az Z H
 o:∀b,Z b=none->H b=none\/∃o xs,H b=some (.jI o (.lst xs))
structure P5(K:W.Frag)(Z:Hp)(h:Heap):Prop where
 out:∀b o,Z b=some o->K.lookup b=none/\(∃p q,o= .Ei p q)/\h.get? b=some {cls:= .none,data:= .fields #[]}/\isCodeTable h b
def DU{P:Program}{w:World}{K:W.Frag}{mg mb:Str->Option Value}{CX:Ll}{k:Nat}{fa a:Addr}{fd:FuncData}{x:Str}{sp:Sp}{s₁:Shared}{vs:List Value}{ns:List Int}{Z:Hp} (KX:K.In s₁.heap) (hns:s₁.heap.Ns mainGlobals mg) (hb:s₁.heap.Ns builtinsNs mb) (hbb:∀x:Str,x≠"__name__"->mb x=bootBuiltins x) (hlim:s₁.heap.NoLimit) (hg:s₁.gens= #[]) (ha:s₁.heap.get? a=some {cls:= .type "list",data:= .seq vs.toArray}) (hi:IntsAre vs ns) (hl:ns.length<=sizeLine) (hr:dw k callerA) (hZ:P5 K Z s₁.heap) (F:∀base:Heap,K.In base->base.Ns mainGlobals mg->Qg P w K mg base CX k fa fd [x] sp) (hbind:∀(s:Shared) (u:Value),BindsTo s fd ⟨[u],[]⟩ [(x,u)]) (Ey:∀H:Hp,MM Z H->fV K H a (ns.map V.int)->sp [.ref a] H (λ v H'=>v= .bl true/\az Z H') λ _ _ _=>False) (hCX:∀H e s',CX [] H s₁ (λ _ _ _=>False) e s'->False):
  codeAny (model P w) callerA (.call (.ref fa) ⟨[.ref a],[]⟩) (λ r s'=>r= .ok (.ret (.bool true))/\OldK s₁.heap s'.heap/\s'.os=s₁.os/\AllBare s'.gens) s₁:=by
 have rv:=sM hi;have XH:=hi.length;have za:Z a=none:=by
  cases q:Z a with
  |none=>rfl
  |some o=>obtain ⟨_,_,e,_⟩:=hZ.out a o q;rw[ha] at e;cases e
 have core:∀H:Hp,MM Z H->fV K H a (ns.map V.int)->kh P w H s₁.heap->(∀b,Z b=none->H b≠none->b=a)->(H a≠none->K.lookup a=none)->codeAny (model P w) callerA (.call (.ref fa) ⟨[.ref a],[]⟩) (λ r s'=>r= .ok (.ret (.bool true))/\OldK s₁.heap s'.heap/\s'.os=s₁.os/\AllBare s'.gens) s₁:=by
  intro H hO hS hok hA hK;have CF:∀{b:Addr} {o:Obj},s₁.heap.get? b=some o->H b=none->(uV s₁.heap H).get? b=some o:=λ e n=>G8 e n;have noZ:∀b,H b=none->Z b=none:=λ b n=>by
   cases q:Z b with
   |none=>rfl
   |some o=>rw[hO.z b o q] at n;cases n
  have RM:∀{b:Addr} {u:HO},H b=some u->b=a\/∃o,Z b=some o:=λ{b u} q=>by
   cases y:Z b with
   |some o=>exact .inr ⟨o,rfl⟩
   |none=>exact .inl (hA b y (by rw[q];simp))
  have JX:∀{b:Addr} {o:Obj} {es:Array DictEntry} {ep:Nat},s₁.heap.get? b=some o->o.data= .dict es ep->H b=none:=λ{b o es ep} e d=>by
   cases q:H b with
   |none=>rfl
   |some u=>
    rcases RM q with e'|⟨oz,e'⟩
    ·subst e';rw[ha] at e;cases e;have d':Data.seq vs.toArray _=Data.dict es ep:=d;cases d'
    ·obtain ⟨_,_,e2,_⟩:=hZ.out b oz e';rw[e] at e2;cases e2;have d':Data.fields #[]=Data.dict es ep:=d;cases d'
  have VG:∀{b:Addr} {m:Str->Option Value},s₁.heap.Ns b m->(uV s₁.heap H).Ns b m:=λ{b m} ⟨o,es,ep,e,d,r⟩=>jy o es ep (CF e (JX e d)) d r;have ZL:K.In (uV s₁.heap H):=λ b o e=>CF (KX b o e) (by
   cases q:H b with
   |none=>rfl
   |some u=>
    rcases RM q with e'|⟨oz,e'⟩
    ·subst e';rw[hK (by rw[q];simp)] at e;cases e
    ·rw[(hZ.out b oz e').1] at e;cases e)
  have hM:Mod K mg (uV s₁.heap H):=⟨ZL,VG hns,af mb (VG hb) hbb,let ⟨mc,h1,h2⟩:=hlim;(af mc (VG h1) h2)⟩;have e0:Lj P w K mg (uV s₁.heap H) callerA [] s₁ H:=⟨rfl,hM,λ b o e=>JU e,Nat.le_of_eq (D8 _ _),trivial,λ b hb=>absurd (show b∈([]:List Addr) from hb) (by simp),hok,.of_eq hg⟩;refine codeAny_mono ((F _ ZL (VG hns)).run callerA [] s₁ H ⟨[.ref a],[]⟩ [.ref a] [.ref a] _ _ hr e0 (hbind s₁ (.ref a)) (.cons rfl .nil) (Ey H hO hS)) λ r s' h=>?_;cases r with
  |error e=>exact (hCX H e s' h).elim
  |ok fl=>
   cases fl with
   |next=>exact False.elim h
   |brk=>exact False.elim h
   |cont=>exact False.elim h
   |ret u=>
    obtain ⟨v,H',os,bare,un,T9,r',q,qz⟩:=h;subst q;obtain rfl:u=Value.bool true:=r';refine gz rfl ⟨λ b o e=>?_,λ b o e=>?_⟩ os bare
    ·cases q:H b with
     |none=>exact .inl (un.keep b o e q (by intro z;exact absurd (show b∈([]:List Addr) from z) (by simp)) (by simp))
     |some u=>
      cases y:Z b with
      |some oz=>obtain ⟨_,⟨p,qq,rfl⟩,e2,tb⟩:=hZ.out b oz y;rw[e] at e2;cases e2;obtain ⟨ps,e3,_⟩:=T9 b _ (qz b _ y);exact .inr (.inl ⟨tb,rfl, #[],ps,rfl,by simpa using e3⟩)
      |none=>
       rcases hO.o b y with z|⟨ob,xs,z⟩
       ·rw[q] at z;cases z
       ·have z2:=un.lR b ob _ z;obtain ⟨e1,_⟩:=hok b _ z;obtain ⟨e2,_⟩:=T9 b _ z2;rw[e] at e1;cases e1;exact .inl e2
    ·exact un.there b o e (by simp)
 have YM:∀(H:Hp) (b:Addr) (u:HO),Z b=some u->bQ P w H s₁.heap b u:=λ H b u y=>by obtain ⟨_,⟨p,qq,rfl⟩,e2,_⟩:=hZ.out b u y;exact ⟨#[],e2,trivial,λ cv z=>nomatch z⟩
 cases hk:K.lookup a with
 |some o=>have e:=KX a o hk;rw[ha] at e;cases e;refine core Z ⟨λ _ _ q=>q,λ b q=> .inl q⟩ (.inr ⟨_,vs.toArray,_,hk,rfl,rfl,rfl,by rw[List.size_toArray,XH];exact hl,by simpa using rv⟩) (λ b u z=>YM Z b u z) (λ b y z=>absurd y z) λ z=>absurd za z
 |none=>
  have neA:∀b o,Z b=some o->b≠a:=λ b o q z=>by subst z;rw[za] at q;cases q
  refine core (λ b=>if b=a then some (.jI {cls:= .type "list",data:= .seq vs.toArray} (.lst (ns.map V.int))) else Z b) ⟨λ b o q=>(if_neg (neA b o q)).trans q,λ b y=>?_⟩ (.inl (.inr ⟨{cls:= .type "list",data:= .seq vs.toArray},if_pos rfl⟩)) (λ b u z=>?_) (λ b y z=>?_) λ _=>hk
  ·by_cases hb:b=a
   ·exact .inr (lG _ _ (if_pos hb))
   ·exact .inl ((if_neg hb).trans y)
  ·by_cases hb:b=a
   ·have z':=(if_pos hb).symm.trans z;cases z';subst hb;exact aS ha (by rw[List.length_map];exact hl) (aM vs _ rv ha)
   ·exact YM _ b u ((if_neg hb).symm.trans z)
  ·by_cases hb:b=a
   ·exact hb
   ·exact absurd ((if_neg hb).trans y) z
def RG{l:W.OpenLaw}{q:Program}{loose:List Str}{XP:(Str->Option Value)->Heap->Prop}{YP:World->Heap->Prop}{d:DefRec}{K:Params->W.Frag}{k:Nat}{F:List Slot->dh}(hn:l.most=some 63)(hdf:d.params.defaults=[]) (h1:callerA.depth+3*k+5<recursionLimit) (h2:callerA.units+16*k+200<cLine) (hY:∀(w:World) (h:Heap),YP w h->(K w.params).In h) (hF:∀(w:World) (mg:Str->Option Value) (fa:Addr) (h:Heap),YP w h->(K w.params).In h->h.Ns mainGlobals mg->mg d.name=some (.ref fa)->∃(cb:Cb) (fd:FuncData),P5 (K w.params) cb.xt h/\(∀(s:Shared) (u:Value),BindsTo s fd ⟨[u],[]⟩ [("_law_script",u)])/\∀base:Heap,jn l.prog w (K w.params) mg base cb k fa fd ["_law_script"] F) (ht:∀ns:List Int,ns.length<=63->F [.val (.lst (ns.map D.int))]= .ok (.bl true)):W.WalkO q loose XP YP l.row.toRowW d [] (λ f vs=>PySem.call f vs):=by
 refine Z1.zF hn hdf λ w s₀ s₁ mg mb fa o pm cd doc a vs ns G Y ho hd hcd hmg hobj hints hlen hg=>?_;have KX:=hY w _ Y;obtain ⟨cb,fd,hZ,hb,hf⟩:=hF w mg fa _ Y KX G.T.g hmg;refine DU (Z:=cb.xt) (sp:=λ vs H Q E=>W4 (K w.params) cb 1 F vs H Q E) KX G.T.g G.T.b G.T.builtins G.T.nolimit hg hobj hints (Nat.le_trans hlen (by decide)) ⟨rfl,h1,h2⟩ hZ (λ base _ _=>hf base) hb (λ H hO hS=>?_) λ H e s' z=>?_
 ·have fz:Qf (K w.params) H a (ns.map V.int):=by
   rcases hS with (h|⟨o,h⟩)|h
   ·have za:cb.xt a=none:=by
     cases q:cb.xt a with
     |none=>rfl
     |some o=>obtain ⟨_,_,e,_⟩:=hZ.out a o q;rw[hobj] at e;cases e
    rcases hO.o a za with z|⟨o,xs,z⟩
    ·rw[z] at h;cases h
    ·rw[z] at h;cases h
   ·exact .inl ⟨o,h⟩
   ·exact .inr h
  refine ⟨rfl,gg cb cb.xt [.ref a],[.val (.lst (ns.map D.int))],rfl,rfl,GZ (ds:=[.lst (ns.map D.int)]) hO.z (az.refl _) (aK.cons ?_ aK.nil),?_⟩
  ·simp only[Tl];exact ao a _ rfl fz (E5 ns)
  ·rw[ht ns hlen];intro v H' sm _ tv;simp only[Tl] at tv;subst tv;exact ⟨rfl,λ b o z=>sm b o (hO.z b o z) λ w=>w⟩
 ·obtain ⟨_,_,_,_,_,_,z,_⟩:=z;exact z.elim
noncomputable def Vh(K:W.Frag)(mg:Str->Option Value):Prop:=∃bm o,mg "__builtins__"=some (.ref bm)/\bm≠builtinsNs/\bm≠mainGlobals/\K.lookup bm=some o/\o.cls= .type "module"/\o.dict=some builtinsNs/\o.data= .plain
noncomputable def Lk(K:W.Frag)(cdv:Value)(P:Addr):Prop:=∃c,cdv= .ref c/\∀h:Heap,K.In h->W.CodeHd h c P
section
variable{X:Cx}{pins:List (Addr×Obj)}{σ:St}{H:Hp}{s:Shared}{q:Str}{scope:Scope}{cl:List (Str×Addr)}{A:Around}{params:Arguments}{body:Expr}{pos:Pos}{P:Addr}{E:Value->Shared->Prop}
def YG(X:Cx)(pins:List (Addr×Obj))(σ:St)(H:Hp)(P:Addr)(q:Str)(params:Arguments)(body:Expr)(scope:Scope)(cl:List (Str×Addr))(u:Value)(s':Shared):Prop:=∃f c' oc ctv pm H',u= .ref f/\Inv X pins σ H' s'/\az H H'/\H' f=some (qJ f (gB q params body scope cl pm c' ctv))/\H' c'=some (.jI oc (.own P))/\Il q oc
def GB(I:Inv X pins σ H s)(hcd:Lk X.K X.env.code P)(hB:Vh X.K X.mg)(hP:H P=some (.Ei pos q))(hq:X.env.qual++"<lambda>"=q)(hcl:jl X.env.cells scope.names []=some cl)(hdef:defaultsOf params X.env=([],[])):
  wpAny (model X.prog X.w) A (eval (.Lambda params body scope pos) X.env) (YG X pins σ H P q params body scope cl) E s:=by
 obtain ⟨c,ec,hc⟩:=hcd;obtain ⟨bm,ob,b1,b2,b3,b4,b5,b6,b7⟩:=hB;obtain ⟨ps,hps,tr,hcs⟩:=I.hok P _ hP;have C:=hc _ I.DY;have hob:=I.DY bm ob b4;have hgs:s.heap.Ns mainGlobals X.mg:=I.mod.glob.keeps I.bk;have bmP:bm≠P:=λ z=>by rw[z,hps] at hob;cases hob;cases b5
 have hgP:mainGlobals≠P:=λ z=>by obtain ⟨o,es,ep,e,d,_⟩:=hgs;rw[z,hps] at e;cases e;cases d
 have ZO:s.heap.BuiltinsAt X.mg P:=⟨bm,ob,b1,b2,b3,bmP,hob,b5,b6,b7⟩;refine W.kla_eval hdef ?_;rw[hq];cases hf:codeAmong pos ps.toList with
 |some cv=>obtain ⟨c',oc,rfl,e2,e3⟩:=hcs cv hf;refine W.kla_makeFunctionHit (i8 hcl) I.ok.glob hgs ec C hps tr hf ZO λ ctv h' tk hk hsz=>?_;have k1:∀b o,s.heap.get? b=some o->(h'.push {cls:= .type "function",data:= .func (W.kla_fn "<lambda>" q params body scope cl ((X.mg "__name__").getD .none) (.ref c') ctv)}).get? b=some o:=λ b o e=>Heap.get?_push_of_some _ (hk b o e);have fr:=I.hok.fresh hsz;exact ⟨h'.objs.size,c',oc,ctv,_,upd H h'.objs.size _,rfl,I.laid (t':=tk) k1 hsz (GR (Heap.get?_push_size _ rfl)),bx fr _,aI,bx fr _ _ _ e2,e3⟩
 |none=>
  refine W.kla_makeFunction (i8 hcl) I.ok.glob hgs ec C hps tr hf hgP ZO λ c' ctv h' tk hx hge hlt hrec htb=>?_;obtain ⟨c1,oc,vs,tq,f1,f2,f3,f4⟩:=hrec;cases f1;have fc:H c'=none:=I.hok.fresh hge;have hsz:s.heap.objs.size<=h'.objs.size:=Nat.le_trans hge (Nat.le_of_lt hlt);have ff:H h'.objs.size=none:=I.hok.fresh hsz;have Xv:h'.objs.size≠c':=Nat.ne_of_gt hlt;have ff2:upd H c' (.jI oc (.own P)) h'.objs.size=none:=by rw[aB Xv];exact ff
  have k2:∀b o,b≠P->s.heap.get? b=some o->(h'.push (gB q params body scope cl ((X.mg "__name__").getD .none) c' ctv)).get? b=some o:=λ b o hb e=>Heap.get?_push_of_some _ (hx b o hb e);have neP:c'≠P:=Nat.ne_of_gt (Nat.lt_of_lt_of_le (Heap.lt_size hps) hge);have nfP:h'.objs.size≠P:=Nat.ne_of_gt (Nat.lt_of_lt_of_le (Heap.lt_size hps) hsz);have sm:az H (upd (upd H c' (.jI oc (.own P))) h'.objs.size (qJ h'.objs.size (gB q params body scope cl ((X.mg "__name__").getD .none) c' ctv))):=(bx fc _).trans (bx ff2 _);have hok:kh X.prog X.w (upd (upd H c' (.jI oc (.own P))) h'.objs.size (qJ h'.objs.size (gB q params body scope cl ((X.mg "__name__").getD .none) c' ctv))) (h'.push (gB q params body scope cl ((X.mg "__name__").getD .none) c' ctv)):=by
   intro b u e;by_cases hb:b=h'.objs.size
   ·subst hb;rw[aI] at e;cases e;exact GR (Heap.get?_push_size _ rfl)
   ·rw[aB hb] at e;by_cases hb2:b=c'
    ·subst hb2;rw[aI] at e;cases e;exact ⟨Heap.get?_push_of_some _ f2,oc,Heap.get?_push_of_some _ f2⟩
    ·rw[aB hb2] at e;by_cases ZI:b=P
     ·subst ZI;rw[hP] at e;cases e;refine ⟨_,Heap.get?_push_of_some _ htb,?_,λ cv z=>?_⟩
      ·have:(ps++ #[rawInt pos.line,rawInt pos.col,Value.ref c']).toList=ps.toList++[rawInt pos.line,rawInt pos.col,.ref c']:=by simp
       rw[this];exact TriplesOk_snoc _ _ _ _ tr
      ·have:(ps++ #[rawInt pos.line,rawInt pos.col,Value.ref c']).toList=ps.toList++[rawInt pos.line,rawInt pos.col,.ref c']:=by simp
       rw[this,codeAmong_snoc _ tr hf] at z;cases z;exact ⟨c',oc,rfl,by rw[aB (Ne.symm Xv),aI],vs,tq,f3,f4⟩
     ·refine (I.hok b u e).stay (λ d v hd z=>k2 d v ?_ z) (λ d z=>sm d _ z) (λ d xs z=>sm d _ z) λ d ob y z=>sm d _ z;rcases hd with rfl|hd
      ·exact ZI
      ·rintro rfl
       rw[hP] at hd;cases hd
  have there:∀b o,s.heap.get? b=some o->∃o',(h'.push (gB q params body scope cl ((X.mg "__name__").getD .none) c' ctv)).get? b=some o':=λ b o e=>by
   by_cases hb:b=P
   ·subst hb;exact ⟨_,Heap.get?_push_of_some _ htb⟩
   ·exact ⟨o,k2 b o hb e⟩
  have nP:∀b,H b=none->b≠P:=λ b n z=>by rw[z,hP] at n;cases n
  have un:Un X.fs [] H (upd (upd H c' (.jI oc (.own P))) h'.objs.size (qJ h'.objs.size (gB q params body scope cl ((X.mg "__name__").getD .none) c' ctv))) s.heap (h'.push (gB q params body scope cl ((X.mg "__name__").getD .none) c' ctv)):=⟨λ b o e n _ _=>k2 b o (nP b n) e,λ b o e n _ _=>⟨o.slots,k2 b o (nP b n) e⟩,λ b o e n _=>by rw[aB (Nat.ne_of_lt (Nat.lt_of_lt_of_le (Heap.lt_size e) hsz)),aB (Nat.ne_of_lt (Nat.lt_of_lt_of_le (Heap.lt_size e) hge))];exact n,λ b o e _=>there b o e,λ b xs z=>sm b _ z,λ b o u z=>sm b _ z,λ b ps z=>⟨#[],by rw[sm b _ z];simp⟩⟩;exact ⟨h'.objs.size,c',oc,ctv,_,_,rfl,I.un (t':=tk) un hok,sm,aI,by rw[aB (Ne.symm Xv),aI],vs,tq,f3,f4⟩
end
end L4
end
section
namespace L4
open PySem PySem.Spec PyProof.Rows L2 PySem.W
section
variable{X:Cx}{pins:List (Addr×Obj)}{σ:St}{H:Hp}{s:Shared}{A:Around}{f l kS a:Addr}{its:List Value}{kz:List Int}{h':Heap}
def gC{it:Addr}{o o':Obj}{t':Nat}(I:Inv X ((it,o)::pins) σ H s)(fp:fQ X pins H it)(hs:Heap.SameBut it s.heap h')(e:h'.get? it=some o')(nc:∀v,o'.data≠.cell v):Inv X ((it,o')::pins) σ H {s with heap:=h',toks:=t'}:=by
 obtain ⟨f0,f1,f2,f3,f4,f5⟩:=fp;have I1:Inv X pins σ H s:=I.eu λ p hp=>I.pin p (List.mem_append_right _ (.tail _ hp));have I2:=I1.turned (t':=t') (it:=it) (λ b o hb q=>(hs.2 b hb).trans q) f0 f1 f3 f4 f5;refine I2.eu λ p hp=>?_;rcases List.mem_cons.mp hp with rfl|hp
 ·exact ⟨e,f0,f1,f2,nc⟩
 ·exact I2.pin p (List.mem_append_right _ hp)
def yT{p q:Addr×Obj}(I:Inv X (p::q::pins) σ H s):Inv X (q::p::pins) σ H s:=I.eu λ r hr=>I.pin r (List.mem_append_right _ (by
 rcases List.mem_cons.mp hr with rfl|hr
 ·exact .tail _ (.head _)
 ·rcases List.mem_cons.mp hr with rfl|hr
  ·exact .head _
  ·exact .tail _ (.tail _ hr)))
def eW{p:Addr×Obj}(I:Inv X (p::pins) σ H s):Inv X pins σ H s:=I.eu λ r hr=>I.pin r (List.mem_append_right _ (.tail _ hr))
def zf{H':Hp}{b:Addr}{q:Addr×Obj}(fp:fQ X pins H b)(n:H' b=none)(ne:q.1≠b):fQ X (q::pins) H' b:=by
 obtain ⟨f0,f1,f2,f3,f4,f5⟩:=fp;refine ⟨n,f1,f2,f3,f4,λ p hp=>?_⟩;rcases List.mem_append.mp hp with z|z
 ·exact f5 p (List.mem_append_left _ z)
 ·rcases List.mem_cons.mp z with rfl|z
  ·exact ne
  ·exact f5 p (List.mem_append_right _ z)
def LX{H':Hp}{b:Addr}(fp:fQ X pins H b)(n:H' b=none):fQ X pins H' b:=⟨n,fp.2⟩
def g5{c:String}{xs:Array Value}{n:Nat}:∀v,(seqObj c xs n).data≠.cell v:=λ _ z=>by cases z
def zK(X:Cx)(σ:St)(H:Hp)(A:Around)(f:Addr)(its:List Value)(kz:List Int):Prop:=∀(i:Nat) (u:Value) (k:Int),its[i]? =some u->kz[i]? =some k->∀(sS:List (Addr×Obj)) (H1:Hp) (s1:Shared),Inv X sS σ H1 s1->az H H1->wpAny (model X.prog X.w) A (call (.ref f) [u]) (EP X sS σ λ v H2=>v= .int k/\az H1 H2) (λ _ _=>False) s1
def Ac{e1:Nat}{Pp:PySem.Fin->Shared->Prop}{E:Value->Shared->Prop}(KA:zK X σ H A f its kz)(hlen:kz.length=its.length)(h64:its.length<64) (I:Inv X ((kS,seqObj "list" #[] 0)::(a,seqObj "list" #[] e1)::pins) σ H s) (fk:fQ X pins H kS) (fa:fQ X pins H a) (ne:kS≠a) (h:∀H' s' c,Inv X ((a,seqObj "list" ((tF kz).map λ i=>its.getD i Value.none).toArray c)::pins) σ H' s'->az H H'->Pp (.done (.ret .none)) s'):
  wpAny (model X.prog X.w) A (ksk_rest a (.ref f) false its.toArray e1 (.ref kS)) Pp E s:=by
 unfold ksk_rest;refine wpAny_bind (wpAny_rule ?_);first
  |rw[List.forIn_toArray]
  |(rw[<-Array.forIn_toList];simp only[List.toList_toArray])
 refine wpAny_bind (ksk_fold (λ i s'=>∃H1 kA e,Inv X ((kS,seqObj "list" kA e)::(a,seqObj "list" #[] e1)::pins) σ H1 s'/\az H H1/\IntsAre kA.toList (kz.take i)) its 0 s ⟨H, #[],0,I,az.refl H,by simpa using IntsAre.nil⟩ ?step ?done);case step=>
  rintro j x s' hx ⟨H1,kA,e,I1,sm,hk⟩
  simp only[Nat.zero_add] at hk ⊢;have hj:j<its.length:=(List.getElem?_eq_some_iff.mp hx).1;obtain ⟨k,hkj⟩:∃k,kz[j]? =some k:=⟨_,List.getElem?_eq_getElem (by omega)⟩;have hz:kA.size<=its.length:=by have h1:=hk.length;rw[Array.length_toList,List.length_take] at h1;omega
  refine wpAny_bind (wpAny_attempt (wpAny_mono (KA j x k hx hkj _ H1 s' I1 sm) (λ v s'' he=>?_) λ _ _ hF=>hF.elim));obtain ⟨v',H2,I2,rv,rfl,rM⟩:=he;obtain ⟨t2,rfl⟩:=rv;try dsimp only
  have nk:=I2.pin (kS,seqObj "list" kA e) (List.mem_append_right _ (.head _));have s1:=Heap.SameBut.update s''.heap kS (Obj.mapSeq (·.push (.int k t2)));obtain ⟨c2,hc2⟩:∃c2,(s''.heap.update kS (Obj.mapSeq (·.push (.int k t2)))).get? kS=some (seqObj "list" (kA.push (.int k t2)) c2):=⟨_,get?_update_seq nk.1 (·.push (.int k t2))⟩;have ek:kz.take (j+1)=kz.take j++[k]:=by rw[List.take_add_one,hkj];simp
  have ea:(kA.push (Value.int k t2)).toList=kA.toList++[Value.int k t2]:=by simp
  refine wpAny_bind (listUpdate_at nk.1 rfl ?_ (by rw[sizeLine_eq];omega) (Nat.le_trans (Nat.le_of_eq (Array.size_push ..)) (by rw[sizeLine_eq];omega)));refine wpAny_pure ⟨rfl,H2,kA.push (.int k t2),c2,gC (t':=s''.toks) I2 (zf fk nk.2.1 (Ne.symm ne)) s1 hc2 g5,sm.trans rM,by rw[ea,ek];exact ksk_snoc hk⟩
 case done=>
  rintro s' ⟨H1,kA,e,I1,sm,hk⟩
  have hk':IntsAre kA.toList kz:=by have e3:kz.take (0+its.length)=kz:=List.take_of_length_le (by omega);rw[e3] at hk;exact hk
  have nk:=I1.pin (kS,seqObj "list" kA e) (List.mem_append_right _ (.head _));have na:=I1.pin (a,seqObj "list" #[] e1) (List.mem_append_right _ (.tail _ (.head _)));try dsimp only
  refine wpAny_bind (listItems_at nk.1 rfl ?_);have hsz:kA.size=its.length:=by have h1:=hk'.length;rw[Array.length_toList] at h1;omega
  have zs:(kA.zip its.toArray).size=its.length:=by rw[Array.size_zip,hsz,List.size_toArray,Nat.min_self]
  have fin:∀(st:SortSt),(arrOf st).map (·.2)=((tF kz).map λ i=>its.getD i Value.none).toArray->failedOf st=none->wpAny (model X.prog X.w) A (ksk_tail a false e1 (.ref kS) st) Pp E s':=by
   intro st har hf;have hl:((tF kz).map λ i=>its.getD i Value.none).length=its.length:=by rw[List.length_map,(jH kz).length_eq,List.length_range,hlen]
   unfold ksk_tail;try dsimp only
   have s1:=Heap.SameBut.update s'.heap kS (Obj.mapSeq λ _=>(#[]:Array Value));obtain ⟨c2,hc2⟩:∃c2,(s'.heap.update kS (Obj.mapSeq λ _=>(#[]:Array Value))).get? kS=some (seqObj "list" #[] c2):=⟨_,get?_update_seq nk.1 λ _=> #[]⟩;have I2:=gC (t':=s'.toks) I1 (zf fk nk.2.1 (Ne.symm ne)) s1 hc2 g5;have Xx:(s'.heap.update kS (Obj.mapSeq λ _=>(#[]:Array Value))).get? a=some (seqObj "list" #[] e1):=(s1.2 a (Ne.symm ne)).trans na.1;refine wpAny_bind (listUpdate_at nk.1 rfl ?_ (by rw[hsz,sizeLine_eq];omega) (Nat.zero_le _));refine wpAny_bind (wpAny_letGo ?_);refine wpAny_bind (seqEpoch_at Xx rfl ?_);rw[har,hf];refine wpAny_bind (listUpdate_at Xx rfl ?_ (Nat.zero_le _) (by simp only[Bool.false_eq_true,if_false];rw[List.size_toArray,hl,sizeLine_eq];omega));simp only[bne_self_eq_false,Bool.false_eq_true,if_false];have s2:=Heap.SameBut.update (s'.heap.update kS (Obj.mapSeq λ _=>(#[]:Array Value))) a (Obj.mapSeq λ _=>((tF kz).map λ i=>its.getD i Value.none).toArray);obtain ⟨c3,hc3⟩:∃c3,((s'.heap.update kS (Obj.mapSeq λ _=>(#[]:Array Value))).update a (Obj.mapSeq λ _=>((tF kz).map λ i=>its.getD i Value.none).toArray)).get? a=some (seqObj "list" ((tF kz).map λ i=>its.getD i Value.none).toArray c3):=⟨_,get?_update_seq Xx λ _=>((tF kz).map λ i=>its.getD i Value.none).toArray⟩;have I3:=gC (t':=s'.toks) (yT I2) (zf (q:=(kS,seqObj "list" #[] c2)) fa na.2.1 ne) s2 hc3 g5;exact wpAny_pure (h H1 _ c3 (eW (yT I3)) sm)
  unfold ksk_end;try dsimp only
  simp only[Bool.false_eq_true,if_false];have Sa:∀{st:SortSt} {p:Array Nat},arrOf st=p.map (kas_item (kA.zip its.toArray))->(arrOf st).map (·.2)=(p.toList.map λ i=>its.getD i Value.none).toArray:=λ{st p} har=>kat_snds (ks:=kA.toList) (vs:=its) (by rw[Array.length_toList];exact hsz) (by simpa using har);by_cases h2:its.toArray.size<2
  ·rw[if_pos h2,if_pos h2];have D9:its.length<2:=by simpa using h2
   refine wpAny_bind (wpAny_pure ?_);rw[StateT.run_pure];refine wpAny_bind (wpAny_pure ?_);refine fin (SortSt.mk' general' (kA.zip its.toArray) #[] 7 none) ?_ rfl;have er:tF kz=List.range its.length:=by unfold tF;rw[if_pos (by omega),hlen]
   rw[er];have:=Sa (st:=SortSt.mk' general' (kA.zip its.toArray) #[] 7 none) (p:=(List.range its.length).toArray) (by have e:=kas_range (kA.zip its.toArray);rw[zs] at e;exact e.symm);simpa using this
  ·rw[if_neg h2,if_neg h2];have D9:2<=its.length:=by simp at h2;omega
   rw[ksk_kind hk' (by rw[hsz];omega)];refine wpAny_bind (wpAny_pure ?_);have est:SortSt.mk' oneType' (kA.zip its.toArray) #[] 7 none=kas_st oneType' (kA.zip its.toArray) (List.toArray (List.range its.length)):=by have e:=kas_range (kA.zip its.toArray);rw[zs] at e;show _=SortSt.mk' oneType' ((List.toArray (List.range its.length)).map (kas_item (kA.zip its.toArray))) #[] 7 none;rw[e]
   have key:∀i,∃t,(kas_item (kA.zip its.toArray) i).1= .int (kz.getD i 0) t\/its.length<=i:=λ i=>by
    by_cases hi:i<its.length
    ·obtain ⟨t,ht⟩:=hk'.get i (kz.getD i 0) (by rw[List.getD_eq_getElem?_getD,List.getElem?_eq_getElem (by omega)];rfl);refine ⟨t,.inl ?_⟩;have e:(kA.zip its.toArray)=(kA.toList.toArray.zip its.toArray):=by simp
     rw[e,kat_item (by rw[Array.length_toList];exact hsz)];rw[List.getD_eq_getElem?_getD,ht];rfl
    ·exact ⟨0,.inr (by omega)⟩
   have low:=BJ (n:=its.length) (by omega);have run:=kas_runs (prog:=X.prog) (w:=X.w) (A:=A) (κ:=oneType') (it:=kA.zip its.toArray) (E:=E) (s:=s') (Q:=λ _ st' s2=>∃p:Array Nat,arrOf st'=p.map (kas_item (kA.zip its.toArray))/\failedOf st'=none/\p=Q4 (VM kz) (kas_sort its.length)/\s2=s')
    D9 h64 (λ p' st' s2 a1 a2 a3 a4=>⟨p',a2,a3,a4⟩) (B0 (lt:=VM kz) (λ i j C hi hj hq=>by
     unfold kas_cmp;obtain ⟨t,e1|e1⟩:=key i
     ·obtain ⟨u,e2|e2⟩:=key j
      ·rw[e1,e2];exact kat_lt_int hq
      ·omega
     ·omega) low ⟨rfl,rfl⟩)
   rw[<-est] at run;refine wpAny_bind (wpAny_mono run ?_ λ _ _ e=>e)
   rintro ⟨⟨⟩,st'⟩ s2 ⟨p,har,hf,rfl,rfl⟩
   refine fin st' ?_ hf;have er:tF kz=(Q4 (VM kz) (kas_sort its.length)).toList:=by unfold tF;rw[if_neg (by omega),hlen]
   rw[er];exact Sa har
end
section
variable{X:Cx}{pins:List (Addr×Obj)}{σ:St}{H:Hp}{s:Shared}
def D5{a:Addr}{o:HO}(I:Inv X pins σ H s)(fp:fQ X pins H a)(new:bQ X.prog X.w (upd H a o) s.heap a o):Inv X pins σ (upd H a o) s:=by
 obtain ⟨ha,nl,_,hx0,nc,np⟩:=fp;have there:∀b o,X.s₀.heap.get? b=some o->b∉X.ex->b≠a:=λ b o e hx z=>by
  subst z;rcases hx0 with w|w
  ·exact hx w
  ·exact absurd (Nat.lt_of_lt_of_le (Heap.lt_size e) w) (Nat.lt_irrefl _)
 have ne:∀b u,H b=some u->b≠a:=λ b u e=>bO e ha;refine ⟨I.ok,I.os,I.bare,⟨I.base.keep,I.base.slot,λ b o e n hx=>?_,I.base.there,λ b xs e=>?_,λ b o u e=>?_,λ b ps e=>?_⟩,I.loc,I.cell,?_,λ x c e=>?_,λ p hp=>?_,λ b u e=>?_,I.len⟩
 ·rw[aB (there b o e hx)];exact I.base.free b o e n hx
 ·have q:=I.base.tups b xs e;rw[aB (ne _ _ q)];exact q
 ·have q:=I.base.lR b o u e;rw[aB (ne _ _ q)];exact q
 ·obtain ⟨more,q⟩:=I.base.mw b ps e;exact ⟨more,by rw[aB (ne _ _ q)];exact q⟩
 ·rw[aB (Ne.symm nl)];exact I.free
 ·rw[aB (nc x c e)];exact I.dX x c e
 ·obtain ⟨h1,h2,h3⟩:=I.pin p hp;exact ⟨h1,by rw[aB (np p hp)];exact h2,h3⟩
 ·by_cases hb:b=a
  ·subst hb;rw[aI] at e;cases e;exact new
  ·rw[aB hb] at e;exact (I.hok b u e).stay (λ _ _ _ q=>q) (λ c q=>by rw[aB (ne _ _ q)];exact q) (λ c xs q=>by rw[aB (ne _ _ q)];exact q) λ c ob y q=>by rw[aB (ne _ _ q)];exact q
theorem Bh{vs:List V}{its:List Value}(r:Vals vs its):∀{ix:List Nat},(∀i∈ix,i<vs.length)->Vals (ix.map λ i=>vs.getD i .eU) (ix.map λ i=>its.getD i Value.none)
 |[],_=> .nil
 |i::ix,h=>by have hi:=h i (.head _);obtain ⟨u,hu,ru⟩:=r.get (List.getElem?_eq_getElem hi);refine .cons ?_ (Bh r λ j hj=>h j (.tail _ hj));simp only[List.getD_eq_getElem?_getD,hu,List.getElem?_eq_getElem hi,Option.getD_some];exact ru
def AZ{l f:Addr}{its:List Value}{vs:List V}{kz:List Int}{Q:VK}{E:Value->Shared->Prop}(KA:zK X σ H X.A.in1.in1 f its kz)(I:Inv X pins σ H s)(hl:s.heap.IsList l its.toArray)(rv:Vals vs its)(hlen:kz.length=its.length)(h64:its.length<64) (h:∀r H',az H H'->H' r=none->Q (.ref r) (upd H' r (.lst ((tF kz).map λ i=>vs.getD i .eU)))):wpAny (model X.prog X.w) X.A (call (.builtin "sorted") [.ref l] [(Str.ofString "key",.ref f)]) (EP X pins σ Q) E s:=by
 refine call_function_entry_kw kind_sorted plain_sorted entry_sorted (ksk_s1 _ _) ?_;unfold Builtin.«sorted»;refine wpAny_bind (m:=checkCount "sorted" 1 1 _) (wpAny_pure ?_);refine wpAny_bind (collect_list hl ?_ (by rw[sizeLine_eq];omega));refine wpAny_bind (wpAny_newList ?_ (by rw[sizeLine_eq];omega));have hsz:((s.heap.push (seqObj "list" #[] 0)).update s.heap.objs.size (Obj.mapSeq (· ++its.toArray))).objs.size=s.heap.objs.size+1:=by rw[Heap.size_update,size_push']
 have LU:(((s.heap.push (seqObj "list" #[] 0)).update s.heap.objs.size (Obj.mapSeq (· ++its.toArray))).push (seqObj "list" its.toArray 0)).get? (s.heap.objs.size+1)=some (seqObj "list" its.toArray 0):=by rw[<-hsz];exact Heap.get?_push_size _ rfl
 have keep:∀b o,s.heap.get? b=some o->(((s.heap.push (seqObj "list" #[] 0)).update s.heap.objs.size (Obj.mapSeq (· ++its.toArray))).push (seqObj "list" its.toArray 0)).get? b=some o:=λ b o q=>by have hlt:b<s.heap.objs.size:=Heap.lt_size q;rw[Heap.get?_push_ne _ _ _ (by rw[hsz];exact Nat.ne_of_lt (Nat.lt_succ_of_lt hlt)),Heap.get?_update_ne _ _ _ _ (Nat.ne_of_lt hlt),Heap.get?_push_ne _ _ _ (Nat.ne_of_lt hlt)];exact q
 show wpAny _ _ _ _ _ {s with heap:=((s.heap.push (seqObj "list" #[] 0)).update s.heap.objs.size (Obj.mapSeq (· ++its.toArray))).push (seqObj "list" its.toArray 0)};rw[hsz];have I1:Inv X pins σ H {s with heap:=((s.heap.push (seqObj "list" #[] 0)).update s.heap.objs.size (Obj.mapSeq (· ++its.toArray))).push (seqObj "list" its.toArray 0)}:=I.kept (t':=s.toks) keep;have fa:fQ X pins H (s.heap.objs.size+1):=I.n5 (Nat.le_succ _) (I.hok.fresh (Nat.le_succ _));generalize ((s.heap.push (seqObj "list" #[] 0)).update s.heap.objs.size (Obj.mapSeq (· ++its.toArray))).push (seqObj "list" its.toArray 0)=h1 at*;generalize s.heap.objs.size+1=a at*;refine wpAny_bind (wpAny_holding (wpAny_call_entry_kw slot_list_sort ⟨_,LU,rfl⟩ entry_list_sort ?body (ksk_l1 _ _)));case body=>
  show wpAny (model X.prog X.w) X.A.in1.in1 (Builtin.«list.sort» ⟨[.ref a],[(Str.ofString "key",.ref f)]⟩) _ _ _;rw[ksk_t1];unfold ksk_tree;have I2:Inv X ((a,seqObj "list" its.toArray 0)::pins) σ H {s with heap:=h1}:=I1.eu λ p hp=>by
   rcases List.mem_cons.mp hp with rfl|hp
   ·exact ⟨LU,fa.1,fa.2.1,fa.2.2.1,g5⟩
   ·exact I1.pin p (List.mem_append_right _ hp)
  have s1:=Heap.SameBut.update h1 a (Obj.mapSeq λ _=>(#[]:Array Value));obtain ⟨e1,X4⟩:∃e1,(h1.update a (Obj.mapSeq λ _=>(#[]:Array Value))).get? a=some (seqObj "list" #[] e1):=⟨_,get?_update_seq LU λ _=> #[]⟩;have I3:=gC (t':=s.toks) I2 fa s1 X4 g5;refine wpAny_bind (listItems_at LU rfl ?_);refine wpAny_bind (listUpdate_at LU rfl ?_ (by rw[List.size_toArray,sizeLine_eq];omega) (Nat.zero_le _));refine wpAny_bind (seqEpoch_at X4 rfl ?_);refine wpAny_bind (wpAny_newTuple ?_ (by show its.length<=_;rw[sizeLine_eq];omega));refine wpAny_bind (wpAny_newList ?_ (Nat.zero_le _));refine wpAny_holding ?_;have I4:=I3.kept (t':=s.toks) (h':=((h1.update a (Obj.mapSeq λ _=>(#[]:Array Value))).push (seqObj "tuple" its.toArray 0)).push (seqObj "list" #[] 0)) λ b o e=>Heap.get?_push_of_some _ (Heap.get?_push_of_some _ e);have ha:a<(h1.update a (Obj.mapSeq λ _=>(#[]:Array Value))).objs.size:=Heap.lt_size X4;have Rh:=I3.n5 (b:=((h1.update a (Obj.mapSeq λ _=>(#[]:Array Value))).push (seqObj "tuple" its.toArray 0)).objs.size) (H':=H) (by rw[Heap.size_push];exact Nat.le_succ _) (I3.hok.fresh (by rw[Heap.size_push];exact Nat.le_succ _));have fk:fQ X pins H ((h1.update a (Obj.mapSeq λ _=>(#[]:Array Value))).push (seqObj "tuple" its.toArray 0)).objs.size:=⟨Rh.1,Rh.2.1,Rh.2.2.1,Rh.2.2.2.1,Rh.2.2.2.2.1,λ p hp=>Rh.2.2.2.2.2 p (by
   rcases List.mem_append.mp hp with z|z
   ·exact List.mem_append_left _ z
   ·exact List.mem_append_right _ (.tail _ z))⟩
  have ne:((h1.update a (Obj.mapSeq λ _=>(#[]:Array Value))).push (seqObj "tuple" its.toArray 0)).objs.size≠a:=by rw[Heap.size_push];exact Nat.ne_of_gt (Nat.lt_succ_of_lt ha)
  have hkS:(((h1.update a (Obj.mapSeq λ _=>(#[]:Array Value))).push (seqObj "tuple" its.toArray 0)).push (seqObj "list" #[] 0)).get? ((h1.update a (Obj.mapSeq λ _=>(#[]:Array Value))).push (seqObj "tuple" its.toArray 0)).objs.size=some (seqObj "list" #[] 0):=Heap.get?_push_size _ rfl;have I5:Inv X ((((h1.update a (Obj.mapSeq λ _=>(#[]:Array Value))).push (seqObj "tuple" its.toArray 0)).objs.size,seqObj "list" #[] 0)::(a,seqObj "list" #[] e1)::pins) σ H {s with heap:=((h1.update a (Obj.mapSeq λ _=>(#[]:Array Value))).push (seqObj "tuple" its.toArray 0)).push (seqObj "list" #[] 0)}:=I4.eu λ p hp=>by
   rcases List.mem_cons.mp hp with rfl|hp
   ·exact ⟨hkS,fk.1,fk.2.1,fk.2.2.1,g5⟩
   ·exact I4.pin p (List.mem_append_right _ hp)
  refine Ac (s:={s with heap:=((h1.update a (Obj.mapSeq λ _=>(#[]:Array Value))).push (seqObj "tuple" its.toArray 0)).push (seqObj "list" #[] 0)}) KA hlen h64 I5 fk fa ne λ H' s' c I6 sm=>⟨_,rfl,?_⟩;have na:=I6.pin (a,_) (List.mem_append_right _ (.head _));refine wpAny_pure ⟨_,rfl,.ref a,upd H' a (.lst ((tF kz).map λ i=>vs.getD i .eU)),D5 (eW I6) (LX fa na.2.1) ⟨?_,_,c,Bh rv λ i hi=>?_,na.1⟩,rfl,h a H' sm na.2.1⟩
  ·rw[List.length_map,(jH kz).length_eq,List.length_range,hlen,sizeLine_eq];omega
  ·have:=(jH kz).mem_iff.mp hi;rw[List.mem_range] at this;rw[rv.length];omega
end
section
variable{X:Cx}{ct:Ct}{pins:List (Addr×Obj)}{σ:St}{H:Hp}{s:Shared}{caps:List Nat}{Γ:Sg}
def TQ{H0 H1:Hp}{d:D}{v:V}(j:J X.K ct H0 Γ σ H1)(t:Tl X.K ct H1 d v):J X.K ct H1 (lO d caps Γ) (yP v caps σ) H1:=by
 refine ⟨λ _ _ q _=>q,λ _ q=>q,j.lL,j.lB,j.xt,by simp[lO,yP],λ _ _=>False,λ i sl ov h1 h2=>?_,λ _ _ _ _ z=>z.elim,λ _ _ z=>z.elim⟩;cases i with
 |zero=>cases h1;cases h2;exact ⟨⟨v,rfl,t⟩,λ _ z=>z⟩
 |succ i=>
  simp only[lO,yP,List.getElem?_cons_succ,List.getElem?_map] at h1 h2;cases hj:caps[i]? with
  |none=>rw[hj] at h1;cases h1
  |some k=>
   rw[hj] at h1 h2;simp only[Option.map_some,Option.some.injEq] at h1 h2;cases hg:Γ[k]? with
   |none=>rw[hg] at h1;subst h1;exact λ _ z=>z
   |some Ex=>
    rw[hg] at h1;cases Ex with
    |val d'=>subst h1;obtain ⟨v',g1,g2⟩:=j.val hg;rw[g1] at h2;exact ⟨⟨v',h2.symm,g2⟩,λ _ z=>z⟩
    |no=>subst h1;exact λ _ z=>z
    |own m=>subst h1;exact λ _ z=>z
    |par m=>subst h1;exact λ _ z=>z
def qM{fk:D->Res D}{x:D}{xs:List D}{ks:List Int}(h:ez fk (x::xs)=some ks):∃k r,ks=k::r/\fk x= .ok (.int k)/\ez fk xs=some r:=by
 unfold ez at h;split at h
 ·rename_i i q;cases q2:ez fk xs with
  |none=>rw[q2] at h;cases h
  |some r=>rw[q2] at h;cases h;exact ⟨i,r,rfl,q,rfl⟩
 ·cases h
theorem nY{fk:D->Res D}:∀{xs:List D} {ks:List Int},ez fk xs=some ks->ks.length=xs.length
 |[],ks,h=>by cases h;rfl
 |x::xs,ks,h=>by obtain ⟨k,r,rfl,_,q⟩:=qM h;simp[nY q]
theorem tE{fk:D->Res D}:∀{xs:List D} {ks:List Int},ez fk xs=some ks->∀(i:Nat) (x:D) (k:Int),xs[i]? =some x->ks[i]? =some k->fk x= .ok (.int k)
 |[],ks,h,i,x,k,h1,h2=>by cases h1
 |x::xs,ks,h,i,y,k,h1,h2=>by
  obtain ⟨k0,r,rfl,q0,q⟩:=qM h;cases i with
  |zero=>cases h1;cases h2;exact q0
  |succ i=>exact tE q i y k h1 h2
theorem xY{K:W.Frag}{ct:Ct}{H:Hp}{xs:List D}{vs:List V}(t:aK K ct H xs vs):∀{ix:List Nat},(∀i∈ix,i<xs.length)->aK K ct H (ix.map λ i=>xs.getD i .eU) (ix.map λ i=>vs.getD i .eU)
 |[],_=>aK.nil
 |i::ix,h=>by have hi:=h i (.head _);obtain ⟨v,ev,tv⟩:=t.get (List.getElem?_eq_getElem hi);refine aK.cons ?_ (xY t λ j hj=>h j (.tail _ hj));simp only[List.getD_eq_getElem?_getD,ev,List.getElem?_eq_getElem hi,Option.getD_some];exact tv
structure Rt(X:Cx)(ct:Ct)(k:Nat)(N':List Str)(caps:List Nat)(params:Arguments)(body:Expr)(scope:Scope)(jk:Pos)(fk:Sg->Res D):Prop where
 out:∃(P:Addr) (q:Str) (cl:List (Str×Addr)) (p:Str),Lk X.K X.env.code P/\Vh X.K X.mg/\ct.f.cb.xt P=some (.Ei jk q)/\X.env.qual++"<lambda>"=q/\jl X.env.cells scope.names []=some cl/\defaultsOf params X.env=([],[])/\jO X N' p caps scope/\
  (∀pm c' ctv u,bindArgs (kla_fn "<lambda>" q params body scope cl pm (.ref c') ctv) ⟨[u],[]⟩=pure [(p,u)])/\dw (k+2) X.A/\
  ∀f c' A s H,dw k (A.deeper (envX q scope s.heap.objs.size f (.ref c') cl))->PD (Rn X q scope f c' cl A s H N') ct body fk
def GS{k:Nat}{N':List Str}{params:Arguments}{body:Expr}{scope:Scope}{fk:Sg->Res D}{A:Around}(hA:A.handled=none)(hfr:A.frames=some X.stack)(TZ:dw (k+1) A) {P:Addr} {q p:Str} {cl:List (Str×Addr)} (hcl:jl X.env.cells scope.names []=some cl) (S:jO X N' p caps scope) (hbind:∀pm c' ctv u,bindArgs (kla_fn "<lambda>" q params body scope cl pm (.ref c') ctv) ⟨[u],[]⟩=pure [(p,u)]) (hb:∀f c' A s H,dw k (A.deeper (envX q scope s.heap.objs.size f (.ref c') cl))->PD (Rn X q scope f c' cl A s H N') ct body fk) (j:Jx X ct Γ σ H) {f c':Addr} {oc:Obj} {ctv pm:Value} (hf:H f=some (qJ f (gB q params body scope cl pm c' ctv))) (hc:H c'=some (.jI oc (.own P))) (hco:Il q oc) {xs:List D} {vs:List V} {its:List Value} {kz:List Int} (t:aK X.K ct H xs vs) (rv:Vals vs its) (hk:ez (λ x=>fk (lO x caps Γ)) xs=some kz):zK X σ H A f its kz:=by
 intro i u k0 hu hki sS H1 s1 I1 sm;have hi:i<its.length:=(List.getElem?_eq_some_iff.mp hu).1;have hiv:i<vs.length:=by rw[rv.length];exact hi
 have hix:i<xs.length:=by rw[t.length];exact hiv
 have ex:xs[i]? =some xs[i]:=List.getElem?_eq_getElem hix;obtain ⟨v,ev,tv⟩:=t.get ex;obtain ⟨u',ZU,ru⟩:=rv.get ev;rw[hu] at ZU;cases ZU;have kk:=tE hk i _ k0 ex hki;have j1:=j.mono sm;have t1:=tv.keep (az.keep sm);obtain ⟨hc1,_⟩:=I1.hok c' _ (sm _ _ hc);obtain ⟨fs,tq,f1,f2⟩:=hco;have rd:A.depth<recursionLimit:=by have:=TZ.dp;omega
 refine Jk I1 S hcl hA hfr rd ru (sm _ _ hf) ⟨c',oc,fs,tq,rfl,hc1,f1,f2⟩ (hbind _ _ _ _) (hb f c' A s1 H1 (TZ.deeper _)) ⟨lO xs[i] caps Γ,TQ (X:=X) j1 t1,?_⟩;rw[kk];intro v2 H2 rM t2;simp only[Tl] at t2;exact ⟨t2,rM⟩
def zD{k:Nat}{N':List Str}{params:Arguments}{body:Expr}{scope:Scope}{jk kp p0 pos:Pos}{fk:Sg->Res D}{e:Expr}{fa:Sg->Res (List D)}{x:Str}{id:String}(L:Rt X ct k N' caps params body scope jk fk)(hm:X.mg x=none)(ha:P8 X ct [e] fa)(hg:Gl X x) (hbt:bootBuiltins x=some (.builtin id)) (hn:x≠"__name__") (hdb:(x==("__debug__":Str))=false) (he:starEach [e] X.env=[(false,eval e X.env)]) {Q:VK} (I:Inv X pins σ H s) (j:Jx X ct Γ σ H) (h:Ok X ct σ H (fa Γ) λ ds=>∀vs us H1 s1 f,az H H1->aK X.K ct H1 ds vs->Vals vs us->Inv X pins σ H1 s1->(∀A xs vs its kz,A.handled=none->A.frames=some X.stack->dw (k+1) A->aK X.K ct H1 xs vs->Vals vs its->ez (λ x=>fk (lO x caps Γ)) xs=some kz->zK X σ H1 A f its kz)->wpAny (model X.prog X.w) X.A (call (.builtin id) us [(Str.ofString "key",.ref f)]) (EP X pins σ Q) X.xe s1):
  wpAny (model X.prog X.w) X.A (eval (.Call (.Name x p0) [e] [⟨some "key",.Lambda params body scope jk,kp⟩] pos) X.env) (EP X pins σ Q) X.xe s:=by
 obtain ⟨P,q,cl,p,hcd,hB,hP,hq,hcl,hdef,S,hbind,hr,hb⟩:=L.out;refine wpAny_Call_Name_kw (iY I hg hm hbt ?_ hn hdb);refine callWith_kw ?_ (by rw[he];rfl) (by rw[he];rfl) rfl rfl;refine wpAny_mono (ha pos pins s σ H (λ vs H1=>∃ds,az H H1/\aK X.K ct H1 ds vs/\fa Γ= .ok ds) I ⟨Γ,j,?_⟩) (λ us s1 z=>?_) λ _ _ z=>z
 ·cases w:fa Γ with
  |ok ds=>exact λ vs H' sm t=>⟨ds,sm,t,rfl⟩
  |err c=>rw[w] at h;exact h
  |bad=>rw[w] at h;exact h
 ·obtain ⟨vs,H1,I1,rv,ds,sm,t,w⟩:=z;rw[w] at h;have hP1:H1 P=some (.Ei jk q):=sm _ _ (j.lL _ _ (j.xt _ _ hP));refine kws_cons (wpAny_mono (GB (A:=X.A) (E:=X.xe) (body:=body) I1 hcd hB hP1 hq hcl hdef) (λ u s2 z2=>?_) λ _ _ z=>z);obtain ⟨f,c',oc,ctv,pm,H2,rfl,I2,rM,hf,hc,hco⟩:=z2;refine kws_nil ?_;exact h vs us H2 s2 f (sm.trans rM) (t.keep (az.keep rM)) rv I2 λ A xs vs its kz a1 a2 a3 t' W6 hk=>GS a1 a2 a3 hcl S hbind hb ((j.mono sm).mono rM) hf hc hco t' W6 hk
def FH{k:Nat}{N':List Str}{params:Arguments}{body:Expr}{scope:Scope}{jk kp p0 pos:Pos}{fk:Sg->Res D}{e:Expr}{fa:Sg->Res (List D)}(L:Rt X ct k N' caps params body scope jk fk)(hm:X.mg "sorted"=none)(ha:P8 X ct [e] fa)(hg:Gl X "sorted":=by rfl) (he:starEach [e] X.env=[(false,eval e X.env)]:=by rfl):PL X ct (.Call (.Name "sorted" p0) [e] [⟨some "key",.Lambda params body scope jk,kp⟩] pos) (nX fa caps fk):=by
 rintro pins s σ H Q I ⟨Γ,j,h⟩
 obtain ⟨_,_,_,_,_,_,_,_,_,_,_,_,hr,_⟩:=L.out;refine zD (id:="sorted") L hm ha hg (by decide+kernel) (by decide) (by decide) he I j ?_;unfold nX at h;refine h.bnd λ ds hds h' vs us H1 s1 f sm t rv I1 KA=>?_;unfold pF at h';split at h'
 ·rename_i d;split at h'
  ·rename_i xs hxs;split at h'
   ·rename_i h64;obtain ⟨v,rfl,t1⟩:=nK t;obtain ⟨u,rfl,ru⟩:=vals1 rv;have j1:=j.mono sm;obtain ⟨a,ws,rfl,sq,tw⟩:=t1.gJ j1.lL j1.lB hxs;cases ru;obtain ⟨its,rw',pl,hz⟩:=I1.list sq;cases hk:ez (λ x=>fk (lO x caps Γ)) xs with
    |some kz=>
     rw[hk] at h';replace h':Wl X ct H Q ((tF kz).map λ i=>xs.getD i .eU):=h';have ln:its.length=xs.length:=by rw[<-rw'.length, <-tw.length]
     have lk:kz.length=its.length:=by rw[nY hk,ln]
     refine AZ (KA X.A.in1.in1 xs ws its kz hr.hd I1.ok.frames ⟨hr.hd,by have:=hr.dp;show X.A.depth+3*(k+1)+5<recursionLimit;omega,by have:=hr.un;show X.A.units+1+1+16*(k+1)+200<cLine;omega⟩ tw rw' hk) I1 pl.isList rw' lk (by omega) λ r H' QM hr'=>?_;have s3:=bx hr' (.lst ((tF kz).map λ i=>ws.getD i .eU));refine h' r _ _ (sm.trans (QM.trans s3)) ((sm.trans QM).free hr') aI ?_;refine (xY tw (λ i hi=>?_)).keep (az.keep (QM.trans s3));have:=(jH kz).mem_iff.mp hi;rw[List.mem_range] at this;omega
    |none=>rw[hk] at h';exact h'.elim
   ·exact h'.elim
  ·exact h'.elim
 ·exact h'.elim
end
section
variable{X:Cx}{ct:Ct}{pins:List (Addr×Obj)}{σ:St}{H:Hp}{s:Shared}{caps:List Nat}{Γ:Sg}{f l S It:Addr}{vs:List V}{kz:List Int}
def U8(X:Cx)(σ:St)(H:Hp)(A:Around)(f:Addr)(vs:List V)(kz:List Int):Prop:=∀its:List Value,Vals vs its->zK X σ H A f its kz
def Gz{Q:VK}{E:Value->Shared->Prop}(KV:U8 X σ H X.A.in1 f vs kz)(hlen:kz.length=vs.length)(hh:X.A.handled=none)(sq:∀H1,az H H1->fV X.K H1 l vs)(fS:fQ X pins H S)(fI:fQ X pins H It)(hSI:S≠It)(hlI:l≠It) (hQ:∀v H',vs[gA kz]? =some v->az H H'->Q v H'):
  ∀(r j i:Nat) (H1:Hp) (s1:Shared) (ub:Value) (vb:V) (kb:Int) (tb:Tok) (c:Nat) (oI:Obj),vs.length-(j+1)=r->j+1<=vs.length->Inv X ((S,seqObj "list" #[ub,.int kb tb] c)::(It,oI)::pins) σ H1 s1->az H H1->s1.heap.IsListIter It l (j+1)->vs[i]? =some vb->RelV vb ub->gA kz=gA.go i kb (j+1) (kz.drop (j+1))->codeAny (model X.prog X.w) X.A (.builtin "min.loop" ⟨[.ref It,.ref f,.ref S],[]⟩) (λ r s'=>match r with| .ok (.ret u)=>EP X pins σ Q u s'| .ok _=>False| .error e=>E e s') s1:=by
 have hname:(toString "min"++toString ".loop":String)="min.loop":=by decide
 intro r;induction r with
 |zero=>
  intro j i H1 s1 ub vb kb tb c oI hr hj I1 sm hit XY rb hm;have hin:j+1=vs.length:=by omega
  obtain ⟨its,rv,pl,hz⟩:=I1.list (sq H1 sm);have hsz:its.toArray.size=vs.length:=by rw[List.size_toArray,rv.length]
  have W:=Walks.list (prog:=X.prog) (w:=X.w) (A:=X.A.in1) hh It l hlI its.toArray;have nS:=I1.pin (S,seqObj "list" #[ub,.int kb tb] c) (List.mem_append_right _ (.head _));have nI:=I1.pin (It,oI) (List.mem_append_right _ (.tail _ (.head _)));refine codeAny_builtin PySem.F.entry_min_loop ?_;rw[Around.under_plainId PySem.F.plain_min_loop _];show wpAny _ X.A.in1 (seqItems? (.ref S)>>=_) _ _ _;refine wpAny_bind (wpAny_seqItems nS.1 rfl ?_);show wpAny _ X.A.in1 (tryCatch (pyNext (.ref It)) _>>=_) _ _ _;refine wpAny_bind (wpAny_tryCatch (W.done _ _ _ ⟨by rw[hsz, <-hin];exact hit,pl.isList⟩ λ h' tk' hk'=>?_));have I2:Inv X pins σ H1 {s1 with heap:=h',toks:=tk'}:=(eW (eW I1)).turned (it:=It) (λ b o hb e=>hk' b o (by simpa using hb) e) nI.2.1 nI.2.2.1 fI.2.2.2.1 fI.2.2.2.2.1 fI.2.2.2.2.2;have hS':=hk' S _ (by simpa using hSI) nS.1;have I3:Inv X ((S,seqObj "list" #[ub,.int kb tb] c)::pins) σ H1 {s1 with heap:=h',toks:=tk'}:=I2.eu λ p hp=>by
   rcases List.mem_cons.mp hp with rfl|hp
   ·exact ⟨hS',nS.2⟩
   ·exact I2.pin p (List.mem_append_right _ hp)
  have u1:=Heap.SameBut.update h' S (Obj.mapSeq λ _=>(#[]:Array Value));obtain ⟨c2,hc2⟩:∃c2,(h'.update S (Obj.mapSeq λ _=>(#[]:Array Value))).get? S=some (seqObj "list" #[] c2):=⟨_,get?_update_seq hS' λ _=> #[]⟩;have I4:=gC (t':=tk') I3 (LX fS nS.2.1) u1 hc2 g5;show wpAny _ X.A.in1 (updateSeq S (λ _=> #[])>>=_) _ _ _;refine wpAny_bind ?_;refine wpAny_updateSeq hS' rfl (wpAny_bind (wpAny_letGo (wpAny_pure ?_)));have hd:kz.drop (j+1)=[]:=List.drop_eq_nil_of_le (by omega);rw[hd] at hm;exact ⟨vb,H1,eW I4,rb,hQ vb H1 (by rw[hm];exact XY) sm⟩
 |succ r ih=>
  intro j i H1 s1 ub vb kb tb c oI hr hj I1 sm hit XY rb hm;have hlt:j+1<vs.length:=by omega
  obtain ⟨its,rv,pl,hz⟩:=I1.list (sq H1 sm);have hsz:its.toArray.size=vs.length:=by rw[List.size_toArray,rv.length]
  have W:=Walks.list (prog:=X.prog) (w:=X.w) (A:=X.A.in1) hh It l hlI its.toArray;have nS:=I1.pin (S,seqObj "list" #[ub,.int kb tb] c) (List.mem_append_right _ (.head _));have nI:=I1.pin (It,oI) (List.mem_append_right _ (.tail _ (.head _)));refine codeAny_builtin PySem.F.entry_min_loop ?_;rw[Around.under_plainId PySem.F.plain_min_loop _];show wpAny _ X.A.in1 (seqItems? (.ref S)>>=_) _ _ _;refine wpAny_bind (wpAny_seqItems nS.1 rfl ?_);show wpAny _ X.A.in1 (tryCatch (pyNext (.ref It)) _>>=_) _ _ _;refine wpAny_bind (wpAny_tryCatch (W.item (j+1) _ _ _ (by rw[hsz];exact hlt) ⟨hit,pl.isList⟩ λ u h' tk' hP O4 hk'=>?_));have hu:its[j+1]? =some u:=by simpa using hP
  obtain ⟨DO,O6,hoc,hod⟩:=id O4.1;have I2:Inv X pins σ H1 {s1 with heap:=h',toks:=tk'}:=(eW (eW I1)).turned (it:=It) (λ b o hb e=>hk' b o (by simpa using hb) e) nI.2.1 nI.2.2.1 fI.2.2.2.1 fI.2.2.2.2.1 fI.2.2.2.2.2;have Xw:∀v,DO.data≠.cell v:=λ v z=>by rw[hod] at z;cases z
  have I3:Inv X ((S,seqObj "list" #[ub,.int kb tb] c)::(It,DO)::pins) σ H1 {s1 with heap:=h',toks:=tk'}:=I2.eu λ p hp=>by
   rcases List.mem_cons.mp hp with rfl|hp
   ·exact ⟨hk' S _ (by simpa using hSI) nS.1,nS.2⟩
   ·rcases List.mem_cons.mp hp with rfl|hp
    ·exact ⟨O6,nI.2.1,nI.2.2.1,nI.2.2.2.1,Xw⟩
    ·exact I2.pin p (List.mem_append_right _ hp)
  obtain ⟨k,hk⟩:∃k,kz[j+1]? =some k:=⟨_,List.getElem?_eq_getElem (by omega)⟩;have hv:vs[j+1]? =some vs[j+1]:=List.getElem?_eq_getElem hlt;have ru:RelV vs[j+1] u:=by obtain ⟨u',e1,e2⟩:=rv.get hv;rw[hu] at e1;cases e1;exact e2
  have hdr:kz.drop (j+1)=k::kz.drop (j+1+1):=by obtain ⟨h1,h2⟩:=List.getElem?_eq_some_iff.mp hk;rw[List.drop_eq_getElem_cons h1,h2]
  rw[hdr] at hm;simp only[gA.go] at hm;show wpAny _ X.A.in1 (tryCatch (holding [u] (call (.ref f) [u])) _>>=_) _ _ _;refine wpAny_bind (wpAny_tryCatch (wpAny_holding (wpAny_mono (KV its rv (j+1) u k hu hk _ H1 _ I3 sm) (λ x s'' he=>?_) λ _ _ hF=>hF.elim)));obtain ⟨v2,H2,I4,Lz,rfl,rM⟩:=he;obtain ⟨t2,rfl⟩:=Lz;have OE:=I4.pin (S,seqObj "list" #[ub,.int kb tb] c) (List.mem_append_right _ (.head _));have VL:=I4.pin (It,DO) (List.mem_append_right _ (.tail _ (.head _)));have X6:s''.heap.IsListIter It l (j+1+1):=⟨DO,VL.1,hoc,hod⟩;show wpAny _ X.A.in1 (tryCatch (holding [u,.int k t2] (richCompare .Lt (.int k t2) (.int kb tb)>>=_)) _>>=_) _ _ _;refine wpAny_bind (wpAny_tryCatch (wpAny_holding (wpAny_bind (CmpOf.ints_lt (prog:=X.prog) (w:=X.w) (A:=X.A.in1) (P:=λ i v=>∃t,v= .int (if i=0 then k else kb) t) (λ i=>if i=0 then k else kb) (λ i v h=>h) 0 1 _ _ _ _ _ ⟨t2,rfl⟩ ⟨tb,rfl⟩ ?_))));refine wpAny_bind (wpAny_holding (wpAny_truthy_bool ?_));refine wpAny_bind (wpAny_letGo (wpAny_pure ?_));show wpAny _ _ (if decide (k<kb)=true then _ else _) _ _ _;by_cases hb':k<kb
  ·have u1:=Heap.SameBut.update s''.heap S (Obj.mapSeq λ _=> #[u,.int k t2]);obtain ⟨c2,hc2⟩:∃c2,(s''.heap.update S (Obj.mapSeq λ _=> #[u,.int k t2])).get? S=some (seqObj "list" #[u,.int k t2] c2):=⟨_,get?_update_seq OE.1 λ _=> #[u,.int k t2]⟩;have I5:=gC (t':=s''.toks) I4 (zf fS OE.2.1 (Ne.symm hSI)) u1 hc2 g5;simp only[hb',decide_true,if_true];refine wpAny_bind ?_;refine wpAny_updateSeq OE.1 rfl (wpAny_bind (wpAny_letGo ?_));rw[hname];rw[if_pos hb'] at hm;exact wpAny_pure ⟨plainId_quiet PySem.F.plain_min_loop _,ih (j+1) (j+1) H2 _ u vs[j+1] k t2 c2 DO (by omega) hlt I5 (sm.trans rM) ⟨DO,(u1.2 It (Ne.symm hSI)).trans VL.1,hoc,hod⟩ hv ru hm⟩
  ·simp only[hb',decide_false,Bool.false_eq_true,if_false];refine wpAny_bind (wpAny_letGo ?_);rw[hname];rw[if_neg hb'] at hm;exact wpAny_pure ⟨plainId_quiet PySem.F.plain_min_loop _,ih (j+1) i H2 s'' ub vb kb tb c DO (by omega) hlt I4 (sm.trans rM) X6 XY rb hm⟩
def Ek{Q:VK}{E:Value->Shared->Prop}(KV:U8 X σ H X.A.in1 f vs kz)(I:Inv X pins σ H s)(hlen:kz.length=vs.length)(hne:0<vs.length)(hh:X.A.handled=none)(sq:∀H1,az H H1->fV X.K H1 l vs) (hQ:∀v H',vs[gA kz]? =some v->az H H'->Q v H'):wpAny (model X.prog X.w) X.A (call (.builtin "min") [.ref l] [(Str.ofString "key",.ref f)]) (EP X pins σ Q) E s:=by
 have hname:(toString "min"++toString ".loop":String)="min.loop":=by decide
 obtain ⟨its,rv,pl,hz⟩:=I.list (sq H (az.refl H));have hls:=pl.isList;obtain ⟨ol,hol,_⟩:=id hls;have hll:l<s.heap.objs.size:=Heap.lt_size hol;have hsz:its.toArray.size=vs.length:=by rw[List.size_toArray,rv.length]
 refine kmk_tree PySem.F.kind_min PySem.F.plain_min PySem.F.entry_min (kmk_min_key _ _) ?_;show wpAny _ X.A.in1 (Builtin.Builtins.bindParams "min" ["key","default"] 0 ⟨[],[(Str.ofString "key",.ref f)]⟩>>=_) _ _ s;refine wpAny_bind (wpAny_of_eq (show Builtin.Builtins.bindParams "min" ["key","default"] 0 ⟨[],[(Str.ofString "key",.ref f)]⟩=pure [some (.ref f),none] from rfl) ?_);refine wpAny_bind (wpAny_pure ?_);refine wpAny_bind (wpAny_pyIter_list hls ?_);refine wpAny_bind (wpAny_newList ?_ (Nat.zero_le _));rw[hname];have hS:(s.heap.push {cls:= .type "list_iterator",data:= .fields #[.ref l,.int 0 0]}).objs.size=s.heap.objs.size+1:=size_push' ..;have hlI:l≠s.heap.objs.size:=Nat.ne_of_lt hll;have hSI:(s.heap.push {cls:= .type "list_iterator",data:= .fields #[.ref l,.int 0 0]}).objs.size≠s.heap.objs.size:=by rw[hS];exact Nat.ne_of_gt (Nat.lt_succ_self _)
 refine wpAny_pure ⟨plainId_quiet PySem.F.plain_min_loop _,?_⟩;have gI:((s.heap.push {cls:= .type "list_iterator",data:= .fields #[.ref l,.int 0 0]}).push (seqObj "list" #[] 0)).get? s.heap.objs.size=some {cls:= .type "list_iterator",data:= .fields #[.ref l,.int 0 0]}:=
  Heap.get?_push_of_some _ (Heap.get?_push_size _ rfl)
 have gS:((s.heap.push {cls:= .type "list_iterator",data:= .fields #[.ref l,.int 0 0]}).push (seqObj "list" #[] 0)).get? (s.heap.push {cls:= .type "list_iterator",data:= .fields #[.ref l,.int 0 0]}).objs.size=some (seqObj "list" #[] 0):=Heap.get?_push_size _ rfl;have fI:fQ X pins H s.heap.objs.size:=I.n5 (Nat.le_refl _) (I.hok.fresh (Nat.le_refl _));have fS:fQ X pins H (s.heap.push {cls:= .type "list_iterator",data:= .fields #[.ref l,.int 0 0]}).objs.size:=I.n5 (by rw[hS];exact Nat.le_succ _) (I.hok.fresh (by rw[hS];exact Nat.le_succ _));have I1:=I.kept (t':=s.toks) (h':=(s.heap.push {cls:= .type "list_iterator",data:= .fields #[.ref l,.int 0 0]}).push (seqObj "list" #[] 0)) λ b o e=>Heap.get?_push_of_some _ (Heap.get?_push_of_some _ e);have X5:((s.heap.push {cls:= .type "list_iterator",data:= .fields #[.ref l,.int 0 0]}).push (seqObj "list" #[] 0)).IsList l its.toArray:=by obtain ⟨o,e,r⟩:=hls;exact ⟨o,Heap.get?_push_of_some _ (Heap.get?_push_of_some _ e),r⟩
 generalize (s.heap.push {cls:= .type "list_iterator",data:= .fields #[.ref l,.int 0 0]}).objs.size=S at*;generalize (s.heap.push {cls:= .type "list_iterator",data:= .fields #[.ref l,.int 0 0]}).push (seqObj "list" #[] 0)=h1 at*;generalize s.heap.objs.size=It at*;have W:=Walks.list (prog:=X.prog) (w:=X.w) (A:=X.A.in1) hh It l hlI its.toArray;refine codeAny_builtin PySem.F.entry_min_loop ?_;rw[Around.under_plainId PySem.F.plain_min_loop _];show wpAny _ X.A.in1 (seqItems? (.ref _)>>=_) _ _ _;refine wpAny_bind (wpAny_seqItems gS rfl ?_);show wpAny _ X.A.in1 (tryCatch (pyNext (.ref It)) _>>=_) _ _ _;refine wpAny_bind (wpAny_tryCatch (W.item 0 _ _ _ (by rw[hsz];exact hne) ⟨⟨_,gI,rfl,rfl⟩,X5⟩ λ u h' tk' hP O4 hk'=>?_));have hu:its[0]? =some u:=by simpa using hP
 obtain ⟨DO,O6,hoc,hod⟩:=id O4.1;have Xw:∀v,DO.data≠.cell v:=λ v z=>by rw[hod] at z;cases z
 have I2:Inv X pins σ H {s with heap:=h',toks:=tk'}:=L2.Inv.turned (s:={s with heap:=h1}) (h':=h') (t':=tk') (it:=It) I1 (λ b o hb e=>hk' b o (by simpa using hb) e) fI.1 fI.2.1 fI.2.2.2.1 fI.2.2.2.2.1 fI.2.2.2.2.2;have I3:Inv X ((S,seqObj "list" #[] 0)::(It,DO)::pins) σ H {s with heap:=h',toks:=tk'}:=I2.eu λ p hp=>by
  rcases List.mem_cons.mp hp with rfl|hp
  ·exact ⟨hk' S _ (by simpa using hSI) gS,fS.1,fS.2.1,fS.2.2.1,g5⟩
  ·rcases List.mem_cons.mp hp with rfl|hp
   ·exact ⟨O6,fI.1,fI.2.1,fI.2.2.1,Xw⟩
   ·exact I2.pin p (List.mem_append_right _ hp)
 obtain ⟨k,hk⟩:∃k,kz[0]? =some k:=⟨_,List.getElem?_eq_getElem (by omega)⟩;have hv:vs[0]? =some vs[0]:=List.getElem?_eq_getElem hne;have ru:RelV vs[0] u:=by obtain ⟨u',e1,e2⟩:=rv.get hv;rw[hu] at e1;cases e1;exact e2
 show wpAny _ X.A.in1 (tryCatch (holding [u] (call (.ref f) [u])) _>>=_) _ _ _;refine wpAny_bind (wpAny_tryCatch (wpAny_holding (wpAny_mono (KV its rv 0 u k hu hk _ H _ I3 (az.refl H)) (λ x s'' he=>?_) λ _ _ hF=>hF.elim)));obtain ⟨v2,H2,I4,Lz,rfl,rM⟩:=he;obtain ⟨t2,rfl⟩:=Lz;have OE:=I4.pin (S,seqObj "list" #[] 0) (List.mem_append_right _ (.head _));have VL:=I4.pin (It,DO) (List.mem_append_right _ (.tail _ (.head _)));have u1:=Heap.SameBut.update s''.heap S (Obj.mapSeq λ _=> #[u,.int k t2]);obtain ⟨c2,hc2⟩:∃c2,(s''.heap.update S (Obj.mapSeq λ _=> #[u,.int k t2])).get? S=some (seqObj "list" #[u,.int k t2] c2):=⟨_,get?_update_seq OE.1 λ _=> #[u,.int k t2]⟩;have I5:=gC (t':=s''.toks) I4 (zf fS OE.2.1 (Ne.symm hSI)) u1 hc2 g5;show wpAny _ X.A.in1 (updateSeq S (λ _=> #[u,.int k t2])>>=_) _ _ _;refine wpAny_bind ?_;refine wpAny_updateSeq OE.1 rfl ?_;rw[hname];have hm:gA kz=gA.go 0 k 1 (kz.drop 1):=by
  cases kz with
  |nil=>cases hk
  |cons k' r=>cases hk;rfl
 exact wpAny_pure ⟨plainId_quiet PySem.F.plain_min_loop _,Gz (E:=E) KV hlen hh sq fS fI hSI hlI hQ _ 0 0 H2 _ u vs[0] k t2 c2 DO rfl hne I5 rM ⟨DO,(u1.2 It (Ne.symm hSI)).trans VL.1,hoc,hod⟩ hv ru hm⟩
def JO{k:Nat}{N':List Str}{params:Arguments}{body:Expr}{scope:Scope}{jk kp p0 pos:Pos}{fk:Sg->Res D}{e:Expr}{fa:Sg->Res (List D)}(L:Rt X ct k N' caps params body scope jk fk)(hm:X.mg "min"=none)(ha:P8 X ct [e] fa)(hg:Gl X "min":=by rfl) (he:starEach [e] X.env=[(false,eval e X.env)]:=by rfl):PD X ct (.Call (.Name "min" p0) [e] [⟨some "key",.Lambda params body scope jk,kp⟩] pos) (zu fa caps fk):=by
 rintro pins s σ H Q I ⟨Γ,j,h⟩
 obtain ⟨_,_,_,_,_,_,_,_,_,_,_,_,hr,_⟩:=L.out;refine zD (id:="min") L hm ha hg (by decide+kernel) (by decide) (by decide) he I j ?_;unfold zu at h;refine h.bnd λ ds hds h' us0 us H1 s1 f sm t rv I1 KA=>?_;unfold BU at h';split at h'
 ·rename_i d;split at h'
  ·rename_i xs hxs;split at h'
   ·exact h'.elim
   ·rename_i x0 xr;obtain ⟨v,rfl,t1⟩:=nK t;obtain ⟨u,rfl,ru⟩:=vals1 rv;have j1:=j.mono sm;obtain ⟨a,ws,rfl,sq,tw⟩:=t1.gJ j1.lL j1.lB hxs;cases ru;cases hk:ez (λ x=>fk (lO x caps Γ)) (x0::xr) with
    |some kz=>
     rw[hk] at h';simp only at h';have lk:kz.length=ws.length:=by rw[nY hk,tw.length]
     split at h'
     ·rename_i d' hd';replace h':Wd X ct H Q d':=h';refine Ek (λ its W6=>KA X.A.in1 (x0::xr) ws its kz hr.hd I1.ok.frames ⟨hr.hd,by have:=hr.dp;show X.A.depth+3*(k+1)+5<recursionLimit;omega,by have:=hr.un;show X.A.units+1+16*(k+1)+200<cLine;omega⟩ tw W6 hk) I1 lk (by rw[<-tw.length];simp) hr.hd (λ H2 s2=>?_) λ v H' ev QM=>?_
      ·obtain ⟨a',ws',e1,Za,tw2⟩:=(t1.keep (az.keep s2)).gJ (j1.mono s2).lL (j1.mono s2).lB hxs;cases e1;rcases sq with (z|⟨o,z⟩)|z
       ·exact .inl (.inl (s2 _ _ z))
       ·exact .inl (.inr ⟨o,s2 _ _ z⟩)
       ·exact .inr z
      ·obtain ⟨v',e1,tv⟩:=tw.get hd';rw[ev] at e1;cases e1;exact h' v H' (sm.trans QM) (tv.keep (az.keep QM))
     ·exact h'.elim
    |none=>rw[hk] at h';exact h'.elim
  ·exact h'.elim
 ·exact h'.elim
end
end L4
end
section
namespace L4
open PySem PySem.Spec PyProof.Rows L2
section
variable{X:Cx}{c:Cf}{ct:Ct}{st:Stmt}{F:Sg->Out}{a b e:Expr}{f g:Sg->Res D}{pos:Pos}
def N7(i:Nat)(h:YE X c st F):YE X c st (Nz i F):=by
 rintro pins s σ H E I ⟨Γ,j,hf⟩
 unfold Nz at hf;split at hf
 ·rename_i ds hg;obtain ⟨S,sg,chg⟩:=j.chg i;obtain ⟨v,S0,g1,_⟩:=j.own hg;have hsl:=sg _ _ hg g1;obtain ⟨v',e1,ow,so,n0⟩:=hsl;cases e1;obtain ⟨H',z,t⟩:=L4.Inv.zb (ct:=c.z) (m:= .l ds) rfl I ow n0;have j':=chg H' (.val (.lst ds)) (some v) (λ _=>False) z.keep z.un z.free (λ _ _ q=>nomatch q) ⟨⟨v,rfl,t⟩,λ _ w=>w⟩ λ _ w=>w.elim;have es:σ.set i (some v)=σ:=by
   apply List.ext_getElem?;intro k;by_cases hk:i=k
   ·subst hk;have hi:=(List.getElem?_eq_some_iff.mp g1).1;rw[List.getElem?_set_self hi,g1]
   ·rw[List.getElem?_set_ne hk]
  rw[es] at j';exact h pins s σ H' E z.inv ⟨_,j',Fn.mono z.keep hf⟩
 ·exact hf.elim
def Sy(K:W.Frag):R2:=λ x y H Q=>∃l v n,x= .ref l/\y= .int n/\fV K H l [v]/\(0<=n/\n<=100000)/\∀p,H p=none->Q (.ref p) (upd H p (.lst (List.replicate n.toNat v)))
theorem xT{v:V}{u:Value}(r:RelV v u):∀n,Vals (List.replicate n v) (List.replicate n u)
 |0=> .nil
 |n+1=> .cons r (xT r n)
def Ob:kF X (binaryOp .Mult) (Sy X.K):=by
 intro pins s σ H x y v u Q I rx ry h;obtain ⟨l,w,n,rfl,rfl,hH,hn,q⟩:=h;cases rx;obtain ⟨t,rfl⟩:=ry;obtain ⟨its,r,⟨⟨oc,od,Zn,osl⟩,k,e,hc,_,hd⟩,_⟩:=I.list hH;simp only at hc hd;subst hc hd;obtain ⟨u,rfl,ru⟩:∃u,its=[u]/\RelV w u:=by
  cases r with
  |cons r1 r2=>cases r2;exact ⟨_,rfl,r1⟩
 have hs: #[u].size*n.toNat<=100000:=by have: #[u].size=1:=rfl;rw[this];omega
 refine wpAny_binaryOp_repeat_ref (T:="list") (U:="int") (by decide) ⟨_,e,rfl⟩ (λ s'=>typeIs_int s' n t) noFill_list_mul PySem.F.fills_int_mul PySem.F.slot_int_rmul repeat_list PySem.F.slot_int_index.lookup
  (call_meets PySem.F.slot_int_rmul (typeIs_int s n t) PySem.F.entry_int_rmul (PySem.F.args_int_rmul_2 _ _) (lm_int_rmul_list_any n t l [u].toArray k od osl) ⟨e,rfl,⟨_,e,rfl⟩,call_meets PySem.F.slot_list_mul ⟨_,e,rfl⟩ PySem.F.entry_list_mul (PySem.F.args_list_mul_2 _ _)
    (lm_list_mul_any l [u].toArray k od osl n t (by simp[Builtin.List.listFitsIndex];omega) (by omega) (by simp[Builtin.List.listTooLong,sizeLine];omega))
    ⟨e,?_⟩⟩)
 have ea:List.foldl (λ x1 x2=>x1++x2) #[] (List.replicate (if [u].toArray.isEmpty=true then 0 else n.toNat) [u].toArray)=(List.replicate n.toNat u).toArray:=by rw[listMul_foldl_if,lm_rep_flat_one]
 rw[ea];exact ⟨.ref _,_,I.Tw (t':=s.toks) (xT ru _) (by rw[List.length_replicate,sizeLine_eq];omega),rfl,q _ I.fresh⟩
end
theorem jU{K:W.Frag}{ct:Ct}{H:Hp}:∀{xs:List D} {zs:List Int} {vs:List V},gD xs=some zs->aK K ct H xs vs->vs=zs.map V.int
 |[],zs,vs,h,t=>by cases h;simpa[aK] using t
 |x::xs,zs,vs,h,t=>by
  cases x with
  |int i=>
   simp only[gD] at h;cases q:gD xs with
   |none=>rw[q] at h;cases h
   |some r=>rw[q] at h;cases h;simp only[aK,Tl] at t;obtain ⟨v,w,rfl,rfl,t⟩:=t;rw[jU q t];rfl
  |_=>cases h
theorem lD:∀{zs:List Int} {us:List Value},Vals (zs.map V.int) us->IntsAre us zs
 |[],_,.nil=> .nil
 |z::zs,_,.cons r t=>by obtain ⟨tk,rfl⟩:=r;exact .cons z tk (lD t)
section
variable{X:Cx}{ct:Ct}{o e:Expr}{f g:Sg->Res D}{apos cpos pos:Pos}
def W0(K:W.Frag)(td ty:TE):TE:=λ σ H Q=>td σ H λ x H1=>∃(a:Addr) (zs:List Int),x= .ref a/\fV K H1 a (zs.map V.int)/\ty σ H1 λ y H2=>∃k,y= .int k/\fV K H2 a (zs.map V.int)/\Q (.int (zs.count k:Nat)) H2
def FY{td ty:TE}(ho:PE X o td)(he:PE X e ty)(m:M1 X o "count" apos e cpos):PE X (.Call (.Attribute o "count" apos) [e] [] cpos) (W0 X.K td ty):=by
 intro pins s σ H Q I h;refine wpAny_Call_method m.base m.few m.line PySem.F.plainAttrs_list PySem.F.slot_list_count PySem.F.type_list_count (dN (ho pins s σ H _ I h) ?_)
 rintro u s1 ⟨x,H1,I1,rx,a,zs,rfl,sq,q1⟩
 obtain rfl:u=Value.ref a:=rx;obtain ⟨its,r,pl,hz⟩:=I1.list sq;obtain ⟨ob,n,e1,c1,d1,dt1⟩:=id pl;refine ⟨⟨ob,e1,c1⟩,λ b hb=>?_,?_⟩
 ·cases hb;exact ⟨ob,e1,d1⟩
 rw[m.trees];refine Calls.callWith_builtin rfl (Calls.evalArgs_plain (Calls.spliced_cons (dN (he pins s1 σ H1 _ I1 q1) ?_)))
 rintro iv s2 ⟨y,H2,I2,ry,k,rfl,Za,q2⟩
 obtain ⟨tk,rfl⟩:=ry;refine Calls.spliced_nil ?_;obtain ⟨its2,r2,pl2,hz2⟩:=I2.list Za;have ia:=lD r2;obtain ⟨o2,n2,e2,c2,d2,dt2⟩:=id pl2;exact count_list_ints ⟨o2,e2,c2,n2,dt2⟩ ia ⟨.int _,H2,I2.tok _,⟨_,rfl⟩,q2⟩
def F2(ha:PD X ct o f)(hb:PD X ct e g)(m:M1 X o "count" apos e cpos:=by exact ⟨rfl,rfl,rfl,rfl⟩):
  PD X ct (.Call (.Attribute o "count" apos) [e] [] cpos) (sy f g):=by
 refine λ pins s σ H Q I=>ah λ Γ j hh=>?_;refine FY ha hb m pins s σ H Q I ?_;refine nE.bnd j hh λ x v H1 s1 t1 j1 q1=>?_;split at q1
 ·rename_i zs e0;cases ex:rC x with
  |none=>rw[ex] at e0;cases e0
  |some xs=>
  rw[ex] at e0;obtain ⟨l,vs,rfl,r1,r2⟩:=t1.gJ j1.lL j1.lB ex;have ev:=jU (zs:=zs) (by simpa using e0) r2;subst ev;refine ⟨l,zs,rfl,r1,?_⟩;refine nE.bnd (f:=g) (W:=Wd X ct H Q) j1 (Ok.mono s1 q1 λ _ z=>z) λ y u H2 s2 t2 j2 q2=>?_;unfold PU at q2;split at q2
  ·rename_i k;simp only[Tl] at t2;subst t2;obtain ⟨l',vs',ea,w1,w2⟩:=(t1.keep (az.keep s2)).gJ j2.lL j2.lB ex;cases ea;have ev:=jU (zs:=zs) (by simpa using e0) w2;subst ev;exact ⟨k,rfl,w1,q2 _ H2 (s1.trans s2) (by simp[Tl])⟩
  ·exact q2.elim
 ·exact q1.elim
end
def Qe(K:W.Frag)(a:Addr)(N:Nat):It:=⟨λ i H=>∃xs x,fV K H a xs/\xs.length=N/\xs[i]? =some x,λ i H x H'=>∃p v,H p=none/\(∀xs,fV K H a xs->xs[i]? =some v)/\x= .ref p/\H'=upd H p (.tup [.int i,v]),λ i H=>∃xs,fV K H a xs/\xs.length=N/\N<=i⟩
def oY{h:Heap}{e it a:Addr}{i:Int}{j:Nat}{old:Value}{items:Array Value}(h1:IsEnum h e it i old)(h2:h.IsListIter it a j)(h3:h.IsList a items):e≠it/\e≠a/\a≠it:=by
 revert h2;refine aD λ o2 g2 c2 d2=>?_
 revert h3;refine aD λ o3 g3 c3 _=>?_
 refine aS (λ z=>?_) (λ z=>?_) (λ z=>?_)
 ·subst z;rw[h1] at g2;cases g2;exact I0 (by decide) c2
 ·subst z;rw[h1] at g3;cases g3;exact I0 (by decide) c3
 ·subst z;rw[g2] at g3;cases g3;rw[c2] at c3;exact I0 (by decide) c3
def z7{P:Program}{w:World}{K:W.Frag}{elts:List Expr}{c:Nat}{pos:Pos}(a e it:Addr)(N:Nat):Turn P w K (.Tuple elts c pos) (Qe K a N) [e,it] e (λ i h=>(∃old,IsEnum h e it (i:Nat) old)/\h.IsListIter it a i/\i<=N) where
 mem:=by simp
 obj:=λ i h st b hb=>by
  revert st;refine aW λ z1 z2 _=>?_;obtain ⟨old,h1⟩:=z1;revert z2;refine aD λ o e2 c2 d2=>?_
  simp only[List.mem_cons,List.mem_singleton,List.not_mem_nil,or_false] at hb
  rcases hb with rfl|rfl
  ·exact af _ h1 (λ v z=>by cases z)
  ·exact af o e2 (λ v z=>by rw[d2] at z;cases z)
 keep:=λ i h h' st k=>by
  revert st;refine aW λ z1 h2 h3=>?_;obtain ⟨old,h1⟩:=z1
  exact aS ⟨old,k e (by simp) _ h1⟩ (h2.at λ o z=>k it (by simp) o z) h3
 item:=by
  intro X hP hw hK hc i pins s σ H E I hf st hg
  subst hP hw hK
  revert st;refine aW λ z1 h2 h3=>?_;obtain ⟨old,h1⟩:=z1
  revert hg;refine ak λ xs x hq hN hx=>?_
  refine aD (λ its rv p hz=>?_) (I.list hq)
  refine ah (λ u hu ru=>?_) (rv.get hx)
  have hl:=rv.length
  have p':s.heap.IsList a its.toArray:=p.isList
  refine aW (λ n1 n2 n3=>?_) (oY h1 h2 p')
  have hi:i<its.toArray.size:=by
   have:=(List.getElem?_eq_some_iff.mp hu).1
   simpa using this
  refine wpAny_pyNext_enum_itemD (Draws.list (A:=X.A.in1) (prog:=X.prog) (w:=X.w) (I.ok.hd hc) it a n3 its.toArray) h1 ⟨h2,p'⟩ hi n1 (by simp[n1,n2]) λ y h' tk hy ho st' hT hsz kk=>?_
  have ey:y=u:=by
   rw[List.getElem?_toArray,hu] at hy;exact (Option.some.inj hy).symm
  subst ey
  refine af _ rfl (wpAny_letOwnedTupleGo_enum ho λ D9 X7 sb=>?_)
  have ZK:s.heap.objs.size≠e:=Nat.ne_of_gt (Heap.lt_size h1)
  have hT2:D9.get? s.heap.objs.size=some {cls:= .type "tuple",data:= .seq #[.int i tk,y]}:=(sb.2 _ ZK).trans hT
  have hfp:=λ b (hb:b∈[e,it])=>hf b hb
  have I2:Inv X pins σ (upd H s.heap.objs.size (.tup [.int i,x])) {s with heap:=D9,toks:=tk+1}:=by
   refine uh (ch:=[e,it]) I (λ b o hb q=>?_) hfp (Nat.le_refl _) (⟨by simp[sizeLine_eq],af [.int i tk,y] (.cons ⟨tk,rfl⟩ (.cons ru .nil)) (aX _ hT2 rfl ⟨0,rfl⟩)⟩)
   simp only[List.mem_cons,List.not_mem_nil,or_false,not_or] at hb
   exact (sb.2 b hb.1).trans (kk b o hb.1 hb.2 q)
  refine bG (.ref s.heap.objs.size) _ I2 rfl (bg _ x (I.hok.fresh (Nat.le_refl _)) (λ ys hys=>by rw[I.jE hys hq];exact hx) rfl rfl) (aS ⟨_,X7⟩ ?_ ?_) (λ b hb=>?_)
  ·exact st'.1.at λ o z=>(sb.2 it (Ne.symm n1)).trans z
  ·have:=(List.getElem?_eq_some_iff.mp hx).1;omega
  ·have hb0:=hfp b hb
   rw[aB]
   ·exact hb0.1
   ·intro z
    simp only[List.mem_cons,List.not_mem_nil,or_false] at hb
    rcases hb with rfl|rfl
    ·exact ZK z.symm
    ·revert h2;refine ah λ o2 g2 _=>?_
     exact absurd z (Nat.ne_of_lt (Heap.lt_size g2))
 done:=by
  intro X hP hw hK hc i pins s σ H E I hf st hg
  subst hP hw hK
  revert st;refine aW λ z1 h2 h3=>?_;obtain ⟨old,h1⟩:=z1
  revert hg;refine aD λ xs hq hN hi=>?_
  refine aD (λ its rv p hz=>?_) (I.list hq)
  have hl:=rv.length
  have p':s.heap.IsList a its.toArray:=p.isList
  refine aW (λ n1 n2 n3=>?_) (oY h1 h2 p')
  have ei:i=its.toArray.size:=by simp;omega
  subst ei
  refine wpAny_pyNext_enum_endD (Draws.list (A:=X.A.in1) (prog:=X.prog) (w:=X.w) (I.ok.hd hc) it a n3 its.toArray) h1 ⟨h2,p'⟩ λ h' eb=>⟨rfl,?_⟩
  exact Bm (ch:=[it]) (t':=s.toks) I (λ b o hb q=>eb b o (by simpa using hb) q) λ b hb=>hf b (by simp only[List.mem_singleton] at hb;subst hb;simp)
 self:=λ _ _ _ _ _ st h=>by
  obtain ⟨⟨old,h1⟩,_⟩:=st
  exact wpAny_pyIter_enum h1 h
def Qd(K:W.Frag)(l1 l2:Addr):It:=⟨λ i H=>∃xs ys x y,fV K H l1 xs/\fV K H l2 ys/\xs[i]? =some x/\ys[i]? =some y,λ i H x H'=>∃p v u,H p=none/\(∀xs,fV K H l1 xs->xs[i]? =some v)/\(∀ys,fV K H l2 ys->ys[i]? =some u)/\x= .ref p/\H'=upd H p (.tup [v,u]),λ i H=>∃xs ys,fV K H l1 xs/\fV K H l2 ys/\(xs[i]? =none\/ys[i]? =none)⟩
def MK(n l1 l2:Addr)(i:Nat)(h:Heap):Prop:=IsZip h (n+4) (n+2) (n+3) .none/\IsPair h (n+2) (.ref n) (.ref (n+1))/\(∃a b,IsPair h (n+3) a b)/\h.IsListIter n l1 i/\h.IsListIter (n+1) l2 i
def fG{h:Heap}{l b:Addr}{xs:Array Value}{o:Obj}{T:String}(hl:h.IsList l xs)(hb:h.get? b=some o)(hc:o.cls= .type T)(hT:"list"≠T):l≠b:=by obtain ⟨o2,g2,c2,_⟩:=hl;intro z;subst z;rw[hb] at g2;cases g2;rw[hc] at c2;exact I0 hT c2.symm
def sH{h:Heap}{n l1 l2:Addr}{i:Nat}{xs ys:Array Value}(st:MK n l1 l2 i h)(h1:h.IsList l1 xs)(h2:h.IsList l2 ys):ZipApart (n+4) (n+2) (n+3) n (n+1) l1 l2:=by
 obtain ⟨hz,hTI,⟨a,b,hTO⟩,⟨o1,g1,c1,_⟩,⟨o2,g2,c2,_⟩⟩:=st;constructor;all_goals first
  |exact fG h1 hz rfl (by decide)
  |exact fG h2 hz rfl (by decide)
  |exact fG h1 hTO rfl (by decide)
  |exact fG h2 hTO rfl (by decide)
  |exact fG h1 g1 c1 (by decide)
  |exact fG h2 g1 c1 (by decide)
  |exact fG h1 g2 c2 (by decide)
  |exact fG h2 g2 c2 (by decide)
  |exact Nat.ne_of_lt (by omega)
  |exact Nat.ne_of_gt (by omega)
def E2{P:Program}{w:World}{K:W.Frag}{elts:List Expr}{c:Nat}{pos:Pos}(n l1 l2:Addr):Turn P w K (.Tuple elts c pos) (Qd K l1 l2) [n+4,n+2,n+3,n,n+1] (n+4) (MK n l1 l2) where
 mem:=by simp
 obj:=λ i h st b hb=>by
  obtain ⟨hz,hTI,⟨a,b',hTO⟩,⟨o1,g1,c1,d1⟩,⟨o2,g2,c2,d2⟩⟩:=st
  simp only[List.mem_cons,List.not_mem_nil,or_false] at hb
  rcases hb with rfl|rfl|rfl|rfl|rfl
  ·exact ⟨_,hz,λ v z=>by cases z⟩
  ·exact ⟨_,hTI,λ v z=>by cases z⟩
  ·exact ⟨_,hTO,λ v z=>by cases z⟩
  ·exact ⟨_,g1,λ v z=>by rw[d1] at z;cases z⟩
  ·exact ⟨_,g2,λ v z=>by rw[d2] at z;cases z⟩
 keep:=λ i h h' st k=>by
  obtain ⟨hz,hTI,⟨a,b',hTO⟩,h1,h2⟩:=st
  exact ⟨k _ (by simp) _ hz,k _ (by simp) _ hTI,⟨a,b',k _ (by simp) _ hTO⟩,h1.at λ o z=>k _ (by simp) o z,h2.at λ o z=>k _ (by simp) o z⟩
 item:=by
  intro X hP hw hK hc i pins s σ H E I hf st hg
  subst hP hw hK
  obtain ⟨xs,ys,x,y,q1,q2,hx,hy⟩:=hg
  obtain ⟨TU,Vt,p1,hz1⟩:=I.list q1
  obtain ⟨its2,Lz,p2,hz2⟩:=I.list q2
  obtain ⟨u1,hu1,ru1⟩:=Vt.get hx
  obtain ⟨u2,hu2,ru2⟩:=Lz.get hy
  have D:=sH st p1.isList p2.isList
  obtain ⟨hz,hTI,⟨a,b',hTO⟩,h1,h2⟩:=st
  refine wpAny_pyNext_zip_item D hz hTI hTO h1 h2 p1.isList p2.isList (x:=u1) (y:=u2) (by simpa using hu1) (by simpa using hu2) λ h' a1 a2 a3 a4 a5 a6 hk=>?_
  refine af _ rfl (wpAny_letOwnedTupleGo_zip a1 λ D9 XX sb=>?_)
  have lt:∀{c:Addr} {o:Obj},s.heap.get? c=some o->s.heap.objs.size≠c:=λ e=>Nat.ne_of_gt (Heap.lt_size e)
  have hT2:IsPair D9 s.heap.objs.size u1 u2:=(sb.2 _ (lt hz)).trans a5
  have I2:Inv X pins σ (upd H s.heap.objs.size (.tup [x,y])) {s with heap:=D9,toks:=s.toks}:=by
   refine uh (ch:=[n+4,n+2,n+3,n,n+1]) I (λ b o hb q=>?_) hf (Nat.le_refl _) (⟨by simp[sizeLine_eq],af [u1,u2] (.cons ru1 (.cons ru2 .nil)) (aX _ hT2 rfl ⟨0,rfl⟩)⟩)
   simp only[List.mem_cons,List.not_mem_nil,or_false,not_or] at hb
   exact (sb.2 b hb.1).trans (hk b o hb.1 hb.2.2.1 hb.2.2.2.1 hb.2.2.2.2 q)
  refine bG (.ref s.heap.objs.size) _ I2 rfl ⟨_,x,y,I.hok.fresh (Nat.le_refl _),λ zs hzs=>by rw[I.jE hzs q1];exact hx,λ zs hzs=>by rw[I.jE hzs q2];exact hy,rfl,rfl⟩
   ⟨XX,(sb.2 _ D.TIz).trans (hk _ _ D.TIz D.TITO D.TIi1 D.TIi2 hTI),⟨_,_,(sb.2 _ D.TOz).trans a2⟩,a3.at λ o z=>(sb.2 _ D.i1z).trans z,a4.at λ o z=>(sb.2 _ D.i2z).trans z⟩ (λ b hb=>?_)
  have hb0:=hf b hb
  rw[aB]
  ·exact hb0.1
  ·obtain ⟨o1,g1,_⟩:=h1
   obtain ⟨o2,g2,_⟩:=h2
   simp only[List.mem_cons,List.not_mem_nil,or_false] at hb
   rcases hb with rfl|rfl|rfl|rfl|rfl
   ·exact (lt hz).symm
   ·exact (lt hTI).symm
   ·exact (lt hTO).symm
   ·exact (lt g1).symm
   ·exact (lt g2).symm
 done:=by
  intro X hP hw hK hc i pins s σ H E I hf st hg
  subst hP hw hK
  obtain ⟨xs,ys,q1,q2,he⟩:=hg
  obtain ⟨TU,Vt,p1,hz1⟩:=I.list q1
  obtain ⟨its2,Lz,p2,hz2⟩:=I.list q2
  have l1':=Vt.length
  have l2':=Lz.length
  have D:=sH st p1.isList p2.isList
  obtain ⟨hz,hTI,⟨a,b',hTO⟩,h1,h2⟩:=st
  refine wpAny_pyNext_zip_end (I.ok.hd hc) D hz hTI hTO h1 h2 p1.isList p2.isList ?_ λ h' hk=>⟨rfl,?_⟩
  ·rcases he with he|he
   ·left;rw[List.getElem?_eq_none_iff] at he;rw[List.getElem?_toArray,List.getElem?_eq_none_iff];omega
   ·right;rw[List.getElem?_eq_none_iff] at he;rw[List.getElem?_toArray,List.getElem?_eq_none_iff];omega
  ·refine Bm (ch:=[n+4,n+2,n+3,n,n+1]) (t':=s.toks) I (λ b o hb q=>?_) hf
   simp only[List.mem_cons,List.not_mem_nil,or_false,not_or] at hb
   exact hk b o hb.1 hb.2.2.1 hb.2.2.2.1 hb.2.2.2.2 q
 self:=λ _ _ _ _ _ st h=>wpAny_pyIter_zip st.1 h
section
variable{X:Cx}{ct:Ct}{elts:List Expr}{cx:Nat}{tp:Pos}
def XQ(K:W.Frag)(ta:TA):TI:=λ σ H R=>ta σ H λ vs H1=>∃a b xs ys,vs=[.ref a,.ref b]/\fV K H1 a xs/\fV K H1 b ys/\R (Qd K a b) H1
def boot_zip:bootBuiltins "zip"=some (.type "zip"):=by decide+kernel
def NW{a b:Expr}{ta:TA}{p pos:Pos}(hg:Gl X "zip")(hm:X.mg "zip"=none)(ha:PA X [a,b] ta)(hs:starEach [a,b] X.env=[(false,eval a X.env),(false,eval b X.env)]:=by rfl)(hs2:starEach [b] X.env=[(false,eval b X.env)]:=by rfl):
  PI X (.Tuple elts cx tp) (.Call (.Name "zip" p) [a,b] [] pos) (XQ X.K ta):=by
 intro pins s σ H R I h;refine Call_ (iY I hg hm boot_zip (PyProof.Rows.callWith_type1 (dN (ha pos pins s σ H _ I h) λ us s1 z_=>vf z_ λ vs H1 I1 r1 q1=>?_) (by rw[hs,hs2]) (by rw[hs2];rfl)));obtain ⟨l1,l2,xs,ys,e,k1,k2,q⟩:=q1;subst e;cases r1 with
 |cons r rr=>
  cases rr with
  |cons r' rr=>
   cases rr;cases r;cases r';obtain ⟨TU,Vt,p1,hz1⟩:=I1.list k1;obtain ⟨its2,Lz,p2,hz2⟩:=I1.list k2;refine call_zip_2 p1.isList p2.isList λ h' a1 a2 a3 a4 a5 a6 k=>?_;refine wpAny_pyIter_zip a1 ?_;refine jx (s1.heap.objs.size+4) [s1.heap.objs.size+4,s1.heap.objs.size+2,s1.heap.objs.size+3,s1.heap.objs.size,s1.heap.objs.size+1] _ _ H1 rfl (I1.kept (t':=s1.toks) k) (E2 s1.heap.objs.size l1 l2) ⟨a1,a2,⟨_,_,a3⟩,a4,a5⟩ (λ b hb=>?_) q;have hle:s1.heap.objs.size<=b:=by simp only[List.mem_cons,List.not_mem_nil,or_false] at hb;rcases hb with rfl|rfl|rfl|rfl|rfl<;>first|exact Nat.le_refl _|exact Nat.le_add_right _ _
   exact I1.n5 hle (I1.hok.fresh hle)
def Kh{K:W.Frag}{H:Hp}{a b:Addr}{vs us:List V}{xs ys:List D}(f1:∀H1,aV ct.f.cb H H1->fV K H1 a vs)(f2:∀H1,aV ct.f.cb H H1->fV K H1 b us)(t1:aK K ct H xs vs)(t2:aK K ct H ys us):
  xN K ct (Qd K a b) ((xs.zip ys).map λ p=> .tup [p.1,p.2]) H:=by
 have e1:=t1.length;have e2:=t2.length;refine bY (λ H1=>aV ct.f.cb H H1) (aV.refl H) (λ H1 H2 k1 k2 _ _=>k1.trans k2) (λ i d H1 k1 hd=>?_) (λ i H1 k1 hi=>⟨vs,us,f1 H1 k1,f2 H1 k1,?_⟩)
 ·rw[List.getElem?_map] at hd;cases hz:(xs.zip ys)[i]? with
  |none=>rw[hz] at hd;cases hd
  |some p=>
   rw[hz] at hd;simp only[Option.map_some,Option.some.injEq] at hd;subst hd;rw[List.getElem?_zip_eq_some] at hz;obtain ⟨v,hv,tv⟩:=t1.get hz.1;obtain ⟨u,hu,tu⟩:=t2.get hz.2;refine ⟨⟨vs,us,v,u,f1 H1 k1,f2 H1 k1,hv,hu⟩,?_⟩
   rintro y H2 ⟨q,v',u',hp,hv',hu',ey,eH⟩
   have z1:=hv' vs (f1 H1 k1);have z2:=hu' us (f2 H1 k1);rw[hv] at z1;cases z1;rw[hu] at z2;cases z2;subst ey eH;have sm:=bx (H:=H1) hp (.tup [v,u]);refine ⟨sm,?_⟩;simp only[Tl];exact ao q _ rfl aI (aK.cons ((tv.keep k1).keep (az.keep sm)) (aK.cons ((tu.keep k1).keep (az.keep sm)) aK.nil))
 ·simp only[List.length_map,List.length_zip] at hi;rcases Nat.le_total xs.length ys.length with h|h
  ·left;rw[List.getElem?_eq_none_iff];omega
  ·right;rw[List.getElem?_eq_none_iff];omega
def JH{a b:Expr}{r:Sg->Res (List D)}{p pos':Pos}(hm:X.mg "zip"=none)(ha:P8 X ct [a,b] r)(AJ:Gl X "zip":=by rfl)(hs:starEach [a,b] X.env=[(false,eval a X.env),(false,eval b X.env)]:=by rfl)(hs2:starEach [b] X.env=[(false,eval b X.env)]:=by rfl):
  Rr X ct (.Tuple elts cx tp) (.Call (.Name "zip" p) [a,b] [] pos') (Ku r):=by
 refine λ pins s σ H R I=>ah λ Γ j h=>?_;refine NW AJ hm ha hs hs2 pins s σ H R I (af Γ j (h.bnd λ ds _ q vs H' s tl=>?_));unfold Vi at q;split at q
 ·rename_i xs ys _;replace q:∀J H',az H H'->xN X.K ct J ((xs.zip ys).map λ p=> .tup [p.1,p.2]) H'->R J H':=q;simp only[aK,Tl] at tl;obtain ⟨v1,r1,rfl,⟨b1,us1,rfl,hb1,t1⟩,v2,r2,rfl,⟨b2,us2,rfl,hb2,t2⟩,rfl⟩:=tl;exact ⟨b1,b2,us1,us2,rfl,hb1.sq,hb2.sq,q _ H' s (Kh (λ H1 k=>(k.Hg hb1).sq) (λ H1 k=>(k.Hg hb2).sq) t1 t2)⟩
 ·exact q.elim
def TY(K:W.Frag)(ta:TA):TI:=λ σ H R=>ta σ H λ vs H1=>∃a xs,vs=[.ref a]/\fV K H1 a xs/\R (Qe K a xs.length) H1
def FN{a:Expr}{ta:TA}{p pos:Pos}(hg:Gl X "enumerate")(hm:X.mg "enumerate"=none)(ha:PA X [a] ta)(hs:starEach [a] X.env=[(false,eval a X.env)]:=by rfl):PI X (.Tuple elts cx tp) (.Call (.Name "enumerate" p) [a] [] pos) (TY X.K ta):=by
 intro pins s σ H R I h;refine Call_ (iY I hg hm boot_enumerate (PyProof.Rows.callWith_type1 (dN (ha pos pins s σ H _ I h) λ us s1 z_=>vf z_ λ vs H1 I1 r1 q1=>?_) hs rfl));obtain ⟨l,xs,e,hq,q⟩:=q1;subst e;cases r1 with
 |cons r rr=>
  cases rr;cases r;obtain ⟨its,rv,p,hz⟩:=I1.list hq;refine call_enumerate_list p.isList λ h' he hit _ k=>?_;refine wpAny_pyIter_enum he ?_;refine jx (s1.heap.objs.size+1) [s1.heap.objs.size+1,s1.heap.objs.size] _ _ H1 rfl (I1.kept (t':=s1.toks) k) (z7 l _ _ xs.length) (aS ⟨_,he⟩ hit (Nat.zero_le _)) (λ b hb=>?_) q;simp only[List.mem_cons,List.not_mem_nil,or_false] at hb;rcases hb with rfl|rfl
  ·exact I1.n5 (Nat.le_succ _) (I1.hok.fresh (Nat.le_succ _))
  ·exact I1.n5 (Nat.le_refl _) (I1.hok.fresh (Nat.le_refl _))
def D0{K:W.Frag}{H:Hp}{a:Addr}{vs:List V}{xs:List D}(fz:∀H1,aV ct.f.cb H H1->fV K H1 a vs)(t:aK K ct H xs vs):xN K ct (Qe K a vs.length) (eB 0 xs) H:=by
 refine bY (λ H1=>aV ct.f.cb H H1) (aV.refl H) (λ H1 H2 k1 k2 _ _=>k1.trans k2) (λ i d H1 k1 hd=>?_) (λ i H1 k1 hi=>aX vs (fz H1 k1) rfl (by rw[tN] at hi;rw[<-t.length];exact hi));rw[tO,Nat.zero_add] at hd;cases hx:xs[i]? with
 |none=>rw[hx] at hd;cases hd
 |some x=>rw[hx] at hd;simp only[Option.map_some,Option.some.injEq] at hd;subst hd;refine ah (λ v hv tv=>?_) (t.get hx);refine ⟨ao vs v (fz H1 k1) rfl hv,?_⟩;refine λ y H2=>aN λ p v' hp hv' ey eH=>?_;have e2:=hv' vs (fz H1 k1);rw[hv] at e2;cases e2;subst ey eH;have sm:=bx (H:=H1) hp (.tup [.int i,v]);refine ⟨sm,?_⟩;simp only[Tl];exact ao p _ rfl aI (aK.cons (by simp[Tl]) (aK.cons ((tv.keep k1).keep (az.keep sm)) aK.nil))
def DE{a:Expr}{r:Sg->Res (List D)}{p pos':Pos}(hm:X.mg "enumerate"=none)(ha:P8 X ct [a] r)(AJ:Gl X "enumerate":=by rfl)(hs:starEach [a] X.env=[(false,eval a X.env)]:=by rfl):
  Rr X ct (.Tuple elts cx tp) (.Call (.Name "enumerate" p) [a] [] pos') (qO r):=by
 refine λ pins s σ H R I=>ah λ Γ j h=>?_;refine FN AJ hm ha hs pins s σ H R I (af Γ j (h.bnd λ ds _ q vs H' s tl=>?_));unfold AU at q;split at q
 ·rename_i xs _;replace q:∀J H',az H H'->xN X.K ct J (eB 0 xs) H'->R J H':=q;refine ah (λ v z t1=>?_) (nK tl);subst z;simp only[Tl] at t1
  revert t1;refine ak λ b us z hb t2=>?_;subst z
  exact ao b us rfl hb.sq (q _ H' s (D0 (λ H1 k=>(k.Hg hb).sq) t2))
 ·exact q.elim
end
end L4
end
section
namespace L4
open PySem PySem.Spec PyProof PyProof.Rows L2
def OV:List Int->Nat->Int
 |[],_=>0
 |z::_,0=>z
 |_::zs,i+1=>OV zs i
theorem oM(v:Nat->Int):∀n,preSum v (n+1)=v 0+preSum (λ i=>v (i+1)) n
 |0=>by simp[preSum]
 |n+1=>by have:=oM v n;simp only[preSum] at this ⊢;omega
theorem qc:∀zs:List Int,preSum (OV zs) zs.length=zs.sum
 |[]=>rfl
 |z::zs=>by rw[List.length_cons,oM,List.sum_cons];exact congrArg (z+ ·) (qc zs)
def G4{zs:List Int}(h:∀z∈zs,0<=z/\z<=1000000000000)(i:Nat):0<=OV zs i/\OV zs i<=1000000000000:=by
 induction zs generalizing i with
 |nil=>simp[OV]
 |cons z zs ih=>
  cases i with
  |zero=>exact h z (by simp)
  |succ i=>exact ih (λ z hz=>h z (by simp[hz])) i
theorem sR{v:Nat->Int}(h:∀i,0<=v i/\v i<=1000000000000):∀n:Nat,0<=preSum v n/\preSum v n<=n*1000000000000
 |0=>by simp[preSum]
 |n+1=>by have:=sR h n;have:=h n;simp only[preSum];omega
theorem Ca:∀{us:List Value} {zs:List Int} {i:Nat} {v:Value},IntsAre us zs->us[i]? =some v->∃t,v= .int (OV zs i) t
 |_,_,0,v,.cons n t h,e=>by simp only[List.getElem?_cons_zero,Option.some.injEq] at e;exact ⟨t,e.symm⟩
 |_,_,i+1,v,.cons n t h,e=>by rw[List.getElem?_cons_succ] at e;have:=Ca (i:=i) h e;exact this
section
variable{X:Cx}{ct:Ct}{a b e:Expr}{f g:Sg->Res D}{p pos:Pos}
def Ej(hc:X.calm=true):nD X (.builtin "sum") (λ xs H Q=>∃(l:Addr) (zs:List Int),xs=[.ref l]/\fV X.K H l (zs.map V.int)/\((∀z∈zs,0<=z/\z<=1000000000000)/\zs.length<=100000)/\Q (.int zs.sum) H):=by
 intro pins s σ H xs us Q I r h;obtain ⟨l,zs,rfl,hs,hz,q⟩:=h;refine ah (λ u z ru=>?_) (vals1 r);subst z;cases ru;obtain ⟨its,ri,pl,_⟩:=I.list hs;have hl:s.heap.IsList l its.toArray:=pl.isList;have hi:=lD ri;have ln:its.length=zs.length:=by have:=ri.length;simpa using this.symm
 refine call_sum_walk (wpAny_pyIter_list hl ?_);obtain ⟨o,g1,c1,n1,d1⟩:=id hl;have ne:l≠s.heap.objs.size:=Nat.ne_of_lt (Heap.lt_size g1);refine ⟨s.heap.objs.size,_,_,_,_,_,OV zs,rfl,Walks.list (A:=X.A.in1) (I.ok.hd hc) s.heap.objs.size l ne its.toArray,⟨⟨_,Heap.get?_push_size _ rfl,rfl,rfl⟩,hl.at λ o z=>Heap.get?_push_of_some _ z⟩,λ c hb=>?_,λ i v hv=>?_,λ j hj=>?_,λ h' tk t' hk=>?_⟩
 ·simp only[List.mem_cons,List.not_mem_nil,or_false] at hb;rcases hb with rfl|rfl
  ·simp
  ·rw[Heap.size_push];exact Nat.lt_succ_of_lt (Heap.lt_size g1)
 ·exact Ca hi (by simpa using hv)
 ·have q1:=G4 hz.1 j;have q2:=sR (G4 hz.1) (j+1);have:j+1<=100000:=by simp at hj;omega
  have q3:((j+1:Nat):Int)*1000000000000<=100000*1000000000000:=by omega
  unfold InLong;omega
 ·rw[show its.toArray.size=zs.length by simpa using ln,qc];refine ⟨.int zs.sum,H,I.kept (t':=tk) λ b o e=>hk b o ?_ (Heap.get?_push_of_some _ e),⟨_,rfl⟩,q⟩;simp only[List.mem_cons,List.not_mem_nil,or_false];exact Nat.ne_of_lt (Heap.lt_size e)
def JN{fa:Sg->Res (List D)}(hc:X.calm=true)(hm:X.mg "sum"=none)(ha:P8 X ct [e] fa)(hg:Gl X "sum":=by rfl)(he:starEach [e] X.env=(false,eval e X.env)::starEach [] X.env:=by rfl):
  PD X ct (.Call (.Name "sum" p) [e] [] pos) (pC Dv fa):=by
 refine PE.imp (iG (Ej hc) hg hm (by decide+kernel) ha (by decide) (by decide) he rfl) (CA λ σ H vs ds Q lL lB t h=>?_);unfold Dv at h;split at h
 ·rename_i d;cases ex:rC d with
  |none=>rw[ex] at h;exact h.elim
  |some xs=>
  rw[ex] at h;cases ey:gD xs with
  |none=>simp only[Option.bind_some,ey] at h;exact h.elim
  |some zs=>
  simp only[Option.bind_some,ey] at h;split at h
  ·rename_i hz;simp only[Bool.and_eq_true,List.all_eq_true,decide_eq_true_eq] at hz;refine ah (λ v z tv=>?_) (nK t);subst z;refine ak (λ l us z h1 h2=>?_) (tv.gJ lL lB ex);subst z;rw[jU ey h2] at h1;exact ⟨l,zs,rfl,h1,hz,h _ H (az.refl H) (by simp[Tl])⟩
  ·exact h.elim
 ·exact h.elim
def K0(a:Int)(j:Nat)(h:(Builtin.Int.intBits a:Nat)<=j):a.fdiv (2^j)=if a<0 then -1 else 0:=by
 have h2:a.natAbs<2^(Builtin.Int.intBits a):=by
  unfold Builtin.Int.intBits;split
  ·rename_i e;simp_all
  ·exact Nat.lt_log2_self
 have h3:2^(Builtin.Int.intBits a)<=2^j:=Nat.pow_le_pow_right (by decide) h;have h4:a.natAbs<2^j:=Nat.lt_of_lt_of_le h2 h3;have hp:(2:Int)^j=((2^j:Nat):Int):=by simp
 rw[hp];generalize (2:Nat)^j=P at*;rw[Int.fdiv_eq_ediv_of_nonneg _ (by omega)];split
 ·rename_i ha;have e:a= -(a.natAbs:Int):=by omega
  have:(P:Int)+a<P:=by omega
  have h0:0<=(P:Int)+a:=by omega
  have q:=Int.add_mul_ediv_right a 1 (show (P:Int)≠0 by omega);rw[Int.one_mul,Int.add_comm,Int.ediv_eq_zero_of_lt h0 this] at q;omega
 ·exact Int.ediv_eq_zero_of_lt (by omega) (by omega)
def Oa:kF X (binaryOp .RShift) (rI (λ _ j=>0<=j) λ i j=> .int (i.fdiv (2^j.toNat))):=SQ λ i j _ _ _ _ _ hc q=>by
 by_cases hb:j>=((Builtin.Int.intBits i:Nat):Int)
 ·refine AutoIntOps.rshift_1 (by omega) hb ?_;rw[<-K0 i j.toNat (by omega)];exact q
 ·exact AutoIntOps.rshift_2 (by omega) hb q
end
end L4
end
section
namespace L4
open PySem PySem.Spec PyProof.Rows L2 PySem.W
section
variable{X:Cx}{c:Cf}{ct:Ct}{st:Stmt}{F:Sg->Out}{a b e o:Expr}{f g:Sg->Res D}{fa r:Sg->Res (List D)}{p pos apos cpos:Pos}{elts:List Expr}{cx:Nat}{tp:Pos}
def ET(i:Nat)(h:sG X c st F):sG X c st (Nz i F):=⟨N7 i h.out⟩
def EK(ha:WD X ct a f)(hb:WD X ct b g):WL X ct (.BinOp a .Mult b pos) (LR rX f g):=by
 have ha:=ha.out;have hb:=hb.out;refine ⟨?_⟩;refine PE.imp (FT Ob ha hb) ?_
 rintro σ H Q ⟨Γ,j,h⟩
 refine nE.bnd j h λ d1 v H1 s1 t1 j1 h1=>?_;refine nE.bnd (W:=Wl X ct H Q) j1 (Ok.mono s1 h1 λ _ z=>z) λ d2 u H2 s2 t2 j2 h2=>?_;have t1:=t1.keep (az.keep s2);unfold rX at h2;split at h2
 ·rename_i d n e1;split at h2
  ·rename_i hn;obtain ⟨l,vs,rfl,q1,q2⟩:=t1.gJ j2.lL j2.lB e1;obtain ⟨v0,rfl,t0⟩:=nK q2;simp only[Tl] at t2;subst t2;refine ⟨l,v0,n,rfl,rfl,q1,hn,λ p hp=>?_⟩;have s3:=bx hp (.lst (List.replicate n.toNat v0));refine h2 p _ _ ((s1.trans s2).trans s3) ((s1.trans s2).free hp) aI ?_;have:∀k,aK X.K ct H2 (List.replicate k d) (List.replicate k v0):=λ k=>by
    induction k with
    |zero=>exact aK.nil
    |succ k ih=>exact aK.cons t0 ih
   exact (this _).keep (az.keep s3)
  ·exact h2.elim
 ·exact h2.elim
def EW(ha:WD X ct o f)(hb:WD X ct e g)(m:M1 X o "count" apos e cpos:=by exact ⟨rfl,rfl,rfl,rfl⟩):WD X ct (.Call (.Attribute o "count" apos) [e] [] cpos) (sy f g):=⟨F2 ha.out hb.out m⟩
def IM(hm:X.mg "zip"=none)(ha:pN X ct [a,b] r)(AJ:Gl X "zip":=by rfl)(hs:starEach [a,b] X.env=[(false,eval a X.env),(false,eval b X.env)]:=by rfl)(hs2:starEach [b] X.env=[(false,eval b X.env)]:=by rfl):
  Ib X ct (.Tuple elts cx tp) (.Call (.Name "zip" p) [a,b] [] pos) (Ku r):=⟨JH hm ha.out AJ hs hs2⟩
def Dl(hm:X.mg "enumerate"=none)(ha:pN X ct [a] r)(AJ:Gl X "enumerate":=by rfl)(hs:starEach [a] X.env=[(false,eval a X.env)]:=by rfl):Ib X ct (.Tuple elts cx tp) (.Call (.Name "enumerate" p) [a] [] pos) (qO r):=⟨DE hm ha.out AJ hs⟩
def IU(hc:X.calm=true)(hm:X.mg "sum"=none)(ha:pN X ct [e] fa)(hg:Gl X "sum":=by rfl)(he:starEach [e] X.env=(false,eval e X.env)::starEach [] X.env:=by rfl):WD X ct (.Call (.Name "sum" p) [e] [] pos) (pC Dv fa):=⟨JN hc hm ha.out hg he⟩
def MV(ha:WD X ct a f)(hb:WD X ct b g):WD X ct (.BinOp a .RShift b pos) (aO Fb f g):=by have ha:=ha.out;have hb:=hb.out;exact ⟨oN Oa (fX (λ _ _ h=>by simpa using h) λ _ _ _ _ _=>by simp[Tl]) ha hb⟩
variable{k:Nat}{N':List Str}{caps:List Nat}{params:Arguments}{body:Expr}{scope:Scope}{jk kp p0:Pos}{fk:Sg->Res D}
def EJ(L:Rt X ct k N' caps params body scope jk fk)(hm:X.mg "sorted"=none)(ha:pN X ct [e] fa)(hg:Gl X "sorted":=by rfl)(he:starEach [e] X.env=[(false,eval e X.env)]:=by rfl):
  WL X ct (.Call (.Name "sorted" p0) [e] [⟨some "key",.Lambda params body scope jk,kp⟩] pos) (nX fa caps fk):=⟨FH L hm ha.out hg he⟩
def IV(L:Rt X ct k N' caps params body scope jk fk)(hm:X.mg "min"=none)(ha:pN X ct [e] fa)(hg:Gl X "min":=by rfl)(he:starEach [e] X.env=[(false,eval e X.env)]:=by rfl):
  WD X ct (.Call (.Name "min" p0) [e] [⟨some "key",.Lambda params body scope jk,kp⟩] pos) (zu fa caps fk):=⟨JO L hm ha.out hg he⟩
def LO{P:Addr}{q p1:Str}{cl:List (Str×Addr)}{k':Nat}(hcd:Lk X.K X.env.code P)(hB:Vh X.K X.mg)(hP:ct.f.cb.xt P=some (.Ei jk q))(hr:dw k' X.A) (hb:∀f c' A s H,dw k (A.deeper (envX q scope s.heap.objs.size f (.ref c') cl))->WD (Rn X q scope f c' cl A s H N') ct body fk) (S:jO X N' p1 caps scope) (hk:k+2<=k':=by decide) (hq:X.env.qual++"<lambda>"=q:=by rfl) (hcl:jl X.env.cells scope.names []=some cl:=by rfl) (hdef:defaultsOf params X.env=([],[]):=by rfl) (hbind:∀pm c' ctv u,bindArgs (kla_fn "<lambda>" q params body scope cl pm (.ref c') ctv) ⟨[u],[]⟩=pure [(p1,u)]:=by exact λ _ _ _ _=>rfl):Rt X ct k N' caps params body scope jk fk:=⟨P,q,cl,p1,hcd,hB,hP,hq,hcl,hdef,S,hbind,hr.mono hk,λ f c' A s H h=>(hb f c' A s H h).out⟩
def Ji{Y:Cx}{N:List Str}{sc:Scope}:∀(i j:Nat) (x:Str),([]:List Nat)[i]? =some j->N[i+1]? =some x->Y.N[j]? =some x/\sc.names.lookup x=some .free/\(Y.env.kindOf x=some .cell\/Y.env.kindOf x=some .free):=λ i j x h=>by simp at h
def Jh{Y:Cx}{p1 x:Str}{j:Nat}{sc:Scope}(h1:Y.N[j]? =some x)(h2:sc.names.lookup x=some .free)(h3:Y.env.kindOf x=some .cell):∀(i j':Nat) (y:Str),([j]:List Nat)[i]? =some j'->[p1,x][i+1]? =some y->Y.N[j']? =some y/\sc.names.lookup y=some .free/\(Y.env.kindOf y=some .cell\/Y.env.kindOf y=some .free)
 |0,_,_,q1,q2=>by cases q1;cases q2;exact ⟨h1,h2,.inl h3⟩
 |_+1,_,_,q1,_=>by simp at q1
end
section
variable{P:Program}{w:World}{K:W.Frag}{mg:Str->Option Value}{cb:Cb}{base:Heap}
def Pg{x qual:Str}{st:Stmt}{f Pt:Addr}{fd:FuncData}{N ps:List Str}{k:Nat}{F:List Slot->dh}{B:Nat->Sg->Out}(IG:Et K x qual st f fd)(Pa:Lk K fd.code Pt)(S:jc N ps (aT st)) (hbody:∀(c:Cf) (cdv:Value) (A:Around) (outer:List Env) (s:Shared) (H:Hp) (E:XK),c.cb=cb->Lk K cdv Pt->dw k (A.deeper (envOfC qual (aT st) s.heap.objs.size f cdv))->Good (i6 (A8 P w) P w K mg base N qual (aT st) f cdv A outer s H E)->∀n,U6 (i6 (A8 P w) P w K mg base N qual (aT st) f cdv A outer s H E) c (cR st) (B n)) (hF:∀as,as.length=ps.length->F as≠.bad->∃n,jN (B n (di N as))=F as):jn P w K mg base cb (k+1) f fd ps F:=by
 obtain ⟨oc,od,kV,doc,pm,an,cdv,c9,osl,rfl,lk,hcd⟩:=IG.ex;refine L1 lk hcd S (λ vs H Q E h=>h.1) λ A outer s H vs Q E hr Ey=>?_
 revert Ey;refine bS λ hn=>aN λ c as Up Uq j h=>?_
 have hl:as.length=vs.length:=by have:=j.len;simpa using this
 have hb:F as≠.bad:=λ z=>by rw[z] at h;exact h
 obtain ⟨n,hF⟩:=hF as (by rw[hl];exact hn) hb;refine af _ (hbody c cdv A outer s H E Up Pa hr ⟨PassesOwn.leaving,rfl,S.nd,rfl,rfl⟩ n) ⟨di N as,B3 j,?_⟩;rw[<-hF] at h;cases q:B n (di N as) with
 |nx Γ=>rw[q] at h;exact λ σ' H' _ j=>h .eU H' j.same j.free (by simp[Tl])
 |bk Γ=>rw[q] at h;exact h.elim
 |ct Γ=>rw[q] at h;exact h.elim
 |rt d=>rw[q] at h;exact λ v H' b t=>h v H' b.same b.free t
 |xG m=>rw[q] at h;exact λ v H' S b o n k=>h v H' S b.same b.free o n k
 |Ir d Γ=>rw[q] at h;exact λ v σ' H' j t=>h v Γ σ' H' j rfl t
 |rW d Γ=>rw[q] at h;exact λ σ' H' i v j g1 g2=>h Γ σ' H' i v j rfl g1 g2
 |err x Γ=>rw[q] at h;exact λ σ' H' e s' _ j r=>yO (Up▸r) λ C H2 hc s=>h C H2 hc λ b o z n=>s b o (j.same b o z n)
 |bad=>rw[q] at h;exact h.elim
def Y0{x qual:Str}{st:Stmt}{f Pt:Addr}{fd:FuncData}{N ps:List Str}{k:Nat}{F:List Slot->dh}(B:Nat->Sg->Out)(IG:Et K x qual st f fd)(hF:∀as,as.length=ps.length->F as≠.bad->∃n,jN (B n (di N as))=F as)(Pa:Lk K fd.code Pt) (hbody:∀(c:Cf) (cdv:Value) (A:Around) (outer:List Env) (s:Shared) (H:Hp) (E:XK),c.cb=cb->Lk K cdv Pt->dw k (A.deeper (envOfC qual (aT st) s.heap.objs.size f cdv))->Good (i6 (A8 P w) P w K mg base N qual (aT st) f cdv A outer s H E)->∀n,oj (i6 (A8 P w) P w K mg base N qual (aT st) f cdv A outer s H E) c (cR st) (B n)) (S:jc N ps (aT st):=by exact ⟨rfl,rfl,rfl,by decide+kernel,rfl,by decide+kernel,by decide+kernel⟩):jn P w K mg base cb (k+1) f fd ps F:=Pg IG Pa S (λ c cdv A outer s H E h1 h2 h3 h4 n=>(hbody c cdv A outer s H E h1 h2 h3 h4 n).out) hF
end
structure Tp(K:W.Frag)(fd:FuncData) where
 a:Addr
 c:Lk K fd.code a
def Ky(o:Obj)(P:Addr):Bool:=(match o.cls with| .type n=>n=="code"|_=>false)&&match o.data with
 | .fields vs=>(match (vs[11]? :Option Value),vs.getD 18 Value.none,vs.getD 7 Value.none,vs.getD 9 Value.none,vs.getD 10 Value.none with
  |some (Value.ref p),Value.str _ _,Value.int _ _,Value.bool _,Value.int _ _=>p==P
  |_,_,_,_,_=>false)
 |_=>false
def tabIn(K:W.Frag)(f P:Addr):Bool:=match K.lookup f with
 |some ⟨_,_,.func fd,_⟩=>(match fd.code with
  | .ref c=>c !=P&&(match K.lookup c with
   |some o=>Ky o P
   |none=>false)
  |_=>false)
 |_=>false
def Cc{o:Obj}{P c:Addr}{h:Heap}(e:h.get? c=some o)(hne:c≠P)(x:Ky o P=true):CodeHd h c P:=by
 unfold Ky at x;rw[Bool.and_eq_true] at x;obtain ⟨x1,x2⟩:=x;have hc:o.cls= .type "code":=by
  revert x1
  cases o.cls<;>simp
 split at x2
 ·rename_i vs hd;split at x2
  ·rename_i p file tf flags tg Iv text tt h1 h2 h3 h4 h5;have:=eq_of_beq x2;subst this;refine ⟨o,vs,file,tf,flags,tg,Iv,text,tt,e,hc,hd,h1,?_,h2,h3,h4,h5,hne⟩;rw[Array.getD_eq_getD_getElem?,h1];rfl
  ·cases x2
 ·cases x2
def ya{K:W.Frag}{x q:Str}{st:Stmt}{f P:Addr}{fd:FuncData}(F:Et K x q st f fd)(h:tabIn K f P=true):Lk K fd.code P:=by
 obtain ⟨oc,od,kV,doc,pm,an,cdv,c9,osl,e,lk,_⟩:=F.ex;unfold tabIn at h;rw[lk] at h;simp only at h;split at h
 ·rename_i c hc;rw[Bool.and_eq_true] at h;obtain ⟨h1,h2⟩:=h;split at h2
  ·rename_i o ho;exact ⟨c,hc,λ hp Q3=>Cc (Q3 _ _ ho) (by simpa using h1) h2⟩
  ·cases h2
 ·cases h
noncomputable def PX(K:W.Frag):Bool:=match W.nsIn K mainGlobals "__builtins__" with
 |some (some (.ref bm))=>bm !=builtinsNs&&bm !=mainGlobals&&(match K.lookup bm with
  |some ⟨.type n,some d,.plain,_⟩=>n=="module"&&d==builtinsNs
  |_=>false)
 |_=>false
def KZ{K:W.Frag}{h:Heap}{mg:Str->Option Value}(X:K.In h)(G:h.Ns mainGlobals mg)(e:PX K=true):Vh K mg:=by
 unfold PX at e;split at e
 ·rename_i bm hb;simp only[Bool.and_eq_true] at e;obtain ⟨⟨e1,e2⟩,e3⟩:=e;split at e3
  ·rename_i n d sl hl;rw[Bool.and_eq_true] at e3;have z1:=eq_of_beq e3.1;have z2:=eq_of_beq e3.2;subst z1 z2;exact ⟨bm,_,W.mg_of X G hb,by simpa using e1,by simpa using e2,hl,rfl,rfl,rfl⟩
  ·cases e3
 ·cases e
def Ew(l:List (Addr×Pos×Str)):Hp:=λ b=>(l.lookup b).map λ p=> .Ei p.1 p.2
def Rw{a:Addr}{p:Pos}{q:Str}{l:List (Addr×Pos×Str)}:Ew ((a,p,q)::l) a=some (.Ei p q):=by simp[Ew]
def Wn{a b:Addr}{p:Pos}{q:Str}{l:List (Addr×Pos×Str)}{r:Option HO}(hne:b≠a)(h:Ew l b=r):Ew ((a,p,q)::l) b=r:=by
 have:(b==a)=false:=by simpa using hne
 unfold Ew at h ⊢;rw[List.lookup_cons,this];exact h
def yS{K:W.Frag}{mt:List (String×List String)}{E:List (String×Addr)}{T:rK}{Z:Hp}{IS:List (Value×String)}{cv:Value}{n:String}(h:isAll K mt E T IS=true)(hm:(cv,n)∈IS):EC K (KW E T Z) mt cv n:=let ⟨a,b,c,d,e,f,g,i,j⟩:=XO h hm;⟨a,b,c,d,e,f,g,i,j⟩
noncomputable def uQ(ts:List Addr)(K:W.Frag):W.Frag:=K.filter λ p=>!ts.contains p.1
def yK{ts:List Addr}{K:W.Frag}{b:Addr}:(uQ ts K).lookup b=if ts.contains b then none else K.lookup b:=by
 induction K with
 |nil=>simp[uQ]
 |cons p K ih=>
  obtain ⟨a,o⟩:=p;unfold uQ at ih ⊢;rw[List.filter_cons];by_cases hp:ts.contains a=true
  ·simp only[hp,Bool.not_true,Bool.false_eq_true,if_false,ih,List.lookup_cons];by_cases hb:b=a
   ·subst hb;rw[if_pos hp,if_pos hp]
   ·have:(b==a)=false:=by simpa using hb
    rw[this]
  ·simp only[hp,Bool.not_false,if_true,List.lookup_cons,ih];by_cases hb:b=a
   ·subst hb;rw[if_neg hp];simpa using hp
   ·have:(b==a)=false:=by simpa using hb
    rw[this]
def Ot{ts:List Addr}{K:W.Frag}{h:Heap}(X:K.In h):(uQ ts K).In h:=λ a o e=>by
 rw[yK] at e;split at e
 ·cases e
 ·exact X a o e
def tabsOk(K:W.Frag)(l:List (Addr×Addr)):Bool:=l.all λ p=>(match K.lookup p.2 with
 |some ⟨.none,none,.fields vs,sl⟩=>vs.isEmpty&&sl.isEmpty
 |_=>false)&&p.1 !=p.2&&(match K.lookup p.1 with
 |some o=>Ky o p.2
 |none=>false)
def Jc{K:W.Frag}{h:Heap}{l:List (Addr×Pos×Str)}{tb:List (Addr×Addr)}(X:K.In h)(e:tabsOk K tb=true)(hl:tb.map (·.2)=l.map (·.1)):P5 (uQ (l.map (·.1)) K) (Ew l) h:=by
 refine ⟨λ b o z=>?_⟩;unfold Ew at z;rw[Option.map_eq_some_iff] at z;obtain ⟨pq,z1,rfl⟩:=z;have hm:b∈l.map (·.1):=by
  have h1:l.lookup b=some pq->∃e∈l,e.1=b:=by
   clear hl e X;induction l with
   |nil=>intro z;cases z
   |cons e l ih=>
    intro z;rw[List.lookup_cons] at z;split at z
    ·rename_i q;exact ⟨e,.head _,(eq_of_beq q).symm⟩
    ·rename_i q;obtain ⟨e',h1,h2⟩:=ih z z;exact ⟨e',.tail _ h1,h2⟩
  obtain ⟨e',h2,h3⟩:=h1 z1;exact List.mem_map.mpr ⟨e',h2,h3⟩
 refine ⟨by rw[yK,if_pos (by simpa using hm)],⟨_,_,rfl⟩,?_⟩;rw[<-hl,List.mem_map] at hm;obtain ⟨t,ht,rfl⟩:=hm;have:=List.all_eq_true.mp e t ht;simp only[Bool.and_eq_true] at this;obtain ⟨⟨a1,a2⟩,a3⟩:=this;split at a1
 ·rename_i vs sl hk;rw[Bool.and_eq_true] at a1;have e1:vs= #[]:=by simpa using a1.1
  have e2:sl= #[]:=by simpa using a1.2
  subst e1 e2;have g1:=X _ _ hk;refine ⟨g1,?_⟩;split at a3
  ·rename_i o ho;exact Heap.TableAt.isCodeTable ((Cc (X _ _ ho) (by simpa using a2) a3).tab g1)
  ·cases a3
 ·cases a1
def M4{l:W.OpenLaw}{q:Program}{loose:List Str}{XP:(Str->Option Value)->Heap->Prop}{d:DefRec}{K:Params->W.Frag}{as:List Addr}{nz tz:Nat}{k:Nat}{F:List Slot->dh}(zl:List (Addr×Pos×Str))(tb:List (Addr×Addr))(hn:l.most=some 63)(hdf:d.params.defaults=[]) (h1:callerA.depth+3*k+5<recursionLimit) (h2:callerA.units+16*k+200<cLine) (hK:∀P,as=(K P).map (·.1)) (htb:∀P,tabsOk (K P) tb=true) (XW:tb.map (·.2)=zl.map (·.1)) (hF:∀(w:World) (mg:Str->Option Value) (fa:Addr) (h:Heap),(uQ (zl.map (·.1)) (K w.params)).In h->h.Ns mainGlobals mg->mg d.name=some (.ref fa)->∃(cb:Cb) (fd:FuncData),cb.xt=Ew zl/\(∀(s:Shared) (u:Value),BindsTo s fd ⟨[u],[]⟩ [("_law_script",u)])/\∀base:Heap,jn l.prog w (uQ (zl.map (·.1)) (K w.params)) mg base cb k fa fd ["_law_script"] F) (ht:∀ns:List Int,ns.length<=63->F [.val (.lst (ns.map D.int))]= .ok (.bl true)):W.WalkX q loose XP (W.X.obsZ as) (W.X.valZ K nz tz) l.row.toRowW d [] (λ f vs=>PySem.call f vs):=λ w s₀ s₁ mg mb G y a o pm cd doc dV kV ho hd hcd hD hmg hg args vals as' L hpre hlay hrd hwl hlo=>RG (YP:=λ w h=>(K w.params).In h) (K:=λ P=>uQ (zl.map (·.1)) (K P)) hn hdf h1 h2 (λ _ _ Y=>Ot Y) (λ w mg fa h Y KX G hm=>by obtain ⟨cb,fd,e,hb,hf⟩:=hF w mg fa h KX G hm;exact ⟨cb,fd,by rw[e];exact Jc Y (htb _) XW,hb,hf⟩) ht w s₀ s₁ mg mb G (W.InK.keeps w s₀.heap s₁.heap (W.X.z_facts hK y).2.1 (W.Laid.keeps L)) a o pm cd doc dV kV ho hd hcd hD hmg hg args vals as' hpre hlay hrd hwl hlo
def IY{l:W.OpenLaw}{q:Program}{loose:List Str}{XP:(Str->Option Value)->Heap->Prop}{d:DefRec}{K:Params->W.Frag}{as:List Addr}{nz tz:Nat}{k:Nat}{F:List Slot->dh}(KG:Params->W.Frag)(zl:List (Addr×Pos×Str))(tb:List (Addr×Addr))(ZM:∀P,uQ (zl.map (·.1)) (K P)=KG P)(hn:l.most=some 63)(hdf:d.params.defaults=[]) (h1:callerA.depth+3*k+5<recursionLimit) (h2:callerA.units+16*k+200<cLine) (hK:∀P,as=(K P).map (·.1)) (htb:∀P,tabsOk (K P) tb=true) (XW:tb.map (·.2)=zl.map (·.1)) (hF:∀(w:World) (mg:Str->Option Value) (fa:Addr) (h:Heap),(KG w.params).In h->h.Ns mainGlobals mg->mg d.name=some (.ref fa)->∃(cb:Cb) (fd:FuncData),cb.xt=Ew zl/\(∀(s:Shared) (u:Value),BindsTo s fd ⟨[u],[]⟩ [("_law_script",u)])/\∀base:Heap,jn l.prog w (KG w.params) mg base cb k fa fd ["_law_script"] F) (ht:∀ns:List Int,ns.length<=63->F [.val (.lst (ns.map D.int))]= .ok (.bl true)):W.WalkX q loose XP (W.X.obsZ as) (W.X.valZ K nz tz) l.row.toRowW d [] (λ f vs=>PySem.call f vs):=M4 zl tb hn hdf h1 h2 hK htb XW (λ w mg fa h X G hm=>by rw[ZM] at X ⊢;exact hF w mg fa h X G hm) ht
end L4
end
section
namespace L4
open PySem PySem.Spec PyProof.Rows L2
section
variable{X:Cx}{pins:List (Addr×Obj)}{σ:St}{H:Hp}{s:Shared}{a:Addr}{ob:Obj}{u:HO}
def Inv.WB{kvs:List (Key×V)}(I:Inv X pins σ H s)(h:H a=some (.jI ob (.dK kvs)))(n:X.H₀ a=none):Inv X pins σ (upd H a (.dK kvs)) s:=by
 have ne:∀b,H b=none->b≠a:=λ b q z=>by rw[z,h] at q;cases q
 have nh:∀b u,X.H₀ b=some u->b≠a:=λ b u q z=>by rw[z,n] at q;cases q
 refine ⟨I.ok,I.os,I.bare,⟨I.base.keep,I.base.slot,λ b o e q x=>?_,I.base.there,λ b xs q=>?_,λ b o u q=>?_,λ b ps q=>?_⟩,I.loc,I.cell,?_,λ x c e=>?_,λ p hp=>?_,λ b u q=>?_,I.len⟩
 ·have z:=I.base.free b o e q x;rw[aB (ne b z)];exact z
 ·rw[aB (nh b _ q)];exact I.base.tups b xs q
 ·rw[aB (nh b _ q)];exact I.base.lR b o u q
 ·rw[aB (nh b _ q)];exact I.base.mw b ps q
 ·rw[aB (ne _ I.free)];exact I.free
 ·rw[aB (ne _ (I.dX x c e))];exact I.dX x c e
 ·obtain ⟨p1,p2,p3⟩:=I.pin p hp;exact ⟨p1,by rw[aB (ne _ p2)];exact p2,p3⟩
 ·by_cases hb:b=a
  ·subst hb;rw[aI] at q;cases q;obtain ⟨_,z⟩:=I.hok b _ h;exact z
  ·rw[aB hb] at q;refine (I.hok b u q).stay (λ c v _ e=>e) (λ c z=>?_) (λ c xs z=>?_) λ c o y z=>?_
   ·have:c≠a:=λ w=>by rw[w,h] at z;cases z
    rw[aB this];exact z
   ·have:c≠a:=λ w=>by rw[w,h] at z;cases z
    rw[aB this];exact z
   ·have:c≠a:=λ w=>by rw[w,h] at z;cases z
    rw[aB this];exact z
theorem E4{K:W.Frag}{ct c9:Ct}{H H':Hp}:∀{xs:List D} {zs:List Int} {vs:List V},gD xs=some zs->aK K ct H xs vs->aK K c9 H' xs vs
 |[],_,_,_,t=>by simpa[aK] using t
 |x::xs,zs,vs,h,t=>by
  cases x with
  |int i=>
   simp only[gD] at h;cases q:gD xs with
   |none=>rw[q] at h;cases h
   |some r=>simp only[aK,Tl] at t ⊢;obtain ⟨v,w,e1,e2,t⟩:=t;exact ⟨v,w,e1,e2,E4 q t⟩
  |_=>cases h
def Lr{K:W.Frag}{ct c9:Ct}{H H':Hp}{d:D}{v:V}(hp:pl d=true)(h:∀b xs,H b=some (.tup xs)->H' b=some (.tup xs))(t:Tl K ct H d v):Tl K c9 H' d v:=by
 cases d with
 |int i=>simpa[Tl] using t
 |tup ds=>simp only[pl] at hp;obtain ⟨zs,hz⟩:=Option.isSome_iff_exists.mp hp;simp only[Tl] at t ⊢;obtain ⟨b,vs,e,q,t⟩:=t;exact ⟨b,vs,e,h _ _ q,E4 hz t⟩
 |_=>cases hp
end
section
variable{X:Cx}{c:Cf}{e r ix:Expr}{f fk:Sg->Res D}{g:Sg->Res (List Nat)}{i:Nat}{pos:Pos}
def zT(X:Cx)(c:Cf)(i:Nat)(f:Sg->Res D):TE:=λ σ H Q=>∃Γ,Jx X c.z Γ σ H/\∃ks xs d,Γ[i]? =some (.own (.k (.s ks) xs))/\f (Γ.set i (.val (.lS (.s ks) xs)))= .ok d/\pl d=true/\∀v H',az H H'->Tl X.K c.z H' d v->Q v H'
def Xf(h:PD X c.z e f):PE X e (zT X c i f):=by
 rintro pins s σ H Q I ⟨Γ,j,ks,xs,d,hg,hf,hpl,q⟩
 obtain ⟨S,sg,chg⟩:=j.chg i;obtain ⟨v0,S0,g1,_⟩:=j.own hg;obtain ⟨v',e1,ow,so,n0⟩:=sg _ _ hg g1;cases e1;simp only[Ow] at ow;obtain ⟨a,vs,rfl,sa,ha,hl,tl⟩:=ow;obtain ⟨ob,I2⟩:=Inv.uY I ha (n0 a sa);have z:Fz X c.z pins σ s S H H:=⟨I,λ _ _ q _=>q,aV.refl H,λ _ q=>q⟩;have z2:=z.step ha sa Ks.mQ I2;have j':=chg _ (.val (.lS (.s ks) xs)) (some (.ref a)) (λ _=>False) z2.keep z2.un z2.free (λ _ _ q=>nomatch q) ⟨⟨_,rfl,by simp only[Tl];exact ⟨a,vs,rfl,⟨ob,aI⟩,hl,tl.keep z2.keep⟩⟩,λ _ w=>w⟩ λ _ w=>w.elim;have es:σ.set i (some (.ref a))=σ:=by
  apply List.ext_getElem?;intro k;by_cases hk:i=k
  ·subst hk;have hi:=(List.getElem?_eq_some_iff.mp g1).1;rw[List.getElem?_set_self hi,g1]
  ·rw[List.getElem?_set_ne hk]
 rw[es] at j';refine wpAny_mono (h pins s σ _ (λ v H2=>az (upd H a (.jI ob (Ks.ho (.s ks) vs))) H2/\Tl X.K c.z H2 d v) z2.inv ⟨_,j',by rw[hf];exact λ v H2 sm t=>⟨sm,t⟩⟩) (λ u s2 w=>?_) λ _ _ w=>w;obtain ⟨v,H2,J2,rv,sm,t⟩:=w;have ZP:=sm a _ aI;have I3:=Inv.WB J2 ZP (n0 a sa);refine ⟨v,_,I3,rv,q v _ (λ b o hb=>?_) (Lr hpl (λ b xs hb=>?_) t)⟩
 ·by_cases hba:b=a
  ·subst hba;rw[ha] at hb;cases hb;exact aI
  ·rw[aB hba];exact sm b o (by rw[aB hba];exact hb)
 ·have:b≠a:=λ w=>by rw[w,ZP] at hb;cases hb
  rw[aB this];exact hb
def F0{pt:Pos}(hu:X.A.units+1<cLine)(hr:∀B,PP X (c.at' B) r i g)(hk:∀B,PD X (c.at' B) ix fk)(he:PD X c.z e f)(hs:swapsWith e (some (.Subscript r ix pt)) pos.line X.env=pure false:=by rfl):
  YE X c (.Assign [.Subscript r ix pt] e pos) (yj i g fk f):=by
 refine λ pins s σ H E I=>ah λ Γ j h=>?_;unfold yj at h;split at h
 ·rename_i ks0 Z2 hg;split at h
  ·rename_i d hd;split at h
   ·rename_i hpl;have h:Fn X c H (Fe i g fk (λ _=> .ok d) Γ) E:=h;refine JD hu (hr H) (hk H) (Xf (i:=i) he) hs pins s σ H E I ?_;refine ⟨Γ,j,ks0,Z2,d,hg,hd,hpl,λ y H1 s1 t=>?_⟩;have q:Fn X c H (oE (g Γ) Γ λ ks=>oE (fk Γ) Γ λ z=>match AG z with
     |some k=>JV (pT i ks (mJ k d) Γ)
     |none=> .bad) E:=h
    refine af Γ (j.lift.mono s1) (Ok.mono (H:=H) s1 (Fn.ok (tm:=true) (B:=H) j q λ ks _ q v H2 s2 pa=>?_) λ _ z=>z);refine af Γ ((j.lift.mono s1).mono s2) (Ok.mono (H:=H) (s1.trans s2) (Fn.ok (tm:=true) (B:=H) j q λ z _ q u H3 s3 t3=>?_) λ _ z=>z);split at q
    ·rename_i k hk';have sm:=(s1.trans s2).trans s3;have j3:=j.mono sm;refine cA (λ sl m v0 m' p1 p2 p3 p4 p5=>?_) (pa.same s3);have ty:Tl X.K (c.at' H) H3 d y:=Lr hpl (λ b xs hb=>(s2.trans s3) b _ hb) t;have e1:pT i ks (mJ k d) Γ=(mJ k d m').map λ eK=>Γ.set i (DB sl (eT m ks eK)):=by unfold pT;rw[p1,Option.bind_some,p2,Option.bind_some,p5,Option.bind_some]
     rw[e1] at q;cases z:mJ k d m' with
     |none=>rw[z] at q;exact q.elim
     |some eK=>rw[z] at q;refine aQ (λ vv S g1 o1=>?_) (j3.ofM p1 p2);rw[p3] at g1;cases g1;refine ah (λ S' o' _=>?_) (o1.Ci p4 p5);refine aN (λ a kvs w ha hl _=>?_) (BG ty z o');subst w;refine ao a _ rfl (.inl (bg kvs k ha (BZ t3 hk') (Nat.lt_trans hl iS) rfl)) ?_;have kp:aV c.cb H3 (upd H3 a (.dK (putK kvs k y))):=aV.dK ha;refine q σ _ ((az.keep sm).trans kp) (j3.up p1 p2 p3 p4 p5 kp λ S' o=>?_);refine cC (λ a' kvs' e2 ha' _ w1 w2=>?_) (BG ty z o);cases e2;rw[ha] at ha';cases ha';exact ⟨w1,w2⟩
    ·exact q.elim
   ·exact h.elim
  ·exact h.elim
 ·exact h.elim
def ES{pt:Pos}(hu:X.A.units+1<cLine)(hr:∀B,WP X (c.at' B) r i g)(hk:∀B,WD X (c.at' B) ix fk)(he:WD X c.z e f)(hs:swapsWith e (some (.Subscript r ix pt)) pos.line X.env=pure false:=by rfl):
  sG X c (.Assign [.Subscript r ix pt] e pos) (yj i g fk f):=⟨F0 hu (λ B=>(hr B).out) (λ B=>(hk B).out) he.out hs⟩
end
end L4
end
section
namespace U9
open PySem L4
noncomputable def mt:List (String×List String):=[("NoFraction",["NoFraction","BeamError","ValueError"]),("Loose",["Loose","BeamError","ValueError"])]
noncomputable def Yh:List (String×List Str):=[]
noncomputable abbrev oU:List Str:=["_law_script","_law_k"]
abbrev oR:List Str:=oU
def gY(n:Nat):Sg->Out:=(aY (yk (dT (aO ltI (aj 1) (pC c6 (ay (aj 0) aL)))) (gw (aO bD (aj 0) (aj 1))) fC)
  (gw (dC (.int 0))))
def bu(as:List Slot):dh:=jN (gY 0 (di oU as))
noncomputable abbrev Gs:List Str:=["_law_cell","_law_many","_law_ring_here"]
noncomputable abbrev yx:List Str:=["_law_cell","_law_many"]
def ni(n:Nat):Sg->Out:=(aY (bI 2 (kX (dW false (gX (ay (aj 1) aL)) 1 [0] (aG 0) (dT (aO tM (aO K5 (aO Fb (aj 1) (aj 0)) (dC (.int 1))) (dC (.int 1)))) (aj 0))))
  (aY (yk (dT (aO tM (aj 2) (kX (kC aL)))) (p6 (mL (kC (ay (aO fF (aO cg (aj 0) (dC (.int 128))) (aj 1)) aL)))) fC)
  (gw (aj 2))))
def gH(as:List Slot):dh:=jN (ni 0 (di Gs as))
noncomputable abbrev yE:List Str:=["_law_script","_law_many","_law_ring_here","_law_weights_here","_law_k","_law_row","_law_column","_law_at"]
noncomputable abbrev oO:List Str:=["_law_script","_law_many","_law_ring_here"]
def cL(n:Nat):Sg->Out:=(aY (bI 5 (aO fF (aO cg (aO ko (aj 4) (dC (.int 2))) (aj 1)) (aj 1)))
  (aY (bI 6 (aO fF (aO ko (aj 4) (dC (.int 2))) (aj 1)))
  (yk (Ro (dT (aO lK (aj 6) (aj 2))) (dT (aO inD (aj 5) (aj 2)))) (g6 3 (QW 3 (gK 3) (aj 5)) (aj 6) (aO fF (aO cg (aO bD (aj 0) (aj 4)) (dC (.int 2))) (dC (.int 7)))) fC)))
def fh(n:Nat):Sg->Out:=(aY (bI 5 (aO bD (aj 2) (aO fF (aO eE (aO eE (aj 7) (dC (.int 1))) (aO fF (aO cg (bh 2 bu (ay (aj 0) (ay (dC (.int 1)) aL))) (dC (.int 7))) (pC c6 (ay (aj 2) aL)))) (pC c6 (ay (aj 2) aL)))))
  (g6 3 (QW 3 (gK 3) (aj 5)) (aO bD (aj 2) (aj 7)) (aO eE (aO bD (aO bD (tP 3) (aj 5)) (aO bD (aj 2) (aj 7))) (dC (.int 1)))))
def jL(n:Nat):Sg->Out:=(aY (kL 3 (mN (jj false (gX (ay (aj 1) aL)) 1 [1] (aG 0) gh (mL (LR rX (kX (kC (ay (dC (.int 0)) aL))) (aj 1))))))
  (aY (iF (yV (ay (dC (.int 2)) (ay (pC yJ (ay (pC c6 (ay (aj 0) aL)) (ay (dC (.int 63)) aL))) aL))) (aG 4) (cL n))
  (aY (iF (gX (ay (pC c6 (ay (aj 2) aL)) aL)) (aG 7) (fh n))
  (oK 3))))
def fJ(as:List Slot):dh:=jN (jL 0 (di yE as))
noncomputable abbrev JZ:List Str:=["_law_top","_law_bottom","_law_one","_law_other"]
noncomputable abbrev uJ:List Str:=["_law_top","_law_bottom"]
def jS(n:Nat):Sg->Res Bool:=(dT (aO qB (aj 3) (dC (.int 0))))
def nH(n:Nat):Sg->Out:=(Ny 2 3 (ay (aj 3) (ay (aO fF (aj 2) (aj 3)) aL)))
def vt(n:Nat):Sg->Out:=(aY (bI 2 (aj 0))
  (aY (bI 3 (aj 1))
  (aY (bC (jS n) (nH n) n)
  (gw (su (ay (aO cg (aj 0) (aj 2)) (ay (aO cg (aj 1) (aj 2)) aL)))))))
noncomputable def dI:List Slot->dh
 |[.val (.int a),.val (.int b)]=>if 0<=a/\1<=b/\b.natAbs<2^9000 then .ok (.tup [.int (a.fdiv (Int.gcd a b)),.int (b.fdiv (Int.gcd a b))]) else .bad
 |_=> .bad
def GF(a b:Slot)(m:Nat):∀(s l k:Nat),s<k->bC (jS m) (nH m) k [a,b,.val (.int l),.val (.int s)]= .nx [a,b,.val (.int (Nat.gcd l s:Nat)),.val (.int 0)]:=by
 intro s;induction s using Nat.strongRecOn with
 |_ s ih=>
  intro l k hk;obtain ⟨k,rfl⟩:∃j,k=j+1:=⟨k- 1,by omega⟩;by_cases h:s=0
  ·subst h;simp[bC,jS]
  ·have e:=ih (l%s) (Nat.mod_lt l (by omega)) s k (by have:=Nat.mod_lt l (show 0<s by omega);omega);have hs:((s:Int)=0)=False:=by simp[h]
   have hs':(s:Int)≠0:=by omega
   rw[y9 l s h, <-e];simp[bC,jS,nH,h,hs,cJ _ _ hs',zh]
def Kz(as:List Slot)(hl:as.length=uJ.length)(hb:dI as≠.bad):∃n,jN (vt n (di JZ as))=dI as:=by
 match as,hb with
 |[.val (.int a),.val (.int b)],hb=>
  by_cases hc:0<=a/\1<=b/\b.natAbs<2^9000
  ·obtain ⟨h1,h2,h3⟩:=id hc;obtain ⟨l,rfl⟩:=Int.eq_ofNat_of_zero_le h1;obtain ⟨s,rfl⟩:=Int.eq_ofNat_of_zero_le (show 0<=b by omega);refine ⟨s+1,?_⟩;have e:=GF (.val (.int (l:Int))) (.val (.int (s:Int))) (s+1) s l (s+1) (by omega);have hg:Int.gcd (l:Int) (s:Int)=Nat.gcd l s:=by simp[Int.gcd]
   have hgp:0<Nat.gcd l s:=Nat.gcd_pos_of_pos_right _ (by omega);have AJ:Nat.gcd l s<=s:=Nat.le_of_dvd (by omega) (Nat.gcd_dvd_right _ _);have d:∀x:Int,cg (.int x) (.int ((Nat.gcd l s:Nat):Int))= .ok (.int (x.fdiv ((Nat.gcd l s:Nat):Int))):=λ x=>tL _ _ (zo (by omega) (Nat.lt_of_le_of_lt (by simpa using AJ) (by simpa using h3)));simp only[dI,hc,and_self,if_true,hg];simp[vt,di,e,d]
  ·exact absurd (by simp[dI,hc]) hb
noncomputable abbrev Gr:List Str:=["_law_script","_law_many","_law_ring_here","_law_more","_law_weights_here","_law_rows_here","_law_i","_law_terms","_law_j","_law_whole","_law_constant"]
noncomputable abbrev yw:List Str:=["_law_script","_law_many","_law_ring_here","_law_more"]
def dM(n:Nat):Sg->Out:=(aY (bI 9 (aO eE (pC Dv (ay (kX (dW false (gX (ay (aj 1) aL)) 1 [8,4] (aG 0) gh (aO bD (aO bD (aj 2) (aj 0)) (aj 1)))) aL)) (aj 3)))
  (aY (yk (dT (aO lK (aj 8) (aj 2))) (bI 9 (aO eE (aj 9) (dC (.int 1)))) fC)
  (yk (dT (aO Rc (aO bD (aO bD (aj 4) (aj 6)) (aj 8)) (dC (.int 0)))) (mC 7 (gK 7) (su (ay (aj 8) (ay (qW 2 dI (ay (aO bD (aO bD (aj 4) (aj 6)) (aj 8)) (ay (aj 9) aL))) aL)))) fC)))
def iN(n:Nat):Sg->Out:=(aY (kL 7 (mL (kC aL)))
  (aY (iF (gX (ay (aj 1) aL)) (aG 8) (dM n))
  (aY (bI 10 (aO dR (aO fF (aO dR (bh 2 bu (ay (aj 0) (ay (aO eE (aj 6) (dC (.int 2))) aL))) (dC (.int 48271))) (aO NT (dC (.int 10)) (dC (.int 60)))) (aO fF (bh 2 bu (ay (aj 0) (ay (dC (.int 1)) aL))) (dC (.int 2)))))
  (Nz 7 (mC 5 (gK 5) (su (ay (su (ay (aj 10) (ay (dC (.int 1)) aL))) (ay (aj 7) aL))))))))
def rA(n:Nat):Sg->Out:=(aY (bI 4 (bh 3 fJ (ay (aj 0) (ay (aj 1) (ay (aj 2) aL)))))
  (aY (kL 5 (mL (kC aL)))
  (aY (iF (gX (ay (aj 1) aL)) (aG 6) (iN n))
  (oK 5))))
def jQ(as:List Slot):dh:=jN (rA 0 (di Gr as))
noncomputable abbrev lM:List Str:=["one","other","larger","smaller","rest"]
noncomputable abbrev dQ:List Str:=["one","other"]
def bU(n:Nat):Sg->Res Bool:=(dT (aO qB (aj 3) (dC (.int 0))))
def cT(n:Nat):Sg->Out:=(aY (bI 4 (aO fF (aj 2) (aj 3)))
  (aY (bI 2 (aj 3))
  (bI 3 (aj 4))))
def dS(n:Nat):Sg->Out:=(aY (bI 2 (pC HR (ay (aj 0) aL)))
  (aY (bI 3 (pC HR (ay (aj 1) aL)))
  (aY (bC (bU n) (cT n) n)
  (gw (aj 2)))))
noncomputable def aJ:List Slot->dh
 |[.val (.int a),.val (.int b)]=> .ok (.int (Int.gcd a b))
 |_=> .bad
def KD(a b:Slot)(m:Nat):∀(s l k:Nat) (r:Slot),s<k->∃r',bC (bU m) (cT m) k [a,b,.val (.int l),.val (.int s),r]= .nx [a,b,.val (.int (Nat.gcd l s:Nat)),.val (.int 0),r']:=by
 intro s;induction s using Nat.strongRecOn with
 |_ s ih=>
  intro l k r hk;obtain ⟨k,rfl⟩:∃j,k=j+1:=⟨k- 1,by omega⟩;by_cases h:s=0
  ·subst h;exact ⟨r,by simp[bC,bU]⟩
  ·obtain ⟨r',e⟩:=ih (l%s) (Nat.mod_lt l (by omega)) s k (.val (.int (l%s:Nat))) (by have:=Nat.mod_lt l (show 0<s by omega);omega);refine ⟨r',?_⟩;have hs:((s:Int)=0)=False:=by simp[h]
   have hs':(s:Int)≠0:=by omega
   rw[y9 l s h, <-e];simp[bC,bU,cT,h,hs,cJ _ _ hs',zh]
def lQ(as:List Slot)(hl:as.length=dQ.length)(hb:aJ as≠.bad):∃n,jN (dS n (di lM as))=aJ as:=by
 obtain ⟨a,b,rfl⟩:∃a b,as=[.val (.int a),.val (.int b)]:=by
  unfold aJ at hb;split at hb
  ·exact ⟨_,_,rfl⟩
  ·exact absurd rfl hb
 obtain ⟨r',e⟩:=KD (.val (.int a)) (.val (.int b)) (b.natAbs+1) b.natAbs a.natAbs (b.natAbs+1) .no (by omega);refine ⟨b.natAbs+1,?_⟩;have ha:(if a<0 then -a else a)=(a.natAbs:Int):=by split<;>omega
 have hb:(if b<0 then -b else b)=(b.natAbs:Int):=by split<;>omega
 simp[dS,di,HR,ha,hb,e,aJ,Int.gcd]
noncomputable abbrev Ax:List Str:=["top","bottom","divisor"]
noncomputable abbrev qm:List Str:=["top","bottom"]
def i9(n:Nat):Sg->Out:=(aY (yk (dT (aO tM (aj 1) (dC (.int 0)))) (uv "NoFraction" (ay (dC (.str "the bottom of a fraction is never 0")) aL)) fC)
  (aY (bI 2 (bh 2 aJ (ay (aj 0) (ay (aj 1) aL))))
  (aY (yk (dT (aO ltI (aj 1) (dC (.int 0)))) (bI 2 (Hv o9 (aj 2))) fC)
  (gw (su (ay (aO cg (aj 0) (aj 2)) (ay (aO cg (aj 1) (aj 2)) aL)))))))
def cW(as:List Slot):dh:=jN (i9 0 (di Ax as))
def oX(t b:Int)(h:b≠0)(hb:b.natAbs<2^9000):cW [.val (.int t),.val (.int b)]= .ok (.tup [.int (xH t b),.int (xK t b)]):=by
 have d1:∀x,cg (.int x) (.int (xJ b (Int.gcd t b)))= .ok (.int (x.fdiv (xJ b (Int.gcd t b)))):=λ x=>tL _ _ (zo (Pf h) (Ea h hb));by_cases hn:b<0
 ·have e:xJ b (Int.gcd t b)= -(Int.gcd t b:Int):=by simp[xJ,hn]
  rw[e] at d1;simp[cW,i9,di,h,hn,aJ,d1,xH,xK,e]
 ·have e:xJ b (Int.gcd t b)=(Int.gcd t b:Int):=by simp[xJ,hn]
  rw[e] at d1;simp[cW,i9,di,h,hn,aJ,d1,xH,xK,e]
noncomputable def fq(p:Int×Int):D:= .tup [.int p.1,.int p.2]
def ZA(p:Int×Int):bD (fq p) (.int 0)= .ok (.int p.1):=rfl
def Zz(p:Int×Int):bD (fq p) (.int 1)= .ok (.int p.2):=rfl
structure Low(n:Nat)(p:Int×Int):Prop where
 pos:1<=p.2
 gcd:Int.gcd p.1 p.2=1
 top:p.1.natAbs<2^n
 bot:p.2.natAbs<2^n
def J0{n:Nat}{x y:Int}(hx:x.natAbs<2^n)(hy:y.natAbs<2^n)(hn:n<=1000):dR (.int x) (.int y)= .ok (.int (x*y)):=mS _ _ (qE hx hy (Nat.le_trans hn (by decide)) (Nat.le_trans hn (by decide)))
def Gv{n m:Nat}{x y:Int}(hx:x.natAbs<2^n)(hy:y.natAbs<2^m):(x*y).natAbs<2^(n+m):=by rw[Int.natAbs_mul,Nat.pow_add];exact Nat.mul_lt_mul'' hx hy
def Dw{n m:Nat}{x:Int}(h:x.natAbs<2^n)(hnm:n<=m):x.natAbs<2^m:=Nat.lt_of_lt_of_le h (Nat.pow_le_pow_right (by decide) hnm)
def PV{a b:Int}(ha:1<=a)(hb:1<=b):a*b≠0:=by have:0<a*b:=Int.mul_pos (by omega) (by omega);omega
def ze{n:Nat}(t b:Int)(h:b≠0)(hb:b.natAbs<2^n)(hn:n<=1000):cW [.val (.int t),.val (.int b)]= .ok (fq (xH t b,xK t b)):=oX t b h (Dw hb (Nat.le_trans hn (by decide)))
noncomputable abbrev BS:List Str:=["one","other"]
abbrev BL:List Str:=BS
def vq(n:Nat):Sg->Out:=(gw (bh 2 cW (ay (aO ko (aO dR (aO bD (aj 0) (dC (.int 0))) (aO bD (aj 1) (dC (.int 1)))) (aO dR (aO bD (aj 1) (dC (.int 0))) (aO bD (aj 0) (dC (.int 1))))) (ay (aO dR (aO bD (aj 0) (dC (.int 1))) (aO bD (aj 1) (dC (.int 1)))) aL))))
def pO(as:List Slot):dh:=jN (vq 0 (di BS as))
noncomputable abbrev iI:List Str:=["one","other"]
abbrev iH:List Str:=iI
def eX(n:Nat):Sg->Out:=(gw (aO dR (aO cg (aj 0) (bh 2 aJ (ay (aj 0) (ay (aj 1) aL)))) (aj 1)))
def cD(as:List Slot):dh:=jN (eX 0 (di iI as))
noncomputable abbrev r9:List Str:=["number","row","size","parts","other","share","bottom","part"]
noncomputable abbrev kR:List Str:=["number","row","size"]
def dH(n:Nat):Sg->Out:=(g6 3 (gK 3) (aj 4) (qV 2 pO (ay (aO bD (tP 3) (aj 4)) (ay (aj 5) aL))))
def fL(n:Nat):Sg->Out:=(bI 6 (bh 2 cD (ay (aj 6) (ay (aO bD (aj 7) (dC (.int 1))) aL))))
def iA(n:Nat):Sg->Out:=(aY (kL 3 (mL (LR HD (kX (LR rX (kX (kC (ay (dC (.gt [.int 0,.int 1])) aL))) (aj 2))) (kX (kC (ay (aO bD (aj 1) (dC (.int 0))) aL))))))
  (aY (g6 3 (gK 3) (aj 0) (dC (.gt [.int 1,.int 1])))
  (aY (iF (gW (aO bD (aj 1) (dC (.int 1)))) (dU 2 (aZ (aG 4) (aZ (aG 5) eN))) (dH n))
  (aY (bI 6 (dC (.int 1)))
  (aY (Nz 3 (iF (gW (aj 3)) (aG 7) (fL n)))
  (p6 (mL (dW false (gW (aj 3)) 1 [6] (aG 0) gh (aO dR (aO bD (aj 0) (dC (.int 0))) (aO cg (aj 1) (aO bD (aj 0) (dC (.int 1)))))))))))))
def bZ(as:List Slot):dh:=jN (iA 0 (di r9 as))
noncomputable abbrev kU:List Str:=["number","equations"]
abbrev kO:List Str:=kU
def iw(n:Nat):Sg->Out:=(gw (pC c6 (ay (kX (dW false (gW (aj 1)) 1 [0] (aG 0) (dT (aO qB (aO bD (aj 0) (aj 1)) (dC (.int 0)))) (dC (.int 1)))) aL)))
def bK(as:List Slot):dh:=jN (iw 0 (di kU as))
noncomputable abbrev rZ:List Str:=["equation","others","numbers"]
noncomputable abbrev kP:List Str:=["equation","others"]
def fu(n:Nat):Sg->Out:=(aY (bI 2 (kX (dW false (gX (ay (aO ko (pC c6 (ay (aj 0) aL)) (dC (.int 1))) aL)) 1 [0] (aG 0) (dT (aO qB (aO bD (aj 1) (aj 0)) (dC (.int 0)))) (aj 0))))
  (aY (yk (dT (aO tM (aj 2) (kX (kC aL)))) (uv "Loose" (ay (dC (.str "the rows are not fulfilled by just one list")) aL)) fC)
  (gw (zu (ay (aj 2) aL) [1] (bh 2 bK (ay (aj 0) (ay (aj 1) aL)))))))
def cO(as:List Slot):dh:=jN (fu 0 (di rZ as))
noncomputable abbrev Gq:List Str:=["equation","divisor","part"]
noncomputable abbrev yu:List Str:=["equation"]
def dJ(n:Nat):Sg->Out:=(aY (yk (dT (aO tM (aj 1) (dC (.int 1)))) (gw (aj 0)) fC)
  (bI 1 (bh 2 aJ (ay (aj 2) (ay (aj 1) aL)))))
def jK(n:Nat):Sg->Out:=(aY (bI 1 (dC (.int 0)))
  (aY (iF (gW (aj 0)) (aG 2) (dJ n))
  (aY (yk (dT (aO tM (aj 1) (dC (.int 0)))) (gw (aj 0)) fC)
  (p6 (mL (dW false (gW (aj 0)) 1 [1] (aG 0) gh (aO cg (aj 0) (aj 1))))))))
def dz(as:List Slot):dh:=jN (jK 0 (di Gq as))
noncomputable abbrev DS:List Str:=["number","equation","known","divisor","keep","take"]
noncomputable abbrev sU:List Str:=["number","equation","known"]
def kg(n:Nat):Sg->Out:=(aY (yk (dT (aO tM (aO bD (aj 1) (aj 0)) (dC (.int 0)))) (gw (aj 1)) fC)
  (aY (bI 3 (bh 2 aJ (ay (aO bD (aj 1) (aj 0)) (ay (aO bD (aj 2) (aj 0)) aL))))
  (aY (bI 4 (aO cg (aO bD (aj 2) (aj 0)) (aj 3)))
  (aY (bI 5 (aO cg (aO bD (aj 1) (aj 0)) (aj 3)))
  (p6 (nV 1 dz (ay (kX (dW false (Ku (ay (aj 1) (ay (aj 2) aL))) 2 [4,5] (dU 2 (aZ (aG 0) (aZ (aG 1) eN))) gh (aO ko (aO dR (aj 2) (aj 0)) (aO dR (aj 3) (aj 1))))) aL)))))))
def cN(as:List Slot):dh:=jN (kg 0 (di DS as))
noncomputable abbrev qC:List Str:=["equations","found","left","first","number"]
noncomputable abbrev lJ:List Str:=["equations"]
def dY(n:Nat):Sg->Res Bool:=(dT (aO qB (aj 2) (kX (kC aL))))
def cF(n:Nat):Sg->Out:=(aY (bI 2 (kX (nX (ay (aj 2) aL) [] (Hv o9 (sy (aj 0) (dC (.int 0)))))))
  (aY (bI 3 (aO bD (aj 2) (dC (.int 0))))
  (aY (bI 4 (bh 2 cO (ay (aj 3) (ay (kX (GU (aj 2) (dP (dC (.int 1))) Hw)) aL))))
  (aY (bI 2 (kX (dW false (gW (kX (GU (aj 2) (dP (dC (.int 1))) Hw))) 1 [4,3] (aG 0) gh (bh 3 cN (ay (aj 1) (ay (aj 0) (ay (aj 2) aL)))))))
  (mC 1 (gK 1) (su (ay (aj 4) (ay (aj 3) aL))))))))
def gG(n:Nat):Sg->Out:=(aY (kL 1 (mL (kC aL)))
  (aY (bI 2 (aj 0))
  (aY (bC (dY n) (cF n) n)
  (oK 1))))
def cV(as:List Slot):dh:=jN (gG 20 (di qC as))
def AK(as:List Slot)(hl:as.length=lJ.length)(hb:cV as≠.bad):∃n,jN (gG n (di qC as))=cV as:=⟨20,rfl⟩
noncomputable abbrev Aw:List Str:=["number","equation","values","top","bottom","other","value","joint"]
noncomputable abbrev qj:List Str:=["number","equation","values"]
def cY(n:Nat):Sg->Out:=(yk (dT (aO qB (aO bD (aj 1) (aj 5)) (dC (.int 0)))) (aY (bI 7 (bh 2 cD (ay (aj 4) (ay (aO bD (aj 6) (dC (.int 1))) aL))))
  (aY (bI 3 (aO ko (aO dR (aj 3) (aO cg (aj 7) (aj 4))) (aO dR (aO dR (aO bD (aj 1) (aj 5)) (aO bD (aj 6) (dC (.int 0)))) (aO cg (aj 7) (aO bD (aj 6) (dC (.int 1)))))))
  (bI 4 (aj 7)))) fC)
def lT(n:Nat):Sg->Out:=(aY (bI 3 (aO bD (aj 1) (Hv o9 (dC (.int 1)))))
  (aY (bI 4 (dC (.int 1)))
  (aY (iF (AI (aj 2)) (dU 2 (aZ (aG 5) (aZ (aG 6) eN))) (cY n))
  (gw (bh 2 cW (ay (aj 3) (ay (aO dR (aj 4) (aO bD (aj 1) (aj 0))) aL)))))))
def jh(as:List Slot):dh:=jN (lT 0 (di Aw as))
noncomputable abbrev Gp:List Str:=["rows","equations","values","number","equation"]
noncomputable abbrev yt:List Str:=["rows"]
def lq(n:Nat):Sg->Out:=(yj 2 (gK 2) (aj 3) (bh 3 jh (ay (aj 3) (ay (aj 4) (ay (aj 2) aL)))))
def m8(n:Nat):Sg->Out:=(aY (bI 1 (kX (dW false (qO (ay (aj 0) aL)) 2 [0] (dU 2 (aZ (aG 0) (aZ (aG 1) eN))) gh (bh 3 bZ (ay (aj 0) (ay (aj 1) (ay (pC c6 (ay (aj 2) aL)) aL)))))))
  (aY (kL 2 (λ _=> .ok (.k (.s []) [])))
  (aY (iF (Kv (ay (bh 1 cV (ay (aj 1) aL)) aL)) (dU 2 (aZ (aG 3) (aZ (aG 4) eN))) (lq n))
  (p6 (mL (dW true (gX (ay (pC c6 (ay (aj 0) aL)) aL)) 1 [2] (aG 0) gh (aO getD (aj 1) (aj 0))))))))
def cK(as:List Slot):dh:=jN (m8 0 (di Gp as))
noncomputable abbrev yF:List Str:=["_law_rows_here","_law_refused_here","e"]
noncomputable abbrev oQ:List Str:=["_law_rows_here"]
def jM(n:Nat):Sg->Out:=(aY (bI 1 (dC (.bl false)))
  (aY (uu 2 (tG mt "BeamError") (Fg (bh 1 cK (ay (aj 0) aL))) (bI 1 (Eg (AV mt ["Loose"] (aj 2)) (Eg (AV mt ["ValueError"] (aj 2)) (PJ (AV mt ["Ring","Crossed"] (aj 2)))))))
  (gw (aj 1))))
def fK(as:List Slot):dh:=jN (jM 0 (di yF as))
noncomputable abbrev yG:List Str:=["_law_one","_law_other"]
abbrev yy:List Str:=yG
def rB(n:Nat):Sg->Out:=(gw (bh 2 dI (ay (aO eE (aO dR (aO bD (aj 0) (dC (.int 0))) (aO bD (aj 1) (dC (.int 1)))) (aO dR (aO bD (aj 1) (dC (.int 0))) (aO bD (aj 0) (dC (.int 1))))) (ay (aO dR (aO bD (aj 0) (dC (.int 1))) (aO bD (aj 1) (dC (.int 1)))) aL))))
def nB(as:List Slot):dh:=jN (rB 0 (di yG as))
noncomputable abbrev r6:List Str:=["_law_rows_here","_law_found","_law_k","_law_total","_law_number","_law_share"]
noncomputable abbrev kQ:List Str:=["_law_rows_here","_law_found"]
def dG(n:Nat):Sg->Out:=(bI 3 (bh 2 nB (ay (aj 3) (ay (bh 2 dI (ay (aO dR (aO bD (aj 5) (dC (.int 0))) (aO bD (aO bD (aj 1) (aj 4)) (dC (.int 0)))) (ay (aO dR (aO bD (aj 5) (dC (.int 1))) (aO bD (aO bD (aj 1) (aj 4)) (dC (.int 1)))) aL))) aL))))
def dF(n:Nat):Sg->Out:=(aY (bI 3 (aO bD (aO bD (aj 0) (aj 2)) (dC (.int 0))))
  (aY (iF (gW (aO bD (aO bD (aj 0) (aj 2)) (dC (.int 1)))) (dU 2 (aZ (aG 4) (aZ (aG 5) eN))) (dG n))
  (yk (dT (aO qB (aj 3) (aO bD (aj 1) (aj 2)))) (gw (dC (.bl false))) fC)))
def iz(n:Nat):Sg->Out:=(aY (yk (Ro (HJ (dT (AV mt ["list"] (aj 1)))) (dT (aO qB (pC c6 (ay (aj 1) aL)) (pC c6 (ay (aj 0) aL))))) (gw (dC (.bl false))) fC)
  (aY (iF (gX (ay (pC c6 (ay (aj 0) aL)) aL)) (aG 2) (dF n))
  (gw (dC (.bl true)))))
def fB(as:List Slot):dh:=jN (iz 0 (di r6 as))
noncomputable abbrev Tt:List Str:=["_law_script","_law_many","_law_ring_here","_law_rows_here","_law_handed","_law_fine"]
noncomputable abbrev LF:List Str:=["_law_script"]
def HP(n:Nat):Sg->Out:=(aY (bI 1 (aO eE (dC (.int 1)) (aO fF (bh 2 bu (ay (aj 0) (ay (dC (.int 0)) aL))) (dC (.int 7)))))
  (aY (bI 2 (bh 2 gH (ay (aO cg (bh 2 bu (ay (aj 0) (ay (dC (.int 0)) aL))) (dC (.int 7))) (ay (aj 1) aL))))
  (aY (bI 3 (bh 4 jQ (ay (aj 0) (ay (aj 1) (ay (aj 2) (ay (dC (.int 0)) aL))))))
  (aY (bI 4 (kX (dW false (gW (aj 3)) 2 [] (dU 2 (aZ (aG 0) (aZ (aG 1) eN))) gh (su (ay (aj 0) (ay (kX (VR yL (ay (aj 1) aL))) aL))))))
  (aY (yk (Ro (HJ (dT (bh 1 fK (ay (aj 4) aL)))) (Ro (dT (aO qB (aj 4) (aj 3))) (HJ (dT (bh 1 fK (ay (aj 4) aL)))))) (gw (dC (.bl false))) fC)
  (aY (bI 5 (bh 4 jQ (ay (aj 0) (ay (aj 1) (ay (aj 2) (ay (aO eE (dC (.int 1)) (aO fF (aO cg (bh 2 bu (ay (aj 0) (ay (dC (.int 1)) aL))) (dC (.int 2))) (dC (.int 40)))) aL))))))
  (gw (Eg (bh 2 fB (ay (aj 5) (ay (bh 1 cK (ay (aj 5) aL)) aL))) (aO tM (bh 1 cK (ay (kX (kC aL)) aL)) (kX (kC aL)))))))))))
def nA(as:List Slot):dh:=jN (HP 0 (di Tt as))
noncomputable def sJ:List Nat->(Nat->Rat)->Rat
 |[],_=>0
 |j::J,g=>g j+sJ J g
theorem bw{g h:Nat->Rat}:∀{J:List Nat},(∀j∈J,g j=h j)->sJ J g=sJ J h
 |[],_=>rfl
 |j::J,e=>by simp only[sJ];rw[e j (by simp),bw (J:=J) λ i hi=>e i (by simp[hi])]
theorem jw(a b:Rat)(g h:Nat->Rat):∀J:List Nat,sJ J (λ j=>a*g j- b*h j)=a*sJ J g- b*sJ J h
 |[]=>by simp only[sJ];grind
 |j::J=>by simp only[sJ];rw[jw a b g h J];grind
theorem cZ{g:Nat->Rat}:∀{J:List Nat},(∀j∈J,g j=0)->sJ J g=0
 |[],_=>rfl
 |j::J,e=>by simp only[sJ];rw[e j (by simp),cZ (J:=J) λ i hi=>e i (by simp[hi])];grind
theorem gy{p:Nat}(g:Nat->Rat):∀{J:List Nat},p∈J->sJ J g=g p+sJ (J.erase p) g
 |j::J,h=>by
  by_cases e:j=p
  ·subst e;simp[sJ]
  ·have hp:p∈J:=by
    rcases List.mem_cons.mp h with q|q
    ·exact absurd q.symm e
    ·exact q
   rw[List.erase_cons_tail (by simpa using e)];simp only[sJ];rw[gy g hp];grind
def Bx{g:Nat->Rat}{J L:List Nat}(h:J.Perm L):sJ J g=sJ L g:=by
 induction h with
 |nil=>rfl
 |cons x _ ih=>simp only[sJ];rw[ih]
 |swap x y l=>simp only[sJ];grind
 |trans _ _ i1 i2=>rw[i1,i2]
def dt(J:List Nat)(e X:Nat->Rat):Rat:=sJ J λ j=>e j*X j
def n9(J:List Nat)(a b:Rat)(e f X:Nat->Rat):dt J (λ j=>a*e j- b*f j) X=a*dt J e X- b*dt J f X:=by unfold dt;rw[<-jw];exact bw λ j _=>by grind
def Hs{J:List Nat}(nd:J.Nodup){p:Nat}(hp:p∈J)(e X:Nat->Rat)(v:Rat):dt J e (λ j=>if j=p then v else X j)=e p*v+dt (J.erase p) e X:=by
 unfold dt;rw[gy _ hp];simp only[if_true];congr 1;refine bw λ j hj=>?_;have:j≠p:=λ z=>by subst z;exact (List.Nodup.mem_erase_iff nd).mp hj|>.1 rfl
 rw[if_neg this]
theorem dm:∀(R:List (Nat->Rat)) (J:List Nat),J.Nodup->R.length<J.length->∃X:Nat->Rat,(∃j∈J,X j≠0)/\(∀j,j∉J->X j=0)/\∀e∈R,dt J e X=0
 |[],J,nd,hl=>by
  cases J with
  |nil=>simp at hl
  |cons j J=>refine ⟨λ i=>if i=j then 1 else 0,⟨j,by simp,by simp⟩,λ i hi=>?_,by simp⟩;have:i≠j:=λ z=>hi (by simp[z]);simp[this]
 |f::R,J,nd,hl=>by
  by_cases h:∀j∈J,f j=0
  ·obtain ⟨X,h1,h2,h3⟩:=dm R J nd (by simp at hl;omega);refine ⟨X,h1,h2,λ e he=>?_⟩;rcases List.mem_cons.mp he with rfl|he
   ·exact cZ λ j hj=>by rw[h j hj];grind
   ·exact h3 e he
  ·have:∃p∈J,f p≠0:=Classical.byContradiction λ z=>h λ j hj=>Classical.byContradiction λ w=>z ⟨j,hj,w⟩;obtain ⟨p,hp,fp⟩:=this;have nd':=nd.erase p;have lj:(J.erase p).length=J.length- 1:=List.length_erase_of_mem hp;obtain ⟨X,⟨i,hi,h1⟩,h2,h3⟩:=dm (R.map λ e j=>f p*e j- e p*f j) (J.erase p) nd' (by simp at hl ⊢;omega);have ip:i≠p:=λ z=>by subst z;exact ((List.Nodup.mem_erase_iff nd).mp hi).1 rfl
   have key:∀e:Nat->Rat,dt J e (λ j=>if j=p then -(dt (J.erase p) f X)/ f p else X j)=e p*(-(dt (J.erase p) f X)/ f p)+dt (J.erase p) e X:=λ e=>Hs nd hp e X _;refine ⟨λ j=>if j=p then -(dt (J.erase p) f X)/ f p else X j,⟨i,List.mem_of_mem_erase hi,by simp[ip,h1]⟩,λ j hj=>?_,λ e he=>?_⟩
   ·have:j≠p:=λ z=>hj (z▸hp);simp only[this,if_false];exact h2 j λ z=>hj (List.mem_of_mem_erase z)
   ·rw[key e];rcases List.mem_cons.mp he with rfl|he
    ·grind
    ·have:=h3 _ (List.mem_map.mpr ⟨e,he,rfl⟩);rw[n9] at this
     grind
termination_by R=>R.length
def cf(e:List Int):Nat->Rat:=λ j=>((e.getD j 0:Int):Rat)
structure Wo(p:Nat)(f e e':List Int):Prop where
 len:e'.length=e.length
 off:e'.getD p 0=0
 LP:∃a b c:Int,a≠0/\c≠0/\∀j,c*e'.getD j 0=a*e.getD j 0- b*f.getD j 0
 le:∀j,(e'.getD j 0).natAbs<=(f.getD p 0).natAbs*(e.getD j 0).natAbs+(e.getD p 0).natAbs*(f.getD j 0).natAbs
def Wo.ev{p:Nat}{f e e':List Int}(w:Wo p f e e')(J:List Nat)(X:Nat->Rat):∃a b c:Rat,a≠0/\c≠0/\c*dt J (cf e') X=a*dt J (cf e) X- b*dt J (cf f) X:=by
 obtain ⟨a,b,c,ha,hc,h⟩:=w.LP;refine ⟨a,b,c,by exact_mod_cast ha,by exact_mod_cast hc,?_⟩;rw[<-n9];have h1:dt J (λ j=>(c:Rat)*cf e' j- 0*cf e' j) X=c*dt J (cf e') X- 0*dt J (cf e') X:=n9 J c 0 (cf e') (cf e') X;have h2:(λ j=>(c:Rat)*cf e' j- 0*cf e' j)=λ j=>(a:Rat)*cf e j- b*cf f j:=by
  funext j;have:=congrArg (λ z:Int=>(z:Rat)) (h j);simp only[Rat.intCast_mul,Rat.intCast_sub] at this;unfold cf
  grind
 rw[h2] at h1;rw[h1];grind
inductive Dg(n:Nat):List (List Int)->List (Nat×List Int)->Prop
 |nil:Dg n [] []
 |step {L r:List (List Int)} {f:List Int} {p:Nat} {w:List Int->List Int} {fs:List (Nat×List Int)}:L.Perm (f::r)->p<n->f.getD p 0≠0->(∀e∈r,Wo p f e (w e))->Dg n (r.map w) fs->Dg n L ((p,f)::fs)
inductive xA(n:Nat):List (List Int)->Prop
 |here {L r:List (List Int)} {f:List Int}:L.Perm (f::r)->(∀j<n,f.getD j 0=0)->xA n L
 |step {L r:List (List Int)} {f:List Int} {p:Nat} {w:List Int->List Int}:L.Perm (f::r)->p<n->f.getD p 0≠0->(∀e∈r,Wo p f e (w e))->xA n (r.map w)->xA n L
def Dg.sol{n:Nat}{L:List (List Int)}{fs:List (Nat×List Int)}(u:Dg n L fs)(J:List Nat)(X:Nat->Rat):(∀e∈L,dt J (cf e) X=0)↔ ∀q∈fs,dt J (cf q.2) X=0:=by
 induction u with
 |nil=>simp
 | @step L r f p w fs hp hn hf hw _ ih=>
  constructor
  ·intro h q hq;have h1:dt J (cf f) X=0:=h f (hp.mem_iff.mpr (by simp));rcases List.mem_cons.mp hq with rfl|hq
   ·exact h1
   ·refine ih.mp (λ e' he'=>?_) q hq;obtain ⟨e,he,rfl⟩:=List.mem_map.mp he';have h2:=h e (hp.mem_iff.mpr (by simp[he]));obtain ⟨a,b,c,ha,hc,z⟩:=(hw e he).ev J X;rw[h1,h2] at z
    grind
  ·intro h e he;have h1:dt J (cf f) X=0:=h (p,f) (by simp);rcases List.mem_cons.mp (hp.mem_iff.mp he) with rfl|he
   ·exact h1
   ·have h2:=ih.mpr (λ q hq=>h q (by simp[hq])) (w e) (List.mem_map.mpr ⟨e,he,rfl⟩);obtain ⟨a,b,c,ha,hc,z⟩:=(hw e he).ev J X;rw[h1,h2] at z
    grind
def Wo.at0{p j:Nat}{f e e':List Int}(w:Wo p f e e')(h1:f.getD j 0=0)(h2:e.getD j 0=0):e'.getD j 0=0:=by
 obtain ⟨a,b,c,ha,hc,h⟩:=w.LP;have:=h j;rw[h1,h2] at this;simp only[Int.mul_zero,Int.sub_zero] at this;rcases Int.mul_eq_zero.mp this with z|z
 ·exact absurd z hc
 ·exact z
def Dg.off{n j:Nat}{L:List (List Int)}{fs:List (Nat×List Int)}(u:Dg n L fs)(h:∀e∈L,e.getD j 0=0):∀q∈fs,q.2.getD j 0=0:=by
 induction u with
 |nil=>simp
 | @step L r f p w fs hp hn hf hw _ ih=>
  intro q hq;have h1:=h f (hp.mem_iff.mpr (by simp));rcases List.mem_cons.mp hq with rfl|hq
  ·exact h1
  ·refine ih (λ e' he'=>?_) q hq;obtain ⟨e,he,rfl⟩:=List.mem_map.mp he';exact (hw e he).at0 h1 (h e (hp.mem_iff.mpr (by simp[he])))
def A5:List (Nat×List Int)->Prop
 |[]=>True
 |(p,f)::fs=>f.getD p 0≠0/\(∀q∈fs,q.2.getD p 0=0)/\A5 fs
def Dg.Y4{n:Nat}{L:List (List Int)}{fs:List (Nat×List Int)}(u:Dg n L fs):A5 fs/\(∀q∈fs,q.1<n)/\fs.length=L.length:=by
 induction u with
 |nil=>simp[A5]
 | @step L r f p w fs hp hn hf hw u ih=>
  obtain ⟨i1,i2,i3⟩:=ih;refine ⟨⟨hf,u.off λ e' he'=>?_,i1⟩,λ q hq=>?_,?_⟩
  ·obtain ⟨e,he,rfl⟩:=List.mem_map.mp he';exact (hw e he).off
  ·rcases List.mem_cons.mp hq with rfl|hq
   ·exact hn
   ·exact i2 q hq
  ·have:=hp.length_eq;simp at this i3 ⊢;omega
theorem A5.at{q:Nat×List Int}:∀{fs:List (Nat×List Int)},A5 fs->q∈fs->q.2.getD q.1 0≠0
 |(p,f)::fs,h,hq=>by
  rcases List.mem_cons.mp hq with rfl|hq
  ·exact h.1
  ·exact h.2.2.at hq
theorem A5.nd:∀{fs:List (Nat×List Int)},A5 fs->(fs.map (·.1)).Nodup
 |[],_=>by simp
 |(p,f)::fs,h=>by simp only[List.map_cons,List.nodup_cons];refine ⟨λ z=>?_,h.2.2.nd⟩;obtain ⟨q,hq,e⟩:=List.mem_map.mp z;have h1:=h.2.2.at hq;rw[e] at h1;exact h1 (h.2.1 q hq)
def Er{n:Nat}{l:List Nat}(nd:l.Nodup)(h:∀j∈l,j<n)(hl:l.length=n){j:Nat}(hj:j<n):j∈l:=by
 refine Classical.byContradiction λ z=>?_;have:=List.Nodup.length_le_of_subset (l₁:=j::l) (l₂:=List.range n) (List.nodup_cons.mpr ⟨z,nd⟩) (λ i hi=>by
  rcases List.mem_cons.mp hi with rfl|hi
  ·exact List.mem_range.mpr hj
  ·exact List.mem_range.mpr (h i hi))
 simp at this;omega
def lI{n:Nat}{l:List Nat}(nd:l.Nodup)(h:∀j∈l,j<n)(hl:l.length=n):l.Perm (List.range n):=by rw[List.perm_ext_iff_of_nodup nd List.nodup_range];exact λ j=>⟨λ z=>List.mem_range.mpr (h j z),λ z=>Er nd h hl (List.mem_range.mp z)⟩
def Cq{J L:List Nat}(h:J.Perm L)(e X:Nat->Rat):dt J e X=dt L e X:=Bx h
theorem A5.zero{X:Nat->Rat}:∀{fs:List (Nat×List Int)},A5 fs->(∀q∈fs,dt (fs.map (·.1)) (cf q.2) X=0)->∀j∈fs.map (·.1),X j=0
 |[],_,_=>by simp
 |(p,f)::fs,h,hd=>by
  have i:=h.2.2.zero (X:=X) λ q hq=>by
   have:=hd q (by simp[hq]);simp only[List.map_cons,dt,sJ] at this;have z:=h.2.1 q hq;unfold dt;rw[show cf q.2 p=0 by unfold cf;rw[z];rfl] at this
   grind
  intro j hj;simp only[List.map_cons,List.mem_cons] at hj;rcases hj with rfl|hj
  ·have:=hd (j,f) (by simp);simp only[List.map_cons,dt,sJ] at this;rw[cZ (λ k hk=>by rw[i k hk];grind)] at this;have hf:cf f j≠0:=by unfold cf;exact_mod_cast h.1
   grind
  ·exact i j hj
def Dg.only{n:Nat}{L:List (List Int)}{fs:List (Nat×List Int)}(u:Dg n L fs)(hL:L.length=n){X:Nat->Rat}(h:∀e∈L,dt (List.range n) (cf e) X=0):∀j<n,X j=0:=by
 obtain ⟨t,h1,h2⟩:=u.Y4;have pr:=lI t.nd (λ j hj=>by obtain ⟨q,hq,rfl⟩:=List.mem_map.mp hj;exact h1 q hq) (by simp;omega);have:=(u.sol (List.range n) X).mp h;have z:=t.zero (X:=X) λ q hq=>by rw[Cq pr];exact this q hq
 exact λ j hj=>z j (pr.mem_iff.mpr (List.mem_range.mpr hj))
def xA.rows{n:Nat}{L:List (List Int)}(u:xA n L):∃R:List (Nat->Rat),R.length<L.length/\∀X:Nat->Rat,(∀g∈R,dt (List.range n) g X=0)->∀e∈L,dt (List.range n) (cf e) X=0:=by
 induction u with
 | @here L r f hp h0=>
  refine ⟨r.map cf,by rw[hp.length_eq];simp,λ X h e he=>?_⟩;rcases List.mem_cons.mp (hp.mem_iff.mp he) with rfl|he
  ·exact cZ λ j hj=>by rw[show cf e j=0 by unfold cf;rw[h0 j (List.mem_range.mp hj)];rfl];grind
  ·exact h _ (List.mem_map.mpr ⟨e,he,rfl⟩)
 | @step L r f p w hp hn hf hw _ ih=>
  obtain ⟨R,hR,h⟩:=ih;refine ⟨cf f::R,by rw[hp.length_eq];simp at hR ⊢;exact hR,λ X hX e he=>?_⟩;have h1:=hX (cf f) (by simp);rcases List.mem_cons.mp (hp.mem_iff.mp he) with rfl|he
  ·exact h1
  ·have h2:=h X (λ g hg=>hX g (by simp[hg])) (w e) (List.mem_map.mpr ⟨e,he,rfl⟩);obtain ⟨a,b,c,ha,hc,z⟩:=(hw e he).ev (List.range n) X;rw[h1,h2] at z
   grind
def xA.other{n:Nat}{L:List (List Int)}(u:xA n L)(hL:L.length=n):∃X:Nat->Rat,(∃j<n,X j≠0)/\∀e∈L,dt (List.range n) (cf e) X=0:=by obtain ⟨R,hR,h⟩:=u.rows;obtain ⟨X,⟨j,hj,h1⟩,_,h3⟩:=dm R (List.range n) List.nodup_range (by simp;omega);exact ⟨X,⟨j,List.mem_range.mp hj,h1⟩,h X h3⟩
def ab(r:Rat):Rat:=if 0<=r then r else -r
def UN(r:Rat):0<=ab r:=by unfold ab;split<;>grind
def HU(r:Rat):r<=ab r:=by unfold ab;split<;>grind
def A1(r:Rat): -r<=ab r:=by unfold ab;split<;>grind
def K7{r:Rat}(h:ab r<=0):r=0:=by have:=HU r;have:=A1 r;grind
def UO{r w:Rat}(h1:r<=w)(h2: -r<=w):ab r<=w:=by unfold ab;split<;>assumption
theorem BA{g h:Nat->Rat}:∀{J:List Nat},(∀j∈J,g j<=h j)->sJ J g<=sJ J h
 |[],_=>by simp only[sJ];grind
 |j::J,e=>by
  simp only[sJ];have h1:=e j (by simp);have h2:=BA (J:=J) λ i hi=>e i (by simp[hi])
  grind
theorem By{g:Nat->Rat}:∀{J:List Nat},(∀j∈J,0<=g j)->0<=sJ J g
 |[],_=>by simp only[sJ];grind
 |j::J,e=>by
  simp only[sJ];have h1:=e j (by simp);have h2:=By (J:=J) λ i hi=>e i (by simp[hi])
  grind
theorem Ag{g:Nat->Rat}:∀{J:List Nat},(∀j∈J,0<=g j)->sJ J g<=0->∀j∈J,g j=0
 |[],_,_=>by simp
 |j::J,e,h=>by
  simp only[sJ] at h;have h1:=e j (by simp);have h2:=By (J:=J) λ i hi=>e i (by simp[hi]);intro i hi;rcases List.mem_cons.mp hi with rfl|hi
  ·grind
  ·exact Ag (J:=J) (λ i hi=>e i (by simp[hi])) (by grind) i hi
theorem Ah(g h:Nat->Rat):∀J:List Nat,sJ J (λ j=>g j+h j)=sJ J g+sJ J h
 |[]=>by simp only[sJ];grind
 |j::J=>by simp only[sJ];rw[Ah g h J];grind
theorem nO(a:Rat)(g:Nat->Rat):∀J:List Nat,sJ J (λ j=>a*g j)=a*sJ J g
 |[]=>by simp only[sJ];grind
 |j::J=>by simp only[sJ];rw[nO a g J];grind
theorem pG(L:List Nat)(g:Nat->Nat->Rat):∀J:List Nat,sJ J (λ i=>sJ L (g i))=sJ L (λ j=>sJ J λ i=>g i j)
 |[]=>by simp only[sJ];exact (cZ λ _ _=>rfl).symm
 |i::J=>by simp only[sJ];rw[pG L g J, <-Ah]
theorem HS(A:Nat->Rat)(X:Nat->Rat):∀{J:List Nat},(∀j∈J,0<=A j)->ab (sJ J λ j=>A j*X j)<=sJ J λ j=>A j*ab (X j)
 |[],_=>by simp only[sJ];unfold ab;split<;>grind
 |j::J,h=>by have h1:=HS A X (J:=J) λ i hi=>h i (by simp[hi]);have h2:=h j (by simp);have h3:A j*X j<=A j*ab (X j):=Rat.mul_le_mul_of_nonneg_left (HU _) h2;have h4:A j*(-X j)<=A j*ab (X j):=Rat.mul_le_mul_of_nonneg_left (A1 _) h2;have h5:=HU (sJ J λ j=>A j*X j);have h6:=A1 (sJ J λ j=>A j*X j);simp only[sJ];exact UO (by grind) (by grind)
def SS{n:Nat}{A:Nat->Nat->Rat}{X:Nat->Rat}(h0:∀i<n,∀j<n,0<=A i j)(h1:∀j<n,sJ (List.range n) (λ i=>A i j)<1)(hX:∀i<n,X i=sJ (List.range n) λ j=>A i j*X j):∀j<n,X j=0:=by
 have e1:sJ (List.range n) (λ i=>ab (X i))<=sJ (List.range n) λ i=>sJ (List.range n) λ j=>A i j*ab (X j):=BA λ i hi=>by have hi:=List.mem_range.mp hi;have:=HS (A i) X (J:=List.range n) λ j hj=>h0 i hi j (List.mem_range.mp hj);rw[<-hX i hi] at this;exact this
 rw[pG] at e1;have e2:sJ (List.range n) (λ j=>(1- sJ (List.range n) λ i=>A i j)*ab (X j))<=0:=by
  have z:sJ (List.range n) (λ j=>(1- sJ (List.range n) λ i=>A i j)*ab (X j))=1*sJ (List.range n) (λ i=>ab (X i)) - 1*sJ (List.range n) (λ j=>sJ (List.range n) λ i=>A i j*ab (X j)):=by
   rw[<-jw];refine bw λ j _=>?_;have:sJ (List.range n) (λ i=>A i j*ab (X j))=ab (X j)*sJ (List.range n) (λ i=>A i j):=by rw[<-nO];exact bw λ i _=>by grind
   rw[this];grind
  rw[z];grind
 intro j hj;have:=Ag (J:=List.range n) (λ j hj=>by have q:=h1 j (List.mem_range.mp hj);exact Rat.mul_nonneg (by grind) (UN _)) e2 j (List.mem_range.mpr hj);have q:=h1 j hj;exact K7 (by rcases Rat.mul_eq_zero.mp this with z|z<;>grind)
def Ff{R L:List Nat}{g:Nat->Rat}(nR:R.Nodup)(nL:L.Nodup)(hs:∀j∈R,j∈L)(h0:∀j,j∉R->g j=0):sJ L g=sJ R g:=by
 induction L generalizing R g with
 |nil=>
  cases R with
  |nil=>rfl
  |cons r R=>exact absurd (hs r (by simp)) (by simp)
 |cons l L ih=>
  rw[List.nodup_cons] at nL;by_cases h:l∈R
  ·rw[gy g h];simp only[sJ];congr 1;have e1:sJ L g=sJ L λ j=>if j=l then 0 else g j:=bw λ j hj=>by rw[if_neg];exact λ z=>nL.1 (z▸hj)
   have e2:sJ (R.erase l) g=sJ (R.erase l) λ j=>if j=l then 0 else g j:=bw λ j hj=>by rw[if_neg];exact λ z=>((List.Nodup.mem_erase_iff nR).mp hj).1 z
   rw[e1,e2];refine ih (nR.erase l) nL.2 (λ j hj=>?_) λ j hj=>?_
   ·obtain ⟨q1,q2⟩:=(List.Nodup.mem_erase_iff nR).mp hj;rcases List.mem_cons.mp (hs j q2) with z|z
    ·exact absurd z q1
    ·exact z
   ·by_cases z:j=l
    ·simp[z]
    ·simp only[z,if_false];exact h0 j λ w=>hj ((List.Nodup.mem_erase_iff nR).mpr ⟨z,w⟩)
  ·simp only[sJ];rw[h0 l h,ih nR nL.2 (λ j hj=>by
    rcases List.mem_cons.mp (hs j hj) with z|z
    ·exact absurd (z▸hj) h
    ·exact z) h0]
   grind
def Su{n:Nat}{A:Nat->Nat->Rat}{R:List Nat}(nd:R.Nodup)(ne:R≠[])(hR:∀j∈R,j<n)(h0:∀j∈R,∀i,i∉R->A i j=0)(h1:∀j∈R,sJ R (λ i=>A i j)=1):
  ∃X:Nat->Rat,(∃j<n,X j≠0)/\∀i<n,X i=sJ (List.range n) λ j=>A i j*X j:=by
 cases R with
 |nil=>exact absurd rfl ne
 |cons r R=>
 obtain ⟨X,⟨j,hj,x0⟩,xs,hX⟩:=dm (R.map λ i j=>(if j=i then 1 else 0) - A i j) (r::R) nd (by simp);have low:∀i,sJ (List.range n) (λ j=>A i j*X j)=sJ (r::R) λ j=>A i j*X j:=λ i=>Ff nd List.nodup_range (λ j hj=>List.mem_range.mpr (hR j hj)) λ j hj=>by rw[xs j hj];grind
 have one:∀i∈r::R,sJ (r::R) (λ j=>(if j=i then (1:Rat) else 0)*X j)=X i:=λ i hi=>by rw[gy _ hi,cZ (J:=(r::R).erase i) λ j hj=>by rw[if_neg λ z=>((List.Nodup.mem_erase_iff nd).mp hj).1 z];grind];rw[if_pos rfl];grind
 have row:∀i∈r::R,dt (r::R) (λ j=>(if j=i then 1 else 0) - A i j) X=X i- sJ (r::R) λ j=>A i j*X j:=λ i hi=>by
  have:dt (r::R) (λ j=>(if j=i then 1 else 0) - A i j) X=1*sJ (r::R) (λ j=>(if j=i then (1:Rat) else 0)*X j) - 1*sJ (r::R) (λ j=>A i j*X j):=by unfold dt;rw[<-jw];exact bw λ j _=>by grind
  rw[this,one i hi];grind
 have tl:∀i∈R,X i=sJ (r::R) λ j=>A i j*X j:=λ i hi=>by
  have:=hX _ (List.mem_map.mpr ⟨i,hi,rfl⟩);rw[row i (by simp[hi])] at this
  grind
 have tot:sJ (r::R) X=sJ (r::R) λ i=>sJ (r::R) λ j=>A i j*X j:=by
  rw[pG];refine bw λ j hj=>?_;have:sJ (r::R) (λ i=>A i j*X j)=X j*sJ (r::R) λ i=>A i j:=by rw[<-nO];exact bw λ i _=>by grind
  rw[this,h1 j hj];grind
 have hd:X r=sJ (r::R) λ j=>A r j*X j:=by
  have e:sJ R X=sJ R λ i=>sJ (r::R) λ j=>A i j*X j:=bw tl;have t2:X r+sJ R X=(sJ (r::R) λ j=>A r j*X j)+sJ R λ i=>sJ (r::R) λ j=>A i j*X j:=tot
  grind
 refine ⟨X,⟨j,hR j hj,x0⟩,λ i hi=>?_⟩;rw[low i];by_cases hm:i∈r::R
 ·rcases List.mem_cons.mp hm with rfl|hm
  ·exact hd
  ·exact tl i hm
 ·rw[xs i hm];exact (cZ λ j hj=>by rw[h0 j hj i hm];grind).symm
def nG(q:Rat):Prop:=∃z:Int,q=z
def nG.LP{x y:Rat}(a b:Int)(hx:nG x)(hy:nG y):nG (a*x- b*y):=by obtain ⟨u,rfl⟩:=hx;obtain ⟨v,rfl⟩:=hy;exact ⟨a*u- b*v,by simp only[Rat.intCast_mul,Rat.intCast_sub]⟩
theorem nG.sum(c:Int)(e:Nat->Int)(y:Nat->Rat):∀{J:List Nat},(∀j∈J,nG (c*y j))->nG (c*dt J (λ j=>(e j:Rat)) y)
 |[],_=>⟨0,by simp only[dt,sJ];grind⟩
 |j::J,h=>by
  obtain ⟨u,hu⟩:=h j (by simp);obtain ⟨v,hv⟩:=nG.sum c e y (J:=J) λ i hi=>h i (by simp[hi]);refine ⟨e j*u+v,?_⟩;simp only[dt,sJ,Rat.intCast_mul,Rat.intCast_add] at hv ⊢
  grind
noncomputable def bd:Nat->Nat->Nat
 |0,_=>1
 |m+1,C=>C*bd m (2*C*C)
theorem CC:∀(m C:Nat) (R:List (Nat->Int)) (J:List Nat),R.length=m->J.length=m->J.Nodup->(∀e∈R,∀j∈J,(e j).natAbs<=C)->(∀X:Nat->Rat,(∀e∈R,dt J (λ j=>(e j:Rat)) X=0)->∀j∈J,X j=0)->
  ∃d:Int,d≠0/\d.natAbs<=bd m C/\∀y:Nat->Rat,(∀e∈R,nG (dt J (λ j=>(e j:Rat)) y))->∀j∈J,nG (d*y j)
 |0,C,R,J,hR,hJ,_,_,_=>by
  obtain rfl:=List.length_eq_zero_iff.mp hJ
  exact ⟨1,by decide,by simp[bd],by simp⟩
 |m+1,C,R,J,hR,hJ,nd,hC,hK=>by
  cases J with
  |nil=>cases hJ
  |cons p J=>
  rw[List.nodup_cons] at nd
  have ex:∃f∈R,f p≠0:=Classical.byContradiction λ z=>by
   have:=hK (λ j=>if j=p then 1 else 0) (λ e he=>by
    have e0:e p=0:=Classical.byContradiction λ w=>z ⟨e,he,w⟩
    simp only[dt,sJ]
    rw[cZ (J:=J) λ j hj=>by rw[if_neg (show j≠p from λ w=>nd.1 (w▸hj))];grind,e0];simp;grind) p (by simp)
   simp at this
  obtain ⟨f,hf,fp⟩:=ex
  obtain ⟨R1,R2,rfl⟩:=List.append_of_mem hf
  have hmem:∀e∈R1++R2,e∈R1++f::R2:=λ e he=>by
   rcases List.mem_append.mp he with z|z
   ·exact List.mem_append_left _ z
   ·exact List.mem_append_right _ (List.mem_cons_of_mem _ z)
  have hfp:(f p:Rat)≠0:=by exact_mod_cast fp
  have cast:∀e:Nat->Int,(λ j=>(((f p*e j- e p*f j:Int)):Rat))=λ j=>(f p:Rat)*(e j:Rat) -(e p:Rat)*(f j:Rat):=λ e=>by
   funext j;simp only[Rat.intCast_mul,Rat.intCast_sub]
  obtain ⟨d,d0,dl,hd⟩:=CC m (2*C*C) ((R1++R2).map λ e j=>f p*e j- e p*f j) J (by simp at hR ⊢;omega) (by simpa using hJ) nd.2 (λ e' he' j hj=>by
    obtain ⟨e,he,rfl⟩:=List.mem_map.mp he'
    have a1:=hC f hf p (by simp)
    have a2:=hC e (hmem e he) j (by simp[hj])
    have a3:=hC e (hmem e he) p (by simp)
    have a4:=hC f hf j (by simp[hj])
    have b1:(f p*e j).natAbs<=C*C:=by rw[Int.natAbs_mul];exact Nat.mul_le_mul a1 a2
    have b2:(e p*f j).natAbs<=C*C:=by rw[Int.natAbs_mul];exact Nat.mul_le_mul a3 a4
    have:2*C*C=C*C+C*C:=by rw[Nat.mul_assoc];omega
    show (f p*e j- e p*f j).natAbs<=2*C*C
    omega) (λ X hX j hj=>by
    have:=hK (λ j=>if j=p then -(dt J (λ j=>(f j:Rat)) X)/ f p else X j) (λ e he=>by
     have c1:dt (p::J) (λ j=>(e j:Rat)) (λ j=>if j=p then -(dt J (λ j=>(f j:Rat)) X)/ f p else X j)=e p*(-(dt J (λ j=>(f j:Rat)) X)/ f p)+dt J (λ j=>(e j:Rat)) X:=by
      have:=Hs (J:=p::J) (List.nodup_cons.mpr nd) (p:=p) (by simp) (λ j=>(e j:Rat)) X (-(dt J (λ j=>(f j:Rat)) X)/ f p)
      rw[this];simp
     rw[c1]
     rcases List.mem_append.mp he with z|z
     ·have q:=hX _ (List.mem_map.mpr ⟨e,List.mem_append_left _ z,rfl⟩)
      rw[cast,n9] at q
      grind
     ·rcases List.mem_cons.mp z with rfl|z
      ·grind
      ·have q:=hX _ (List.mem_map.mpr ⟨e,List.mem_append_right _ z,rfl⟩)
       rw[cast,n9] at q
       grind) j (by simp[hj])
    have np:j≠p:=λ w=>nd.1 (w▸hj)
    simpa[np] using this)
  refine ⟨d*f p,Int.mul_ne_zero d0 fp,?_,λ y hy=>?_⟩
  ·rw[Int.natAbs_mul]
   have a1:=hC f hf p (by simp)
   have:=Nat.mul_le_mul dl a1
   rw[Nat.mul_comm] at this
   calc d.natAbs*(f p).natAbs=(f p).natAbs*d.natAbs:=Nat.mul_comm _ _
    _<=bd m (2*C*C)*C:=by rw[Nat.mul_comm];exact Nat.mul_le_mul dl a1
    _=C*bd m (2*C*C):=Nat.mul_comm _ _
  ·have ZN:=hd y λ e' he'=>by
    obtain ⟨e,he,rfl⟩:=List.mem_map.mp he'
    have q1:=hy e (hmem e he)
    have q2:=hy f hf
    have z:dt J (λ j=>(((f p*e j- e p*f j:Int)):Rat)) y=(f p:Rat)*dt (p::J) (λ j=>(e j:Rat)) y-(e p:Rat)*dt (p::J) (λ j=>(f j:Rat)) y:=by
     rw[cast,n9]
     simp only[dt,sJ];grind
    rw[z]
    exact nG.LP _ _ q1 q2
   intro j hj
   rcases List.mem_cons.mp hj with rfl|hj
   ·obtain ⟨u,hu⟩:=hy f hf
    obtain ⟨v,hv⟩:=nG.sum d f y ZN
    refine ⟨d*u- v,?_⟩
    simp only[dt,sJ,Rat.intCast_mul,Rat.intCast_sub] at hu hv ⊢
    grind
   ·obtain ⟨u,hu⟩:=ZN j hj
    refine ⟨f p*u,?_⟩
    simp only[Rat.intCast_mul]
    grind
def gU(x:Rat):x*(x.den:Rat)=x.num:=by
 have h:((x.den:Nat):Rat)≠0:=by exact_mod_cast x.den_nz
 have e:x=(x.num:Rat)/(x.den:Rat):=by have:=Rat.num_divInt_den x;rw[Rat.divInt_eq_div] at this;exact this.symm
 have e2:x*(x.den:Rat)=(x.num:Rat)/(x.den:Rat)*(x.den:Rat):=by rw[<-e]
 rw[e2]
 grind
def pL{x:Rat}{d:Int}(h:nG (d*x)):(x.den:Int)∣d:=by
 obtain ⟨z,hz⟩:=h;have e:d*x.num=z*x.den:=by
  have h1:(d:Rat)*x*x.den=z*x.den:=by rw[hz]
  rw[Rat.mul_assoc,gU] at h1
  exact_mod_cast h1
 have dv:x.den∣x.num.natAbs*d.natAbs:=by have:=congrArg Int.natAbs e;rw[Int.natAbs_mul,Int.natAbs_mul] at this;exact ⟨z.natAbs,by rw[Nat.mul_comm,this];simp[Nat.mul_comm]⟩
 have:=Nat.Coprime.dvd_of_dvd_mul_left x.reduced.symm dv;exact Int.natAbs_dvd_natAbs.mp (by simpa using this)
def iL(e:List Int):D:= .lst (e.map D.int)
inductive IsL:dh->List Int->Prop
 |ok (e:List Int):IsL (.ok (iL e)) e
 |new (e:List Int):IsL (.new (.l (e.map D.int))) e
 |OD (e:List Int):IsL (.new (.d (iL e))) e
def IsL.d{a:dh}{e:List Int}(h:IsL a e):kE a= .ok (iL e):=by cases h<;>rfl
def fP{t:Tg}{B:Sg->Out}{d:D}{xs:List D}{Γ Γ1 Γ2:Sg}(h1:t d Γ=some Γ1)(h2:B Γ1= .nx Γ2):cS t B (d::xs) Γ=cS t B xs Γ2:=by simp[cS,h1,h2]
def KJ{t:Tg}{B:Sg->Out}{d r:D}{xs:List D}{Γ Γ1:Sg}(h1:t d Γ=some Γ1)(h2:B Γ1= .rt r):cS t B (d::xs) Γ= .rt r:=by simp[cS,h1,h2]
theorem qY{el:D->Res (Option D)}(f:Int->Int):∀{e:List Int},(∀z∈e,el (.int z)= .ok (some (.int (f z))))->bW el (e.map D.int)= .ok ((e.map f).map D.int)
 |[],_=>rfl
 |z::e,h=>by have:=qY (el:=el) f (e:=e) λ y hy=>h y (by simp[hy]);simp only[List.map_cons,bW,h z (by simp),this,Res.bnd]
def gf:List Int->Nat->Nat
 |[],d=>d
 |z::e,d=>gf e (Int.gcd z d)
theorem G9:∀(e:List Int),gf e 1=1
 |[]=>rfl
 |z::e=>by simp[gf,G9 e]
theorem Hf:∀(e:List Int) (d:Nat),gf e d∣d/\∀z∈e,(gf e d:Int)∣z
 |[],d=>⟨Nat.dvd_refl _,by simp⟩
 |z::e,d=>by
  obtain ⟨h1,h2⟩:=Hf e (Int.gcd z d);simp only[gf];refine ⟨Nat.dvd_trans h1 (by have:=Int.gcd_dvd_natAbs_right z d;simpa using this),λ y hy=>?_⟩;rcases List.mem_cons.mp hy with rfl|hy
  ·exact Int.dvd_trans (Int.natCast_dvd_natCast.mpr h1) (Int.gcd_dvd_left ..)
  ·exact h2 y hy
theorem BV(E:D):∀(e:List Int) (d:Nat) (s:Slot),(∃s',cS (aG 2) (dJ 0) (e.map D.int) [.val E,.val (.int d),s]= .nx [.val E,.val (.int (gf e d)),s'])\/(gf e d=1/\cS (aG 2) (dJ 0) (e.map D.int) [.val E,.val (.int d),s]= .rt E)
 |[],d,s=> .inl ⟨s,rfl⟩
 |z::e,d,s=>by
  by_cases h:d=1
  ·subst h;right;refine ⟨G9 _,KJ (Γ1:=[.val E,.val (.int 1),.val (.int z)]) rfl ?_⟩;simp[dJ]
  ·have hd:¬((d:Int)=1):=by omega
   have e1:cS (aG 2) (dJ 0) (D.int z::e.map D.int) [.val E,.val (.int d),s]=cS (aG 2) (dJ 0) (e.map D.int) [.val E,.val (.int (Int.gcd z d)),.val (.int z)]:=fP (Γ1:=[.val E,.val (.int d),.val (.int z)]) rfl (by simp[dJ,hd,aJ]);have:=BV E e (Int.gcd z d) (.val (.int z));simp only[List.map_cons,gf,e1];exact this
structure Ik(e e':List Int):Prop where
 len:e'.length=e.length
 LP:∃c:Int,c≠0/\∀j,c*e'.getD j 0=e.getD j 0
def Ik.le{e e':List Int}(h:Ik e e')(j:Nat):(e'.getD j 0).natAbs<=(e.getD j 0).natAbs:=by obtain ⟨c,hc,hl⟩:=h.LP;rw[<-hl j,Int.natAbs_mul];exact Nat.le_mul_of_pos_left _ (by omega)
def getD_map(f:Int->Int)(h0:f 0=0)(e:List Int)(j:Nat):(e.map f).getD j 0=f (e.getD j 0):=by simp only[List.getD_eq_getElem?_getD,List.getElem?_map];cases e[j]? <;>simp[h0]
def kc(e:List Int)(j:Nat):e.getD j 0=0\/e.getD j 0∈e:=by
 simp only[List.getD_eq_getElem?_getD];cases h:e[j]? with
 |none=>left;rfl
 |some z=>right;exact List.mem_of_getElem? h
theorem Ce:∀{e:List Int},(∀z∈e,z=0)->gf e 0=0
 |[],_=>rfl
 |z::e,h=>by have:=h z (by simp);subst this;simp only[gf];exact Ce λ y hy=>h y (by simp[hy])
def Af(e:List Int):gJ (iL e)= .ok (e.map D.int):=rfl
def c8(x:Int){g:Int}(h0:g≠0)(h:g.natAbs.log2<9000):cg (.int x) (.int g)= .ok (.int (x.fdiv g)):=by simp[cg,qT,h0,h]
def nW{g m:Nat}(hg:g≠0)(h:g<2^m):g.log2<m:=(Nat.log2_lt hg).mpr h
theorem dj:∀e:List Int,gm (e.map D.int)=true
 |[]=>rfl
 |z::e=>by simp[gm,nt,dj e]
def GH{e:List Int}{g:Int}(h0:g≠0)(h:g.natAbs.log2<9000):bW (jJ (aG 0) gh (aO cg (aj 0) (aj 1)) [.no,.val (.int g)]) (e.map D.int)= .ok ((e.map λ z=>z.fdiv g).map D.int):=qY _ λ z _=>by simp[jJ,c8 z h0 h]
def GD{e:List Int}(hl:e.length<100000)(hs:∀z∈e,z.natAbs<2^9000):∃e',IsL (dz [.val (iL e)]) e'/\Ik e e':=by
 rcases BV (iL e) e 0 .no with ⟨s',h⟩|⟨_,h⟩
 ·by_cases g0:gf e 0=0
  ·refine ⟨e,?_,rfl,1,by decide,λ j=>by omega⟩;have:dz [.val (iL e)]= .ok (iL e):=by have q:=Af e;generalize iL e=E at*;simp only[Int.natCast_zero,g0] at h;simp[dz,jK,di,q,h]
   rw[this];exact .ok e
  ·have dv:=(Hf e 0).2;have gp:(gf e 0:Int)≠0:=by omega
   have g9:(gf e 0:Int).natAbs.log2<9000:=by
    have ex:∃z∈e,z≠0:=Classical.byContradiction λ w=>g0 (Ce λ z hz=>Classical.byContradiction λ v=>w ⟨z,hz,v⟩);obtain ⟨z,hz,z0⟩:=ex;have d1:gf e 0∣z.natAbs:=by have:=Int.natAbs_dvd_natAbs.mpr (dv z hz);simpa using this
    have d2:=Nat.le_of_dvd (by omega) d1;rw[Int.natAbs_natCast];exact nW g0 (Nat.lt_of_le_of_lt d2 (hs z hz))
   refine ⟨e.map λ z=>z.fdiv (gf e 0),?_,by simp,gf e 0,gp,λ j=>?_⟩
   ·have:dz [.val (iL e)]= .new (.l ((e.map λ z=>z.fdiv (gf e 0)).map D.int)):=by
     have q:=Af e;have c:=GH (e:=e) gp g9;have nR:ku (.l ((e.map λ z=>z.fdiv (gf e 0)).map D.int))=true:=by simp only[ku];exact dj _
     have hn:e.length<1000000:=by omega
     generalize (e.map λ z=>z.fdiv (gf e 0)).map D.int=R at*;generalize iL e=E at*;simp only[Int.natCast_zero] at h;generalize (gf e 0:Int)=g at*;simp[dz,jK,di,q,h,gp,hn,gO,jm,c,nR]
    rw[this];exact .new _
   ·rw[getD_map _ (by simp) e j];rcases kc e j with z|z
    ·rw[z];simp
    ·exact Int.mul_fdiv_cancel' (dv _ z)
 ·refine ⟨e,?_,rfl,1,by decide,λ j=>by omega⟩;have:dz [.val (iL e)]= .ok (iL e):=by have q:=Af e;generalize iL e=E at*;simp only[Int.natCast_zero] at h;simp[dz,jK,di,q,h]
  rw[this];exact .ok e
def eV{x y:Int}(hx:x.natAbs<2^100000)(hy:y.natAbs<2^100000):dR (.int x) (.int y)= .ok (.int (x*y)):=mS _ _ (qE hx hy (by decide) (by decide))
def pz(e f:List Int):List D:=(e.zip f).map λ q=> .tup [.int q.1,.int q.2]
def MP(e f:List Int):Vi [iL e,iL f]= .ok (pz e f):=by simp only[Vi,iL,pz,List.zip_map,List.map_map];rfl
def jF{ds:List D}{d:D}{p:Nat}(h:ds[p]? =some d):bD (.lst ds) (.int p)= .ok d:=by have hp:=(List.getElem?_eq_some_iff.mp h).1;simp[bD,tV,mU,hp];exact (List.getElem?_eq_some_iff.mp h).2
def jG{e:List Int}{p:Nat}(h:p<e.length):bD (iL e) (.int p)= .ok (.int (e.getD p 0)):=jF (by simp[List.getElem?_eq_getElem h])
theorem zy{el:D->Res (Option D)}(f:Int->Int->Int):∀{l:List (Int×Int)},(∀q∈l,el (.tup [.int q.1,.int q.2])= .ok (some (.int (f q.1 q.2))))->bW el (l.map λ q=> .tup [.int q.1,.int q.2])= .ok ((l.map λ q=>f q.1 q.2).map D.int)
 |[],_=>rfl
 |q::l,h=>by have:=zy (el:=el) f (l:=l) λ y hy=>h y (by simp[hy]);simp only[List.map_cons,bW,h q (by simp),this,Res.bnd]
theorem mW(f:Int->Int->Int)(h0:f 0 0=0):∀{a b:List Int} (j:Nat),a.length=b.length->((a.zip b).map λ q=>f q.1 q.2).getD j 0=f (a.getD j 0) (b.getD j 0)
 |[],[],_,_=>by simp[h0]
 |x::a,y::b,0,_=>by simp
 |x::a,y::b,j+1,h=>by have:=mW f h0 (a:=a) (b:=b) j (by simpa using h);simpa using this
def bA{x a b:Nat}(h:x<2^a)(hab:a<=b):x<2^b:=Nat.lt_of_lt_of_le h (Nat.pow_le_pow_right (by decide) hab)
def Dj{p:Nat}{e f:List Int}(hp:p<e.length)(hl:f.length=e.length)(h1:e.length<100000)(f0:f.getD p 0≠0)(he:∀z∈e,z.natAbs<2^4400)(hf:∀z∈f,z.natAbs<2^4400):
  ∃e',IsL (cN [.val (.int p),.val (iL e),.val (iL f)]) e'/\Wo p f e e':=by
 have ie:=jG hp;have jf:=jG (e:=f) (p:=p) (by omega);have be:∀j,(e.getD j 0).natAbs<2^4400:=λ j=>by
  rcases kc e j with z|z
  ·rw[z];exact Nat.pow_pos (by decide)
  ·exact he _ z
 have bf:∀j,(f.getD j 0).natAbs<2^4400:=λ j=>by
  rcases kc f j with z|z
  ·rw[z];exact Nat.pow_pos (by decide)
  ·exact hf _ z
 have Yw:=be p;have ZW:=bf p;by_cases e0:e.getD p 0=0
 ·refine ⟨e,?_,rfl,e0,⟨1,0,1,by decide,by decide,λ j=>by omega⟩,λ j=>?_⟩
  ·have:cN [.val (.int p),.val (iL e),.val (iL f)]= .ok (iL e):=by rw[e0] at ie;generalize iL e=E at*;generalize iL f=G at*;simp[cN,kg,di,ie]
   rw[this];exact .ok e
  ·have:0<(f.getD p 0).natAbs:=by omega
   exact Nat.le_trans (Nat.le_mul_of_pos_left _ this) (Nat.le_add_right _ _)
 ·generalize ev:e.getD p 0=ep at*;generalize fv:f.getD p 0=fp at*;have g0:(Int.gcd ep fp:Int)≠0:=by have:=Int.gcd_pos_of_ne_zero_left fp e0;omega
  have gl:(Int.gcd ep fp:Int).natAbs.log2<9000:=by rw[Int.natAbs_natCast];refine nW (by omega) (bA (Nat.lt_of_le_of_lt ?_ Yw) (by decide));exact Nat.le_of_dvd (by omega) (Int.gcd_dvd_natAbs_left ep fp)
  have d1:(Int.gcd ep fp:Int)∣fp:=Int.gcd_dvd_right ..;have d2:(Int.gcd ep fp:Int)∣ep:=Int.gcd_dvd_left ..;generalize hg:(Int.gcd ep fp:Int)=g at*;obtain ⟨k,hk⟩:=d1;obtain ⟨t,ht⟩:=d2;have k1:fp.fdiv g=k:=by rw[hk,Int.mul_comm];exact Int.mul_fdiv_cancel _ g0
  have t1:ep.fdiv g=t:=by rw[ht,Int.mul_comm];exact Int.mul_fdiv_cancel _ g0
  have gp:1<=g.natAbs:=by omega
  have kl:k.natAbs<=fp.natAbs:=by rw[hk,Int.natAbs_mul];exact Nat.le_mul_of_pos_left _ gp
  have tl:t.natAbs<=ep.natAbs:=by rw[ht,Int.natAbs_mul];exact Nat.le_mul_of_pos_left _ gp
  have k0:k≠0:=λ z=>by rw[z,Int.mul_zero] at hk;exact f0 hk
  have dk:=c8 fp g0 gl;have ZV:=c8 ep g0 gl;rw[k1] at dk;rw[t1] at ZV;have cmp:bW (jJ (dU 2 (aZ (aG 0) (aZ (aG 1) eN))) gh (aO ko (aO dR (aj 2) (aj 0)) (aO dR (aj 3) (aj 1))) [.no,.no,.val (.int k),.val (.int t)]) (pz e f)= .ok (((e.zip f).map λ q=>k*q.1- t*q.2).map D.int):=
   zy (λ a b=>k*a- t*b) λ q hq=>by obtain ⟨q1,q2⟩:=q;have m1:=he _ (List.of_mem_zip hq).1;have m2:=hf _ (List.of_mem_zip hq).2;have z1:=eV (x:=k) (y:=q1) (bA (Nat.lt_of_le_of_lt kl ZW) (by decide)) (bA m1 (by decide));have z2:=eV (x:=t) (y:=q2) (bA (Nat.lt_of_le_of_lt tl Yw) (by decide)) (bA m2 (by decide));simp[jJ,z1,z2,ko]
  have ln:(pz e f).length<1000000:=by simp[pz];omega
  have zp:=MP e f;have bnd:∀j,((((e.zip f).map λ q=>k*q.1- t*q.2)).getD j 0).natAbs<=fp.natAbs*(e.getD j 0).natAbs+ep.natAbs*(f.getD j 0).natAbs:=λ j=>by
   rw[mW (λ a b=>k*a- t*b) (by simp) j hl.symm];have b1:(k*e.getD j 0).natAbs<=fp.natAbs*(e.getD j 0).natAbs:=by rw[Int.natAbs_mul];exact Nat.mul_le_mul_right _ kl
   have b2:(t*f.getD j 0).natAbs<=ep.natAbs*(f.getD j 0).natAbs:=by rw[Int.natAbs_mul];exact Nat.mul_le_mul_right _ tl
   omega
  have sz:∀z∈(e.zip f).map λ q=>k*q.1- t*q.2,z.natAbs<2^9000:=λ z hz=>by
   obtain ⟨q,hq,rfl⟩:=List.mem_map.mp hz;have m1:=he _ (List.of_mem_zip hq).1;have m2:=hf _ (List.of_mem_zip hq).2;have b1:(k*q.1).natAbs<2^8800:=by rw[Int.natAbs_mul,show (2:Nat)^8800=2^4400*2^4400 from by rw[<-Nat.pow_add]];exact Nat.mul_lt_mul'' (Nat.lt_of_le_of_lt kl ZW) m1
   have b2:(t*q.2).natAbs<2^8800:=by rw[Int.natAbs_mul,show (2:Nat)^8800=2^4400*2^4400 from by rw[<-Nat.pow_add]];exact Nat.mul_lt_mul'' (Nat.lt_of_le_of_lt tl Yw) m2
   have b3:(2:Nat)^8800+2^8800<=2^9000:=by
    rw[show (2:Nat)^9000=2^8800*2^200 from by rw[<-Nat.pow_add]];have:(2:Nat)<=2^200:=by decide
    have:=Nat.mul_le_mul_left (2^8800) this;omega
   omega
  obtain ⟨e',hL,lo⟩:=GD (e:=(e.zip f).map λ q=>k*q.1- t*q.2) (by simp;omega) sz;refine ⟨e',?_,by rw[lo.len];simp;omega,?_,?_,λ j=>by rw[ev,fv];exact Nat.le_trans (lo.le j) (bnd j)⟩
  ·have nL:gm [iL ((e.zip f).map λ q=>k*q.1- t*q.2)]=true:=by simp only[gm,iL,nt,dj];rfl
   have fz:uX (.l (((e.zip f).map λ q=>k*q.1- t*q.2).map D.int))= .ok (iL ((e.zip f).map λ q=>k*q.1- t*q.2)):=rfl;have nx:∀(A:dh) (x:List Int) (Γ:Sg),IsL A x->IsL (jN (oE (jD A) Γ λ m=>if ku m=true then Out.xG m else Out.bad)) x:=λ A x Γ hA=>by
    cases hA with
    |ok=>simp only[jD,oE,ku,nt,iL,dj,if_true,jN];exact .OD x
    |new=>simp only[jD,oE,ku,dj,if_true,jN];exact .new x
    |OD=>simp only[jD,oE,ku,nt,iL,dj,if_true,jN];exact .OD x
   have gd:aJ [.val (.int ep),.val (.int fp)]= .ok (.int g):=by rw[<-hg];rfl
   have key:cN [.val (.int p),.val (iL e),.val (iL f)]=jN (oE (jD (dz [.val (iL ((e.zip f).map λ q=>k*q.1- t*q.2))])) [.val (.int p),.val (iL e),.val (iL f),.val (.int g),.val (.int k),.val (.int t)] λ m=>if ku m=true then Out.xG m else Out.bad):=by generalize ((e.zip f).map λ q=>k*q.1- t*q.2)=N at*;generalize pz e f=Z at*;generalize iL e=E at*;generalize iL f=G at*;simp[cN,kg,di,ie,jf,e0,gd,dk,ZV,gO,jm,Ku,zp,ln,cmp,nL,fz,iL,dj]
   rw[key];exact nx _ _ _ hL
  ·obtain ⟨c,c0,hc⟩:=lo.LP;have:=hc p;rw[mW (λ a b=>k*a- t*b) (by simp) p hl.symm,ev,fv] at this;have z:k*ep- t*fp=0:=by rw[ht,hk];grind
   rw[z] at this;rcases Int.mul_eq_zero.mp this with w|w
   ·exact absurd w c0
   ·exact w
  ·obtain ⟨c,c0,hc⟩:=lo.LP;refine ⟨k,t,c,k0,c0,λ j=>?_⟩;rw[hc j,mW (λ a b=>k*a- t*b) (by simp) j hl.symm]
def rL(L:List (List Int)):D:= .lst (L.map iL)
theorem lP:∀e:List Int,gD (e.map D.int)=some e
 |[]=>rfl
 |z::e=>by simp[gD,lP e]
def KU(e:List Int):(Hv o9 (sy (aj 0) (dC (.int 0)))) [.val (iL e)]= .ok (.int (-(e.count 0:Nat))):=by
 have:(rC (iL e)).bind gD=some e:=by simp only[iL,rC,Option.bind_some,lP]
 simp[sy,this,PU]
theorem qL{fk:D->Res D}(key:List Int->Int):∀{L:List (List Int)},(∀e∈L,fk (iL e)= .ok (.int (key e)))->ez fk (L.map iL)=some (L.map key)
 |[],_=>rfl
 |e::L,h=>by have:=qL (fk:=fk) key (L:=L) λ y hy=>h y (by simp[hy]);simp[ez,h e (by simp),this]
def Np{L:List (List Int)}(hl:L.length<64)(s0 s1 s3 s4:Slot):∃L':List (List Int),L.Perm L'/\nX (ay (aj 2) aL) [] (Hv o9 (sy (aj 0) (dC (.int 0)))) [s0,s1,.val (rL L),s3,s4]= .ok (L'.map iL):=by
 have hk:=qL (fk:=λ x=>(Hv o9 (sy (aj 0) (dC (.int 0)))) (lO x [] [s0,s1,.val (rL L),s3,s4])) (λ e=> -(e.count 0:Nat)) (L:=L) λ e _=>KU e;have pm:=jH (L.map λ e=>(-(e.count 0:Nat):Int));rw[List.length_map] at pm;obtain ⟨ix,hix⟩:∃ix,tF (L.map λ e=>(-(e.count 0:Nat):Int))=ix:=⟨_,rfl⟩;rw[hix] at pm;refine ⟨ix.map λ i=>L.getD i [],?_,?_⟩
 ·have e1:(List.range L.length).map (λ i=>L.getD i [])=L:=by
   apply List.ext_getElem
   ·simp
   ·intro i h1 h2;simp at h1 h2 ⊢;simp[h2]
  have:=pm.symm.map λ i=>L.getD i [];rw[e1] at this;exact this
 ·have eb:ix.map (λ i=>(L.map iL).getD i .eU)=(ix.map λ i=>L.getD i []).map iL:=by rw[List.map_map];refine List.map_congr_left λ i hi=>?_;have hi:=List.mem_range.mp (pm.mem_iff.mp hi);simp[hi]
  show pF (λ x=>(Hv o9 (sy (aj 0) (dC (.int 0)))) (lO x [] [s0,s1,.val (rL L),s3,s4])) [rL L]=_;unfold pF;have hn:(L.map iL).length<64:=by simpa using hl
  show (if (L.map iL).length<64 then (match ez (λ x=>(Hv o9 (sy (aj 0) (dC (.int 0)))) (lO x [] [s0,s1,.val (rL L),s3,s4])) (L.map iL) with|some ks=>Res.ok ((tF ks).map λ i=>(L.map iL).getD i .eU)|none=> .bad) else .bad)=_;rw[if_pos hn,hk];simp only[hix,eb]
theorem tS{el:D->Res (Option D)}(P:List Int->Bool):∀{L:List (List Int)},(∀e∈L,el (iL e)= .ok (if P e=true then some (.int 1) else none))->bW el (L.map iL)= .ok (List.replicate (L.countP P) (.int 1))
 |[],_=>rfl
 |e::L,h=>by
  have:=tS (el:=el) P (L:=L) λ y hy=>h y (by simp[hy]);by_cases q:P e=true
  ·simp[bW,h e (by simp),this,q,List.replicate_succ]
  ·simp[bW,h e (by simp),this,q]
def JY{p n:Nat}{L:List (List Int)}(hl:L.length<1000)(h:∀e∈L,e.length=n)(hp:p<n):bK [.val (.int p),.val (rL L)]= .ok (.int (L.countP λ e=>decide (e.getD p 0≠0):Nat)):=by
 have c:=tS (el:=jJ (aG 0) (dT (aO qB (aO bD (aj 0) (aj 1)) (dC (.int 0)))) (dC (.int 1)) [.no,.val (.int p)]) (λ e=>decide (e.getD p 0≠0)) (L:=L) λ e he=>by
  have ie:=jG (e:=e) (p:=p) (by rw[h e he];exact hp);generalize e.getD p 0=z at*;generalize iL e=E at*;by_cases z0:z=0
  ·subst z0;simp[jJ,ie]
  ·simp[jJ,ie,z0]
 have sq:gJ (rL L)= .ok (L.map iL):=rfl;have hn:(L.map iL).length<1000000:=by simp;omega
 have kl:L.countP (λ e=>decide (e.getD p 0≠0))<=L.length:=List.countP_le_length;generalize L.countP (λ e=>decide (e.getD p 0≠0))=k at*;generalize L.map iL=X at*;generalize rL L=E at*;simp[bK,iw,di,sq,hn,gO,jm,c,uX,c6]
theorem i7{α:Type}{el:D->Res (Option D)}(f:α->D)(P:α->Bool):∀{l:List α},(∀a∈l,el (f a)= .ok (if P a=true then some (f a) else none))->bW el (l.map f)= .ok ((l.filter P).map f)
 |[],_=>rfl
 |a::l,h=>by
  have:=i7 (el:=el) f P (l:=l) λ y hy=>h y (by simp[hy]);by_cases q:P a=true
  ·simp[bW,h a (by simp),this,q]
  ·simp[bW,h a (by simp),this,q]
theorem sZ{α:Type}{fk:D->Res D}(f:α->D)(key:α->Int):∀{l:List α},(∀a∈l,fk (f a)= .ok (.int (key a)))->ez fk (l.map f)=some (l.map key)
 |[],_=>rfl
 |a::l,h=>by have:=sZ (fk:=fk) f key (l:=l) λ y hy=>h y (by simp[hy]);simp[ez,h a (by simp),this]
theorem qF:∀(ks:List Int) (b:Nat) (kb:Int) (i:Nat),b<i->gA.go b kb i ks<i+ks.length
 |[],b,kb,i,h=>by simpa[gA.go] using h
 |k::ks,b,kb,i,h=>by
  simp only[gA.go,List.length_cons];split
  ·have:=qF ks i k (i+1) (by omega);omega
  ·have:=qF ks b kb (i+1) (by omega);omega
def GA{ks:List Int}(h:ks≠[]):gA ks<ks.length:=by
 cases ks with
 |nil=>exact absurd rfl h
 |cons k ks=>have:=qF ks 0 k 1 (by decide);simp only[gA,List.length_cons];omega
def BP{α:Type}(f:α->D)(n:Nat)(h:∀a,cQ n (f a)=true)(l:List α):(l.map f).all (cQ n)=true:=by simp[List.all_map,h]
def eq_nil{α:Type}(f:α->D)(h:∀a,cQ 11 (f a)=true)(l:List α):tM (.lst (l.map f)) (.lst [])= .ok (.bl l.isEmpty):=by
 have o:=BP f 11 h l;cases l with
 |nil=>rfl
 |cons a l=>rw[tM,if_pos ⟨by simpa[cQ] using o,rfl⟩];simp[IB,py,sQ,PyData.eqv,PyData.eqvAll]
def ne_nil{α:Type}(f:α->D)(h:∀a,cQ 11 (f a)=true)(l:List α):qB (.lst (l.map f)) (.lst [])= .ok (.bl (!l.isEmpty)):=by
 have o:=BP f 11 h l;cases l with
 |nil=>rfl
 |cons a l=>rw[qB,if_pos ⟨by simpa[cQ] using o,rfl⟩];simp[IB,py,sQ,PyData.eqv,PyData.eqvAll]
noncomputable def nI(k:Nat):D:= .int k
def fH(n:Nat):gE 0 n=(List.range n).map nI:=by unfold gE nI;exact List.map_congr_left λ k _=>by simp
def J6{n:Nat}{f:List Int}{L:List (List Int)}(hn:n<1000)(hf:f.length=n+1)(hl:L.length<1000)(h:∀e∈L,e.length=n+1):
  (cO [.val (iL f),.val (rL L)]= .err "Loose"/\∀j<n,f.getD j 0=0)\/∃p,p<n/\f.getD p 0≠0/\cO [.val (iL f),.val (rL L)]= .ok (.int p):=by
 have ln:c6 [iL f]= .ok (.int (n+1:Nat)):=by simp[c6,iL,hf]
 have rg:=eo n (by omega);rw[fH] at rg;have c:=i7 (el:=jJ (aG 0) (dT (aO qB (aO bD (aj 1) (aj 0)) (dC (.int 0)))) (aj 0) [.no,.val (iL f)]) nI (λ j=>decide (f.getD j 0≠0)) (l:=List.range n) λ j hj=>by
  have ie:=jG (e:=f) (p:=j) (by have:=List.mem_range.mp hj;omega);generalize f.getD j 0=z at*;generalize iL f=E at*;unfold nI;by_cases z0:z=0
  ·subst z0;simp[jJ,ie]
  ·simp[jJ,ie,z0]
 have hnr:((List.range n).map nI).length<1000000:=by simp;omega
 have hmem:∀j∈(List.range n).filter (λ j=>decide (f.getD j 0≠0)),j<n/\f.getD j 0≠0:=λ j hj=>by rw[List.mem_filter,List.mem_range] at hj;exact ⟨hj.1,by simpa using hj.2⟩
 have hall:(List.range n).filter (λ j=>decide (f.getD j 0≠0))=[]->∀j<n,f.getD j 0=0:=λ q j hj=>Classical.byContradiction λ w=>by have:j∈(List.range n).filter (λ j=>decide (f.getD j 0≠0)):=List.mem_filter.mpr ⟨List.mem_range.mpr hj,by simpa using w⟩;rw[q] at this;simp at this
 generalize (List.range n).filter (λ j=>decide (f.getD j 0≠0))=N at*;have en:=eq_nil nI (λ _=>rfl) N;have fz:uX (.l (N.map nI))= .ok (.lst (N.map nI)):=rfl;have sb:ko (.int ((n+1:Nat):Int)) (.int 1)= .ok (.int n):=by simp[ko]
 cases N with
 |nil=>left;refine ⟨?_,hall rfl⟩;generalize (List.range n).map nI=R at*;generalize iL f=E at*;generalize rL L=G at*;simp only[List.map_nil] at*;simp[cO,fu,di,ln,sb,rg,hnr,gO,jm,c,en]
 |cons j N=>
  right;have hk:=sZ (fk:=λ x=>(bh 2 bK (ay (aj 0) (ay (aj 1) aL))) (lO x [1] [.val (iL f),.val (rL L),.val (.lst ((j::N).map nI))])) nI (λ j=>(L.countP λ e=>decide (e.getD j 0≠0):Nat)) (l:=j::N) λ i hi=>by have:=JY hl h (Nat.lt_succ_of_lt (hmem i hi).1);show (bh 2 bK (ay (aj 0) (ay (aj 1) aL))) [.val (nI i),.val (rL L)]=_;simp[bh,nI,this,kE]
  have mi:=GA (ks:=(j::N).map (λ j=>((L.countP λ e=>decide (e.getD j 0≠0):Nat):Int))) (by simp);obtain ⟨m,hm⟩:∃m,gA ((j::N).map (λ j=>((L.countP λ e=>decide (e.getD j 0≠0):Nat):Int)))=m:=⟨_,rfl⟩;rw[hm,List.length_map] at mi;obtain ⟨q1,q2⟩:=hmem (j::N)[m] (List.getElem_mem mi);refine ⟨(j::N)[m],q1,q2,?_⟩;have mk:BU (λ x=>(bh 2 bK (ay (aj 0) (ay (aj 1) aL))) (lO x [1] [.val (iL f),.val (rL L),.val (.lst ((j::N).map nI))])) [.lst ((j::N).map nI)]= .ok (.int ((j::N)[m]:Nat)):=by
   have g:((j::N).map nI)[m]? =some (nI (j::N)[m]):=by rw[List.getElem?_map,List.getElem?_eq_getElem mi];rfl
   unfold BU;show (match ez _ ((j::N).map nI) with|some ks=>(match ((j::N).map nI)[gA ks]? with|some d=>Res.ok d|none=> .bad)|none=> .bad)=_;rw[hk];simp only[hm,g];rfl
  have mk':zu (ay (aj 2) aL) [1] (bh 2 bK (ay (aj 0) (ay (aj 1) aL))) [.val (iL f),.val (rL L),.val (.lst ((j::N).map nI))]= .ok (.int ((j::N)[m]:Nat)):=mk;clear mk hk;generalize (j::N)[m]=r at*;have Ys:tM (.lst ((j::N).map nI)) (.lst [])= .ok (.bl false):=en;generalize (j::N).map nI=X at*;generalize (List.range n).map nI=R at*;generalize iL f=E at*;generalize rL L=G at*;simp[cO,fu,di,ln,sb,rg,hnr,gO,jm,c,Ys,fz,mk']
structure Bd(n C D:Nat)(e:List Int):Prop where
 len:e.length=n+1
 co:∀j<n,(e.getD j 0).natAbs<=C
 ct:(e.getD n 0).natAbs<=D
noncomputable def cB(k:Nat):Nat:=2^(60*2^k- 1)
noncomputable def dB(k:Nat):Nat:=2^(249+60*2^k)
def k7{k:Nat}(h:k<7):1<=2^k/\2^k<=64:=by rcases (by omega:k=0\/k=1\/k=2\/k=3\/k=4\/k=5\/k=6) with rfl|rfl|rfl|rfl|rfl|rfl|rfl<;>decide
def HK{k:Nat}(h:k<7):cB k<2^4400:=by have:=k7 h;exact Nat.pow_lt_pow_right (by decide) (by omega)
def Hx{k:Nat}(h:k<7):dB k<2^4400:=by have:=k7 h;exact Nat.pow_lt_pow_right (by decide) (by omega)
def Bd.mem{n C D:Nat}{e:List Int}(b:Bd n C D e){B:Nat}(hC:C<B)(hD:D<B):∀z∈e,z.natAbs<B:=λ z hz=>by
 obtain ⟨j,hj,rfl⟩:=List.getElem_of_mem hz;have e1:e.getD j 0=e[j]:=by simp[hj]
 rw[<-e1];have hl:=b.len;by_cases q:j<n
 ·exact Nat.lt_of_le_of_lt (b.co j q) hC
 ·obtain rfl:j=n:=by omega
  exact Nat.lt_of_le_of_lt b.ct hD
def Bd.wo{n k p:Nat}{e f e':List Int}(hk:k<7)(hp:p<n)(be:Bd n (cB k) (dB k) e)(bf:Bd n (cB k) (dB k) f)(w:Wo p f e e'):Bd n (cB (k+1)) (dB (k+1)) e':=by
 have h2:=k7 hk;have e2:2^(k+1)=2*2^k:=by rw[Nat.pow_succ];omega
 have c2:cB (k+1)=cB k*cB k+cB k*cB k:=by unfold cB;rw[show 60*2^(k+1) - 1=(60*2^k- 1)+(60*2^k- 1)+1 by omega,Nat.pow_add,Nat.pow_add,Nat.pow_one,Nat.mul_two]
 have d2:dB (k+1)=cB k*dB k+cB k*dB k:=by unfold cB dB;rw[show 249+60*2^(k+1)=(60*2^k- 1)+(249+60*2^k)+1 by omega,Nat.pow_add _ _ 1,Nat.pow_add _ (60*2^k- 1),Nat.pow_one,Nat.mul_two]
 refine ⟨by rw[w.len,be.len],λ j hj=>?_,?_⟩
 ·rw[c2];exact Nat.le_trans (w.le j) (Nat.add_le_add (Nat.mul_le_mul (bf.co p hp) (be.co j hj)) (Nat.mul_le_mul (be.co p hp) (bf.co j hj)))
 ·rw[d2];exact Nat.le_trans (w.le n) (Nat.add_le_add (Nat.mul_le_mul (bf.co p hp) be.ct) (Nat.mul_le_mul (be.co p hp) bf.ct))
theorem qX{el:D->Res (Option D)}(w:List Int->List Int):∀{L:List (List Int)},(∀e∈L,el (iL e)= .ok (some (iL (w e))))->bW el (L.map iL)= .ok ((L.map w).map iL)
 |[],_=>rfl
 |e::L,h=>by have:=qX (el:=el) w (L:=L) λ y hy=>h y (by simp[hy]);simp only[List.map_cons,bW,h e (by simp),this,Res.bnd]
def Hy(x:D)(xs:List D)(s0 s1 s3 s4:Slot):GU (aj 2) (dP (dC (.int 1))) Hw [s0,s1,.val (.lst (x::xs)),s3,s4]= .ok xs:=by simp[GU,KS,rT]
def fD(q:Nat×List Int):D:= .tup [.int q.1,iL q.2]
def Th(e:List Int):nt (iL e)=true:=by simp only[iL,nt,dj]
def Oo(e:List Int):cQ 11 (iL e)=true:=by simp[iL,cQ,List.all_map]
def Nb{n k:Nat}{L:List (List Int)}{A:List D}{E:D}{s3 s4:Slot}(hn:n<100)(hk:k<7)(hL:L≠[])(hl:L.length<64)(hA:A.length<1000)(hB:∀e∈L,Bd n (cB k) (dB k) e):
  (∃f r Γ,L.Perm (f::r)/\(∀j<n,f.getD j 0=0)/\cF 20 [.val E,.own (.l A),.val (rL L),s3,s4]= .err "Loose" Γ)\/
  ∃f r p w,L.Perm (f::r)/\p<n/\f.getD p 0≠0/\(∀e∈r,Wo p f e (w e))/\∃Sn Sm,cF 20 [.val E,.own (.l A),.val (rL L),s3,s4]= .nx [.val E,.own (.l (A++[fD (p,f)])),.val (rL (r.map w)),Sn,Sm]:=by
 obtain ⟨L',pm,so⟩:=Np hl (.val E) (.own (.l A)) s3 s4;cases L' with
 |nil=>exact absurd pm.eq_nil hL
 |cons f r=>
 have bf:=hB f (pm.mem_iff.mpr (by simp));have br:∀e∈r,Bd n (cB k) (dB k) e:=λ e he=>hB e (pm.mem_iff.mpr (by simp[he]));have lr:r.length<64:=by have:=pm.length_eq;simp at this;omega
 have ix:bD (.lst (iL f::r.map iL)) (.int 0)= .ok (iL f):=jF (p:=0) rfl;have so':kX (nX (ay (aj 2) aL) [] (Hv o9 (sy (aj 0) (dC (.int 0))))) [.val E,.own (.l A),.val (rL L),s3,s4]= .ok (.lst (iL f::r.map iL)):=by simp only[kX,so,Res.bnd,List.map_cons]
 have cu:=Hy (iL f) (r.map iL) (.val E) (.own (.l A));rcases J6 (n:=n) (f:=f) (L:=r) (by omega) bf.len (by omega) (λ e he=>(br e he).len) with ⟨le,h0⟩|⟨p,hp,fp,le⟩
 ·left;refine ⟨f,r,[.val E,.own (.l A),.val (.lst (iL f::r.map iL)),.val (iL f),s4],pm,h0,?_⟩;rw[rL] at le;simp only[List.map_cons] at so;clear so' cu br lr;generalize r.map iL=X at*;generalize iL f=G at*;simp[cF,so,ix,Hy,le]
 ·right;have hw:∀e∈r,∃e',IsL (cN [.val (.int p),.val (iL e),.val (iL f)]) e'/\Wo p f e e':=λ e he=>Dj (by rw[(br e he).len];omega) (by rw[bf.len,(br e he).len]) (by rw[(br e he).len];omega) fp ((br e he).mem (HK hk) (Hx hk)) (bf.mem (HK hk) (Hx hk));obtain ⟨w,hw⟩:∃w:List Int->List Int,∀e∈r,IsL (cN [.val (.int p),.val (iL e),.val (iL f)]) (w e)/\Wo p f e (w e):=by refine ⟨λ e=>if h:e∈r then Classical.choose (hw e h) else [],λ e he=>?_⟩;simp only[he,dif_pos];exact Classical.choose_spec (hw e he)
  refine ⟨f,r,p,w,pm,hp,fp,λ e he=>(hw e he).2,.val (iL f),.val (.int p),?_⟩;have c:=qX (el:=jJ (aG 0) gh (bh 3 cN (ay (aj 1) (ay (aj 0) (ay (aj 2) aL)))) [.no,.val (.int p),.val (iL f)]) w (L:=r) λ e he=>by have:=(hw e he).1.d;generalize iL (w e)=W at*;generalize iL e=E' at*;generalize iL f=G at*;simp[jJ,this]
  have Zp:nt (fD (p,f))=true:=by simp only[fD,nt,gm,Th];rfl
  have hn':(r.map iL).length<1000000:=by simp;omega
  rw[rL] at le;simp only[List.map_cons] at so;have el:rL (r.map w)= .lst ((r.map w).map iL):=rfl;rw[el];have ef:fD (p,f)= .tup [.int p,iL f]:=rfl;rw[ef] at Zp ⊢;clear so' cu hw br lr el ef;generalize (r.map w).map iL=Y at*;generalize r.map iL=X at*;generalize iL f=G at*;have hA':A.length<1000000:=by omega
  simp[cF,so,ix,Hy,le,hn',gO,jm,c,Zp,sC,pT,hA',gK,kT,yR,gq,eT,xF,DB]
def oF{p:Sg->Res Bool}{B:Sg->Out}{n:Nat}{Γ Γ':Sg}(h1:p Γ= .ok true)(h2:B Γ= .nx Γ'):bC p B (n+1) Γ=bC p B n Γ':=by simp[bC,h1,h2]
def zU{p:Sg->Res Bool}{B:Sg->Out}{n:Nat}{Γ Γ':Sg}{c:String}(h1:p Γ= .ok true)(h2:B Γ= .err c Γ'):bC p B (n+1) Γ= .err c Γ':=by simp[bC,h1,h2]
def xU(L:List (List Int))(s0 s1 s3 s4:Slot):dY 20 [s0,s1,.val (rL L),s3,s4]= .ok (!L.isEmpty):=by have:=ne_nil iL Oo L;rw[<-rL] at this;generalize rL L=G at*;simp[dY,this]
theorem xV(E:D):∀(m n k fuel:Nat) (L:List (List Int)) (A:List D) (s3 s4:Slot),L.length=m->m<fuel->k+m<=7->n<100->A.length+m<1000->(∀e∈L,Bd n (cB k) (dB k) e)->(xA n L/\∃Γ,bC (dY 20) (cF 20) fuel [.val E,.own (.l A),.val (rL L),s3,s4]= .err "Loose" Γ)\/∃fs Sn Sm,Dg n L fs/\(∃c d,c<2^4400/\d<2^4400/\∀q∈fs,Bd n c d q.2)/\bC (dY 20) (cF 20) fuel [.val E,.own (.l A),.val (rL L),s3,s4]= .nx [.val E,.own (.l (A++fs.map fD)),.val (rL []),Sn,Sm]
 |0,n,k,fuel,L,A,s3,s4,hm,hf,_,_,_,_=>by obtain rfl:=List.length_eq_zero_iff.mp hm;obtain ⟨fuel,rfl⟩:∃j,fuel=j+1:=⟨fuel- 1,by omega⟩;right;refine ⟨[],s3,s4,.nil,⟨0,0,Nat.pow_pos (by decide),Nat.pow_pos (by decide),by simp⟩,?_⟩;have:=xU [] (.val E) (.own (.l A)) s3 s4;simp only[List.isEmpty_nil,Bool.not_true] at this;simp[bC,this]
 |m+1,n,k,fuel,L,A,s3,s4,hm,hf,hk,hn,hA,hB=>by
  obtain ⟨fuel,rfl⟩:∃j,fuel=j+1:=⟨fuel- 1,by omega⟩;have ne:L≠[]:=λ z=>by rw[z] at hm;cases hm
  have tt:=xU L (.val E) (.own (.l A)) s3 s4;have:L.isEmpty=false:=by simpa using ne
  rw[this] at tt;rcases Nb (n:=n) (k:=k) (L:=L) (A:=A) (E:=E) (s3:=s3) (s4:=s4) hn (by omega) ne (by omega) (by omega) hB with ⟨f,r,Γ,pm,h0,e⟩|⟨f,r,p,w,pm,hp,fp,hw,Sn,Sm,e⟩
  ·exact .inl ⟨.here pm h0,Γ,zU tt e⟩
  ·have bf:=hB f (pm.mem_iff.mpr (by simp));have hr:r.length=m:=by have:=pm.length_eq;simp at this;omega
   rcases xV E m n (k+1) fuel (r.map w) (A++[fD (p,f)]) Sn Sm (by simpa using hr) (by omega) (by omega) hn (by simp;omega) (λ e' he'=>by obtain ⟨e,he,rfl⟩:=List.mem_map.mp he';exact Bd.wo (by omega) hp (hB e (pm.mem_iff.mpr (by simp[he]))) bf (hw e he)) with ⟨lo,Γ,h⟩|⟨fs,t3,t4,u,⟨c,d,hc,hd,hb⟩,h⟩
   ·exact .inl ⟨.step pm hp fp hw lo,Γ,by rw[oF tt e,h]⟩
   ·refine .inr ⟨(p,f)::fs,t3,t4,.step pm hp fp hw u,⟨max c (cB k),max d (dB k),?_,?_,λ q hq=>?_⟩,?_⟩
    ·exact Nat.max_lt.mpr ⟨hc,HK (by omega)⟩
    ·exact Nat.max_lt.mpr ⟨hd,Hx (by omega)⟩
    ·rcases List.mem_cons.mp hq with rfl|hq
     ·exact ⟨bf.len,λ j hj=>Nat.le_trans (bf.co j hj) (Nat.le_max_right ..),Nat.le_trans bf.ct (Nat.le_max_right ..)⟩
     ·have b:=hb q hq;exact ⟨b.len,λ j hj=>Nat.le_trans (b.co j hj) (Nat.le_max_left ..),Nat.le_trans b.ct (Nat.le_max_left ..)⟩
    ·rw[oF tt e,h];simp
def zY{n:Nat}{L:List (List Int)}(hn:n<100)(hl:L.length<=7)(hB:∀e∈L,Bd n (cB 0) (dB 0) e):
  (xA n L/\cV [.val (rL L)]= .err "Loose")\/∃fs,Dg n L fs/\(∃c d,c<2^4400/\d<2^4400/\∀q∈fs,Bd n c d q.2)/\cV [.val (rL L)]= .new (.l (fs.map fD)):=by
 rcases xV (rL L) L.length n 0 20 L [] .no .no rfl (by omega) (by omega) hn (by simp;omega) hB with ⟨lo,Γ,h⟩|⟨fs,t3,t4,u,b,h⟩
 ·left;refine ⟨lo,?_⟩;generalize rL L=G at*;simp[cV,gG,di,h]
 ·right;refine ⟨fs,u,b,?_⟩;generalize rL L=G at*;simp only[List.nil_append] at h;simp[cV,gG,di,h,oK]
def rq(r:Rat):D:=fq (Ge r)
inductive lW:D->Rat->Prop
 |tup (r:Rat):lW (rq r) r
 |gt (r:Rat):lW (.gt [.int r.num,.int r.den]) r
inductive FL:List D->List Rat->Prop
 |nil:FL [] []
 |cons {d:D} {r:Rat} {ds:List D} {rs:List Rat}:lW d r->FL ds rs->FL (d::ds) (r::rs)
def lW.i0{d:D}{r:Rat}(h:lW d r):bD d (.int 0)= .ok (.int r.num):=by cases h<;>rfl
def lW.i1{d:D}{r:Rat}(h:lW d r):bD d (.int 1)= .ok (.int r.den):=by cases h<;>rfl
theorem lW.dn{d:D}{r:Rat}(h:lW d r):dn d=d:=by cases h<;>rfl
theorem lW.nt{d:D}{r:Rat}(h:lW d r):nt d=true:=by cases h<;>rfl
def FL.len{ds:List D}{rs:List Rat}(h:FL ds rs):ds.length=rs.length:=by
 induction h with
 |nil=>rfl
 |cons _ _ ih=>simp[ih]
def FL.get{ds:List D}{rs:List Rat}(h:FL ds rs){k:Nat}{r:Rat}(e:rs[k]? =some r):∃d,ds[k]? =some d/\lW d r:=by
 induction h generalizing k with
 |nil=>simp at e
 | @cons d r' ds rs h1 _ ih=>
  cases k with
  |zero=>simp only[List.getElem?_cons_zero,Option.some.injEq] at e;subst e;exact ⟨d,rfl,h1⟩
  |succ k=>rw[List.getElem?_cons_succ] at e;exact ih e
theorem FL.set{ds:List D}{rs:List Rat}(h:FL ds rs)(k:Nat){d:D}{r:Rat}(hd:lW d r):FL (ds.set k d) (rs.set k r):=by
 induction h generalizing k with
 |nil=>exact .nil
 |cons h1 h2 ih=>
  cases k with
  |zero=>exact .cons hd h2
  |succ k=>exact .cons h1 (ih k)
def FL.app{ds ds':List D}{rs rs':List Rat}(h:FL ds rs)(h':FL ds' rs'):FL (ds++ds') (rs++rs'):=by
 induction h with
 |nil=>exact h'
 |cons h1 _ ih=>exact .cons h1 ih
def FL.rep(n:Nat){d:D}{r:Rat}(h:lW d r):FL (List.replicate n d) (List.replicate n r):=by
 induction n with
 |zero=>exact .nil
 |succ n ih=>exact .cons h ih
def Nl(r s:Rat):(xH (r.num*s.den- s.num*r.den) ((r.den:Int)*s.den),xK (r.num*s.den- s.num*r.den) ((r.den:Int)*s.den))=Ge (r- s):=by have:=pI (r.num*s.den- s.num*r.den) (r.den*s.den) (Nat.mul_ne_zero r.den_nz s.den_nz);rw[Rat.sub_def, <-this];simp
structure S7(r:Rat):Prop where
 n:r.num.natAbs<=128
 d:r.den<=128
def J1{d e:D}{r s:Rat}(hd:lW d r)(he:lW e s)(hr:S7 r)(hs:S7 s):pO [.val d,.val e]= .ok (rq (r- s)):=by have b1:r.num.natAbs<2^10:=Nat.lt_of_le_of_lt hr.n (by decide);have b2:s.num.natAbs<2^10:=Nat.lt_of_le_of_lt hs.n (by decide);have b3:(r.den:Int).natAbs<2^10:=Nat.lt_of_le_of_lt (by simpa using hr.d) (by decide);have b4:(s.den:Int).natAbs<2^10:=Nat.lt_of_le_of_lt (by simpa using hs.d) (by decide);have p1:=J0 b1 b4 (by decide);have p2:=J0 b2 b3 (by decide);have p3:=J0 b3 b4 (by decide);have nz:(r.den:Int)*s.den≠0:=PV (by have:=r.den_pos;omega) (by have:=s.den_pos;omega);have fr:=ze (n:=20) (r.num*s.den- s.num*r.den) ((r.den:Int)*s.den) nz (Gv b3 b4) (by decide);have i0:=hd.i0;have i1:=hd.i1;have j0:=he.i0;have j1:=he.i1;have q:=Nl r s;rw[q] at fr;simp[pO,vq,di,i0,i1,j0,j1,p1,p2,p3,ko,fr,rq]
def Nh{j:Nat}{s r:Rat}{ds:List D}{rs:List Rat}{s0 s1 s2 s6 s7:Slot}(fl:FL ds rs)(hr:rs[j]? =some r)(s7r:S7 r)(s7s:S7 s):
  ∃ds',FL ds' (rs.set j (r- s))/\dH 0 [s0,s1,s2,.own (.l ds),.val (.int j),.val (rq s),s6,s7]= .nx [s0,s1,s2,.own (.l ds'),.val (.int j),.val (rq s),s6,s7]:=by
 obtain ⟨d,hd,fd⟩:=fl.get hr;refine ⟨ds.set j (rq (r- s)),fl.set j (.tup _),?_⟩;have hj:j<ds.length:=(List.getElem?_eq_some_iff.mp hd).1;have mi:=J1 fd (.tup s) s7r s7s;have ix:bD (.bor true ds) (.int j)= .ok d:=by simp[bD,tV,mU,hj];exact (List.getElem?_eq_some_iff.mp hd).2
 have dn1:=fd.dn;have dn2:=(lW.tup s).dn;have nt2:=(lW.tup (r- s)).nt;have nb2:nb (rq (r- s))=true:=rfl;generalize rq (r- s)=R at*;generalize rq s=S at*;simp[dH,g6,ix,lend,sj,dn1,dn2,dn,mi,LN,nb2,gK,pT,gq,eT,xF,DB,setM,mU,hj,nt2]
def tD(t:Nat×Rat):D:= .tup [.int t.1,rq t.2]
def tk(rs:List Rat)(t:Nat×Rat):List Rat:=rs.set t.1 (rs.getD t.1 0- t.2)
theorem Br{s0 s1 s2 s6 s7:Slot}:∀(T:List (Nat×Rat)) (ds:List D) (rs:List Rat) (t4 t5:Slot),FL ds rs->(T.map (·.1)).Nodup->(∀t∈T,t.1<rs.length/\S7 (rs.getD t.1 0)/\S7 t.2)->∃ds' u4 u5,FL ds' (T.foldl tk rs)/\cS (dU 2 (aZ (aG 4) (aZ (aG 5) eN))) (dH 0) (T.map tD) [s0,s1,s2,.own (.l ds),t4,t5,s6,s7]= .nx [s0,s1,s2,.own (.l ds'),u4,u5,s6,s7]
 |[],ds,rs,t4,t5,fl,_,_=>⟨ds,t4,t5,fl,rfl⟩
 |t::T,ds,rs,t4,t5,fl,nd,h=>by
  obtain ⟨h1,h2,h3⟩:=h t (by simp);have e:rs[t.1]? =some (rs.getD t.1 0):=by simp[h1]
  obtain ⟨ds1,fl1,st⟩:=Nh (s0:=s0) (s1:=s1) (s2:=s2) (s6:=s6) (s7:=s7) fl e h2 h3;rw[List.map_cons,List.nodup_cons] at nd;obtain ⟨ds',u4,u5,fl',lp⟩:=Br (s0:=s0) (s1:=s1) (s2:=s2) (s6:=s6) (s7:=s7) T ds1 (tk rs t) (.val (.int t.1)) (.val (rq t.2)) fl1 nd.2 λ u hu=>by
   obtain ⟨q1,q2,q3⟩:=h u (by simp[hu]);have ne:u.1≠t.1:=λ z=>nd.1 (List.mem_map.mpr ⟨u,hu,z⟩);refine ⟨by simpa[tk] using q1,?_,q3⟩;have:(tk rs t).getD u.1 0=rs.getD u.1 0:=by unfold tk;simp only[List.getD_eq_getElem?_getD,List.getElem?_set_ne (Ne.symm ne)]
   rw[this];exact q2
  refine ⟨ds',u4,u5,fl',?_⟩;rw[List.map_cons,fP (Γ1:=[s0,s1,s2,.own (.l ds),.val (.int t.1),.val (rq t.2),s6,s7]) rfl st];exact lp
theorem tH:∀(T:List (Nat×Rat)) (rs:List Rat),(T.foldl tk rs).length=rs.length
 |[],_=>rfl
 |t::T,rs=>by rw[List.foldl_cons,tH T];simp[tk]
theorem zg:∀(T:List (Nat×Rat)) (rs:List Rat) (j:Nat),(T.map (·.1)).Nodup->(∀t∈T,t.1<rs.length)->(T.foldl tk rs).getD j 0=rs.getD j 0-(T.lookup j).getD 0
 |[],rs,j,_,_=>by simp[List.lookup];grind
 |t::T,rs,j,nd,h=>by
  rw[List.map_cons,List.nodup_cons] at nd;rw[List.foldl_cons,zg T (tk rs t) j nd.2 λ u hu=>by simpa[tk] using h u (by simp[hu])];have h1:=h t (by simp);obtain ⟨i,s⟩:=t;by_cases e:j=i
  ·subst e;have:T.lookup j=none:=by rw[List.lookup_eq_none_iff];exact λ u hu=>by simpa using λ z:j=u.1=>nd.1 (List.mem_map.mpr ⟨u,hu,z.symm⟩)
   have g:(tk rs (j,s)).getD j 0=rs.getD j 0- s:=by simp[tk,h1]
   rw[this,g];simp[List.lookup];grind
  ·have g:(tk rs (i,s)).getD j 0=rs.getD j 0:=by unfold tk;simp only[List.getD_eq_getElem?_getD,List.getElem?_set_ne (Ne.symm e)]
   have e':(j==i)=false:=by simpa using e
   rw[g];simp[List.lookup,e']
def Tz{b d:Nat}(hb:0<b)(h1:b<2^9000)(h2:d<2^9000):cD [.val (.int b),.val (.int d)]= .ok (.int (Nat.lcm b d:Nat)):=by
 have gp:0<Nat.gcd b d:=Nat.gcd_pos_of_pos_left _ hb;have gd:Int.gcd (b:Int) (d:Int)=Nat.gcd b d:=by simp[Int.gcd]
 have gl:((Nat.gcd b d:Nat):Int).natAbs.log2<9000:=by rw[Int.natAbs_natCast];exact nW (by omega) (Nat.lt_of_le_of_lt (Nat.le_of_dvd hb (Nat.gcd_dvd_left ..)) h1)
 have dv:=c8 (b:Int) (g:=((Nat.gcd b d:Nat):Int)) (by omega) gl;have fd:(b:Int).fdiv ((Nat.gcd b d:Nat):Int)=((b/ Nat.gcd b d:Nat):Int):=by rw[Int.fdiv_eq_ediv_of_nonneg _ (by omega)];simp
 rw[fd] at dv;have lc:b/ Nat.gcd b d*d=Nat.lcm b d:=by unfold Nat.lcm;exact Nat.div_mul_right_comm (Nat.gcd_dvd_left ..) d|>.trans (by rfl)
 have ql:=Nat.div_le_self b (Nat.gcd b d);generalize b/ Nat.gcd b d=q at*;have l1:((q:Nat):Int).natAbs<2^100000:=by rw[Int.natAbs_natCast];exact bA (Nat.lt_of_le_of_lt ql h1) (by decide)
 have l2:((d:Nat):Int).natAbs<2^100000:=by rw[Int.natAbs_natCast];exact bA h2 (by decide)
 have m:=eV l1 l2;have mm:(q:Int)*(d:Int)=((Nat.lcm b d:Nat):Int):=by rw[<-lc];simp
 rw[mm] at m;generalize (2:Nat)^9000=P9 at*;clear fd;simp[cD,eX,di,aJ,gd,dv,m]
def lc:List Rat->Nat->Nat
 |[],b=>b
 |r::rs,b=>lc rs (Nat.lcm b r.den)
theorem GO:∀(rs:List Rat) (b:Nat),b∣lc rs b/\∀r∈rs,r.den∣lc rs b
 |[],b=>⟨Nat.dvd_refl _,by simp⟩
 |r::rs,b=>by
  obtain ⟨h1,h2⟩:=GO rs (Nat.lcm b r.den);simp only[lc];refine ⟨Nat.dvd_trans (Nat.dvd_lcm_left ..) h1,λ s hs=>?_⟩;rcases List.mem_cons.mp hs with rfl|hs
  ·exact Nat.dvd_trans (Nat.dvd_lcm_right ..) h1
  ·exact h2 s hs
theorem GN:∀(rs:List Rat) (b:Nat),0<b->0<lc rs b
 |[],b,h=>h
 |r::rs,b,h=>GN rs _ (Nat.lcm_pos h r.den_pos)
def lcm_le_mul{a b:Nat}(h:0<b)(ha:0<a):Nat.lcm a b<=a*b:=Nat.le_of_dvd (Nat.mul_pos ha h) (Nat.lcm_dvd_mul a b)
theorem LQ:∀(rs:List Rat) (b:Nat),0<b->(∀r∈rs,r.den<=128)->lc rs b<=b*128^rs.length
 |[],b,_,_=>by simp[lc]
 |r::rs,b,hb,h=>by have h1:=LQ rs (Nat.lcm b r.den) (Nat.lcm_pos hb r.den_pos) λ s hs=>h s (by simp[hs]);have h2:Nat.lcm b r.den<=b*128:=Nat.le_trans (lcm_le_mul r.den_pos hb) (Nat.mul_le_mul_left _ (h r (by simp)));simp only[lc,List.length_cons];refine Nat.le_trans h1 (Nat.le_trans (Nat.mul_le_mul_right _ h2) ?_);rw[Nat.pow_succ,Nat.mul_assoc,Nat.mul_comm 128];exact Nat.le_refl _
def p9:(128:Nat)^8*128<2^9000:=Nat.lt_of_lt_of_le (show (128:Nat)^8*128<2^64 by decide) (Nat.pow_le_pow_right (by decide) (by decide))
def J7{s0 s1 s2 s3 s4 s5:Slot}:∀{ds:List D} {rs:List Rat},FL ds rs->∀(b:Nat) (s7:Slot),0<b->(∀r∈rs,r.den<=128)->b*128^rs.length<=128^8->∃t7,cS (aG 7) (fL 0) ds [s0,s1,s2,s3,s4,s5,.val (.int b),s7]= .nx [s0,s1,s2,s3,s4,s5,.val (.int (lc rs b)),t7]:=by
 intro ds rs fl;induction fl with
 |nil=>exact λ b s7 _ _ _=>⟨s7,rfl⟩
 | @cons d r ds rs hd _ ih=>intro b s7 hb h hl;have dr:=h r (by simp);have b8:b<=128^8:=Nat.le_trans (Nat.le_mul_of_pos_right _ (Nat.pow_pos (by decide))) hl;have h9:=p9;have lm:=Tz (b:=b) (d:=r.den) hb (by omega) (by omega);have i1:=hd.i1;obtain ⟨t7,e⟩:=ih (Nat.lcm b r.den) (.val d) (Nat.lcm_pos hb r.den_pos) (λ s hs=>h s (by simp[hs])) (by have h2:Nat.lcm b r.den<=b*128:=Nat.le_trans (lcm_le_mul r.den_pos hb) (Nat.mul_le_mul_left _ dr);refine Nat.le_trans (Nat.mul_le_mul_right _ h2) ?_;rw[List.length_cons,Nat.pow_succ] at hl;rw[Nat.mul_assoc,Nat.mul_comm 128];exact hl);refine ⟨t7,?_⟩;rw[fP (Γ1:=[s0,s1,s2,s3,s4,s5,.val (.int b),.val d]) (Γ2:=[s0,s1,s2,s3,s4,s5,.val (.int (Nat.lcm b r.den)),.val d]) rfl (by simp[fL,i1,lm])];exact e
def Ez(B:Nat)(rs:List Rat):List Int:=rs.map λ r=>r.num*((B/ r.den:Nat):Int)
def Px{B:Nat}{rs:List Rat}(h:∀r∈rs,r.den∣B)(j:Nat):((Ez B rs).getD j 0:Rat)=rs.getD j 0*B:=by
 unfold Ez;simp only[List.getD_eq_getElem?_getD,List.getElem?_map];cases e:rs[j]? with
 |none=>simp
 |some r=>
  simp only[Option.map_some,Option.getD_some];obtain ⟨k,hk⟩:=h r (List.mem_of_getElem? e);have hd:B/ r.den=k:=by rw[hk];exact Nat.mul_div_cancel_left _ r.den_pos
  rw[hd];have n1:=gU r;simp only[Rat.intCast_mul];rw[<-n1,hk];simp only[Rat.natCast_mul,Rat.intCast_natCast]
  grind
def KL{B:Nat}:∀{ds:List D} {rs:List Rat},FL ds rs->(∀r∈rs,r.den∣B/\r.den<=128/\r.num.natAbs<2^1000)->0<B->B<=128^8->bW (jJ (aG 0) gh (aO dR (aO bD (aj 0) (dC (.int 0))) (aO cg (aj 1) (aO bD (aj 0) (dC (.int 1))))) [.no,.val (.int B)]) ds= .ok ((Ez B rs).map D.int):=by
 intro ds rs fl;induction fl with
 |nil=>exact λ _ _ _=>rfl
 | @cons d r ds rs hd _ ih=>
  intro h b0 b8;obtain ⟨dv,abZ,n1⟩:=h r (by simp);have c:=ih (λ s hs=>h s (by simp[hs])) b0 b8;have i0:=hd.i0;have i1:=hd.i1;have dp:=r.den_pos;have h9:=p9;have dl:((r.den:Nat):Int).natAbs.log2<9000:=by rw[Int.natAbs_natCast];exact nW (by omega) (by omega)
  have fd:=c8 (B:Int) (g:=(r.den:Int)) (by omega) dl;have fe:(B:Int).fdiv (r.den:Int)=((B/ r.den:Nat):Int):=by rw[Int.fdiv_eq_ediv_of_nonneg _ (by omega)];simp
  rw[fe] at fd;have m:=eV (x:=r.num) (y:=((B/ r.den:Nat):Int)) (bA n1 (by decide)) (bA (a:=9000) (by rw[Int.natAbs_natCast];have:=Nat.div_le_self B r.den;omega) (by decide));generalize hq:B/ r.den=q at*;have e1:jJ (aG 0) gh (aO dR (aO bD (aj 0) (dC (.int 0))) (aO cg (aj 1) (aO bD (aj 0) (dC (.int 1))))) [.no,.val (.int B)] d= .ok (some (.int (r.num*(q:Int)))):=by generalize (2:Nat)^9000=P9 at*;simp[jJ,i0,i1,fd,m]
  have eq:Ez B (r::rs)=(r.num*(q:Int))::Ez B rs:=by simp only[Ez,List.map_cons,hq]
  rw[eq];simp only[bW,e1,Res.bnd,c,List.map_cons]
def AD{r:Rat}(h1: -1<=r)(h2:r<=1):r.num.natAbs<=r.den:=by
 have e:=gU r;have dp:(0:Rat)<(r.den:Rat):=by exact_mod_cast r.den_pos
 have a1:(r.num:Rat)<=(r.den:Rat):=by
  rw[<-e];have:=Rat.mul_le_mul_of_nonneg_right h2 (Rat.le_of_lt dp)
  grind
 have a2: -(r.den:Rat)<=(r.num:Rat):=by
  rw[<-e];have:=Rat.mul_le_mul_of_nonneg_right h1 (Rat.le_of_lt dp)
  grind
 have b1:r.num<=(r.den:Int):=by exact_mod_cast a1
 have b2: -(r.den:Int)<=r.num:=by
  have:((-(r.den:Int):Int):Rat)<=(r.num:Rat):=by rw[Rat.intCast_neg,Rat.intCast_natCast];exact a2
  exact_mod_cast this
 omega
def Km(r:Rat):nG ((r.den:Int)*r):=⟨r.num,by have:=gU r;simp only[Rat.intCast_natCast];grind⟩
def Cs{k:Int}{s:Rat}:((k:Rat) - s).den<=s.den:=by
 have:nG (((s.den:Nat):Int)*((k:Rat) - s)):=by obtain ⟨z,hz⟩:=Km s;refine ⟨(s.den:Int)*k- z,?_⟩;simp only[Rat.intCast_sub,Rat.intCast_mul];rw[<-hz];grind
 have d:=pL this;have:=Int.natAbs_dvd_natAbs.mpr d;simp only[Int.natAbs_natCast] at this;exact Nat.le_of_dvd s.den_pos this
structure Le(s:Rat):Prop where
 lo:0<=s
 hi:s<=1
 de:s.den<=128
def Le.s7{s:Rat}(h:Le s):S7 s:=⟨Nat.le_trans (AD (by have:=h.lo;grind) h.hi) h.de,h.de⟩
noncomputable def Jq(n i:Nat)(c:Int):List Rat:=(List.replicate n 0).set i 1++[(c:Rat)]
def uA(n i:Nat)(c:Int):(Jq n i c).length=n+1:=by simp[Jq]
def Fi{n i:Nat}{c:Int}(hi:i<n){j:Nat}(hj:j<n):(Jq n i c).getD j 0=if j=i then 1 else 0:=by
 unfold Jq;simp only[List.getD_eq_getElem?_getD];rw[List.getElem?_append_left (by simpa using hj)];by_cases e:j=i
 ·subst e;simp[hj]
 ·rw[List.getElem?_set_ne (Ne.symm e)];simp[hj,e]
def Ss{n i:Nat}{c:Int}:(Jq n i c).getD n 0=c:=by unfold Jq;simp only[List.getD_eq_getElem?_getD];rw[List.getElem?_append_right (by simp)];simp
def lookup_none{T:List (Nat×Rat)}{n:Nat}(h:∀t∈T,t.1<n):T.lookup n=none:=by rw[List.lookup_eq_none_iff];intro u hu;have:=h u hu;simp;omega
theorem lookup_mem:∀{T:List (Nat×Rat)} {j:Nat} {s:Rat},T.lookup j=some s->(j,s)∈T
 |(i,t)::T,j,s,h=>by
  rw[List.lookup_cons] at h;split at h
  ·rename_i q;cases h;rw[eq_of_beq q];simp
  ·exact List.mem_cons_of_mem _ (lookup_mem h)
def Cu(c:Int):(c:Rat).den=1:=rfl
def BR(c:Int):(c:Rat).num=c:=rfl
theorem FL.gm{ds:List D}{rs:List Rat}(h:FL ds rs):gm ds=true:=by
 induction h with
 |nil=>rfl
 |cons h1 _ ih=>simp[L4.gm,h1.nt,ih]
def yc:1000000<sizeLine:=by unfold sizeLine;decide
def Cn{B:Nat}{rs:List Rat}{j:Nat}(hj:j<rs.length):((Ez B rs).getD j 0).natAbs=(rs.getD j 0).num.natAbs*(B/(rs.getD j 0).den):=by unfold Ez;simp only[List.getD_eq_getElem?_getD,List.getElem?_map,List.getElem?_eq_getElem hj,Option.map_some,Option.getD_some];rw[Int.natAbs_mul,Int.natAbs_natCast]
def AQ{n i:Nat}{T:List (Nat×Rat)}{c:Int}(hi:i<n)(hn:n<=7)(nd:(T.map (·.1)).Nodup)(hT:∀t∈T,t.1<n/\Le t.2)(hc:c.natAbs<2^200):
  ∃(e:List Int) (B:Nat),bZ [.val (.int i),.val (.tup [rq c,.lst (T.map tD)]),.val (.int n)]= .new (.l (e.map D.int))/\0<B/\Bd n (cB 0) (dB 0) e/\(∀j<n,cf e j=((if j=i then 1 else 0) -(T.lookup j).getD 0)*B)/\cf e n=c*B:=by
 obtain ⟨rs,hrs⟩:∃rs,T.foldl tk (Jq n i c)=rs:=⟨_,rfl⟩;have len:rs.length=n+1:=by rw[<-hrs,tH,uA]
 have Yy:∀j,rs.getD j 0=(Jq n i c).getD j 0-(T.lookup j).getD 0:=λ j=>by rw[<-hrs];exact zg T _ j nd λ t ht=>by rw[uA];have:=(hT t ht).1;omega
 have Yx:∀j<n,rs.getD j 0=(if j=i then 1 else 0) -(T.lookup j).getD 0:=λ j hj=>by rw[Yy,Fi hi hj]
 have V8:rs.getD n 0=c:=by rw[Yy,Ss,lookup_none λ t ht=>(hT t ht).1];simp;grind
 have lk:∀j,Le ((T.lookup j).getD 0):=λ j=>by
  cases q:T.lookup j with
  |none=>exact ⟨by simp,by simp;grind,by decide⟩
  |some s=>exact (hT _ (lookup_mem q)).2
 have one:∀j<n, -1<=rs.getD j 0/\rs.getD j 0<=1/\(rs.getD j 0).den<=128:=λ j hj=>by
  rw[Yx j hj];have l:=lk j;have h1:=l.lo;have h2:=l.hi;split
  ·exact ⟨by grind,by grind,Nat.le_trans (Cs (k:=1)) l.de⟩
  ·exact ⟨by grind,by grind,Nat.le_trans (Cs (k:=0)) l.de⟩
 have mem:∀r∈rs,r.den<=128/\r.num.natAbs<2^1000:=λ r hr=>by
  obtain ⟨k,hk,rfl⟩:=List.getElem_of_mem hr;have e1:rs.getD k 0=rs[k]:=by simp[hk]
  rw[<-e1];by_cases q:k<n
  ·obtain ⟨o1,o2,o3⟩:=one k q;exact ⟨o3,Nat.lt_of_le_of_lt (Nat.le_trans (AD o1 o2) o3) (Nat.lt_of_lt_of_le (show 128<2^8 by decide) (Nat.pow_le_pow_right (by decide) (by decide)))⟩
  ·obtain rfl:k=n:=by omega
   rw[V8,Cu,BR];exact ⟨by decide,bA hc (by decide)⟩
 obtain ⟨B,hB⟩:∃B,lc rs 1=B:=⟨_,rfl⟩;have dv:∀r∈rs,r.den∣B:=by rw[<-hB];exact (GO rs 1).2
 have b0:0<B:=by rw[<-hB];exact GN rs 1 (by decide)
 have b8:B<=128^8:=by rw[<-hB];refine Nat.le_trans (LQ rs 1 (by decide) λ r hr=>(mem r hr).1) ?_;rw[len,Nat.one_mul];exact Nat.pow_le_pow_right (by decide) (by omega)
 have ev:=Px dv;refine ⟨Ez B rs,B,?_,b0,⟨by simp[Ez,len],λ j hj=>?_,?_⟩,λ j hj=>by unfold cf;rw[ev j,Yx j hj],by unfold cf;rw[ev n,V8]⟩
 ·have f0:FL (List.replicate n (D.gt [.int 0,.int 1])) (List.replicate n 0):=FL.rep n (.gt 0);have f1:FL ((List.replicate n (D.gt [.int 0,.int 1])++[rq c]).set i (.gt [.int 1,.int 1])) (Jq n i c):=by have:=(f0.set i (lW.gt 1)).app (.cons (lW.tup (c:Rat)) .nil);rw[List.set_append_left _ _ (by simpa using hi)];exact this
  obtain ⟨ds,u4,u5,fl,lp⟩:=Br (s0:= .val (.int i)) (s1:= .val (.tup [rq c,.lst (T.map tD)])) (s2:= .val (.int n)) (s6:= .no) (s7:= .no) T _ _ .no .no f1 nd λ t ht=>by
   have h:=hT t ht;refine ⟨by rw[uA];omega,?_,h.2.s7⟩;rw[Fi hi h.1];split
   ·exact ⟨by decide,by decide⟩
   ·exact ⟨by decide,by decide⟩
  rw[hrs] at fl;obtain ⟨t7,l2⟩:=J7 (s0:= .val (.int i)) (s1:= .val (.tup [rq c,.lst (T.map tD)])) (s2:= .val (.int n)) (s3:= .val (.lst ds)) (s4:=u4) (s5:=u5) fl 1 .no (by decide) (λ r hr=>(mem r hr).1) (by rw[len,Nat.one_mul];exact Nat.pow_le_pow_right (by decide) (by omega));rw[hB] at l2;have cm:=KL fl (λ r hr=>⟨dv r hr,mem r hr⟩) b0 b8;have rp:rX (.lst [.gt [.int 0,.int 1]]) (.int n)= .ok (List.replicate n (.gt [.int 0,.int 1])):=by
   have:(0:Int)<=n/\(n:Int)<=100000:=by omega
   simp[rX,rC,this]
  have ln:(List.replicate n (D.gt [.int 0,.int 1])).length+1<1000:=by simp;omega
  have ct:HD (.lst (List.replicate n (.gt [.int 0,.int 1]))) (.lst [rq c])= .ok (List.replicate n (.gt [.int 0,.int 1])++[rq c]):=by
   have sl:=yc;have:n+1<=sizeLine:=by omega
   simp[HD,rC,this]
  have Xn:ku (.l ((Ez B rs).map D.int))=true:=by simp only[ku];exact dj _
  have dsl:ds.length<1000000:=by rw[fl.len,len];omega
  have il:i<(List.replicate n (D.gt [.int 0,.int 1])++[rq c]).length:=by simp;omega
  have ntW:gm (List.replicate n (D.gt [.int 0,.int 1])++[rq c])=true:=(f0.app (.cons (lW.tup (c:Rat)) .nil)).gm;generalize (Ez B rs).map D.int=R at*;generalize List.replicate n (D.gt [.int 0,.int 1])=Z at*;generalize rq c=C at*;generalize T.map tD=TT at*;clear ev mem Yy Yx V8 one lk f0 f1 fl dv;have is0:bD (.tup [C,.lst TT]) (.int 0)= .ok C:=rfl;have is1:bD (.tup [C,.lst TT]) (.int 1)= .ok (.lst TT):=rfl;have one':nt (D.gt [.int 1,.int 1])=true:=rfl;have six:mU (Z++[C]).length (i:Int)=some i:=by
   have:(i:Int)<((Z++[C]).length:Int):=by omega
   simp only[mU,this,if_true,Int.toNat_natCast,show (0:Int)<=(i:Int) by omega]
  have st:g6 3 (gK 3) (aj 0) (dC (.gt [.int 1,.int 1])) [.val (.int i),.val (.tup [C,.lst TT]),.val (.int n),.own (.l (Z++[C])),.no,.no,.no,.no]= .nx [.val (.int i),.val (.tup [C,.lst TT]),.val (.int n),.own (.l ((Z++[C]).set i (.gt [.int 1,.int 1]))),.no,.no,.no,.no]:=by generalize Z++[C]=W at*;simp[g6,gK,pT,gq,eT,xF,DB,setM,six,one']
  simp only[Int.natCast_one] at l2;generalize Z++[C]=W at*;generalize W.set i (.gt [.int 1,.int 1])=V at*;simp[bZ,iA,di,rp,is0,is1,ct,ntW,st,lp,Nz,l2,dsl,gO,jm,cm,Xn]
 ·rw[Cn (by omega)];obtain ⟨o1,o2,o3⟩:=one j hj;refine Nat.le_trans (Nat.mul_le_mul_right _ (AD o1 o2)) (Nat.le_trans (Nat.mul_div_le B _) (Nat.le_trans b8 ?_));exact show (128:Nat)^8<=2^(60*2^0- 1) by decide
 ·rw[Cn (by omega),V8,Cu,BR,Nat.div_one];refine Nat.le_trans (Nat.mul_le_mul (Nat.le_of_lt hc) b8) ?_;exact show (2:Nat)^200*128^8<=2^(249+60*2^0) by decide
def Hi(t:Int)(b:Nat)(h:b≠0):(xH t b,xK t b)=Ge ((t:Rat)/(b:Rat)):=by rw[pI t b h,Rat.normalize_eq_mkRat,Rat.mkRat_eq_div]
def vc(t b:Int)(h:b≠0):(xH t b,xK t b)=Ge ((t:Rat)/(b:Rat)):=by
 rcases Int.lt_or_gt_of_ne h with hb|hb
 ·obtain ⟨n,hn⟩:=Int.eq_ofNat_of_zero_le (show 0<= -b by omega);have e1:xH t b=xH (-t) n/\xK t b=xK (-t) n:=by
   have hb':b= -(n:Int):=by omega
   subst hb';have g:Int.gcd t (-(n:Int))=Int.gcd (-t) (n:Int):=by rw[Int.gcd_neg,Int.neg_gcd]
   have n0:¬((n:Int)<0):=by omega
   unfold xH xK xJ;rw[if_pos hb,if_neg n0,g];constructor
   ·have:=Int.neg_fdiv_neg t (-(Int.gcd (-t) (n:Int):Int));rw[Int.neg_neg] at this;exact this.symm
   ·have:=Int.neg_fdiv_neg (n:Int) (Int.gcd (-t) (n:Int):Int);exact this
  have e2:=Hi (-t) n (by omega);rw[e1.1,e1.2,e2];congr 1;have hb':b= -(n:Int):=by omega
  rw[hb',Rat.intCast_neg,Rat.intCast_neg,Rat.intCast_natCast];have n0:(n:Rat)≠0:=by exact_mod_cast (show n≠0 by omega)
  grind
 ·obtain ⟨n,rfl⟩:=Int.eq_ofNat_of_zero_le (show 0<=b by omega);rw[Hi t n (by omega),Rat.intCast_natCast]
def pw(a b:Nat)(h:a<=b):(2:Nat)^a<=2^b:=Nat.pow_le_pow_right (by decide) h
def lN{x y:Nat}{a b:Nat}(hx:x<2^a)(hy:y<2^b):x*y<2^(a+b):=by rw[Nat.pow_add];exact Nat.mul_lt_mul'' hx hy
def RH{f:List Int}{q:Nat}{x:Rat}{top:Int}{b jb jd:Nat}{s0 s2 s7:Slot}(hq:q<f.length)(f0:f.getD q 0≠0)(hb:0<b)(b9:b<2^1100)(d9:x.den<2^1100)(Ra:b*jb=Nat.lcm b x.den)(Q9:x.den*jd=Nat.lcm b x.den) (ht:top.natAbs<2^20000) (hn:x.num.natAbs<2^20000) (hf:(f.getD q 0).natAbs<2^4400) (hJ:Nat.lcm b x.den<2^1100):
  cY 0 [s0,.val (iL f),s2,.val (.int top),.val (.int b),.val (.int q),.val (rq x),s7]= .nx [s0,.val (iL f),s2,.val (.int (top*jb- f.getD q 0*x.num*jd)),.val (.int (Nat.lcm b x.den:Nat)),.val (.int q),.val (rq x),.val (.int (Nat.lcm b x.den:Nat))]:=by
 have ix:=jG hq;have lm:=Tz (b:=b) (d:=x.den) hb (bA b9 (by decide)) (bA d9 (by decide));have i0:=(lW.tup x).i0;have i1:=(lW.tup x).i1;have dp:=x.den_pos;have lg:∀m:Nat,0<m->m<2^1100->((m:Nat):Int).natAbs.log2<9000:=λ m h1 h2=>by rw[Int.natAbs_natCast];exact nW (by omega) (bA h2 (by decide))
 have fb:=c8 ((Nat.lcm b x.den:Nat):Int) (g:=(b:Int)) (by omega) (lg b hb b9);have fd:=c8 ((Nat.lcm b x.den:Nat):Int) (g:=(x.den:Int)) (by omega) (lg _ dp d9);have eb:((Nat.lcm b x.den:Nat):Int).fdiv (b:Int)=(jb:Int):=by rw[<-Ra,Int.natCast_mul,Int.mul_comm];exact Int.mul_fdiv_cancel _ (by omega)
 have ed:((Nat.lcm b x.den:Nat):Int).fdiv (x.den:Int)=(jd:Int):=by rw[<-Q9,Int.natCast_mul,Int.mul_comm];exact Int.mul_fdiv_cancel _ (by omega)
 rw[eb] at fb;rw[ed] at fd;have Zx:jb<2^1100:=Nat.lt_of_le_of_lt (by rw[<-Ra];exact Nat.le_mul_of_pos_left _ hb) hJ;have Zw:jd<2^1100:=Nat.lt_of_le_of_lt (by rw[<-Q9];exact Nat.le_mul_of_pos_left _ dp) hJ;have nj:∀m:Nat,m<2^1100->((m:Nat):Int).natAbs<2^100000:=λ m h=>by rw[Int.natAbs_natCast];exact bA h (by decide)
 have m1:=eV (x:=top) (y:=(jb:Int)) (bA ht (by decide)) (nj _ Zx);have m2:=eV (x:=f.getD q 0) (y:=x.num) (bA hf (by decide)) (bA hn (by decide));have m3:=eV (x:=f.getD q 0*x.num) (y:=(jd:Int)) (by rw[Int.natAbs_mul];exact bA (lN hf hn) (by decide)) (nj _ Zw);clear b9 d9 ht hn hf hJ Zx Zw nj lg eb ed;generalize f.getD q 0=z at*;generalize (Nat.lcm b x.den:Nat)=J at*;generalize iL f=E at*;generalize rq x=R at*;simp[cY,ix,f0,i1,i0,lm,fb,fd,m1,m2,m3,ko]
def RJ{f:List Int}{q:Nat}{s0 s2 s3 s4 s6 s7:Slot}(hq:q<f.length)(f0:f.getD q 0=0):cY 0 [s0,.val (iL f),s2,s3,s4,.val (.int q),s6,s7]= .nx [s0,.val (iL f),s2,s3,s4,.val (.int q),s6,s7]:=by have ix:=jG hq;rw[f0] at ix;generalize iL f=E at*;simp[cY,ix]
def qD(X:Nat->Rat)(q:Nat):D:= .tup [.int q,rq (X q)]
theorem EZ{d:Nat}(d0:0<d)(d9:d<2^1100){f:List Int}(hf:∀j,(f.getD j 0).natAbs<2^4400){X:Nat->Rat}{s0 s2:Slot}:∀(Q:List Nat) (k:Nat) (top:Int) (b:Nat) (v:Rat) (s5 s6 s7:Slot),(∀q∈Q,q<f.length/\(X q).den∣d/\(X q).num.natAbs<2^1400)->0<b->b∣d->(top:Rat)=b*v->top.natAbs<2^(7000+1101*k)->k+Q.length<=8->∃(top':Int) (b':Nat) (t5 t6 t7:Slot),cS (dU 2 (aZ (aG 5) (aZ (aG 6) eN))) (cY 0) (Q.map (qD X)) [s0,.val (iL f),s2,.val (.int top),.val (.int b),s5,s6,s7]= .nx [s0,.val (iL f),s2,.val (.int top'),.val (.int b'),t5,t6,t7]/\0<b'/\b'∣d/\(top':Rat)=b'*(v- sJ Q λ q=>cf f q*X q)
 |[],k,top,b,v,s5,s6,s7,_,hb,hd,ht,_,_=>⟨top,b,s5,s6,s7,rfl,hb,hd,by simp only[sJ];grind⟩
 |q::Q,k,top,b,v,s5,s6,s7,hQ,hb,hd,ht,hs,hk=>by
  obtain ⟨ql,xd,xn⟩:=hQ q (by simp);simp only[List.length_cons] at hk;by_cases f0:f.getD q 0=0
  ·have st:=RJ (s0:=s0) (s2:=s2) (s3:= .val (.int top)) (s4:= .val (.int b)) (s6:= .val (rq (X q))) (s7:=s7) ql f0;obtain ⟨top',b',t5,t6,t7,h1,h2,h3,h4⟩:=EZ d0 d9 hf (X:=X) (s0:=s0) (s2:=s2) Q (k+1) top b v (.val (.int q)) (.val (rq (X q))) s7 (λ r hr=>hQ r (by simp[hr])) hb hd ht (Nat.lt_of_lt_of_le hs (pw _ _ (by omega))) (by omega);refine ⟨top',b',t5,t6,t7,?_,h2,h3,?_⟩
   ·rw[List.map_cons,fP (Γ1:=[s0,.val (iL f),s2,.val (.int top),.val (.int b),.val (.int q),.val (rq (X q)),s7]) rfl st];exact h1
   ·rw[h4];simp only[sJ];rw[show cf f q=0 by unfold cf;rw[f0];rfl]
    grind
  ·have dp:=(X q).den_pos;have Jd:Nat.lcm b (X q).den∣d:=Nat.lcm_dvd hd xd;have le:∀m,m∣d->m<2^1100:=λ m h=>Nat.lt_of_le_of_lt (Nat.le_of_dvd d0 h) d9;obtain ⟨jb,Ra⟩:=Nat.dvd_lcm_left b (X q).den;obtain ⟨jd,Q9⟩:=Nat.dvd_lcm_right b (X q).den;have k20:7000+1101*k<=20000:=by omega
   have st:=RH (f:=f) (q:=q) (x:=X q) (top:=top) (b:=b) (jb:=jb) (jd:=jd) (s0:=s0) (s2:=s2) (s7:=s7) ql f0 hb (le b hd) (le _ xd) Ra.symm Q9.symm (Nat.lt_of_lt_of_le hs (pw _ _ k20)) (Nat.lt_of_lt_of_le xn (pw _ _ (by decide))) (hf q) (le _ Jd);have Jp:0<Nat.lcm b (X q).den:=Nat.lcm_pos hb dp;have jbl:jb<2^1100:=Nat.lt_of_le_of_lt (by rw[Ra];exact Nat.le_mul_of_pos_left _ hb) (le _ Jd);have jdl:jd<2^1100:=Nat.lt_of_le_of_lt (by rw[Q9];exact Nat.le_mul_of_pos_left _ dp) (le _ Jd);have sz:(top*jb- f.getD q 0*(X q).num*jd).natAbs<2^(7000+1101*(k+1)):=by
    have a1:(top*jb).natAbs<2^(7000+1101*k+1100):=by rw[Int.natAbs_mul,Int.natAbs_natCast];exact lN hs jbl
    have a2:(f.getD q 0*(X q).num*jd).natAbs<2^(4400+1400+1100):=by rw[Int.natAbs_mul,Int.natAbs_mul,Int.natAbs_natCast];exact lN (lN (hf q) xn) jdl
    have a3:=pw (4400+1400+1100) (7000+1101*k+1100) (by omega);have a4:(2:Nat)^(7000+1101*(k+1))=2^(7000+1101*k+1100)+2^(7000+1101*k+1100):=by rw[show 7000+1101*(k+1)=7000+1101*k+1100+1 by omega,Nat.pow_succ,Nat.mul_two]
    rw[a4];generalize (2:Nat)^(7000+1101*k+1100)=P at*;generalize (2:Nat)^(4400+1400+1100)=P' at*;omega
   have ev:((top*jb- f.getD q 0*(X q).num*jd:Int):Rat)=(Nat.lcm b (X q).den:Nat)*(v- cf f q*X q):=by
    have n1:=gU (X q);have c1:((Nat.lcm b (X q).den:Nat):Rat)=(b:Rat)*(jb:Rat):=by rw[<-Rat.natCast_mul, <-Ra]
    have c2:((Nat.lcm b (X q).den:Nat):Rat)=((X q).den:Rat)*(jd:Rat):=by rw[<-Rat.natCast_mul, <-Q9]
    simp only[Rat.intCast_mul,Rat.intCast_sub,Rat.intCast_natCast];rw[ht, <-n1];have e1:(b:Rat)*v*jb=(Nat.lcm b (X q).den:Nat)*v:=by rw[c1];grind
    have e2:((f.getD q 0:Int):Rat)*(X q*((X q).den:Rat))*jd=(Nat.lcm b (X q).den:Nat)*(cf f q*X q):=by rw[c2];unfold cf;grind
    rw[e1,e2];grind
   generalize top*jb- f.getD q 0*(X q).num*jd=WH at*;obtain ⟨top',b',t5,t6,t7,h1,h2,h3,h4⟩:=EZ d0 d9 hf (X:=X) (s0:=s0) (s2:=s2) Q (k+1) WH (Nat.lcm b (X q).den) (v- cf f q*X q) (.val (.int q)) (.val (rq (X q))) (.val (.int (Nat.lcm b (X q).den:Nat))) (λ r hr=>hQ r (by simp[hr])) Jp Jd ev sz (by omega);refine ⟨top',b',t5,t6,t7,?_,h2,h3,?_⟩
   ·rw[List.map_cons,fP (Γ1:=[s0,.val (iL f),s2,.val (.int top),.val (.int b),.val (.int q),.val (rq (X q)),s7]) rfl st];exact h1
   ·rw[h4];simp only[sJ]
    grind
def vD(Q:List Nat)(X:Nat->Rat):D:= .lS (.s (Q.map λ q:Nat=> .inl (q:Int))) (Q.map λ q=>rq (X q))
def Ke(Q:List Nat)(X:Nat->Rat):qN (vD Q X)= .ok (Q.map (qD X)):=by
 have:(((Q.map λ q:Nat=>(Sum.inl (q:Int):zJ)).zip (Q.map λ q=>rq (X q))).map λ p=>D.tup [kD p.1,p.2])=Q.map (qD X):=by
  induction Q with
  |nil=>rfl
  |cons q Q ih=>simp only[List.map_cons,List.zip_cons_cons,ih];rfl
 simp[vD,qN,this]
def Kd{e:List Int}{n:Nat}(h:e.length=n+1):bD (iL e) (.int (-1))= .ok (.int (e.getD n 0)):=by
 have hn:n<e.length:=by omega
 have a1:mU (e.map D.int).length (-1)=some n:=by
  have:¬(0:Int)<= -1:=by decide
  have h2: -(((e.map D.int).length:Nat):Int)<= -1:=by simp;omega
  have h3:(-1+(((e.map D.int).length:Nat):Int)).toNat=n:=by simp[h];omega
  simp only[mU,this,if_false,h2,if_true,h3]
 simp only[bD,iL,tV,a1,Option.bind_some,List.getElem?_map,List.getElem?_eq_getElem hn,Option.map_some];simp[hn]
def IZ{n p d:Nat}(d0:0<d)(d9:d<2^1100){f:List Int}(hl:f.length=n+1)(hp:p<n)(fp:f.getD p 0≠0)(hf:∀j,(f.getD j 0).natAbs<2^4400){X:Nat->Rat}{Q:List Nat}(hQ:∀q∈Q,q<n/\(X q).den∣d/\(X q).num.natAbs<2^1400)(h8:Q.length<=8):
  jh [.val (.int p),.val (iL f),.val (vD Q X)]= .ok (rq ((cf f n- sJ Q λ q=>cf f q*X q)/ cf f p)):=by
 obtain ⟨top,b,t5,t6,t7,h1,h2,h3,h4⟩:=EZ d0 d9 hf (X:=X) (s0:= .val (.int p)) (s2:= .val (vD Q X)) Q 0 (f.getD n 0) 1 (cf f n) .no .no .no (λ q hq=>⟨by have:=(hQ q hq).1;omega,(hQ q hq).2⟩) (by decide) (Nat.one_dvd d) (by unfold cf;grind) (Nat.lt_of_lt_of_le (hf n) (pw _ _ (by decide))) (by omega);have il:=Kd hl;have ip:=jG (e:=f) (p:=p) (by omega);have it:=Ke Q X;have bl:b<2^1100:=Nat.lt_of_le_of_lt (Nat.le_of_dvd d0 h3) d9;have nz:(b:Int)*f.getD p 0≠0:=Int.mul_ne_zero (by omega) fp;have m:=eV (x:=(b:Int)) (y:=f.getD p 0) (by rw[Int.natAbs_natCast];exact bA bl (by decide)) (bA (hf p) (by decide));have fr:cW [.val (.int top),.val (.int ((b:Int)*f.getD p 0))]= .ok (fq (xH top ((b:Int)*f.getD p 0),xK top ((b:Int)*f.getD p 0))):=oX top ((b:Int)*f.getD p 0) nz (by rw[Int.natAbs_mul,Int.natAbs_natCast];exact bA (lN bl (hf p)) (by decide));have fe:=vc top ((b:Int)*f.getD p 0) nz;have fx:((top:Rat)/(((b:Int)*f.getD p 0:Int):Rat))=(cf f n- sJ Q λ q=>cf f q*X q)/ cf f p:=by
  have b0:(b:Rat)≠0:=by exact_mod_cast (show b≠0 by omega)
  have c0:cf f p≠0:=by unfold cf;exact_mod_cast fp
  rw[h4,Rat.intCast_mul,Rat.intCast_natCast];show _/((b:Rat)*cf f p)=_
  grind
 rw[fx] at fe;rw[fe] at fr;have rqe:∀r:Rat,fq (Ge r)=rq r:=λ _=>rfl;rw[rqe] at fr;clear fe fx h4 bl nz hQ hf d9;simp only[Int.natCast_one] at h1;generalize rq ((cf f n- sJ Q λ q=>cf f q*X q)/ cf f p)=R at*;generalize f.getD n 0=zn at*;generalize f.getD p 0=zp at*;generalize vD Q X=V at*;generalize Q.map (qD X)=W at*;generalize iL f=E at*;generalize (b:Int)*zp=bz at*;have ng:o9 (.int 1)= .ok (.int (-1)):=rfl;simp[jh,lT,di,ng,il,it,h1,ip,m,fr]
theorem gk(g:Nat->Rat):∀A C:List Nat,sJ (A++C) g=sJ A g+sJ C g
 |[],C=>by simp only[List.nil_append,sJ];grind
 |a::A,C=>by simp only[List.cons_append,sJ];rw[gk g A C];grind
theorem A5.off:∀{A C:List (Nat×List Int)},A5 (A++C)->∀a∈A,∀q∈C,q.2.getD a.1 0=0
 |(p,f)::A,C,h,a,ha,q,hq=>by
  rcases List.mem_cons.mp ha with rfl|ha
  ·exact h.2.1 q (by simp[hq])
  ·exact A5.off h.2.2 a ha q hq
def Dz{n p:Nat}{f:List Int}{A C:List (Nat×List Int)}{X:Nat->Rat}(t:A5 (A++(p,f)::C))(pr:((A++(p,f)::C).map (·.1)).Perm (List.range n)):
  dt (List.range n) (cf f) X=cf f p*X p+sJ (C.map (·.1)) λ q=>cf f q*X q:=by
 rw[<-Cq pr];unfold dt;rw[List.map_append,gk,List.map_cons];simp only[sJ];rw[cZ (J:=A.map (·.1)) λ j hj=>by obtain ⟨a,ha,rfl⟩:=List.mem_map.mp hj;have:=t.off a ha (p,f) (by simp);rw[show cf f a.1=0 by unfold cf;rw[this];rfl];grind]
 grind
def E9{n:Nat}{L:List (List Int)}{fs:List (Nat×List Int)}{X:Nat->Rat}(u:Dg n L fs)(h:∀e∈L,dt (List.range n) (cf e) X=cf e n):∀q∈fs,dt (List.range n) (cf q.2) X=cf q.2 n:=by
 have key:∀e:List Int,dt (List.range (n+1)) (cf e) (λ j=>if j=n then -1 else X j)=dt (List.range n) (cf e) X- cf e n:=λ e=>by
  unfold dt;rw[List.range_succ,gk];simp only[sJ,if_true];rw[bw (h:=λ j=>cf e j*X j) λ j hj=>by rw[if_neg (by have:=List.mem_range.mp hj;omega)]]
  grind
 intro q hq;have:=(u.sol (List.range (n+1)) λ j=>if j=n then -1 else X j).mp (λ e he=>by rw[key,h e he];grind) q hq;rw[key] at this
 grind
def Jz{Q:List Nat}{X:Nat->Rat}{p:Nat}(h:p∉Q)(hl:Q.length<1000):mJ (.inl (p:Int)) (rq (X p)) (.k (.s (Q.map λ q:Nat=> .inl (q:Int))) (Q.map λ q=>rq (X q)))=some (.k (.s ((Q++[p]).map λ q:Nat=> .inl (q:Int))) ((Q++[p]).map λ q=>rq (X q))):=by
 have VF:nt (rq (X p))=true:=rfl;have an:((Q.map λ q:Nat=>(Sum.inl (q:Int):Sum Int Str)).any λ n=>decide (n=Sum.inl (p:Int)))=false:=by rw[List.any_eq_false];intro x hx;obtain ⟨q,hq,rfl⟩:=List.mem_map.mp hx;have:q≠p:=λ z=>h (z▸hq);simp;omega
 have hl':(Q.map λ q:Nat=>(Sum.inl (q:Int):Sum Int Str)).length<1000000:=by simp;omega
 simp only[mJ,VF,hl',and_self,if_true,yd,Bu,an];simp
theorem Bt{n d:Nat}(d0:0<d)(d9:d<2^1100)(hn:n<=7){X:Nat->Rat}(hX:∀j<n,(X j).den∣d/\(X j).num.natAbs<2^1400){fs:List (Nat×List Int)}(t:A5 fs)(h1:∀q∈fs,q.1<n)(hlen:fs.length=n)(hb:∀q∈fs,q.2.length=n+1/\∀j,(q.2.getD j 0).natAbs<2^4400) (hs:∀q∈fs,dt (List.range n) (cf q.2) X=cf q.2 n) {s0 s1:Slot}:∀(l2 l1:List (Nat×List Int)) (s3 s4:Slot),fs.reverse=l1++l2->∃t3 t4,cS (dU 2 (aZ (aG 3) (aZ (aG 4) eN))) (lq 0) (l2.map fD) [s0,s1,.own (.k (.s ((l1.map (·.1)).map λ q:Nat=> .inl (q:Int))) ((l1.map (·.1)).map λ q=>rq (X q))),s3,s4]=.nx [s0,s1,.own (.k (.s (((l1++l2).map (·.1)).map λ q:Nat=> .inl (q:Int))) (((l1++l2).map (·.1)).map λ q=>rq (X q))),t3,t4]
 |[],l1,s3,s4,_=>⟨s3,s4,by simp⟩
 |(p,f)::l2,l1,s3,s4,e=>by
  have ef:fs=l2.reverse++(p,f)::l1.reverse:=by have:=congrArg List.reverse e;simpa using this
  have mem:(p,f)∈fs:=by rw[ef];simp
  have pr:(fs.map (·.1)).Perm (List.range n):=lI t.nd (λ j hj=>by obtain ⟨q,hq,rfl⟩:=List.mem_map.mp hj;exact h1 q hq) (by simpa using hlen);have nd:=t.nd;have sp:=Dz (X:=X) (ef▸t) (ef▸pr);rw[hs _ mem] at sp;have f0:=t.at mem;have c0:cf f p≠0:=by unfold cf;exact_mod_cast f0
  have perm:sJ (l1.reverse.map (·.1)) (λ q=>cf f q*X q)=sJ (l1.map (·.1)) (λ q=>cf f q*X q):=Bx ((List.reverse_perm l1).map _);have vx:(cf f n- sJ (l1.map (·.1)) λ q=>cf f q*X q)/ cf f p=X p:=by rw[<-perm];have:cf f n=cf f p*X p+sJ (l1.reverse.map (·.1)) λ q=>cf f q*X q:=sp;rw[this];grind
  have ll:l1.length<=7:=by have:=congrArg List.length e;simp at this;omega
  have va:=IZ (n:=n) (p:=p) d0 d9 (f:=f) (hb _ mem).1 (h1 _ mem) f0 (hb _ mem).2 (X:=X) (Q:=l1.map (·.1)) (λ q hq=>by
   obtain ⟨g,hg,rfl⟩:=List.mem_map.mp hq;have hm:g∈fs:=by rw[ef];simp[hg]
   exact ⟨h1 g hm,hX _ (h1 g hm)⟩) (by simp;omega)
  rw[vx] at va;have nin:p∉l1.map (·.1):=λ z=>by rw[ef] at nd;simp only[List.map_append,List.map_cons,List.map_reverse] at nd;have:=(List.nodup_append.mp nd).2.1;rw[List.nodup_cons] at this;exact this.1 (by simpa using z)
  have pn:=Jz (X:=X) nin (by simp;omega);have pp:pl (rq (X p))=true:=rfl;have e':fs.reverse=(l1++[(p,f)])++l2:=by rw[e];simp
  obtain ⟨t3,t4,h⟩:=Bt d0 d9 hn hX t h1 hlen hb hs (s0:=s0) (s1:=s1) l2 (l1++[(p,f)]) (.val (.int p)) (.val (iL f)) e';refine ⟨t3,t4,?_⟩;rw[List.map_cons,fP (Γ1:=[s0,s1,.own (.k (.s ((l1.map (·.1)).map λ q:Nat=> .inl (q:Int))) ((l1.map (·.1)).map λ q=>rq (X q))),.val (.int p),.val (iL f)]) (Γ2:=[s0,s1,.own (.k (.s (((l1++[(p,f)]).map (·.1)).map λ q:Nat=> .inl (q:Int))) (((l1++[(p,f)]).map (·.1)).map λ q=>rq (X q))),.val (.int p),.val (iL f)]) rfl ?_]
  ·rw[h];simp
  ·rw[show (l1++[(p,f)]).map (·.1)=l1.map (·.1)++[p] by simp];unfold vD at va;clear h perm sp nd pr e e' hX hb hs mem vx ll;generalize l1.map (·.1)=Q at*;generalize ((Q++[p]).map λ q:Nat=>(Sum.inl (q:Int):Sum Int Str))=K2 at*;generalize ((Q++[p]).map λ q=>rq (X q))=V2 at*;generalize (Q.map λ q:Nat=>(Sum.inl (q:Int):Sum Int Str))=K1 at*;generalize (Q.map λ q=>rq (X q))=V1 at*;generalize rq (X p)=R at*;generalize iL f=E at*;simp[lq,yj,va,pp,Fe,gK,AG,pT,xF,gq,eT,DB,pn]
noncomputable abbrev Row:=Int×List (Nat×Rat)
def rD(r:Row):D:= .tup [rq (r.1:Rat),.lst (r.2.map tD)]
structure Ih(n:Nat)(r:Row):Prop where
 nd:(r.2.map (·.1)).Nodup
 tm:∀t∈r.2,t.1<n/\Le t.2
 ct:r.1.natAbs<2^200
structure Li(n i:Nat)(r:Row)(e:List Int):Prop where
 bd:Bd n (cB 0) (dB 0) e
 ev:∃B:Nat,0<B/\(∀j<n,cf e j=((if j=i then 1 else 0) -(r.2.lookup j).getD 0)*B)/\cf e n=r.1*B
theorem zk{n:Nat}(hn:n<=7){G:D}:∀(S:List Row) (k:Nat),k+S.length=n->(∀r∈S,Ih n r)->c6 [G]= .ok (.int n)->∃L:List (List Int),bW (jJ (dU 2 (aZ (aG 0) (aZ (aG 1) eN))) gh (bh 3 bZ (ay (aj 0) (ay (aj 1) (ay (pC c6 (ay (aj 2) aL)) aL)))) [.no,.no,.val G]) (eB k (S.map rD))= .ok (L.map iL)/\L.length=S.length/\∀m r,S[m]? =some r->∃e,L[m]? =some e/\Li n (k+m) r e
 |[],k,_,_,_=>⟨[],rfl,rfl,λ m r h=>by simp at h⟩
 |r::S,k,hk,hS,hl=>by
  obtain ⟨L,h1,h2,h3⟩:=zk hn (G:=G) S (k+1) (by simp at hk;omega) (λ s hs=>hS s (by simp[hs])) hl;have ro:=hS r (by simp);obtain ⟨e,B,q1,q2,q3,q4,q5⟩:=AQ (n:=n) (i:=k) (T:=r.2) (c:=r.1) (by simp at hk;omega) hn ro.nd ro.tm ro.ct;refine ⟨e::L,?_,by simp[h2],λ m s hs=>?_⟩
  ·have e1:eB k ((r::S).map rD)= .tup [.int k,rD r]::eB (k+1) (S.map rD):=rfl;have q1':bZ [.val (.int k),.val (rD r),.val (.int n)]= .new (.l (e.map D.int)):=q1;have el:jJ (dU 2 (aZ (aG 0) (aZ (aG 1) eN))) gh (bh 3 bZ (ay (aj 0) (ay (aj 1) (ay (pC c6 (ay (aj 2) aL)) aL)))) [.no,.no,.val G] (.tup [.int k,rD r])= .ok (some (iL e)):=by have fz:uX (.l (e.map D.int))= .ok (iL e):=rfl;generalize iL e=E at*;generalize e.map D.int=EE at*;generalize rD r=RD at*;simp[jJ,hl,q1',kE,fz]
   rw[e1];simp only[bW,el,h1,Res.bnd,List.map_cons]
  ·cases m with
   |zero=>simp only[List.getElem?_cons_zero,Option.some.injEq] at hs;subst hs;exact ⟨e,rfl,q3,B,q2,q4,q5⟩
   |succ m=>rw[List.getElem?_cons_succ] at hs;obtain ⟨e',g1,g2⟩:=h3 m s hs;exact ⟨e',g1,by rw[show k+(m+1)=k+1+m by omega];exact g2⟩
def KC{Q:List Nat}{X:Nat->Rat}{j:Nat}(h:j∈Q)(tm:Bool):L4.getD (.mj tm (.s (Q.map λ q:Nat=> .inl (q:Int))) (Q.map λ q=>rq (X q))) (.int j)= .ok (rq (X j)):=by
 have:yZ (Q.map λ q:Nat=> .inl (q:Int)) (Q.map λ q=>rq (X q)) (.inl (j:Int))=some (rq (X j)):=by
  unfold yZ;induction Q with
  |nil=>simp at h
  |cons q Q ih=>
   by_cases e:q=j
   ·subst e;simp
   ·have hj:j∈Q:=by
     rcases List.mem_cons.mp h with z|z
     ·exact absurd z.symm e
     ·exact z
    have ne:¬((q:Int)=(j:Int)):=by omega
    simp only[List.map_cons,List.zip_cons_cons,List.find?_cons,Sum.inl.injEq,ne,decide_false];exact ih hj
 simp[L4.getD,VY,AG,this]
def Sol(n:Nat)(R:List Row)(X:Nat->Rat):Prop:=∀i r,R[i]? =some r->X i- sJ (List.range n) (λ j=>(r.2.lookup j).getD 0*X j)=r.1
def AR{n i:Nat}{r:Row}{e:List Int}{X:Nat->Rat}(hi:i<n)(h:Li n i r e):∃B:Nat,0<B/\cf e n=r.1*B/\dt (List.range n) (cf e) X=B*(X i- sJ (List.range n) λ j=>(r.2.lookup j).getD 0*X j):=by
 obtain ⟨B,b0,h1,h2⟩:=h.ev;refine ⟨B,b0,h2,?_⟩;have e1:dt (List.range n) (cf e) X=(B:Rat)*sJ (List.range n) (λ j=>(if j=i then (1:Rat) else 0)*X j) - B*sJ (List.range n) λ j=>(r.2.lookup j).getD 0*X j:=by unfold dt;rw[<-jw];refine bw λ j hj=>?_;rw[h1 j (List.mem_range.mp hj)];grind
 have e2:sJ (List.range n) (λ j=>(if j=i then (1:Rat) else 0)*X j)=X i:=by rw[gy _ (List.mem_range.mpr hi),cZ (J:=(List.range n).erase i) λ j hj=>by rw[if_neg λ z=>((List.Nodup.mem_erase_iff List.nodup_range).mp hj).1 z];grind];rw[if_pos rfl];grind
 rw[e1,e2];grind
theorem oh{el:D->Res (Option D)}(g:Nat->D):∀{l:List Nat},(∀j∈l,el (nI j)= .ok (some (g j)))->bW el (l.map nI)= .ok (l.map g)
 |[],_=>rfl
 |j::l,h=>by have:=oh (el:=el) g (l:=l) λ y hy=>h y (by simp[hy]);simp only[List.map_cons,bW,h j (by simp),this,Res.bnd]
theorem Gj{X:Nat->Rat}:∀l:List Nat,gm (l.map λ j=>rq (X j))=true
 |[]=>rfl
 |j::l=>by simp only[List.map_cons,gm,Gj l];rfl
def pV{n d:Nat}(d0:0<d)(d9:d<2^1100)(hn:n<=7){R:List Row}(hl:R.length=n)(hR:∀r∈R,Ih n r):
  (cK [.val (.lst (R.map rD))]= .err "Loose"/\∃X:Nat->Rat,(∃j<n,X j≠0)/\∀i r,R[i]? =some r->X i- sJ (List.range n) (λ j=>(r.2.lookup j).getD 0*X j)=0)\/
  ((∀X:Nat->Rat,(∀i r,R[i]? =some r->X i- sJ (List.range n) (λ j=>(r.2.lookup j).getD 0*X j)=0)->∀j<n,X j=0)/\∃fs:List (Nat×List Int),A5 fs/\∀X:Nat->Rat,Sol n R X->(∀j<n,(X j).den∣d/\(X j).num.natAbs<2^1400)->cK [.val (.lst (R.map rD))]= .new (.l ((List.range n).map λ j=>rq (X j)))):=by
 have ln:c6 [.lst (R.map rD)]= .ok (.int n):=by simp[c6,hl]
 obtain ⟨L,c1,l1,c3⟩:=zk hn (G:= .lst (R.map rD)) R 0 (by omega) hR ln;have el:(eB 0 (R.map rD)).length<1000000:=by
  have:∀(xs:List D) (k:Nat),(eB k xs).length=xs.length:=λ xs=>by
   induction xs with
   |nil=>exact λ _=>rfl
   |cons x xs ih=>exact λ k=>by simp[eB,ih]
  rw[this];simp;omega
 have bL:∀e∈L,∃i r,i<n/\R[i]? =some r/\Li n i r e:=λ e he=>by
  obtain ⟨m,hm,rfl⟩:=List.getElem_of_mem he;have hr:m<R.length:=by omega
  obtain ⟨e',g1,g2⟩:=c3 m R[m] (List.getElem?_eq_getElem hr);rw[List.getElem?_eq_getElem hm] at g1;cases g1;exact ⟨m,R[m],by omega,List.getElem?_eq_getElem hr,by simpa using g2⟩
 have X0:∀X:Nat->Rat,(∀e∈L,dt (List.range n) (cf e) X=0)↔ ∀i r,R[i]? =some r->X i- sJ (List.range n) (λ j=>(r.2.lookup j).getD 0*X j)=0:=λ X=>by
  constructor
  ·intro h i r hr;obtain ⟨e,g1,g2⟩:=c3 i r hr;have hi:i<n:=by have:=(List.getElem?_eq_some_iff.mp hr).1;omega
   obtain ⟨B,b0,_,q⟩:=AR (X:=X) hi (show Li n i r e by simpa using g2);rw[h e (List.mem_of_getElem? g1)] at q;have:(B:Rat)≠0:=by exact_mod_cast (show B≠0 by omega)
   grind
  ·intro h e he;obtain ⟨i,r,hi,hr,g⟩:=bL e he;obtain ⟨B,b0,_,q⟩:=AR (X:=X) hi g;rw[q,h i r hr];grind
 have Hg:uX (.l (L.map iL))= .ok (rL L):=rfl;have VE:ku (.k (.s []) [])=true:=rfl;have en:AU [.lst (R.map rD)]= .ok (eB 0 (R.map rD)):=rfl;rcases zY (n:=n) (L:=L) (by omega) (by omega) (λ e he=>(bL e he).elim λ i h=>h.elim λ r h=>h.2.2.bd) with ⟨lo,hu⟩|⟨fs,u,⟨c,d',hc,hd',hb⟩,hu⟩
 ·left;obtain ⟨X,h1,h2⟩:=lo.other (by omega);refine ⟨?_,X,h1,(X0 X).mp h2⟩;unfold rL at hu;clear Hg;generalize L.map iL=LL at*;generalize eB 0 (R.map rD)=EE at*;generalize R.map rD=RR at*;simp[cK,m8,di,qO,en,el,gO,jm,c1,hu,VE,Kv]
 ·right;obtain ⟨t,p1,p2⟩:=u.Y4;refine ⟨λ X hX=>u.only (by omega) ((X0 X).mpr hX),fs,t,λ X hX hd=>?_⟩;have hs:∀e∈L,dt (List.range n) (cf e) X=cf e n:=λ e he=>by obtain ⟨i,r,hi,hr,g⟩:=bL e he;obtain ⟨B,b0,q1,q⟩:=AR (X:=X) hi g;rw[q,q1,hX i r hr];grind
  obtain ⟨t3,t4,lp⟩:=Bt d0 d9 hn hd t p1 (by omega) (λ q hq=>⟨(hb q hq).len,λ j=>by
   rcases kc q.2 j with z|z
   ·rw[z];exact Nat.pow_pos (by decide)
   ·exact (hb q hq).mem hc hd' _ z⟩) (E9 u hs) (s0:= .val (.lst (R.map rD))) (s1:= .val (rL L)) fs.reverse [] .no .no rfl
  simp only[List.nil_append,List.map_nil] at lp;have mem:∀j∈List.range n,j∈fs.reverse.map (·.1):=λ j hj=>by have pr:=lI t.nd (λ j hj=>by obtain ⟨q,hq,rfl⟩:=List.mem_map.mp hj;exact p1 q hq) (by simp;omega);have:=pr.mem_iff.mpr hj;simpa using this
  have cm:=oh (el:=jJ (aG 0) gh (aO L4.getD (aj 1) (aj 0)) [.no,.val (.mj true (.s ((fs.reverse.map (·.1)).map λ q:Nat=> .inl (q:Int))) ((fs.reverse.map (·.1)).map λ q=>rq (X q)))]) (λ j=>rq (X j)) (l:=List.range n) λ j hj=>by have:=KC (X:=X) (mem j hj) true;generalize D.mj true (.s ((fs.reverse.map (·.1)).map λ q:Nat=> .inl (q:Int))) ((fs.reverse.map (·.1)).map λ q=>rq (X q))=V at*;unfold nI;simp[jJ,this]
  have rg:=eo n (by omega);rw[fH] at rg;have rl:((List.range n).map nI).length<1000000:=by simp;omega
  have Xn:ku (.l ((List.range n).map λ j=>rq (X j)))=true:=by simp only[ku];exact Gj _
  unfold rL at hu lp;have fzF:uX (.l (fs.map fD))= .ok (.lst (fs.map fD)):=rfl;have rv:fs.reverse.map fD=(fs.map fD).reverse:=by simp
  rw[rv] at lp;have ld:lend (.k (.s ((fs.reverse.map (·.1)).map λ q:Nat=> .inl (q:Int))) ((fs.reverse.map (·.1)).map λ q=>rq (X q)))= .mj true (.s ((fs.reverse.map (·.1)).map λ q:Nat=> .inl (q:Int))) ((fs.reverse.map (·.1)).map λ q=>rq (X q)):=rfl;clear Hg X0 bL c3 hX hd hs t p1 p2 u hb mem;generalize ((fs.reverse.map (·.1)).map λ q:Nat=>(Sum.inl (q:Int):Sum Int Str))=K2 at*;generalize ((fs.reverse.map (·.1)).map λ q=>rq (X q))=V2 at*;generalize ((List.range n).map λ j=>rq (X j))=OUT at*;generalize (List.range n).map nI=NN at*;generalize fs.map fD=FF at*;generalize L.map iL=LL at*;generalize eB 0 (R.map rD)=EE at*;generalize R.map rD=RR at*;simp[cK,m8,di,qO,en,el,gO,jm,c1,hu,VE,Kv,fzF,lp,ln,rg,rl,ld,cm,Xn]
def q8(zs:List Int)(k:Nat):bu [.val (iL zs),.val (.int k)]= .ok (.int (zs.getD k 0)):=by
 have ln:c6 [iL zs]= .ok (.int zs.length):=by simp[c6,iL]
 by_cases h:k<zs.length
 ·have ix:=jG h;have hk:(k:Int)<zs.length:=by omega
  generalize iL zs=E at*;generalize zs.getD k 0=z at*;simp[bu,gY,di,ln,ltI,hk,ix]
 ·have hk:¬(k:Int)<zs.length:=by omega
  have e:zs.getD k 0=0:=by simp[List.getElem?_eq_none (show zs.length<=k by omega)]
  rw[e];generalize iL zs=E at*;simp[bu,gY,di,ln,ltI,hk]
inductive Vc:dh->List Nat->Prop
 |ok (l:List Nat):Vc (.ok (.lst (l.map nI))) l
 |new (l:List Nat):Vc (.new (.l (l.map nI))) l
def Vc.d{a:dh}{l:List Nat}(h:Vc a l):kE a= .ok (.lst (l.map nI)):=by cases h<;>rfl
def fm(x y:Int)(h:0<y):0<=x.fmod y/\x.fmod y<y:=⟨Int.fmod_nonneg_of_pos x h,Int.fmod_lt_of_pos x h⟩
def NC{n:Nat}(h0:0<n)(hn:n<=7)(c:Int):∃l:List Nat,Vc (gH [.val (.int c),.val (.int n)]) l/\l.Nodup/\l≠[]/\∀j∈l,j<n:=by
 have rg:=eo n (by omega);rw[fH] at rg;have rl:((List.range n).map nI).length<1000000:=by simp;omega
 have cm:=i7 (el:=jJ (aG 0) (dT (aO tM (aO K5 (aO Fb (aj 1) (aj 0)) (dC (.int 1))) (dC (.int 1)))) (aj 0) [.no,.val (.int c)]) nI (λ j=>decide (Builtin.bitAnd (c.fdiv (2^j)) 1=1)) (l:=List.range n) λ j _=>by
  have hs:Fb (.int c) (.int j)= .ok (.int (c.fdiv (2^j))):=by simp[Fb]
  unfold nI;generalize c.fdiv (2^j)=q at*;have ha:K5 (.int q) (.int 1)= .ok (.int (Builtin.bitAnd q 1)):=rfl;generalize Builtin.bitAnd q 1=m at*;by_cases e:m=1
  ·subst e;simp[jJ,hs,ha]
  ·simp[jJ,hs,ha,e]
 have nd:((List.range n).filter (λ j=>decide (Builtin.bitAnd (c.fdiv (2^j)) 1=1))).Nodup:=List.nodup_range.filter _;have lt:∀j∈(List.range n).filter (λ j=>decide (Builtin.bitAnd (c.fdiv (2^j)) 1=1)),j<n:=λ j hj=>List.mem_range.mp (List.mem_filter.mp hj).1;generalize (List.range n).filter (λ j=>decide (Builtin.bitAnd (c.fdiv (2^j)) 1=1))=N at*;have en:=eq_nil nI (λ _=>rfl) N;cases N with
 |nil=>
  have dv:=c8 c (g:=128) (by decide) (by decide);have md:fF (.int (c.fdiv 128)) (.int n)= .ok (.int ((c.fdiv 128).fmod n)):=cJ _ _ (by omega);obtain ⟨b1,b2⟩:=fm (c.fdiv 128) n (by omega);obtain ⟨k,hk⟩:=Int.eq_ofNat_of_zero_le b1;refine ⟨[k],?_,by simp,by simp,λ j hj=>by simp at hj;omega⟩;rw[hk] at md;have:gH [.val (.int c),.val (.int n)]= .new (.l [.int k]):=by simp only[List.map_nil,List.isEmpty_nil] at en cm;have nt1:ku (.l [.int (k:Int)])=true:=rfl;generalize c.fdiv 128=q at*;generalize (List.range n).map nI=R at*;simp[gH,ni,di,rg,rl,gO,jm,cm,en,dv,md,nt1]
  rw[this];exact .new [k]
 |cons j N=>
  refine ⟨j::N,?_,nd,by simp,lt⟩;have:gH [.val (.int c),.val (.int n)]= .ok (.lst ((j::N).map nI)):=by have Ys:tM (.lst ((j::N).map nI)) (.lst [])= .ok (.bl false):=en;generalize (j::N).map nI=X at*;generalize (List.range n).map nI=R at*;simp[gH,ni,di,rg,rl,gO,jm,cm,Ys]
  rw[this];exact .ok _
def gM(G:List (List Int)):M:= .n (G.map λ r=> .l (r.map D.int))
def gv(G:List (List Int))(i j:Nat):Int:=(G.getD i []).getD j 0
def setG(G:List (List Int))(i j:Nat)(v:Int):List (List Int):=G.set i ((G.getD i []).set j v)
structure Sq(n:Nat)(G:List (List Int)):Prop where
 len:G.length=n
 row:∀r∈G,r.length=n
def Sq.set{n i j:Nat}{v:Int}{G:List (List Int)}(h:Sq n G)(hi:i<n):Sq n (setG G i j v):=by
 refine ⟨by simp[setG,h.len],λ r hr=>?_⟩;have li:i<G.length:=by rw[h.len];exact hi
 unfold setG at hr;rcases List.mem_or_eq_of_mem_set hr with z|z
 ·exact h.row r z
 ·subst z;rw[List.length_set,show G.getD i []=G[i] by simp[li]];exact h.row _ (List.getElem_mem li)
def qP{n i j:Nat}{v:Int}{G:List (List Int)}(h:Sq n G)(hi:i<n)(hj:j<n)(a b:Nat):gv (setG G i j v) a b=if a=i/\b=j then v else gv G a b:=by
 unfold gv setG;have li:i<G.length:=by rw[h.len];exact hi
 have lr:=h.row _ (List.getElem_mem li);by_cases e:a=i
 ·subst e;have e1:(G.set a ((G.getD a []).set j v)).getD a []=(G.getD a []).set j v:=by simp[li]
  rw[e1];by_cases e2:b=j
  ·subst e2;have:b<(G.getD a []).length:=by simp[li,lr,hj]
   rw[List.getD_eq_getElem?_getD,List.getElem?_set_self this];simp
  ·simp only[List.getD_eq_getElem?_getD,List.getElem?_set_ne (Ne.symm e2),e2,and_false,if_false]
 ·simp only[List.getD_eq_getElem?_getD,List.getElem?_set_ne (Ne.symm e),e,false_and,if_false]
def Fd{n i j:Nat}{v:Int}{G:List (List Int)}(R:Sq n G)(hi:i<n)(hj:j<n){Γ:Sg}{fy fx f:Sg->Res D}(h1:Γ[3]? =some (.own (gM G)))(ey:fy Γ= .ok (.int i))(ex:fx Γ= .ok (.int j))(ef:f Γ= .ok (.int v)):
  g6 3 (QW 3 (gK 3) fy) fx f Γ= .nx (Γ.set 3 (.own (gM (setG G i j v)))):=by
 have ly:i<G.length:=by rw[R.len];omega
 have rl:=R.row _ (List.getElem_mem ly);have VS:∀(m k:Nat),k<m->mU m (k:Int)=some k:=λ m k h=>by
  have:(k:Int)<(m:Int):=by omega
  simp[mU,this]
 have i1:mU (G.map λ r=>M.l (r.map D.int)).length (i:Int)=some i:=VS _ _ (by simp;omega);have i2:mU (G[i].map D.int).length (j:Int)=some j:=VS _ _ (by simp[rl];omega);have pv:gK 3 Γ= .ok []:=by simp[gK,h1,xF]
 have pi:QW 3 (gK 3) fy Γ= .ok [i]:=by unfold QW;rw[pv,ey,h1];simp only[Res.iu,Option.bind_some,xF,gq,gM,yN,i1];rfl
 have VE:nt (D.int v)=true:=rfl;have gx:(G.map λ r=>M.l (r.map D.int))[i]? =some (M.l (G[i].map D.int)):=by rw[List.getElem?_map,List.getElem?_eq_getElem ly];rfl
 have up:pT 3 [i] (setM j (.int v)) Γ=some (Γ.set 3 (.own (gM (setG G i j v)))):=by unfold pT;rw[h1];simp only[Option.bind_some,xF,gM,gq,gx,eT,setM,VE,if_true,i2,Option.map_some,DB];congr 4;rw[setG,List.map_set,List.map_set];congr 2;simp[List.getD,ly]
 unfold g6;rw[ef,pi,ex];simp[up]
def uT{a:Nat}{l:List Nat}:inD (.int a) (.lst (l.map nI))= .ok (.bl (decide (a∈l)))/\lK (.int a) (.lst (l.map nI))= .ok (.bl (!decide (a∈l))):=by
 have fl:(l.map nI).all gF=true:=by simp[List.all_map,nI,gF]
 have e:Iv (.int a) (l.map nI)=decide (a∈l):=by
  unfold Iv;induction l with
  |nil=>rfl
  |cons x l ih=>
   have ih:=ih (by simp[List.all_map,nI,gF]);have e1:Yp (nI x) (.int a)=decide (a=x):=by
    show ((x:Int)==(a:Int))=decide (a=x);by_cases q:a=x
    ·subst q;simp
    ·have:¬((x:Int)=(a:Int)):=by omega
     simp[q,this]
   rw[List.map_cons,List.any_cons,ih,e1];by_cases q:a=x<;>simp[q]
 constructor
 ·simp[inD,pW,gF,fl,e]
 ·simp[lK,pW,gF,fl,e]
def ints_get{G:List (List Int)}{n i j:Nat}(R:Sq n G)(hi:i<n)(hj:j<n):∃r,(G.map iL)[i]? =some (iL r)/\r.length=n/\r.getD j 0=gv G i j:=by
 have ly:i<G.length:=by rw[R.len];omega
 refine ⟨G[i],by rw[List.getElem?_map,List.getElem?_eq_getElem ly];rfl,R.row _ (List.getElem_mem ly),?_⟩;unfold gv;rw[show G.getD i []=G[i] by simp[ly]]
def g0(n:Nat):List (List Int):=List.replicate n (List.replicate n 0)
def sq0(n:Nat):Sq n (g0 n):=⟨by simp[g0],λ r hr=>by rw[List.eq_of_mem_replicate hr];simp⟩
def Yc(n i j:Nat):gv (g0 n) i j=0:=by
 unfold gv g0;by_cases h:i<n
 ·by_cases k:j<n
  ·simp[h,k]
  ·simp[h,k]
 ·simp[h]
structure Gd(n:Nat)(l:List Nat)(U:Nat->Int)(G:List (List Int)):Prop where
 sq:Sq n G
 lo:∀i j,0<=gv G i j
 hi:∀i j,gv G i j<=U j
 off:∀j∈l,∀i,i∉l->gv G i j=0
theorem oZ{e:D->Res (Option M)}{d:M}:∀{xs:List D},(∀x∈xs,e x= .ok (some d))->fT e xs= .ok (List.replicate xs.length d)
 |[],_=>rfl
 |x::xs,h=>by simp only[fT];rw[h x (.head _),oZ λ y hy=>h y (.tail _ hy)];rfl
def OX{n:Nat}(hn:n<=7){s0 s2 s3 s4 s5 s6 s7:Slot}:mN (jj false (gX (ay (aj 1) aL)) 1 [1] (aG 0) gh (mL (LR rX (kX (kC (ay (dC (.int 0)) aL))) (aj 1)))) [s0,.val (.int n),s2,s3,s4,s5,s6,s7]= .ok (gM (g0 n)):=by
 have rg:=eo n (by omega);have rp:rX (.lst [.int 0]) (.int n)= .ok (List.replicate n (.int 0)):=by
  have:(0:Int)<=n/\(n:Int)<=100000:=by omega
  simp[rX,rC,this]
 have c:=oZ (e:=EA (aG 0) gh (mL (LR rX (kX (kC (ay (dC (.int 0)) aL))) (aj 1))) [.no,.val (.int n)]) (d:= .l (List.replicate n (.int 0))) (xs:=gE 0 n) λ x _=>by simp[EA,rp]
 rw[jZ] at c;have ln:(gE 0 n).length<1000000:=by rw[jZ];omega
 have e:gM (g0 n)= .n (List.replicate n (.l (List.replicate n (.int 0)))):=by simp[gM,g0]
 rw[e];generalize List.replicate n (M.l (List.replicate n (.int 0)))=R at*;generalize gE 0 n=N at*;simp[mN,jj,rg,ln,gO,jm,c]
def Hl(a b:Nat):(a:Int).fdiv (b:Int)=((a/ b:Nat):Int):=by rw[Int.fdiv_eq_ediv_of_nonneg _ (by omega)];simp
def n6(a b:Nat):(a:Int).fmod (b:Int)=((a%b:Nat):Int):=by rw[Int.fmod_eq_emod_of_nonneg _ (by omega)];simp
def XG{n:Nat}(h:0<n)(hn:n<=100):(n:Int).natAbs.log2<9000:=by rw[Int.natAbs_natCast];exact nW (by omega) (Nat.lt_of_le_of_lt hn (Nat.lt_of_lt_of_le (show 100<2^7 by decide) (Nat.pow_le_pow_right (by decide) (by decide))))
theorem Gd.set{n i j:Nat}{l:List Nat}{U V:Nat->Int}{G:List (List Int)}{v:Int}(g:Gd n l U G)(hi:i<n)(hj:j<n)(v0:0<=v)(vV:v<=V j)(hUV:∀k,U k<=V k)(ok:j∉l\/i∈l):Gd n l V (setG G i j v):=by
 refine ⟨g.sq.set hi,λ a b=>?_,λ a b=>?_,λ b hb a ha=>?_⟩
 ·rw[qP g.sq hi hj];split
  ·exact v0
  ·exact g.lo a b
 ·rw[qP g.sq hi hj];split
  ·rename_i h;rw[h.2];exact vV
  ·exact Int.le_trans (g.hi a b) (hUV b)
 ·rw[qP g.sq hi hj,if_neg]
  ·exact g.off b hb a ha
  ·rintro ⟨rfl,rfl⟩
   rcases ok with q|q
   ·exact q hb
   ·exact ha q
def Ww{n k:Nat}{l:List Nat}{zs:List Int}{G:List (List Int)}{s5 s6 s7:Slot}(h0:0<n)(hn:n<=7)(hk:2+k<zs.length)(g:Gd n l (λ _=>6) G):
  ∃G' t5 t6,cL 0 [.val (iL zs),.val (.int n),.val (.lst (l.map nI)),.own (gM G),.val (.int (2+(k:Int))),s5,s6,s7]= .nx [.val (iL zs),.val (.int n),.val (.lst (l.map nI)),.own (gM G'),.val (.int (2+(k:Int))),t5,t6,s7]/\Gd n l (λ _=>6) G':=by
 have sb:ko (.int (2+(k:Int))) (.int 2)= .ok (.int k):=by simp only[ko,yU,if_true];rw[show 2+(k:Int) - 2=k by omega]
 have dv:=c8 (k:Int) (g:=(n:Int)) (by omega) (XG h0 (by omega));rw[Hl] at dv;have m1:fF (.int ((k/ n:Nat):Int)) (.int n)= .ok (.int ((k/ n%n:Nat):Int)):=by rw[cJ _ _ (by omega),n6]
 have m2:fF (.int (k:Int)) (.int n)= .ok (.int ((k%n:Nat):Int)):=by rw[cJ _ _ (by omega),n6]
 have ri:k/ n%n<n:=Nat.mod_lt _ h0;have cj:k%n<n:=Nat.mod_lt _ h0;have ix:bD (iL zs) (.int (2+(k:Int)))= .ok (.int (zs.getD (2+k) 0)):=by have:=jG hk;rw[show ((2+k:Nat):Int)=2+(k:Int) by simp] at this;exact this
 have d2:=c8 (zs.getD (2+k) 0) (g:=2) (by decide) (by decide);have m7:fF (.int ((zs.getD (2+k) 0).fdiv 2)) (.int 7)= .ok (.int (((zs.getD (2+k) 0).fdiv 2).fmod 7)):=cJ _ _ (by decide);obtain ⟨v0,v7⟩:=fm ((zs.getD (2+k) 0).fdiv 2) 7 (by decide);generalize ((zs.getD (2+k) 0).fdiv 2).fmod 7=v at*;generalize (zs.getD (2+k) 0).fdiv 2=v2 at*;generalize zs.getD (2+k) 0=z at*;obtain ⟨in1,OC⟩:=uT (a:=k/ n%n) (l:=l);obtain ⟨in2,QZ⟩:=uT (a:=k%n) (l:=l);have st:=Fd (v:=v) (Γ:=[.val (iL zs),.val (.int n),.val (.lst (l.map nI)),.own (gM G),.val (.int (2+(k:Int))),.val (.int ((k/ n%n:Nat):Int)),.val (.int ((k%n:Nat):Int)),s7]) (fy:=aj 5) (fx:=aj 6) (f:=aO fF (aO cg (aO bD (aj 0) (aj 4)) (dC (.int 2))) (dC (.int 7))) g.sq ri cj rfl rfl rfl (by simp[ix,d2,m7]);by_cases ok:k%n∉l\/k/ n%n∈l
 ·refine ⟨setG G (k/ n%n) (k%n) v,.val (.int ((k/ n%n:Nat):Int)),.val (.int ((k%n:Nat):Int)),?_,g.set ri cj v0 (by omega) (λ _=>Int.le_refl _) ok⟩;generalize gM (setG G (k/ n%n) (k%n) v)=G2 at*;generalize hr:k/ n%n=ro at*;generalize hc:k%n=co at*;generalize k/ n=kn at*;generalize gM G=G1 at*;generalize l.map nI=N at*;generalize iL zs=Z at*;by_cases q:co∈l
  ·have q2:ro∈l:=ok.resolve_left λ w=>w q;simp only[q,q2,decide_true,Bool.not_true] at in1 QZ;simp[cL,sb,dv,m1,m2,in1,QZ,st]
  ·simp only[q,decide_false,Bool.not_false] at QZ;simp[cL,sb,dv,m1,m2,QZ,st]
 ·refine ⟨G,.val (.int ((k/ n%n:Nat):Int)),.val (.int ((k%n:Nat):Int)),?_,g⟩;have q:k%n∈l:=Classical.byContradiction λ w=>ok (.inl w);have q2:k/ n%n∉l:=λ w=>ok (.inr w);simp only[q,q2,decide_true,decide_false,Bool.not_true] at in1 QZ;generalize k/ n%n=ro at*;generalize k%n=co at*;generalize k/ n=kn at*;generalize gM G=G1 at*;generalize l.map nI=N at*;generalize iL zs=Z at*;simp[cL,sb,dv,m1,m2,in1,QZ]
theorem Bg{n:Nat}{l:List Nat}{zs:List Int}{s7:Slot}(h0:0<n)(hn:n<=7):∀(ks:List Nat) (G:List (List Int)) (s4 s5 s6:Slot),(∀k∈ks,2+k<zs.length)->Gd n l (λ _=>6) G->∃G' t4 t5 t6,cS (aG 4) (cL 0) (ks.map λ k:Nat=>D.int (2+(k:Int))) [.val (iL zs),.val (.int n),.val (.lst (l.map nI)),.own (gM G),s4,s5,s6,s7]= .nx [.val (iL zs),.val (.int n),.val (.lst (l.map nI)),.own (gM G'),t4,t5,t6,s7]/\Gd n l (λ _=>6) G'
 |[],G,s4,s5,s6,_,g=>⟨G,s4,s5,s6,rfl,g⟩
 |k::ks,G,s4,s5,s6,h,g=>by obtain ⟨G1,t5,t6,e1,g1⟩:=Ww (s5:=s5) (s6:=s6) (s7:=s7) h0 hn (h k (by simp)) g;obtain ⟨G',u4,u5,u6,e2,g2⟩:=Bg (s7:=s7) h0 hn ks G1 (.val (.int (2+(k:Int)))) t5 t6 (λ j hj=>h j (by simp[hj])) g1;refine ⟨G',u4,u5,u6,?_,g2⟩;rw[List.map_cons,fP (Γ1:=[.val (iL zs),.val (.int n),.val (.lst (l.map nI)),.own (gM G),.val (.int (2+(k:Int))),s5,s6,s7]) rfl e1];exact e2
noncomputable def Ut(l:List Nat)(t:Nat)(j:Nat):Int:=if j∈l.take t then 7 else 6
theorem BW:∀G:List (List Int),iJ (G.map λ r=>M.l (r.map D.int))=G.map λ r=>D.bor true (r.map D.int)
 |[]=>rfl
 |r::G=>by simp[iJ,lend,BW G]
def OM(G:List (List Int)):lend (gM G)= .bor true (G.map λ r=>D.bor true (r.map D.int)):=by simp only[gM,lend,BW]
def G3{ds:List D}{d:D}{p:Nat}{tm:Bool}(h:ds[p]? =some d):bD (.bor tm ds) (.int p)= .ok d:=by have hp:=(List.getElem?_eq_some_iff.mp h).1;simp[bD,tV,mU,hp];exact (List.getElem?_eq_some_iff.mp h).2
def Wv{n t:Nat}{l:List Nat}{zs:List Int}{G:List (List Int)}{s4 s5 s6:Slot}(hn:n<=7)(nd:l.Nodup)(hl:∀j∈l,j<n)(ht:t<l.length)(g:Gd n l (Ut l t) G)(pos:∀j∈l.take t,∃i∈l,1<=gv G i j):
  ∃G' t5,fh 0 [.val (iL zs),.val (.int n),.val (.lst (l.map nI)),.own (gM G),s4,s5,s6,.val (.int t)]= .nx [.val (iL zs),.val (.int n),.val (.lst (l.map nI)),.own (gM G'),s4,t5,s6,.val (.int t)]/\Gd n l (Ut l (t+1)) G'/\∀j∈l.take (t+1),∃i∈l,1<=gv G' i j:=by
 have ll:l.length<=7:=by have:=List.Nodup.length_le_of_subset (l₂:=List.range n) nd λ j hj=>List.mem_range.mpr (hl j hj);simp at this;omega
 have ce:bu [.val (iL zs),.val (.int 1)]= .ok (.int (zs.getD 1 0)):=q8 zs 1;have dv:=c8 (zs.getD 1 0) (g:=7) (by decide) (by decide);have ln:c6 [.lst (l.map nI)]= .ok (.int l.length):=by simp[c6]
 have m1:fF (.int ((zs.getD 1 0).fdiv 7)) (.int l.length)= .ok (.int (((zs.getD 1 0).fdiv 7).fmod l.length)):=cJ _ _ (by omega);obtain ⟨a1,a2⟩:=fm ((zs.getD 1 0).fdiv 7) l.length (by omega);obtain ⟨a,ha⟩:=Int.eq_ofNat_of_zero_le a1;rw[ha] at m1;have ad:eE (.int t) (.int 1)= .ok (.int ((t+1:Nat):Int)):=by simp[eE]
 have Rp:eE (.int ((t+1:Nat):Int)) (.int a)= .ok (.int ((t+1+a:Nat):Int)):=by simp[eE]
 have m2:fF (.int ((t+1+a:Nat):Int)) (.int l.length)= .ok (.int (((t+1+a)%l.length:Nat):Int)):=by rw[cJ _ _ (by omega),n6]
 have rl:(t+1+a)%l.length<l.length:=Nat.mod_lt _ (by omega);generalize (t+1+a)%l.length=r at*;have ixr:bD (.lst (l.map nI)) (.int r)= .ok (.int (l[r]:Nat)):=jF (by rw[List.getElem?_map,List.getElem?_eq_getElem rl];rfl);have XM:bD (.lst (l.map nI)) (.int t)= .ok (.int (l[t]:Nat)):=jF (by rw[List.getElem?_map,List.getElem?_eq_getElem ht];rfl);have rm:l[r]∈l:=List.getElem_mem rl;have tm:l[t]∈l:=List.getElem_mem ht;have hi:=hl _ rm;have hj:=hl _ tm;have tk:l.take (t+1)=l.take t++[l[t]]:=by simp
 have VF:l[t]∉l.take t:=λ z=>by have h2:(l.take (t+1)).Nodup:=nd.sublist (List.take_sublist _ _);rw[tk] at h2;exact (List.nodup_append.mp h2).2.2 _ z _ (by simp) rfl
 have le6:gv G l[r] l[t]<=6:=by have:=g.hi l[r] l[t];unfold Ut at this;rw[if_neg VF] at this;exact this
 have lo:=g.lo l[r] l[t];have ly:l[r]<G.length:=by rw[g.sq.len];exact hi
 have rw':=g.sq.row _ (List.getElem_mem ly);have ZQ:gv G l[r] l[t]=G[l[r]].getD l[t] 0:=by unfold gv;rw[show G.getD l[r] []=G[l[r]] by simp[ly]]
 have ig:bD (.bor true (G.map λ r=>D.bor true (r.map D.int))) (.int (l[r]:Nat))= .ok (.bor true (G[l[r]].map D.int)):=G3 (by rw[List.getElem?_map,List.getElem?_eq_getElem ly];rfl);have ZD:bD (.bor true (G[l[r]].map D.int)) (.int (l[t]:Nat))= .ok (.int (gv G l[r] l[t])):=G3 (by rw[ZQ];simp[rw',hj]);rw[<-OM] at ig;have st:=Fd (v:=gv G l[r] l[t]+1) (Γ:=[.val (iL zs),.val (.int n),.val (.lst (l.map nI)),.own (gM G),s4,.val (.int (l[r]:Nat)),s6,.val (.int t)]) (fy:=aj 5) (fx:=aO bD (aj 2) (aj 7)) (f:=aO eE (aO bD (aO bD (tP 3) (aj 5)) (aO bD (aj 2) (aj 7))) (dC (.int 1))) g.sq hi hj rfl rfl (by simp[XM]) (by generalize gM G=GM at*;generalize l.map nI=N at*;simp[ig,ZD,XM,eE]);refine ⟨setG G l[r] l[t] (gv G l[r] l[t]+1),.val (.int (l[r]:Nat)),?_,?_,λ j ZE=>?_⟩
 ·generalize gM (setG G l[r] l[t] (gv G l[r] l[t]+1))=G2 at*;generalize gM G=G1 at*;generalize l.map nI=N at*;generalize iL zs=Z at*;generalize (zs.getD 1 0).fdiv 7=c7 at*;generalize zs.getD 1 0=c1 at*;generalize l[r]=lr at*;generalize ((t+1+a:Nat):Int)=ta at*;generalize ((t+1:Nat):Int)=t1 at*;generalize (l.length:Int)=len at*;clear ZQ g pos tk VF ha a1 a2 le6 lo ig ZD XM;simp[fh,ce,dv,ln,m1,ad,Rp,m2,ixr,st]
 ·refine g.set hi hj (by omega) ?_ (λ k=>?_) (.inr rm)
  ·unfold Ut;rw[tk,if_pos (List.mem_append_right _ (List.mem_singleton.mpr rfl))];omega
  ·unfold Ut;rw[tk];by_cases q:k∈l.take t
   ·rw[if_pos q,if_pos (List.mem_append_left _ q)];exact Int.le_refl _
   ·rw[if_neg q];split<;>omega
 ·rw[tk] at ZE;rcases List.mem_append.mp ZE with q|q
  ·obtain ⟨i,q1,q2⟩:=pos j q;refine ⟨i,q1,?_⟩;rw[qP g.sq hi hj];split
   ·omega
   ·exact q2
  ·simp only[List.mem_singleton] at q;subst q;refine ⟨l[r],rm,?_⟩;rw[qP g.sq hi hj,if_pos ⟨rfl,rfl⟩];omega
theorem Bf{n:Nat}{l:List Nat}{zs:List Int}{s4 s6:Slot}(hn:n<=7)(nd:l.Nodup)(hl:∀j∈l,j<n):∀(m t:Nat) (G:List (List Int)) (s5 s7:Slot),t+m=l.length->Gd n l (Ut l t) G->(∀j∈l.take t,∃i∈l,1<=gv G i j)->∃G' t5 t7,cS (aG 7) (fh 0) ((List.range' t m).map nI) [.val (iL zs),.val (.int n),.val (.lst (l.map nI)),.own (gM G),s4,s5,s6,s7]= .nx [.val (iL zs),.val (.int n),.val (.lst (l.map nI)),.own (gM G'),s4,t5,s6,t7]/\Gd n l (Ut l l.length) G'/\∀j∈l,∃i∈l,1<=gv G' i j
 |0,t,G,s5,s7,e,g,pos=>by
  obtain rfl:t=l.length:=by omega
  exact ⟨G,s5,s7,rfl,g,λ j hj=>pos j (by simpa using hj)⟩
 |m+1,t,G,s5,s7,e,g,pos=>by obtain ⟨G1,t5,e1,g1,p1⟩:=Wv (zs:=zs) (s4:=s4) (s5:=s5) (s6:=s6) hn nd hl (show t<l.length by omega) g pos;obtain ⟨G',u5,u7,e2,g2,p2⟩:=Bf (zs:=zs) (s4:=s4) (s6:=s6) hn nd hl m (t+1) G1 t5 (.val (.int t)) (by omega) g1 p1;refine ⟨G',u5,u7,?_,g2,p2⟩;rw[List.range'_succ,List.map_cons,fP (Γ1:=[.val (iL zs),.val (.int n),.val (.lst (l.map nI)),.own (gM G),s4,s5,s6,.val (.int t)]) rfl e1];exact e2
def Dm{n:Nat}{l:List Nat}{zs:List Int}(hz:zs.length<=63)(h0:0<n)(hn:n<=7)(nd:l.Nodup)(hl:∀j∈l,j<n):∃G,fJ [.val (iL zs),.val (.int n),.val (.lst (l.map nI))]= .new (gM G)/\Gd n l (λ _=>7) G/\∀j∈l,∃i∈l,1<=gv G i j:=by
 have g0':Gd n l (λ _=>6) (g0 n):=⟨sq0 n,λ i j=>by rw[Yc];omega,λ i j=>by rw[Yc];omega,λ j _ i _=>Yc n i j⟩;have ini:=OX hn (s0:= .val (iL zs)) (s2:= .val (.lst (l.map nI))) (s3:= .no) (s4:= .no) (s5:= .no) (s6:= .no) (s7:= .no);have ln:c6 [iL zs]= .ok (.int zs.length):=by simp[c6,iL]
 have mn:yJ [.int zs.length,.int 63]= .ok (.int zs.length):=by
  have:¬(63:Int)<zs.length:=by omega
  simp[yJ,this]
 have rg:uC [.int 2,.int zs.length]= .ok ((List.range (zs.length- 2)).map λ k:Nat=>D.int (2+(k:Int))):=by
  have:((zs.length:Int) - 2).toNat=zs.length- 2:=by omega
  have h: -(2^62)<=(2:Int)/\(2:Int)<2^62/\ -(2^62)<=(zs.length:Int)/\(zs.length:Int)<2^62:=by omega
  simp only[uC,h,and_self,if_true,this];rfl
 obtain ⟨G1,t4,t5,t6,lp1,g1⟩:=Bg (zs:=zs) (l:=l) (s7:= .no) h0 hn (List.range (zs.length- 2)) (g0 n) .no .no .no (λ k hk=>by have:=List.mem_range.mp hk;omega) g0';have lnl:c6 [.lst (l.map nI)]= .ok (.int l.length):=by simp[c6]
 have ll:l.length<=7:=by have:=List.Nodup.length_le_of_subset (l₂:=List.range n) nd λ j hj=>List.mem_range.mpr (hl j hj);simp at this;omega
 have Ze:=eo l.length (by omega);rw[fH,List.range_eq_range'] at Ze;obtain ⟨G2,u5,u7,lp2,g2,p2⟩:=Bf (zs:=zs) (s4:=t4) (s6:=t6) hn nd hl l.length 0 G1 t5 .no (by omega) (by
  have:Ut l 0=λ _=>6:=by funext j;simp[Ut]
  rw[this];exact g1) (by simp)
 refine ⟨G2,?_,⟨g2.sq,g2.lo,λ i j=>Int.le_trans (g2.hi i j) (by unfold Ut;split<;>omega),g2.off⟩,p2⟩;have ntg:∀G:List (List Int),ku (gM G)=true:=λ G=>by
  have:∀G:List (List Int),yD (G.map λ r=>M.l (r.map D.int))=true:=λ G=>by
   induction G with
   |nil=>rfl
   |cons r G ih=>simp only[List.map_cons,yD,ku,dj,ih];rfl
  simp only[gM,ku,this]
 have n0:=ntg (g0 n);generalize gM (g0 n)=M0 at*;generalize gM G1=M1 at*;generalize gM G2=M2 at*;generalize (List.range (zs.length- 2)).map (λ k:Nat=>D.int (2+(k:Int)))=W1 at*;generalize (List.range' 0 l.length).map nI=W2 at*;generalize l.map nI=N at*;generalize iL zs=Z at*;simp[fJ,jL,di,ini,n0,ln,mn,rg,lp1,lnl,Ze,lp2,oK]
def GI{a b:Int}(ha:0<=a)(hb:1<=b)(h9:b.natAbs<2^9000):dI [.val (.int a),.val (.int b)]= .ok (rq ((a:Rat)/(b:Rat))):=by
 have e:=vc a b (by omega);have d:xJ b (Int.gcd a b)=(Int.gcd a b:Int):=by unfold xJ;rw[if_neg (by omega)]
 have h1:a.fdiv (Int.gcd a b)=xH a b:=by unfold xH;rw[d]
 have h2:b.fdiv (Int.gcd a b)=xK a b:=by unfold xK;rw[d]
 have u:dI [.val (.int a),.val (.int b)]=if 0<=a/\1<=b/\b.natAbs<2^9000 then dh.ok (.tup [.int (a.fdiv (Int.gcd a b)),.int (b.fdiv (Int.gcd a b))]) else .bad:=rfl
 rw[u,if_pos ⟨ha,hb,h9⟩,h1,h2];show dh.ok (fq (xH a b,xK a b))=_;rw[e];rfl
def cs(G:List (List Int))(n j:Nat):Int:=((List.range n).map λ k=>gv G k j).sum
def Sj(G:List (List Int))(n:Nat)(l:List Nat)(more:Int)(j:Nat):Int:=cs G n j+more+if j∈l then 0 else 1
def E8{n:Nat}{f:Nat->Int}{M:Int}(h:∀k,0<=f k/\f k<=M):0<=((List.range n).map f).sum/\((List.range n).map f).sum<=n*M:=by
 induction n with
 |zero=>simp
 |succ n ih=>
  rw[List.range_succ,List.map_append,List.sum_append];have:=h n;have e:((n+1:Nat):Int)*M=n*M+M:=by rw[Int.natCast_add,Int.add_mul];simp
  simp only[List.map_cons,List.map_nil,List.sum_cons,List.sum_nil,e];omega
def UG{n j:Nat}{l:List Nat}{G:List (List Int)}(hn:n<=7)(g:Gd n l (λ _=>7) G)(hj:j<n):bW (jJ (aG 0) gh (aO bD (aO bD (aj 2) (aj 0)) (aj 1)) [.no,.val (.int j),.val (rL G)]) ((List.range n).map nI)= .ok (((List.range n).map λ k=>gv G k j).map D.int):=by
 have:=oh (el:=jJ (aG 0) gh (aO bD (aO bD (aj 2) (aj 0)) (aj 1)) [.no,.val (.int j),.val (rL G)]) (λ k=>D.int (gv G k j)) (l:=List.range n) λ k hk=>by obtain ⟨r,h1,h2,h3⟩:=ints_get g.sq (List.mem_range.mp hk) hj;have i1:bD (rL G) (.int k)= .ok (iL r):=jF h1;have i2:=jG (e:=r) (p:=j) (by omega);rw[h3] at i2;generalize rL G=GG at*;generalize iL r=RR at*;generalize gv G k j=z at*;unfold nI;simp[jJ,i1,i2]
 rw[this,List.map_map];rfl
def tm(G:List (List Int))(n:Nat)(l:List Nat)(more:Int)(i j:Nat):Nat×Rat:=(j,(gv G i j:Rat)/(Sj G n l more j:Rat))
def yb{n:Nat}{l:List Nat}{G:List (List Int)}{more:Int}(hn:n<=7)(g:Gd n l (λ _=>7) G)(m0:0<=more)(m1:more<=40)(j:Nat):0<=cs G n j/\cs G n j<=49/\0<=Sj G n l more j/\Sj G n l more j<=90:=by
 have h:=E8 (n:=n) (f:=λ k=>gv G k j) (M:=7) λ k=>⟨g.lo k j,g.hi k j⟩;have:(n:Int)*7<=49:=by omega
 unfold Sj cs;split<;>omega
def qQ{n i j:Nat}{l:List Nat}{G:List (List Int)}(g:Gd n l (λ _=>7) G)(hi:i<n):gv G i j<=cs G n j:=by
 unfold cs;have:∀m,i<m->gv G i j<=((List.range m).map λ k=>gv G k j).sum:=λ m=>by
  induction m with
  |zero=>intro h;omega
  |succ m ih=>
   intro h;rw[List.range_succ,List.map_append,List.sum_append];simp only[List.map_cons,List.map_nil,List.sum_cons,List.sum_nil];have h1:=g.lo m j;have h2:=(E8 (n:=m) (f:=λ k=>gv G k j) (M:=7) λ k=>⟨g.lo k j,g.hi k j⟩).1;by_cases q:i=m
   ·subst q;omega
   ·have:=ih (by omega);omega
 exact this n hi
def Xe{n i j:Nat}{l:List Nat}{G:List (List Int)}{more:Int}{T:List (Nat×Rat)}{s0 s5 s9 rN:Slot}(hn:n<=7)(g:Gd n l (λ _=>7) G)(m0:0<=more)(m1:more<=40)(hi:i<n)(hj:j<n)(hT:T.length<1000):
  ∃t9,dM 0 [s0,.val (.int n),.val (.lst (l.map nI)),.val (.int more),.val (rL G),s5,.val (.int i),.own (.l (T.map tD)),.val (.int j),s9,rN]=.nx [s0,.val (.int n),.val (.lst (l.map nI)),.val (.int more),.val (rL G),s5,.val (.int i),.own (.l ((T++if 0<gv G i j then [tm G n l more i j] else []).map tD)),.val (.int j),t9,rN]:=by
 have rg:=eo n (by omega);rw[fH] at rg;have rl:((List.range n).map nI).length<1000000:=by simp;omega
 have cm:=UG hn g hj;have sm:Dv [.lst (((List.range n).map λ k=>gv G k j).map D.int)]= .ok (.int (cs G n j)):=by
  have a1:(((List.range n).map λ k=>gv G k j).all λ z=>decide (0<=z/\z<=1000000000000))=true:=by rw[List.all_eq_true];intro z hz;obtain ⟨k,_,rfl⟩:=List.mem_map.mp hz;have h1:=g.lo k j;have h2:=g.hi k j;simp only[decide_eq_true_eq];omega
  have a2:((List.range n).map λ k=>gv G k j).length<=100000:=by simp;omega
  have:(rC (.lst (((List.range n).map λ k=>gv G k j).map D.int))).bind gD=some ((List.range n).map λ k=>gv G k j):=by simp only[rC,Option.bind_some,lP]
  simp only[Dv,this,a1,Bool.true_and,a2,decide_true,if_true];rfl
 obtain ⟨in1,OC⟩:=uT (a:=j) (l:=l);obtain ⟨r,q1,q2,q3⟩:=ints_get g.sq hi hj;have i1:bD (rL G) (.int i)= .ok (iL r):=jF q1;have i2:=jG (e:=r) (p:=j) (by omega);rw[q3] at i2;obtain ⟨b1,b2,b3,b4⟩:=yb (more:=more) hn g m0 m1 j;have lo:=g.lo i j;have We:eE (.int (cs G n j)) (.int more)= .ok (.int (cs G n j+more)):=by simp[eE]
 have Rp:eE (.int (cs G n j+more)) (.int 1)= .ok (.int (cs G n j+more+1)):=by simp[eE]
 have T':(T.map tD).length<1000000:=by simp;omega
 have sv:Sj G n l more j=if j∈l then cs G n j+more else cs G n j+more+1:=by unfold Sj;split<;>omega
 have Tv:0<gv G i j->dI [.val (.int (gv G i j)),.val (.int (Sj G n l more j))]= .ok (rq ((gv G i j:Rat)/(Sj G n l more j:Rat))):=λ h=>by have:=qQ (j:=j) g hi;refine GI lo (by rw[sv];split<;>omega) (Nat.lt_of_le_of_lt (show (Sj G n l more j).natAbs<=90 by omega) (Nat.lt_of_lt_of_le (show 90<2^7 by decide) (Nat.pow_le_pow_right (by decide) (by decide))))
 refine ⟨.val (.int (Sj G n l more j)),?_⟩;have fz:uX (.l (((List.range n).map λ k=>gv G k j).map D.int))= .ok (.lst (((List.range n).map λ k=>gv G k j).map D.int)):=rfl;have Y6:tD (tm G n l more i j)= .tup [.int j,rq ((gv G i j:Rat)/(Sj G n l more j:Rat))]:=rfl;have app:(T++if 0<gv G i j then [tm G n l more i j] else []).map tD=T.map tD++if 0<gv G i j then [.tup [.int j,rq ((gv G i j:Rat)/(Sj G n l more j:Rat))]] else []:=by
  rw[List.map_append];by_cases p:0<gv G i j
  ·rw[if_pos p,if_pos p,List.map_cons,List.map_nil,Y6]
  ·rw[if_neg p,if_neg p,List.map_nil]
 rw[app];have VD:nt (D.tup [.int j,rq ((gv G i j:Rat)/(Sj G n l more j:Rat))])=true:=rfl;have aaR:gm [.int (gv G i j),.int (Sj G n l more j)]=true:=rfl;clear Y6 app q1 q2 q3 g hT;generalize rq ((gv G i j:Rat)/(Sj G n l more j:Rat))=Q at*;generalize ((List.range n).map λ k=>gv G k j).map D.int=C at*;generalize (List.range n).map nI=N at*;generalize Sj G n l more j=S at*;generalize cs G n j=c at*;generalize gv G i j=w at*;generalize T.map tD=TT at*;generalize rL G=GG at*;generalize iL r=RR at*;by_cases q:j∈l
 ·rw[if_pos q] at sv;subst sv;simp only[q,decide_true,Bool.not_true] at OC;generalize l.map nI=LL at*;by_cases p:0<w
  ·have lw:=Tv p;simp[dM,rg,rl,gO,jm,cm,sm,We,OC,i1,i2,Rc,p,lw,VD,sC,pT,T',gK,kT,yR,gq,eT,xF,DB]
  ·simp[dM,rg,rl,gO,jm,cm,sm,We,OC,i1,i2,Rc,p]
 ·rw[if_neg q] at sv;subst sv;simp only[q,decide_false,Bool.not_false] at OC;generalize l.map nI=LL at*;by_cases p:0<w
  ·have lw:=Tv p;simp[dM,rg,rl,gO,jm,cm,sm,We,Rp,OC,i1,i2,Rc,p,lw,VD,sC,pT,T',gK,kT,yR,gq,eT,xF,DB]
  ·simp[dM,rg,rl,gO,jm,cm,sm,We,Rp,OC,i1,i2,Rc,p]
def o8(G:List (List Int))(n:Nat)(l:List Nat)(more:Int)(i:Nat):List Nat->List (Nat×Rat)
 |[]=>[]
 |j::js=>(if 0<gv G i j then [tm G n l more i j] else [])++o8 G n l more i js
theorem BF{n i:Nat}{l:List Nat}{G:List (List Int)}{more:Int}{s0 s5 rN:Slot}(hn:n<=7)(g:Gd n l (λ _=>7) G)(m0:0<=more)(m1:more<=40)(hi:i<n):∀(js:List Nat) (T:List (Nat×Rat)) (s8 s9:Slot),(∀j∈js,j<n)->T.length+js.length<1000->∃t8 t9,cS (aG 8) (dM 0) (js.map nI) [s0,.val (.int n),.val (.lst (l.map nI)),.val (.int more),.val (rL G),s5,.val (.int i),.own (.l (T.map tD)),s8,s9,rN]=.nx [s0,.val (.int n),.val (.lst (l.map nI)),.val (.int more),.val (rL G),s5,.val (.int i),.own (.l ((T++o8 G n l more i js).map tD)),t8,t9,rN]
 |[],T,s8,s9,_,_=>⟨s8,s9,by simp[o8]⟩
 |j::js,T,s8,s9,h,hl=>by simp only[List.length_cons] at hl;obtain ⟨t9,e1⟩:=Xe (more:=more) (T:=T) (s0:=s0) (s5:=s5) (s9:=s9) (rN:=rN) hn g m0 m1 hi (h j (by simp)) (by omega);obtain ⟨u8,u9,e2⟩:=BF (s0:=s0) (s5:=s5) (rN:=rN) hn g m0 m1 hi js (T++if 0<gv G i j then [tm G n l more i j] else []) (.val (.int j)) t9 (λ k hk=>h k (by simp[hk])) (by rw[List.length_append];split<;>simp<;>omega);refine ⟨u8,u9,?_⟩;rw[List.map_cons,fP (Γ1:=[s0,.val (.int n),.val (.lst (l.map nI)),.val (.int more),.val (rL G),s5,.val (.int i),.own (.l (T.map tD)),.val (.int j),s9,rN]) rfl e1,e2,o8,List.append_assoc]
def nF(zs:List Int)(i:Nat):Int:=(zs.getD (i+2) 0*48271).fmod (10^60)*(zs.getD 1 0).fmod 2
def ji(zs:List Int)(G:List (List Int))(n:Nat)(l:List Nat)(more:Int)(i:Nat):Row:=(nF zs i,o8 G n l more i (List.range n))
def Cw(zs:List Int)(i:Nat):0<=nF zs i/\(nF zs i).natAbs<2^200:=by
 obtain ⟨a1,a2⟩:=fm (zs.getD (i+2) 0*48271) (10^60) (by decide);obtain ⟨b1,b2⟩:=fm (zs.getD 1 0) 2 (by decide);unfold nF;generalize (zs.getD (i+2) 0*48271).fmod (10^60)=a at*;generalize (zs.getD 1 0).fmod 2=b at*;have:b=0\/b=1:=by omega
 have p:(10:Int)^60<2^200:=by decide
 have p':((2^200:Nat):Int)=2^200:=by decide
 rcases this with rfl|rfl
 ·simp
 ·simp only[Int.mul_one];refine ⟨a1,?_⟩;omega
theorem Gi:∀T:List (Nat×Rat),gm (T.map tD)=true
 |[]=>rfl
 |t::T=>by simp only[List.map_cons,gm,Gi T];rfl
def Xd{n i:Nat}{l:List Nat}{zs:List Int}{G:List (List Int)}{more:Int}{R:List Row}{s7 s8 s9 rN:Slot}(hn:n<=7)(g:Gd n l (λ _=>7) G)(m0:0<=more)(m1:more<=40)(hi:i<n)(hR:R.length<1000):
  ∃t7 t8 t9 QJ,iN 0 [.val (iL zs),.val (.int n),.val (.lst (l.map nI)),.val (.int more),.val (rL G),.own (.l (R.map rD)),.val (.int i),s7,s8,s9,rN]=.nx [.val (iL zs),.val (.int n),.val (.lst (l.map nI)),.val (.int more),.val (rL G),.own (.l ((R++[ji zs G n l more i]).map rD)),.val (.int i),t7,t8,t9,QJ]:=by
 have rg:=eo n (by omega);rw[fH] at rg;obtain ⟨t8,t9,lp⟩:=BF (more:=more) (s0:= .val (iL zs)) (s5:= .own (.l (R.map rD))) (rN:=rN) hn g m0 m1 hi (List.range n) [] s8 s9 (λ j hj=>List.mem_range.mp hj) (by simp;omega);have c1:bu [.val (iL zs),.val (.int 1)]= .ok (.int (zs.getD 1 0)):=q8 zs 1;have c2:=q8 zs (i+2);have ad:eE (.int i) (.int 2)= .ok (.int ((i+2:Nat):Int)):=by simp[eE]
 have b64:Builtin.Int.intBits 48271<=64:=by decide
 have mu:dR (.int (zs.getD (i+2) 0)) (.int 48271)= .ok (.int (zs.getD (i+2) 0*48271)):=mS _ _ (by simp[mR,b64]);have po:NT (.int 10) (.int 60)= .ok (.int (10^60)):=by rfl
 have md:fF (.int (zs.getD (i+2) 0*48271)) (.int (10^60))= .ok (.int ((zs.getD (i+2) 0*48271).fmod (10^60))):=cJ _ _ (by decide);have Xy:fF (.int (zs.getD 1 0)) (.int 2)= .ok (.int ((zs.getD 1 0).fmod 2)):=cJ _ _ (by decide);obtain ⟨b1,b2⟩:=fm (zs.getD 1 0) 2 (by decide);have mu2:dR (.int ((zs.getD (i+2) 0*48271).fmod (10^60))) (.int ((zs.getD 1 0).fmod 2))= .ok (.int (nF zs i)):=mS _ _ (by
  have:(zs.getD 1 0).fmod 2=0\/(zs.getD 1 0).fmod 2=1:=by omega
  rcases this with e|e<;>rw[e]<;>simp only[mR,Bool.or_eq_true,decide_eq_true_eq]<;>exact .inl (.inr (by decide)))
 have R':(R.map rD).length<1000000:=by simp;omega
 have Zf:rD (ji zs G n l more i)= .tup [.tup [.int (nF zs i),.int 1],.lst ((o8 G n l more i (List.range n)).map tD)]:=rfl;have app:(R++[ji zs G n l more i]).map rD=R.map rD++[.tup [.tup [.int (nF zs i),.int 1],.lst ((o8 G n l more i (List.range n)).map tD)]]:=by rw[List.map_append,List.map_cons,List.map_nil,Zf]
 have VD:nt (D.tup [.tup [.int (nF zs i),.int 1],.lst ((o8 G n l more i (List.range n)).map tD)])=true:=by simp only[nt,gm,Gi];rfl
 refine ⟨.val (.lst ((o8 G n l more i (List.range n)).map tD)),t8,t9,.val (.int (nF zs i)),?_⟩;rw[app];simp only[List.nil_append,List.map_nil] at lp;clear app Zf hR g b1 b2;generalize (o8 G n l more i (List.range n)).map tD=TT at*;generalize (List.range n).map nI=N at*;generalize nF zs i=ct at*;generalize (zs.getD (i+2) 0*48271).fmod (10^60)=q1 at*;generalize zs.getD (i+2) 0*48271=q2 at*;generalize zs.getD (i+2) 0=q3 at*;generalize (zs.getD 1 0).fmod 2=q4 at*;generalize zs.getD 1 0=q5 at*;generalize (10:Int)^60=q6 at*;generalize ((i+2:Nat):Int)=q7 at*;generalize R.map rD=RR at*;generalize rL G=GG at*;generalize l.map nI=LL at*;generalize iL zs=Z at*;simp[iN,rg,lp,c1,c2,ad,mu,po,md,Xy,mu2,Nz,VD,sC,pT,R',gK,kT,yR,gq,eT,xF,DB]
theorem BE{n:Nat}{l:List Nat}{zs:List Int}{G:List (List Int)}{more:Int}(hn:n<=7)(g:Gd n l (λ _=>7) G)(m0:0<=more)(m1:more<=40):∀(is:List Nat) (R:List Row) (s6 s7 s8 s9 rN:Slot),(∀i∈is,i<n)->R.length+is.length<1000->∃t6 t7 t8 t9 QJ,cS (aG 6) (iN 0) (is.map nI) [.val (iL zs),.val (.int n),.val (.lst (l.map nI)),.val (.int more),.val (rL G),.own (.l (R.map rD)),s6,s7,s8,s9,rN]=.nx [.val (iL zs),.val (.int n),.val (.lst (l.map nI)),.val (.int more),.val (rL G),.own (.l ((R++is.map (ji zs G n l more)).map rD)),t6,t7,t8,t9,QJ]
 |[],R,s6,s7,s8,s9,rN,_,_=>⟨s6,s7,s8,s9,rN,by simp⟩
 |i::is,R,s6,s7,s8,s9,rN,h,hl=>by simp only[List.length_cons] at hl;obtain ⟨t7,t8,t9,QJ,e1⟩:=Xd (zs:=zs) (more:=more) (R:=R) (s7:=s7) (s8:=s8) (s9:=s9) (rN:=rN) hn g m0 m1 (h i (by simp)) (by omega);obtain ⟨u6,u7,u8,u9,u10,e2⟩:=BE (zs:=zs) hn g m0 m1 is (R++[ji zs G n l more i]) (.val (.int i)) t7 t8 t9 QJ (λ k hk=>h k (by simp[hk])) (by simp;omega);refine ⟨u6,u7,u8,u9,u10,?_⟩;rw[List.map_cons,fP (Γ1:=[.val (iL zs),.val (.int n),.val (.lst (l.map nI)),.val (.int more),.val (rL G),.own (.l (R.map rD)),.val (.int i),s7,s8,s9,rN]) rfl e1,e2];simp
def Fj{n:Nat}{l:List Nat}{zs:List Int}{G:List (List Int)}{more:Int}(hn:n<=7)(g:Gd n l (λ _=>7) G)(hG:fJ [.val (iL zs),.val (.int n),.val (.lst (l.map nI))]= .new (gM G))(m0:0<=more)(m1:more<=40):
  jQ [.val (iL zs),.val (.int n),.val (.lst (l.map nI)),.val (.int more)]= .new (.l (((List.range n).map (ji zs G n l more)).map rD)):=by
 have rg:=eo n (by omega);rw[fH] at rg;have fg:uX (gM G)= .ok (rL G):=by
  have f1:∀G:List (List Int),mY (G.map λ r=>M.l (r.map D.int))=G.map iL:=λ G=>by
   induction G with
   |nil=>rfl
   |cons r G ih=>simp only[List.map_cons,mY,zb,ih];rfl
  have f2:∀G:List (List Int),mX (G.map λ r=>M.l (r.map D.int))=true:=λ G=>by
   induction G with
   |nil=>rfl
   |cons r G ih=>simp only[List.map_cons,mX,qR,ih];rfl
  simp only[uX,gM,qR,f2,if_true,zb,f1,rL]
 obtain ⟨t6,t7,t8,t9,QJ,lp⟩:=BE (zs:=zs) (more:=more) hn g m0 m1 (List.range n) [] .no .no .no .no .no (λ j hj=>List.mem_range.mp hj) (by simp;omega);simp only[List.nil_append,List.map_nil] at lp;generalize ((List.range n).map (ji zs G n l more)).map rD=OUT at*;generalize (List.range n).map nI=N at*;generalize gM G=M1 at*;generalize rL G=GG at*;generalize l.map nI=LL at*;generalize iL zs=Z at*;simp[jQ,rA,di,hG,fg,rg,lp,oK]
def oB(G:List (List Int))(n:Nat)(l:List Nat)(more:Int)(i j:Nat):Rat:=(gv G i j:Rat)/(Sj G n l more j:Rat)
theorem xX{n:Nat}{l:List Nat}{G:List (List Int)}{more:Int}(g:Gd n l (λ _=>7) G)(i j:Nat):∀js:List Nat,((o8 G n l more i js).lookup j).getD 0=if j∈js then oB G n l more i j else 0
 |[]=>by simp[o8]
 |k::js=>by
  have ih:=xX (more:=more) g i j js;rw[o8];by_cases p:0<gv G i k
  ·rw[if_pos p];by_cases e:j=k
   ·subst e;simp[tm,List.lookup,oB]
   ·have e':(j==k)=false:=by simpa using e
    simp only[List.cons_append,List.nil_append,tm,List.lookup_cons,e',ih,List.mem_cons,e,false_or]
  ·rw[if_neg p,List.nil_append,ih];by_cases e:j=k
   ·subst e;have z:gv G i j=0:=by have:=g.lo i j;omega
    have:oB G n l more i j=0:=by unfold oB;rw[z];simp;grind
    rw[this];simp
   ·simp[e]
theorem Bp{n:Nat}{l:List Nat}{G:List (List Int)}{more:Int}(i:Nat):∀js:List Nat,(o8 G n l more i js).map (·.1)=js.filter λ j=>decide (0<gv G i j)
 |[]=>rfl
 |k::js=>by rw[o8,List.map_append,Bp i js,List.filter_cons];by_cases p:0<gv G i k<;>simp[p,tm]
theorem um{n:Nat}{l:List Nat}{G:List (List Int)}{more:Int}{i:Nat}{t:Nat×Rat}:∀{js:List Nat},t∈o8 G n l more i js->∃j∈js,0<gv G i j/\t=(j,oB G n l more i j)
 |k::js,h=>by
  rw[o8] at h;rcases List.mem_append.mp h with q|q
  ·by_cases p:0<gv G i k
   ·rw[if_pos p] at q;simp only[List.mem_singleton] at q;exact ⟨k,by simp,p,q⟩
   ·rw[if_neg p] at q;simp at q
  ·obtain ⟨j,h1,h2⟩:=um q;exact ⟨j,by simp[h1],h2⟩
theorem zC(S:Rat)(f:Nat->Int):∀n:Nat,sJ (List.range n) (λ i=>(f i:Rat)/ S)=(((List.range n).map f).sum:Int)/ S
 |0=>by simp[sJ];grind
 |n+1=>by
  rw[List.range_succ,gk,zC S f n,List.map_append,List.sum_append];simp only[sJ,List.map_cons,List.map_nil,List.sum_cons,List.sum_nil,Rat.intCast_add,Int.add_zero]
  grind
def Cy{n j:Nat}{l:List Nat}{G:List (List Int)}{more:Int}:sJ (List.range n) (λ i=>oB G n l more i j)=(cs G n j:Rat)/(Sj G n l more j:Rat):=zC _ _ n
def Ae{n j:Nat}{l:List Nat}{G:List (List Int)}{more:Int}(hn:n<=7)(g:Gd n l (λ _=>7) G)(m0:0<=more)(m1:more<=40)(hl:∀j∈l,j<n)(p:∀j∈l,∃i∈l,1<=gv G i j):1<=Sj G n l more j:=by
 obtain ⟨b1,_,_,_⟩:=yb (more:=more) hn g m0 m1 j;unfold Sj;split
 ·rename_i h;obtain ⟨i,hi,q⟩:=p j h;have:=qQ (j:=j) g (hl i hi);omega
 ·omega
def vA{n i j:Nat}{l:List Nat}{G:List (List Int)}{more:Int}(hn:n<=7)(g:Gd n l (λ _=>7) G)(m0:0<=more)(m1:more<=40)(hl:∀j∈l,j<n)(p:∀j∈l,∃i∈l,1<=gv G i j)(hi:i<n):Le (oB G n l more i j):=by
 have sp:=Ae (j:=j) hn g m0 m1 hl p;obtain ⟨b1,_,_,b4⟩:=yb (more:=more) hn g m0 m1 j;have le:gv G i j<=Sj G n l more j:=by have:=qQ (j:=j) g hi;unfold Sj;split<;>omega
 have lo:=g.lo i j;unfold oB;generalize gv G i j=w at*;generalize Sj G n l more j=S at*;have s0:(0:Rat)<(S:Rat):=by exact_mod_cast (show (0:Int)<S by omega)
 have w0:(0:Rat)<=(w:Rat):=by exact_mod_cast lo
 have ws:(w:Rat)<=(S:Rat):=by exact_mod_cast le
 refine ⟨?_,?_,?_⟩
 ·rw[Rat.div_def];exact Rat.mul_nonneg w0 (Rat.le_of_lt (Rat.inv_pos.mpr s0))
 ·rw[Rat.div_def];have:=Rat.mul_le_mul_of_nonneg_right ws (Rat.le_of_lt (Rat.inv_pos.mpr s0));rw[Rat.mul_inv_cancel _ (by grind)] at this;exact this
 ·have:nG ((S:Int)*((w:Rat)/(S:Rat))):=⟨w,by grind⟩;have d:=pL this;have:=Int.natAbs_dvd_natAbs.mpr d;simp only[Int.natAbs_natCast] at this;have:=Nat.le_of_dvd (by omega) this;omega
def Fl{n i:Nat}{l:List Nat}{zs:List Int}{G:List (List Int)}{more:Int}(hn:n<=7)(g:Gd n l (λ _=>7) G)(m0:0<=more)(m1:more<=40)(hl:∀j∈l,j<n)(p:∀j∈l,∃i∈l,1<=gv G i j)(hi:i<n):Ih n (ji zs G n l more i):=by
 refine ⟨?_,λ t ht=>?_,(Cw zs i).2⟩
 ·show ((o8 G n l more i (List.range n)).map (·.1)).Nodup;rw[Bp];exact List.nodup_range.filter _
 ·obtain ⟨j,h1,_,rfl⟩:=um ht;exact ⟨List.mem_range.mp h1,vA hn g m0 m1 hl p hi⟩
def uB{n i:Nat}{l:List Nat}{zs:List Int}{G:List (List Int)}{more:Int}{X:Nat->Rat}(g:Gd n l (λ _=>7) G):sJ (List.range n) (λ j=>((ji zs G n l more i).2.lookup j).getD 0*X j)=sJ (List.range n) λ j=>oB G n l more i j*X j:=bw λ j hj=>by show ((o8 G n l more i (List.range n)).lookup j).getD 0*X j=_;rw[xX g,if_pos hj]
def BD{n:Nat}{f:Nat->Row}{i:Nat}{r:Row}(h:((List.range n).map f)[i]? =some r):i<n/\r=f i:=by
 rw[List.getElem?_map] at h;have hi:i<n:=by refine Classical.byContradiction λ q=>?_;rw[List.getElem?_eq_none (by simp;omega)] at h;cases h
 rw[List.getElem?_eq_getElem (by simpa using hi)] at h;simp at h;exact ⟨hi,h.symm⟩
def J4{n:Nat}{l:List Nat}{zs:List Int}{G:List (List Int)}(hn:n<=7)(g:Gd n l (λ _=>7) G)(nd:l.Nodup)(ne:l≠[])(hl:∀j∈l,j<n)(p:∀j∈l,∃i∈l,1<=gv G i j):
  cK [.val (.lst (((List.range n).map (ji zs G n l 0)).map rD))]= .err "Loose":=by
 rcases pV (n:=n) (d:=1) (by decide) (by decide) hn (R:=(List.range n).map (ji zs G n l 0)) (by simp) (λ r hr=>by obtain ⟨i,hi,rfl⟩:=List.mem_map.mp hr;exact Fl hn g (by omega) (by omega) hl p (List.mem_range.mp hi)) with ⟨h,_⟩|⟨h,_⟩
 ·exact h
 ·exfalso;obtain ⟨X,⟨j,hj,x0⟩,hX⟩:=Su (n:=n) (A:=oB G n l 0) nd ne hl (λ j hj i hi=>by unfold oB;rw[g.off j hj i hi];simp;grind) λ j hj=>by
   have e1:sJ (List.range n) (λ i=>oB G n l 0 i j)=sJ l λ i=>oB G n l 0 i j:=Ff nd List.nodup_range (λ i hi=>List.mem_range.mpr (hl i hi)) λ i hi=>by unfold oB;rw[g.off j hj i hi];simp;grind
   rw[<-e1,Cy];have sp:=Ae (more:=0) (j:=j) hn g (by omega) (by omega) hl p;have:Sj G n l 0 j=cs G n j:=by unfold Sj;rw[if_pos hj];omega
   rw[this] at sp ⊢;have:(cs G n j:Rat)≠0:=by exact_mod_cast (show cs G n j≠0 by omega)
   grind
  refine x0 (h X (λ i r hr=>?_) j hj);obtain ⟨hi,rfl⟩:=BD hr;rw[uB g, <-hX i hi];grind
def dom{n:Nat}{A:Nat->Nat->Rat}{Y b:Nat->Rat}(hY:∀i<n,Y i<=sJ (List.range n) (λ j=>A i j*Y j)+b i):sJ (List.range n) (λ j=>(1- sJ (List.range n) λ i=>A i j)*Y j)<=sJ (List.range n) b:=by
 have e1:sJ (List.range n) Y<=sJ (List.range n) (λ i=>sJ (List.range n) (λ j=>A i j*Y j)+b i):=BA λ i hi=>hY i (List.mem_range.mp hi);rw[Ah,pG] at e1;have z:sJ (List.range n) (λ j=>(1- sJ (List.range n) λ i=>A i j)*Y j)=1*sJ (List.range n) Y- 1*sJ (List.range n) (λ j=>sJ (List.range n) λ i=>A i j*Y j):=by
  rw[<-jw];refine bw λ j _=>?_;have:sJ (List.range n) (λ i=>A i j*Y j)=Y j*sJ (List.range n) (λ i=>A i j):=by rw[<-nO];exact bw λ i _=>by grind
  rw[this];grind
 rw[z];grind
theorem Bs{g:Nat->Rat}:∀{J:List Nat} {j:Nat},(∀i∈J,0<=g i)->j∈J->g j<=sJ J g
 |i::J,j,h,hj=>by
  have h1:=h i (by simp);have h2:=By (J:=J) λ k hk=>h k (by simp[hk]);simp only[sJ];rcases List.mem_cons.mp hj with rfl|hj
  ·grind
  ·have:=Bs (J:=J) (λ k hk=>h k (by simp[hk])) hj
   grind
def AO{n:Nat}{A:Nat->Nat->Rat}{b:Nat->Rat}(h0:∀X:Nat->Rat,(∀i<n,X i=sJ (List.range n) λ j=>A i j*X j)->∀j<n,X j=0):∃X:Nat->Rat,∀i<n,X i=sJ (List.range n) (λ j=>A i j*X j)+b i:=by
 obtain ⟨Y,⟨j,hj,y0⟩,_,hY⟩:=dm ((List.range n).map λ i j=>if j=n then b i else (if j=i then 1 else 0) - A i j) (List.range (n+1)) List.nodup_range (by simp);have key:∀i<n,Y i- sJ (List.range n) (λ j=>A i j*Y j)+b i*Y n=0:=λ i hi=>by
  have:=hY _ (List.mem_map.mpr ⟨i,List.mem_range.mpr hi,rfl⟩);unfold dt at this;rw[List.range_succ,gk] at this;simp only[sJ,if_true] at this;rw[bw (h:=λ j=>1*((if j=i then (1:Rat) else 0)*Y j) - 1*(A i j*Y j)) λ j hj=>by rw[if_neg (by have:=List.mem_range.mp hj;omega)];grind,jw] at this;have e2:sJ (List.range n) (λ j=>(if j=i then (1:Rat) else 0)*Y j)=Y i:=by rw[gy _ (List.mem_range.mpr hi),cZ (J:=(List.range n).erase i) λ j hj=>by rw[if_neg λ z=>((List.Nodup.mem_erase_iff List.nodup_range).mp hj).1 z];grind];rw[if_pos rfl];grind
  rw[e2] at this
  grind
 have yn:Y n≠0:=λ z=>by
  have h:=h0 Y λ i hi=>by have:=key i hi;rw[z] at this;grind
  have hj':=List.mem_range.mp hj;by_cases q:j=n
  ·exact y0 (q▸z)
  ·exact y0 (h j (by omega))
 refine ⟨λ j=> -(Y j)/ Y n,λ i hi=>?_⟩;have k:=key i hi;have e:sJ (List.range n) (λ j=>A i j*(-(Y j)/ Y n))=(-1/ Y n)*sJ (List.range n) λ j=>A i j*Y j:=by rw[<-nO];exact bw λ j _=>by grind
 rw[e]
 grind
structure A7(n:Nat)(A:Nat->Nat->Rat)(b:Nat->Rat):Prop where
 a0:∀i<n,∀j<n,0<=A i j
 c1:∀j<n,sJ (List.range n) (λ i=>A i j)<=1- 1/ 128
 b0:∀i<n,0<=b i
def A7.only{n:Nat}{A:Nat->Nat->Rat}{b X:Nat->Rat}(F:A7 n A b)(hX:∀i<n,X i=sJ (List.range n) λ j=>A i j*X j):∀j<n,X j=0:=SS F.a0 (λ j hj=>by have:=F.c1 j hj;grind) hX
theorem A7.nn{n:Nat}{A:Nat->Nat->Rat}{b X:Nat->Rat}(F:A7 n A b)(hX:∀i<n,X i=sJ (List.range n) (λ j=>A i j*X j)+b i):∀j<n,0<=X j:=by
 have d:=dom (n:=n) (A:=A) (Y:=λ j=>if X j<0 then -X j else 0) (b:=λ _=>0) λ i hi=>by
  have nn:0<=sJ (List.range n) λ j=>A i j*(if X j<0 then -X j else 0):=By λ j hj=>Rat.mul_nonneg (F.a0 i hi j (List.mem_range.mp hj)) (by split<;>grind);have le:sJ (List.range n) (λ j=>(-1)*(A i j*X j))<=sJ (List.range n) λ j=>A i j*(if X j<0 then -X j else 0):=BA λ j hj=>by
   have a:=F.a0 i hi j (List.mem_range.mp hj);split
   ·grind
   ·rename_i q;have:=Rat.mul_nonneg a (show 0<=X j by grind)
    grind
  rw[nO] at le;have x:=hX i hi;have bi:=F.b0 i hi;split<;>grind
 rw[cZ (J:=List.range n) (g:=λ _=>(0:Rat)) λ _ _=>rfl] at d;intro j hj;have:=Ag (J:=List.range n) (λ k hk=>by have q:=F.c1 k (List.mem_range.mp hk);exact Rat.mul_nonneg (by grind) (by split<;>grind)) d j (List.mem_range.mpr hj);have q:=F.c1 j hj;rcases Rat.mul_eq_zero.mp this with z|z
 ·grind
 ·split at z<;>grind
def A7.le{n:Nat}{A:Nat->Nat->Rat}{b X:Nat->Rat}(F:A7 n A b)(hX:∀i<n,X i=sJ (List.range n) (λ j=>A i j*X j)+b i):∀j<n,X j<=128*sJ (List.range n) b:=by
 have nn:=F.nn hX;have d:=dom (n:=n) (A:=A) (Y:=X) (b:=b) λ i hi=>by rw[<-hX i hi];grind
 intro j hj;have t:=Bs (g:=λ j=>(1- sJ (List.range n) λ i=>A i j)*X j) (J:=List.range n) (j:=j) (λ k hk=>by have q:=F.c1 k (List.mem_range.mp hk);exact Rat.mul_nonneg (by grind) (nn k (List.mem_range.mp hk))) (List.mem_range.mpr hj);have q:=F.c1 j hj;have h:=Rat.mul_le_mul_of_nonneg_right (show 1/ 128<=1- sJ (List.range n) λ i=>A i j by grind) (nn j hj)
 grind
def bd7{n:Nat}(hn:n<=7):bd n 128<2^1100:=by rcases (by omega:n=0\/n=1\/n=2\/n=3\/n=4\/n=5\/n=6\/n=7) with rfl|rfl|rfl|rfl|rfl|rfl|rfl|rfl<;>decide
def Cj{n:Nat}{l:List Nat}{zs:List Int}{G:List (List Int)}{more:Int}(hn:n<=7)(g:Gd n l (λ _=>7) G)(m0:1<=more)(m1:more<=40)(hl:∀j∈l,j<n)(p:∀j∈l,∃i∈l,1<=gv G i j):A7 n (oB G n l more) (λ i=>(nF zs i:Rat)):=by
 refine ⟨λ i hi j _=>(vA hn g (by omega) m1 hl p hi).lo,λ j hj=>?_,λ i _=>by exact_mod_cast (Cw zs i).1⟩;rw[Cy];obtain ⟨b1,b2,b3,b4⟩:=yb (more:=more) hn g (by omega) m1 j;have le:cs G n j+1<=Sj G n l more j:=by unfold Sj;split<;>omega
 generalize cs G n j=c at*;generalize Sj G n l more j=S at*;have s0:(0:Rat)<(S:Rat):=by exact_mod_cast (show (0:Int)<S by omega)
 have h1:(c:Rat)+1<=(S:Rat):=by exact_mod_cast le
 have h2:(S:Rat)<=128:=by exact_mod_cast (show S<=128 by omega)
 have i0:=Rat.inv_pos.mpr s0;have e1:(c:Rat)/ S=1-((S:Rat) - c)*(S:Rat)⁻¹:=by grind
 rw[e1];have h3:(1:Rat)*(S:Rat)⁻¹<=((S:Rat) - c)*(S:Rat)⁻¹:=Rat.mul_le_mul_of_nonneg_right (by grind) (Rat.le_of_lt i0);have h4:(1/ 128:Rat)<=(S:Rat)⁻¹:=by
  have:=Rat.mul_le_mul_of_nonneg_right h2 (Rat.le_of_lt i0);rw[Rat.mul_inv_cancel _ (by grind)] at this
  grind
 grind
structure ny(n:Nat)(S:Nat->Int)(W:Nat->Nat->Int)(c:Nat->Int)(X:Nat->Rat)(d:Nat):Prop where
 d0:0<d
 d9:d<2^1100
 nn:∀j<n,0<=X j
 eq:∀i<n,X i=sJ (List.range n) (λ j=>(W i j:Rat)/(S j:Rat)*X j)+c i
 ii:∀j<n,nG ((d:Int)*(X j/(S j:Rat)))
 dd:∀j<n,(X j).den∣d
 nm:∀j<n,(X j).num.natAbs<2^1400
def R7{n:Nat}(hn:n<=7){b:Nat->Rat}{M:Rat}(hM:0<=M)(h:∀i<n,b i<=M):sJ (List.range n) b<=7*M:=by
 have:∀m,m<=n->sJ (List.range m) b<=m*M:=λ m=>by
  induction m with
  |zero=>intro _;simp[sJ]
  |succ m ih=>
   intro hm;rw[List.range_succ,gk];have h1:=ih (by omega);have h2:=h m (by omega);simp only[sJ];have e:((m+1:Nat):Rat)=(m:Rat)+1:=by simp
   rw[e];grind
 have h1:=this n (Nat.le_refl _);have h2:(n:Rat)*M<=7*M:=Rat.mul_le_mul_of_nonneg_right (by exact_mod_cast hn) hM
 grind
def Hj{n:Nat}{l:List Nat}{zs:List Int}{G:List (List Int)}{more:Int}(hn:n<=7)(g:Gd n l (λ _=>7) G)(m0:1<=more)(m1:more<=40)(hl:∀j∈l,j<n)(p:∀j∈l,∃i∈l,1<=gv G i j):
  ∃X d,ny n (Sj G n l more) (gv G) (nF zs) X d:=by
 have F:=Cj (zs:=zs) hn g m0 m1 hl p;obtain ⟨X,hX⟩:=AO (n:=n) (A:=oB G n l more) (b:=λ i=>(nF zs i:Rat)) λ X h=>F.only h;have sp:∀j,1<=Sj G n l more j:=λ j=>Ae hn g (by omega) m1 hl p;have sr:∀j,(Sj G n l more j:Rat)≠0:=λ j=>by have:=sp j;exact_mod_cast (show Sj G n l more j≠0 by omega)
 -- zP small Xz
 have Tu:∀(i:Nat),i<n->∀Y:Nat->Rat,dt (List.range n) (λ j=>((if j=i then Sj G n l more i else 0) - gv G i j:Int)) Y=Sj G n l more i*Y i- sJ (List.range n) λ j=>gv G i j*Y j:=λ i hi Y=>by
  have e1:dt (List.range n) (λ j=>((if j=i then Sj G n l more i else 0) - gv G i j:Int)) Y=1*sJ (List.range n) (λ j=>(if j=i then (Sj G n l more i:Rat) else 0)*Y j) - 1*sJ (List.range n) λ j=>gv G i j*Y j:=by
   unfold dt;rw[<-jw];refine bw λ j _=>?_;show (((if j=i then Sj G n l more i else 0) - gv G i j:Int):Rat)*Y j=_;rw[Rat.intCast_sub];by_cases q:j=i
   ·simp only[q,if_true];grind
   ·simp only[q,if_false];simp;grind
  have e2:sJ (List.range n) (λ j=>(if j=i then (Sj G n l more i:Rat) else 0)*Y j)=Sj G n l more i*Y i:=by rw[gy _ (List.mem_range.mpr hi),cZ (J:=(List.range n).erase i) λ j hj=>by rw[if_neg λ z=>((List.Nodup.mem_erase_iff List.nodup_range).mp hj).1 z];grind];rw[if_pos rfl];grind
  rw[e1,e2];grind
 obtain ⟨d,dn,dl,hd⟩:=CC n 128 ((List.range n).map λ i j=>(if j=i then Sj G n l more i else 0) - gv G i j) (List.range n) (by simp) (by simp) List.nodup_range (λ e he j _=>by
   obtain ⟨i,_,rfl⟩:=List.mem_map.mp he;have h1:=g.lo i j;have h2:=g.hi i j;obtain ⟨_,_,b3,b4⟩:=yb (more:=more) hn g (by omega) m1 i;show (((if j=i then Sj G n l more i else 0) - gv G i j:Int)).natAbs<=128;split<;>omega) (λ Y hY j hj=>by
   have:=F.only (X:=λ j=>Sj G n l more j*Y j) (λ i hi=>by
    have q:=hY _ (List.mem_map.mpr ⟨i,List.mem_range.mpr hi,rfl⟩);rw[Tu i hi Y] at q;have e:sJ (List.range n) (λ j=>oB G n l more i j*(Sj G n l more j*Y j))=sJ (List.range n) λ j=>gv G i j*Y j:=bw λ j _=>by
     unfold oB;have:=sr j
     grind
    rw[e];grind) j (List.mem_range.mp hj)
   have s:=sr j;rcases Rat.mul_eq_zero.mp this with z|z
   ·exact absurd z s
   ·exact z)
 have iy:=hd (λ j=>X j/(Sj G n l more j:Rat)) λ e he=>by
  obtain ⟨i,hi,rfl⟩:=List.mem_map.mp he;have hi:=List.mem_range.mp hi;refine ⟨nF zs i,?_⟩;rw[Tu i hi];have e:sJ (List.range n) (λ j=>gv G i j*(X j/(Sj G n l more j:Rat)))=sJ (List.range n) λ j=>oB G n l more i j*X j:=bw λ j _=>by unfold oB;grind
  have h:=hX i hi;have s:=sr i;rw[e];have:(Sj G n l more i:Rat)*(X i/(Sj G n l more i:Rat))=X i:=by grind
  rw[this]
  grind
 have ab:∃m:Nat,(m:Int)=d\/(m:Int)= -d:=⟨d.natAbs,by omega⟩;obtain ⟨m,hm⟩:=ab;have mi:∀q:Rat,nG (d*q)->nG (((m:Nat):Int)*q):=λ q ⟨z,hz⟩=>by
  rcases hm with h|h
  ·exact ⟨z,by rw[h];exact hz⟩
  ·exact ⟨-z,by rw[h,Rat.intCast_neg,Rat.intCast_neg, <-hz];grind⟩
 have dd:∀j<n,(X j).den∣m:=λ j hj=>by
  obtain ⟨z,hz⟩:=mi _ (iy j (List.mem_range.mpr hj));have:nG (((m:Nat):Int)*X j):=⟨Sj G n l more j*z,by
   rw[Rat.intCast_mul, <-hz];have:=sr j
   grind⟩
  have:=Int.natAbs_dvd_natAbs.mpr (pL this);simpa using this
 have m9:m<2^1100:=Nat.lt_of_le_of_lt (show m<=bd n 128 by omega) (bd7 hn);refine ⟨X,m,by omega,m9,F.nn hX,hX,λ j hj=>mi _ (iy j (List.mem_range.mpr hj)),dd,λ j hj=>?_⟩;have x1:=F.le hX j hj;have x0:=F.nn hX j hj;have ct:∀i,0<=nF zs i/\(nF zs i).natAbs<2^200:=Cw zs;obtain ⟨P,hP⟩:∃P:Nat,2^200=P:=⟨_,rfl⟩;rw[hP] at ct;have sb:=R7 (b:=λ i=>(nF zs i:Rat)) (M:=(P:Rat)) hn (by exact_mod_cast Nat.zero_le _) λ i _=>by
  have:=ct i;have:nF zs i<=(P:Int):=by omega
  exact_mod_cast this
 have xl:X j<=((896*P:Nat):Rat):=by
  have:((896*P:Nat):Rat)=896*(P:Rat):=by rw[Rat.natCast_mul];rfl
  rw[this];grind
 have de:(X j).den<=m:=Nat.le_of_dvd (by omega) (dd j hj);have nm:(X j).num<=((896*P:Nat):Int)*((X j).den:Int):=by
  have e:=gU (X j);have dp:(0:Rat)<=((X j).den:Rat):=by exact_mod_cast Nat.zero_le _
  have:=Rat.mul_le_mul_of_nonneg_right xl dp;rw[e] at this
  exact_mod_cast this
 have n0:0<=(X j).num:=Rat.num_nonneg.mpr x0;have n1:(X j).num.natAbs<=896*P*(X j).den:=by
  have:((X j).num.natAbs:Int)<=((896*P*(X j).den:Nat):Int):=by rw[Int.natAbs_of_nonneg n0,Int.natCast_mul];exact nm
  exact_mod_cast this
 refine Nat.lt_of_le_of_lt n1 (Nat.lt_of_le_of_lt (Nat.mul_le_mul_left _ de) ?_);have p0:0<P:=by rw[<-hP];exact Nat.pow_pos (by decide)
 refine Nat.lt_of_lt_of_le (Nat.mul_lt_mul_of_pos_left m9 (Nat.mul_pos (by decide) p0)) ?_;rw[show (2:Nat)^1400=2^300*2^1100 by rw[<-Nat.pow_add]];refine Nat.mul_le_mul_right _ ?_;rw[<-hP];decide
def Pj{n d:Nat}{l:List Nat}{zs:List Int}{G:List (List Int)}{more:Int}{X:Nat->Rat}(hn:n<=7)(g:Gd n l (λ _=>7) G)(m0:1<=more)(m1:more<=40)(hl:∀j∈l,j<n)(p:∀j∈l,∃i∈l,1<=gv G i j)(S:ny n (Sj G n l more) (gv G) (nF zs) X d):
  cK [.val (.lst (((List.range n).map (ji zs G n l more)).map rD))]= .new (.l ((List.range n).map λ j=>rq (X j))):=by
 have F:=Cj (zs:=zs) hn g m0 m1 hl p;rcases pV (n:=n) S.d0 S.d9 hn (R:=(List.range n).map (ji zs G n l more)) (by simp) (λ r hr=>by obtain ⟨i,hi,rfl⟩:=List.mem_map.mp hr;exact Fl hn g (by omega) (by omega) hl p (List.mem_range.mp hi)) with ⟨_,Y,⟨j,hj,y0⟩,hY⟩|⟨_,fs,_,h⟩
 ·exfalso;refine y0 (F.only (X:=Y) (λ i hi=>?_) j hj);have:=hY i (ji zs G n l more i) (by simp[hi]);rw[uB g] at this
  grind
 ·refine h X (λ i r hr=>?_) λ j hj=>⟨S.dd j hj,S.nm j hj⟩;obtain ⟨hi,rfl⟩:=BD hr;rw[uB g];have:=S.eq i hi;show X i- sJ (List.range n) (λ j=>oB G n l more i j*X j)=(nF zs i:Rat);have e:sJ (List.range n) (λ j=>(gv G i j:Rat)/(Sj G n l more j:Rat)*X j)=sJ (List.range n) λ j=>oB G n l more i j*X j:=rfl;rw[e] at this
  grind
def DA{R:D}(h:cK [.val R]= .err "Loose"):fK [.val R]= .ok (.bl true):=by
 have hh:tG mt "BeamError" "Loose"=some true:=by decide
 have i1:pA mt ["Loose"] (.exc "Loose")= .ok (.bl true):=by rfl
 have i2:pA mt ["ValueError"] (.exc "Loose")= .ok (.bl true):=by rfl
 have i3:pA mt ["Ring","Crossed"] (.exc "Loose")= .ok (.bl false):=by rfl
 simp[fK,jM,di,h,Gf _ _ _ _ _ hh,i1,i2,i3]
structure O1(d:Nat)(r:Rat):Prop where
 nn:0<=r
 ii:nG ((d:Int)*r)
 le:r<=((2^1400:Nat):Rat)
theorem O1.den{d:Nat}{r:Rat}(h:O1 d r)(d0:0<d):r.den<=d:=by have:=Int.natAbs_dvd_natAbs.mpr (pL h.ii);simp only[Int.natAbs_natCast] at this;exact Nat.le_of_dvd d0 this
theorem O1.num{d:Nat}{r:Rat}(h:O1 d r)(d0:0<d)(d9:d<2^1100):0<=r.num/\r.num.natAbs<2^2500:=by
 have n0:0<=r.num:=Rat.num_nonneg.mpr h.nn;refine ⟨n0,?_⟩;have le:=h.le;have de:=h.den d0;obtain ⟨P,hP⟩:∃P:Nat,2^1400=P:=⟨_,rfl⟩;rw[hP] at le;have nm:r.num<=(P:Int)*(r.den:Int):=by
  have e:=gU r;have dp:(0:Rat)<=(r.den:Rat):=by exact_mod_cast Nat.zero_le _
  have:=Rat.mul_le_mul_of_nonneg_right le dp;rw[e] at this
  exact_mod_cast this
 have n1:r.num.natAbs<=P*r.den:=by
  have:(r.num.natAbs:Int)<=((P*r.den:Nat):Int):=by rw[Int.natAbs_of_nonneg n0,Int.natCast_mul];exact nm
  exact_mod_cast this
 have p0:0<P:=by rw[<-hP];exact Nat.pow_pos (by decide)
 refine Nat.lt_of_le_of_lt (Nat.le_trans n1 (Nat.mul_le_mul_left _ de)) (Nat.lt_of_lt_of_le (Nat.mul_lt_mul_of_pos_left d9 p0) ?_);rw[<-hP, <-Nat.pow_add];exact Nat.le_refl _
def NV{d:Nat}{v q:Rat}(d0:0<d)(d9:d<2^1100)(hv:O1 d v)(hq:O1 d q):nB [.val (rq v),.val (rq q)]= .ok (rq (v+q)):=by
 obtain ⟨v0,v1⟩:=hv.num d0 d9;obtain ⟨q0,q1⟩:=hq.num d0 d9;have vd:=hv.den d0;have qd:=hq.den d0;have dl:∀m:Nat,m<=d->((m:Nat):Int).natAbs<2^2500:=λ m hm=>by rw[Int.natAbs_natCast];exact Nat.lt_of_le_of_lt hm (bA d9 (by decide))
 have up:∀{x:Int},x.natAbs<2^2500->x.natAbs<2^100000:=λ h=>bA h (by decide);have m1:=eV (up v1) (up (dl _ qd));have m2:=eV (up q1) (up (dl _ vd));have m3:=eV (up (dl _ vd)) (up (dl _ qd));have vp:=v.den_pos;have qp:=q.den_pos;have ad:eE (.int (v.num*q.den)) (.int (q.num*v.den))= .ok (.int (v.num*q.den+q.num*v.den)):=by simp[eE]
 have b1:1<=(v.den:Int)*(q.den:Int):=by have:0<(v.den:Int)*(q.den:Int):=Int.mul_pos (by omega) (by omega);omega
 have lw:=GI (a:=v.num*q.den+q.num*v.den) (b:=(v.den:Int)*(q.den:Int)) (by
  have h1:=Int.mul_nonneg v0 (show 0<=(q.den:Int) by omega);have h2:=Int.mul_nonneg q0 (show 0<=(v.den:Int) by omega);omega) b1 (by
  rw[Int.natAbs_mul];exact bA (lN (dl _ vd) (dl _ qd)) (by decide))
 have e:=PZ v q;rw[vc _ _ (by omega)] at e;have e2:=BQ e;rw[e2] at lw;have i0:=(lW.tup v).i0;have i1:=(lW.tup v).i1;have j0:=(lW.tup q).i0;have j1:=(lW.tup q).i1;clear dl up e e2;generalize rq (v+q)=VQ at*;generalize rq v=V at*;generalize rq q=Q at*;generalize v.num*q.den=a1 at*;generalize q.num*v.den=a2 at*;generalize (v.den:Int)*(q.den:Int)=a3 at*;simp[nB,rB,di,i0,i1,j0,j1,m1,m2,m3,ad,lw]
def NS{s x:Rat}(s0:Le s)(x0:0<=x)(xn:x.num.natAbs<2^2500)(xd:x.den<2^1100):dR (.int s.num) (.int x.num)= .ok (.int (s.num*x.num))/\dR (.int s.den) (.int x.den)= .ok (.int ((s.den:Int)*x.den))/\dI [.val (.int (s.num*x.num)),.val (.int ((s.den:Int)*x.den))]= .ok (rq (s*x)):=by
 have s7:=s0.s7;have sn:s.num.natAbs<2^10:=Nat.lt_of_le_of_lt s7.n (by decide);have sd:(s.den:Int).natAbs<2^10:=by rw[Int.natAbs_natCast];exact Nat.lt_of_le_of_lt s7.d (by decide)
 have YN:(x.den:Int).natAbs<2^1100:=by rw[Int.natAbs_natCast];exact xd
 have sp:=s.den_pos;have xp:=x.den_pos;have b1:1<=(s.den:Int)*(x.den:Int):=by have:0<(s.den:Int)*(x.den:Int):=Int.mul_pos (by omega) (by omega);omega
 refine ⟨eV (bA sn (by decide)) (bA xn (by decide)),eV (bA sd (by decide)) (bA YN (by decide)),?_⟩;have lw:=GI (a:=s.num*x.num) (b:=(s.den:Int)*(x.den:Int)) (Int.mul_nonneg (Rat.num_nonneg.mpr s0.lo) (Rat.num_nonneg.mpr x0)) b1 (by rw[Int.natAbs_mul];exact bA (lN sd YN) (by decide));have e:=OF s x;rw[vc _ _ (by omega)] at e;rw[BQ e] at lw;exact lw
noncomputable def o7(X:Nat->Rat):List (Nat×Rat)->Rat
 |[]=>0
 |t::T=>t.2*X t.1+o7 X T
theorem Bo{X:Nat->Rat}:∀{T:List (Nat×Rat)},(∀t∈T,0<=t.2*X t.1)->0<=o7 X T
 |[],_=>by simp only[o7];grind
 |t::T,h=>by have h1:=h t (by simp);have h2:=Bo (T:=T) λ u hu=>h u (by simp[hu]);simp only[o7];grind
def tK(n:Nat)(X:Nat->Rat):D:= .lst ((List.range n).map λ j=>rq (X j))
def L0{n j:Nat}{X:Nat->Rat}(h:j<n):bD (tK n X) (.int j)= .ok (rq (X j)):=jF (by simp[h])
def Yn{n j d:Nat}{X:Nat->Rat}{s v:Rat}{s0 s2:Slot}(d0:0<d)(d9:d<2^1100)(hj:j<n)(hs:Le s)(x0:0<=X j)(xn:(X j).num.natAbs<2^1400)(xd:(X j).den∣d)(hv:O1 d v)(hq:O1 d (s*X j)):
  dG 0 [s0,.val (tK n X),s2,.val (rq v),.val (.int j),.val (rq s)]= .nx [s0,.val (tK n X),s2,.val (rq (v+s*X j)),.val (.int j),.val (rq s)]:=by
 obtain ⟨p1,p2,p3⟩:=NS hs x0 (bA xn (by decide)) (Nat.lt_of_le_of_lt (Nat.le_of_dvd d0 xd) d9);have pl:=NV d0 d9 hv hq;have ix:=L0 (X:=X) hj;have i0:=(lW.tup s).i0;have i1:=(lW.tup s).i1;have j0:=(lW.tup (X j)).i0;have j1:=(lW.tup (X j)).i1;clear hv hq xn xd d9;generalize tK n X=FD at*;generalize rq (v+s*X j)=R1 at*;generalize rq (s*X j)=R2 at*;generalize rq v=R3 at*;generalize rq s=R4 at*;generalize rq (X j)=R5 at*;generalize s.num*(X j).num=a1 at*;generalize (s.den:Int)*((X j).den:Int)=a2 at*;simp[dG,ix,i0,i1,j0,j1,p1,p2,p3,pl]
def nG.add{d:Int}{x y:Rat}(hx:nG (d*x))(hy:nG (d*y)):nG (d*(x+y)):=by obtain ⟨a,ha⟩:=hx;obtain ⟨b,hb⟩:=hy;exact ⟨a+b,by rw[Rat.intCast_add, <-ha, <-hb];grind⟩
theorem Cm{n d:Nat}{X:Nat->Rat}{s0 s2:Slot}(d0:0<d)(d9:d<2^1100)(hX:∀j<n,0<=X j/\(X j).num.natAbs<2^1400/\(X j).den∣d):∀(T:List (Nat×Rat)) (v:Rat) (s4 s5:Slot),(∀t∈T,t.1<n/\Le t.2/\nG ((d:Int)*(t.2*X t.1)))->0<=v->nG ((d:Int)*v)->v+o7 X T<=((2^1400:Nat):Rat)->∃t4 t5,cS (dU 2 (aZ (aG 4) (aZ (aG 5) eN))) (dG 0) (T.map tD) [s0,.val (tK n X),s2,.val (rq v),s4,s5]= .nx [s0,.val (tK n X),s2,.val (rq (v+o7 X T)),t4,t5]
 |[],v,s4,s5,_,_,_,_=>⟨s4,s5,by simp only[o7,Rat.add_zero];rfl⟩
 |t::T,v,s4,s5,h,v0,vi,le=>by obtain ⟨h1,h2,h3⟩:=h t (by simp);obtain ⟨x0,x1,x2⟩:=hX _ h1;have q0:0<=t.2*X t.1:=Rat.mul_nonneg h2.lo x0;have r0:0<=o7 X T:=Bo λ u hu=>Rat.mul_nonneg (h u (by simp[hu])).2.1.lo (hX _ (h u (by simp[hu])).1).1;simp only[o7] at le;have st:=Yn (s0:=s0) (s2:=s2) d0 d9 h1 h2 x0 x1 x2 ⟨v0,vi,by grind⟩ ⟨q0,h3,by grind⟩;obtain ⟨t4,t5,e⟩:=Cm (s0:=s0) (s2:=s2) d0 d9 hX T (v+t.2*X t.1) (.val (.int t.1)) (.val (rq t.2)) (λ u hu=>h u (by simp[hu])) (by grind) (nG.add vi h3) (by grind);refine ⟨t4,t5,?_⟩;rw[List.map_cons,fP (Γ1:=[s0,.val (tK n X),s2,.val (rq v),.val (.int t.1),.val (rq t.2)]) rfl st,e];simp only[o7];rw[Rat.add_assoc]
theorem xW{n:Nat}{l:List Nat}{G:List (List Int)}{more:Int}{X:Nat->Rat}(g:Gd n l (λ _=>7) G)(i:Nat):∀js:List Nat,o7 X (o8 G n l more i js)=sJ js λ j=>oB G n l more i j*X j
 |[]=>rfl
 |k::js=>by
  rw[o8];simp only[sJ];rw[<-xW g i js];by_cases p:0<gv G i k
  ·rw[if_pos p];rfl
  ·rw[if_neg p,List.nil_append];have z:gv G i k=0:=by have:=g.lo i k;omega
   have:oB G n l more i k=0:=by unfold oB;rw[z];simp;grind
   rw[this];grind
def Ym{n k d:Nat}{l:List Nat}{zs:List Int}{G:List (List Int)}{more:Int}{X:Nat->Rat}{s3 s4 s5:Slot}(hn:n<=7)(g:Gd n l (λ _=>7) G)(m0:1<=more)(m1:more<=40)(hl:∀j∈l,j<n)(p:∀j∈l,∃i∈l,1<=gv G i j)(S:ny n (Sj G n l more) (gv G) (nF zs) X d)(hk:k<n):
  ∃t3 t4 t5,dF 0 [.val (.lst (((List.range n).map (ji zs G n l more)).map rD)),.val (tK n X),.val (.int k),s3,s4,s5]= .nx [.val (.lst (((List.range n).map (ji zs G n l more)).map rD)),.val (tK n X),.val (.int k),t3,t4,t5]:=by
 have VS:bD (.lst (((List.range n).map (ji zs G n l more)).map rD)) (.int k)= .ok (rD (ji zs G n l more k)):=jF (by simp[hk]);have ZA:bD (rD (ji zs G n l more k)) (.int 0)= .ok (rq (nF zs k:Rat)):=rfl;have Zz:bD (rD (ji zs G n l more k)) (.int 1)= .ok (.lst ((o8 G n l more k (List.range n)).map tD)):=rfl;have fo:=L0 (X:=X) hk;have ev:(nF zs k:Rat)+o7 X (o8 G n l more k (List.range n))=X k:=by
  rw[xW g];have:=S.eq k hk;have e:sJ (List.range n) (λ j=>(gv G k j:Rat)/(Sj G n l more j:Rat)*X j)=sJ (List.range n) λ j=>oB G n l more k j*X j:=rfl;rw[e] at this
  grind
 have xle:X k<=((2^1400:Nat):Rat):=by
  have nm:=S.nm k hk;have nn:=S.nn k hk;obtain ⟨P,hP⟩:∃P:Nat,2^1400=P:=⟨_,rfl⟩;rw[hP] at nm ⊢;have e:=gU (X k);have d1:(1:Rat)<=((X k).den:Rat):=by exact_mod_cast (X k).den_pos
  have h1:=Rat.mul_le_mul_of_nonneg_left d1 nn;rw[e] at h1;have h2:((X k).num:Rat)<=(P:Rat):=by
   have:(X k).num<=(P:Int):=by omega
   exact_mod_cast this
  grind
 obtain ⟨t4,t5,lp⟩:=Cm (n:=n) (s0:= .val (.lst (((List.range n).map (ji zs G n l more)).map rD))) (s2:= .val (.int k)) S.d0 S.d9 (λ j hj=>⟨S.nn j hj,S.nm j hj,S.dd j hj⟩) (o8 G n l more k (List.range n)) (nF zs k:Rat) s4 s5 (λ t ht=>by
   obtain ⟨j,h1,_,rfl⟩:=um ht;have hj:=List.mem_range.mp h1;refine ⟨hj,vA hn g (by omega) m1 hl p hk,?_⟩;obtain ⟨z,hz⟩:=S.ii j hj;refine ⟨gv G k j*z,?_⟩;rw[Rat.intCast_mul, <-hz];unfold oB
   grind) (by exact_mod_cast (Cw zs k).1) ⟨(d:Int)*nF zs k,by rw[Rat.intCast_mul]⟩ (by rw[ev];exact xle)
 rw[ev] at lp;have ne:qB (rq (X k)) (rq (X k))= .ok (.bl false):=by simp[rq,fq]
 refine ⟨.val (rq (X k)),t4,t5,?_⟩;clear ev xle;generalize tK n X=FD at*;generalize rq (nF zs k:Rat)=C at*;generalize rq (X k)=XK at*;generalize rD (ji zs G n l more k)=RK at*;generalize (o8 G n l more k (List.range n)).map tD=TT at*;generalize ((List.range n).map (ji zs G n l more)).map rD=RR at*;simp[dF,VS,ZA,Zz,lp,fo,ne]
theorem Ck{n d:Nat}{l:List Nat}{zs:List Int}{G:List (List Int)}{more:Int}{X:Nat->Rat}(hn:n<=7)(g:Gd n l (λ _=>7) G)(m0:1<=more)(m1:more<=40)(hl:∀j∈l,j<n)(p:∀j∈l,∃i∈l,1<=gv G i j)(S:ny n (Sj G n l more) (gv G) (nF zs) X d):∀(ks:List Nat) (s2 s3 s4 s5:Slot),(∀k∈ks,k<n)->∃t2 t3 t4 t5,cS (aG 2) (dF 0) (ks.map nI) [.val (.lst (((List.range n).map (ji zs G n l more)).map rD)),.val (tK n X),s2,s3,s4,s5]= .nx [.val (.lst (((List.range n).map (ji zs G n l more)).map rD)),.val (tK n X),t2,t3,t4,t5]
 |[],s2,s3,s4,s5,_=>⟨s2,s3,s4,s5,rfl⟩
 |k::ks,s2,s3,s4,s5,h=>by obtain ⟨t3,t4,t5,e⟩:=Ym (s3:=s3) (s4:=s4) (s5:=s5) hn g m0 m1 hl p S (h k (by simp));obtain ⟨u2,u3,u4,u5,e2⟩:=Ck hn g m0 m1 hl p S ks (.val (.int k)) t3 t4 t5 λ j hj=>h j (by simp[hj]);refine ⟨u2,u3,u4,u5,?_⟩;rw[List.map_cons,fP (Γ1:=[.val (.lst (((List.range n).map (ji zs G n l more)).map rD)),.val (tK n X),.val (.int k),s3,s4,s5]) rfl e];exact e2
def zc{n d:Nat}{l:List Nat}{zs:List Int}{G:List (List Int)}{more:Int}{X:Nat->Rat}(hn:n<=7)(g:Gd n l (λ _=>7) G)(m0:1<=more)(m1:more<=40)(hl:∀j∈l,j<n)(p:∀j∈l,∃i∈l,1<=gv G i j)(S:ny n (Sj G n l more) (gv G) (nF zs) X d):
  fB [.val (.lst (((List.range n).map (ji zs G n l more)).map rD)),.val (tK n X)]= .ok (.bl true):=by
 have rg:=eo n (by omega);rw[fH] at rg;obtain ⟨t2,t3,t4,t5,lp⟩:=Ck hn g m0 m1 hl p S (List.range n) .no .no .no .no λ k hk=>List.mem_range.mp hk;have l1:c6 [.lst (((List.range n).map (ji zs G n l more)).map rD)]= .ok (.int n):=by simp[c6]
 have l2:c6 [tK n X]= .ok (.int n):=by simp[c6,tK]
 have is:pA mt ["list"] (tK n X)= .ok (.bl true):=by rfl
 generalize tK n X=FD at*;generalize ((List.range n).map (ji zs G n l more)).map rD=RR at*;generalize (List.range n).map nI=N at*;simp[fB,iz,di,is,l1,l2,rg,lp]
theorem Pr{α:Type}(f:α->D)(h:∀a,(py (f a)).eqv (py (f a))=true):∀l:List α,PyData.eqvAll (sQ (l.map f)) (sQ (l.map f))=true
 |[]=>rfl
 |a::l=>by simp[sQ,PyData.eqvAll,h a,Pr f h l]
def SV{α:Type}(f:α->D)(n:Nat)(h:∀a,cQ n (f a)=true)(l:List α):(l.map f).all (cQ n)=true:=by simp[List.all_map,h]
def Pu(t:Nat×Rat):(py (tD t)).eqv (py (tD t))=true:=by simp[tD,rq,fq,py,sQ,PyData.eqv,PyData.eqvAll]
def Pw(r:Row):(py (rD r)).eqv (py (rD r))=true:=by have:=Pr tD Pu r.2;simp[rD,rq,fq,py,sQ,PyData.eqv,PyData.eqvAll,this]
def Ol(t:Nat×Rat)(n:Nat):cQ (n+2) (tD t)=true:=by simp[tD,rq,fq,cQ]
def Om(r:Row):cQ 11 (rD r)=true:=by have:=SV tD 9 (λ t=>Ol t 7) r.2;simp only[rD,cQ,List.all_cons,List.all_nil,this];simp[rq,fq,cQ]
def Nu(R:List Row):qB (.lst (R.map rD)) (.lst (R.map rD))= .ok (.bl false):=by have o:=SV rD 11 Om R;have e:=Pr rD Pw R;rw[qB,if_pos ⟨by simpa[cQ] using o,by simpa[cQ] using o⟩];simp[IB,py,PyData.eqv,e]
theorem zz{α:Type}{el:D->Res (Option D)}(f:α->D):∀{l:List α},(∀a∈l,el (f a)= .ok (some (f a)))->bW el (l.map f)= .ok (l.map f)
 |[],_=>rfl
 |a::l,h=>by have:=zz (el:=el) f (l:=l) λ y hy=>h y (by simp[hy]);simp only[List.map_cons,bW,h a (by simp),this,Res.bnd]
def Ad:cK [.val (.lst [])]= .new (.l []):=by
 rcases pV (n:=0) (d:=1) (by decide) (by decide) (by decide) (R:=[]) rfl (by simp) with ⟨_,X,⟨j,hj,_⟩,_⟩|⟨_,fs,_,h⟩
 ·omega
 ·exact h (λ _=>0) (λ i r hr=>by simp at hr) λ j hj=>by omega
def GP(ns:List Int)(hz:ns.length<=63):nA [.val (.lst (ns.map D.int))]= .ok (.bl true):=by
 have c0:bu [.val (iL ns),.val (.int 0)]= .ok (.int (ns.getD 0 0)):=q8 ns 0;have c1:bu [.val (iL ns),.val (.int 1)]= .ok (.int (ns.getD 1 0)):=q8 ns 1;have md:fF (.int (ns.getD 0 0)) (.int 7)= .ok (.int ((ns.getD 0 0).fmod 7)):=cJ _ _ (by decide);obtain ⟨a1,a2⟩:=fm (ns.getD 0 0) 7 (by decide);obtain ⟨a,ha⟩:=Int.eq_ofNat_of_zero_le a1;rw[ha] at md a2;obtain ⟨n,hn0⟩:∃n:Nat,n=a+1:=⟨_,rfl⟩;have h0:0<n:=by omega
 have hn:n<=7:=by omega
 have ad:eE (.int 1) (.int a)= .ok (.int n):=by
  have:(1:Int)+a=n:=by omega
  simp[eE,this]
 have dv:=c8 (ns.getD 0 0) (g:=7) (by decide) (by decide);obtain ⟨l,ir,nd,ne,hl⟩:=NC h0 hn ((ns.getD 0 0).fdiv 7);have rd:=ir.d;obtain ⟨G,hG,g,p⟩:=Dm (zs:=ns) hz h0 hn nd hl;have r0:=Fj (more:=0) hn g hG (by omega) (by omega);have lo:=J4 (zs:=ns) hn g nd ne hl p;have rf:=DA lo;have dv2:=c8 (ns.getD 1 0) (g:=2) (by decide) (by decide);have Xy:fF (.int ((ns.getD 1 0).fdiv 2)) (.int 40)= .ok (.int (((ns.getD 1 0).fdiv 2).fmod 40)):=cJ _ _ (by decide);obtain ⟨e1,e2⟩:=fm ((ns.getD 1 0).fdiv 2) 40 (by decide);generalize ((ns.getD 1 0).fdiv 2).fmod 40=m at*;have Rp:eE (.int 1) (.int m)= .ok (.int (1+m)):=by simp[eE]
 have r1:=Fj (more:=1+m) hn g hG (by omega) (by omega);obtain ⟨X,d,S⟩:=Hj (zs:=ns) (more:=1+m) hn g (by omega) (by omega) hl p;have fs:=Pj hn g (by omega) (by omega) hl p S;have ff:=zc hn g (by omega) (by omega) hl p S;have sm:=Nu ((List.range n).map (ji ns G n l 0));have cm:=zz (el:=jJ (dU 2 (aZ (aG 0) (aZ (aG 1) eN))) gh (su (ay (aj 0) (ay (kX (VR yL (ay (aj 1) aL))) aL))) [.no,.no]) rD (l:=(List.range n).map (ji ns G n l 0)) λ r _=>by have e:rD r= .tup [rq (r.1:Rat),.lst (r.2.map tD)]:=rfl;rw[e];generalize rq (r.1:Rat)=C;generalize r.2.map tD=T;simp[jJ,yL,pW]
 have cl:(((List.range n).map (ji ns G n l 0)).map rD).length<1000000:=by simp;omega
 have z0:uX (.l (((List.range n).map (ji ns G n l 0)).map rD))= .ok (.lst (((List.range n).map (ji ns G n l 0)).map rD)):=rfl;have z1:uX (.l (((List.range n).map (ji ns G n l (1+m))).map rD))= .ok (.lst (((List.range n).map (ji ns G n l (1+m))).map rD)):=rfl;have z2:uX (.l ((List.range n).map λ j=>rq (X j)))= .ok (tK n X):=rfl;have z3:uX (.l [])= .ok (.lst []):=rfl;have sn:=Ad;have en:tM (.lst []) (.lst [])= .ok (.bl true):=rfl;show nA [.val (iL ns)]=_;clear hG g lo S ir nd ne hl p a1 a2 ha hn0 e1 e2;generalize ((List.range n).map (ji ns G n l 0)).map rD=R0 at*;generalize ((List.range n).map (ji ns G n l (1+m))).map rD=R1 at*;generalize ((List.range n).map λ j=>rq (X j))=R2 at*;generalize tK n X=FD at*;generalize l.map nI=LL at*;generalize (ns.getD 0 0).fdiv 7=q1 at*;generalize (ns.getD 1 0).fdiv 2=q2 at*;generalize ns.getD 0 0=q3 at*;generalize ns.getD 1 0=q4 at*;generalize 1+m=m1 at*;generalize iL ns=Z at*;simp[nA,HP,di,c0,c1,md,ad,dv,rd,r0,z0,cl,gO,cm,rf,sm,dv2,Xy,Rp,r1,z1,fs,z2,ff,sn,z3,en]
end U9
end
section
namespace U9
open PySem PySem.Spec PyProof.Rows L2 L4
def top(i:Nat):Stmt:=PySem.Challenge.pw_beamtable_k29_loose.main.body.getD i (.Pass ⟨0,0,0,0⟩)
abbrev oJ:Stmt:=top 23
abbrev yh:Stmt:=top 26
abbrev oG:Stmt:=top 27
abbrev Bw:Stmt:=top 24
abbrev yg:Stmt:=top 28
abbrev gu:Stmt:=top 9
abbrev pZ:Stmt:=top 10
abbrev Bv:Stmt:=top 11
abbrev iE:Stmt:=top 13
abbrev kK:Stmt:=top 14
abbrev kH:Stmt:=top 17
abbrev kI:Stmt:=top 18
abbrev yf:Stmt:=top 15
abbrev sP:Stmt:=top 16
abbrev pY:Stmt:=top 19
abbrev pX:Stmt:=top 20
abbrev ye:Stmt:=top 21
abbrev oH:Stmt:=top 29
abbrev yi:Stmt:=top 25
abbrev kJ:Stmt:=top 30
abbrev Lx:Stmt:=top 31
set_option genInjectivity false in
structure Td(K:W.Frag)(mg:Str->Option Value) where
 lZ:Fx K mg "_law_cell_at" oJ oR
 xD:Fx K mg "_law_ring" yh yx
 lX:Fx K mg "_law_weights" oG oO
 ou:Fx K mg "_law_low" Bw uJ
 xC:Fx K mg "_law_rows" yg yw
 eG:Fx K mg "greatest_divisor" gu dQ
 oA:Fx K mg "fraction" pZ qm
 oq:Fx K mg "minus" Bv BL
 fR:Fx K mg "least_multiple" iE iH
 jg:Fx K mg "equation_of" kK kR
 ja:Fx K mg "times_named" kH kO
 gi:Fx K mg "least_named" kI kP
 kj:Fx K mg "lowest" yf yu
 rJ:Fx K mg "without" sP sU
 ki:Fx K mg "unfolded" pY lJ
 om:Fx K mg "value_of" pX qj
 xB:Fx K mg "solved" ye yt
 lY:Fx K mg "_law_refused" oH oQ
 xE:Fx K mg "_law_plus" yi yy
 je:Fx K mg "_law_fulfilled" kJ kQ
 Qh:Fx K mg "law" Lx LF
 U3:Gu K mg "ONE" (.gt [.int 1,.int 1])
 ML:Gu K mg "ZERO" (.gt [.int 0,.int 1])
 rH:Gc mg "BeamError"
 zL:Gc mg "NoFraction"
 A6:Gc mg "Loose"
 zM:Gc mg "Crossed"
 MN:Gc mg "Ring"
 jP:Tp K gi.y.fd
 o6:Tp K ki.y.fd
set_option genInjectivity false in
structure Ty(K:W.Frag)(mg:Str->Option Value)(cb:Cb)(D:Td K mg):Prop where
 iM:mg "ValueError"=none
 Ba:mg "abs"=none
 jo:mg "enumerate"=none
 cX:mg "isinstance"=none
 gP:mg "len"=none
 tW:mg "list"=none
 A9:mg "min"=none
 dD:mg "range"=none
 k6:mg "reversed"=none
 pP:mg "sorted"=none
 EF:mg "sum"=none
 ED:mg "zip"=none
 bm:Vh K mg
 gZ:cb.xt D.jP.a=some (.Ei ⟨69,28,69,70⟩ "least_named.<locals>.<lambda>")
 lE:cb.xt D.o6.a=some (.Ei ⟨74,32,74,67⟩ "unfolded.<locals>.<lambda>")
 ft:YK cb Yh
 iO:XC K mg cb "NoFraction" "NoFraction" D.zL.a
 tX:XC K mg cb "Loose" "Loose" D.A6.a
 yW:Vd K cb (.ref D.rH.a) (tG mt "BeamError")
 xt:Rq K cb mt
 O2:EC K cb mt (.ref D.MN.a) "Ring"
 D7:EC K cb mt (.ref D.zM.a) "Crossed"
 uU:EC K cb mt (.type "ValueError") "ValueError"
 Kr:EC K cb mt (.ref D.A6.a) "Loose"
 O0:EC K cb mt (.type "list") "list"
set_option genInjectivity false in
structure Tx(K:W.Frag)(mg:Str->Option Value)(cb:Cb) extends Td K mg where
 p:Ty K mg cb toTd
section
variable{P:Program}{w:World}{K:W.Frag}{mg:Str->Option Value}{cb:Cb}{base:Heap}
def c5(M:Tx K mg cb):jn P w K mg base cb 1 M.lZ.y.a M.lZ.y.fd oR bu:=by
 refine tZ gY M.lZ.y.f (λ as _ _=>⟨0,rfl⟩) (λ c cdv A outer s H E hcb hr g n=>?_);subst hcb;exact (aq (cG (ER (aa 1) (fO M.p.gP (ai (aa 0) aA))) (aF (bB (aU (aa 0) (aa 1)))) bM)
  (aF (bB aE)))
def DL(M:Tx K mg cb):jn P w K mg base cb 1 M.xD.y.a M.xD.y.fd yx gH:=by
 refine tZ ni M.xD.y.f (λ as _ _=>⟨0,rfl⟩) (λ c cdv A outer s H E hcb hr g n=>?_);subst hcb;have hu:=hr.units;exact (aq (jr 2 (k:=1) (caps:=[0]) (N':=["_law_k","_law_cell"]) g.nd rfl (d8 M.p.dD (ai (aa 1) aA)) ⟨rfl,by decide+kernel,rfl,by decide+kernel,rfl,(rj (bR (m6 rfl) eY))⟩ (by decide+kernel) (λ C s₀ H₀ ex=>(aR 0 (by decide+kernel:(["_law_k","_law_cell"]:List Str).Nodup))) (λ C s₀ H₀ ex=>(tY (lu hu (Dr (MV (aa 1) (aa 0)) aE) aE))) (λ C s₀ H₀ ex=>(aa 0)) (cH (by decide)))
  (aq (cG (lu hu (aa 2) (bH (fM aA))) (aF (jt (λ B=>(dZ (fM (ai (fN (bV (aa 0) aE) (aa 1)) aA)))))) bM)
  (aF (bB (aa 2)))))
def uM(M:Tx K mg cb):jn P w K mg base cb 2 M.lX.y.a M.lX.y.fd oO fJ:=by
 refine tZ jL M.lX.y.f (λ as _ _=>⟨0,rfl⟩) (λ c cdv A outer s H E hcb hr g n=>?_);subst hcb;exact (aq (Dp (tm:=false) 3 (k:=1) (caps:=[1]) (N':=["_law_k","_law_many"]) g.nd rfl (λ B=>(d8 M.p.dD (ai (aa 1) aA))) ⟨rfl,by decide+kernel,rfl,by decide+kernel,rfl,(rj (bR (m6 rfl) eY))⟩ (by decide+kernel) (λ B C s₀ H₀ ex=>(aR 0 (by decide+kernel:(["_law_k","_law_many"]:List Str).Nodup))) (λ B C s₀ H₀ ex=>fW) (λ B C s₀ H₀ ex=>(dZ (EK (bH (fM (ai aE aA))) (aa 1)))) (cH (by decide)))
  (aq (cU g (EM M.p.dD (ai aE (ai (IW rfl M.p.A9 (ai (fO M.p.gP (ai (aa 0) aA)) (ai aE aA))) aA))) (aR 4 g.nd) (aq (aP 5 g.nd (fN (bV (nJ (aa 4) aE) (aa 1)) (aa 1)))
  (aq (aP 6 g.nd (fN (nJ (aa 4) aE) (aa 1)))
  (aF (cG (EO (ue (sI (aa 6) (aa 2)) (uc (MT (aa 5) (aa 2))))) (aF (jT (λ B=>(Lq (gQ 3) (aa 5))) (λ B=>(aa 6)) (λ B=>(fN (bV (aU (aa 0) (aa 4)) aE) aE)))) bM)))))
  (aq (cU g (d8 M.p.dD (ai (fO M.p.gP (ai (aa 2) aA)) aA)) (aR 7 g.nd) (aq (aP 5 g.nd (aU (aa 2) (fN (iR (iR (aa 7) aE) (fN (bV (bq (c5 M) hr (ai (aa 0) (ai aE aA))) aE) (fO M.p.gP (ai (aa 2) aA)))) (fO M.p.gP (ai (aa 2) aA)))))
  (aF (jT (λ B=>(Lq (gQ 3) (aa 5))) (λ B=>(aU (aa 2) (aa 7))) (λ B=>(iR (aU (aU (Bc 3) (aa 5)) (aU (aa 2) (aa 7))) aE))))))
  (aF (pQ 3)))))
def qu(M:Tx K mg cb):jn P w K mg base cb 1 M.ou.y.a M.ou.y.fd uJ dI:=by
 refine tZ vt M.ou.y.f Kz (λ c cdv A outer s H E hcb hr g n=>?_);subst hcb;have hu:=hr.units;exact (aq (aP 2 g.nd (aa 0))
  (aq (aP 3 g.nd (aa 1))
  (aq (lz n g (iQ hu (aa 3) aE) (aF (IT 2 3 g.calm g.nd (ai (aa 3) (ai (fN (aa 2) (aa 3)) aA)))))
  (aF (bB (lC (ai (bV (aa 0) (aa 2)) (ai (bV (aa 1) (aa 2)) aA))))))))
def sV(M:Tx K mg cb):jn P w K mg base cb 3 M.xC.y.a M.xC.y.fd yw jQ:=by
 refine tZ rA M.xC.y.f (λ as _ _=>⟨0,rfl⟩) (λ c cdv A outer s H E hcb hr g n=>?_);subst hcb;exact (aq (aP 4 g.nd (bq (uM M) hr (ai (aa 0) (ai (aa 1) (ai (aa 2) aA)))))
  (aq (jq 5 g.nd (λ B=>(dZ (fM aA))))
  (aq (cU g (d8 M.p.dD (ai (aa 1) aA)) (aR 6 g.nd) (aq (jq 7 g.nd (λ B=>(dZ (fM aA))))
  (aq (cU g (d8 M.p.dD (ai (aa 1) aA)) (aR 8 g.nd) (aq (aP 9 g.nd (iR (IU g.calm M.p.EF (ai (bH (iC (tm:=false) (k:=1) (caps:=[8,4]) (N':=["_law_k","_law_j","_law_weights_here"]) (λ h=>nomatch h) rfl (d8 M.p.dD (ai (aa 1) aA)) ⟨rfl,by decide+kernel,rfl,by decide+kernel,rfl,(rj (bR (m6 rfl) (bR (m6 rfl) eY)))⟩ (by decide+kernel) (λ C s₀ H₀ ex=>(aR 0 (by decide+kernel:(["_law_k","_law_j","_law_weights_here"]:List Str).Nodup))) (λ C s₀ H₀ ex=>fW) (λ C s₀ H₀ ex=>(aU (aU (aa 2) (aa 0)) (aa 1))) (cH (by decide)))) aA)) (aa 3)))
  (aq (cG (sI (aa 8) (aa 2)) (aF (aP 9 g.nd (iR (aa 9) aE))) bM)
  (aF (cG (MU (aU (aU (aa 4) (aa 6)) (aa 8)) aE) (aF (lA (λ B=>(gQ 7)) (λ B=>(lC (ai (aa 8) (ai (M3 (qu M) (hr.mono (by decide)) M.ou.m M.ou.y.f.kp M.ou.y.b (ai (aU (aU (aa 4) (aa 6)) (aa 8)) (ai (aa 9) aA))) aA)))))) bM)))))
  (aq (aP 10 g.nd (cP (fN (cP (bq (c5 M) hr (ai (aa 0) (ai (iR (aa 6) aE) aA))) aE) (MW aE aE)) (fN (bq (c5 M) hr (ai (aa 0) (ai aE aA))) aE)))
  (aF (ET 7 (lA (λ B=>(gQ 5)) (λ B=>(lC (ai (lC (ai (aa 10) (ai aE aA))) (ai (aa 7) aA)))))))))))
  (aF (pQ 5)))))
def cy(M:Tx K mg cb):jn P w K mg base cb 1 M.eG.y.a M.eG.y.fd dQ aJ:=by
 refine tZ dS M.eG.y.f lQ (λ c cdv A outer s H E hcb hr g n=>?_);subst hcb;have hu:=hr.units;exact (aq (aP 2 g.nd (EX M.p.Ba (ai (aa 0) aA)))
  (aq (aP 3 g.nd (EX M.p.Ba (ai (aa 1) aA)))
  (aq (lz n g (iQ hu (aa 3) aE) (aq (aP 4 g.nd (fN (aa 2) (aa 3)))
  (aq (aP 2 g.nd (aa 3))
  (aF (aP 3 g.nd (aa 4))))))
  (aF (bB (aa 2))))))
def oS(M:Tx K mg cb):jn P w K mg base cb 2 M.oA.y.a M.oA.y.fd qm cW:=by
 refine tZ i9 M.oA.y.f (λ as _ _=>⟨0,rfl⟩) (λ c cdv A outer s H E hcb hr g n=>?_);subst hcb;have hu:=hr.units;exact (aq (cG (lu hu (aa 1) aE) (aF (sL g M.p.iO (ai EU aA))) bM)
  (aq (aP 2 g.nd (bq (cy M) hr (ai (aa 0) (ai (aa 1) aA))))
  (aq (cG (ER (aa 1) aE) (aF (aP 2 g.nd (zV (aa 2)))) bM)
  (aF (bB (lC (ai (bV (aa 0) (aa 2)) (ai (bV (aa 1) (aa 2)) aA))))))))
def F9(M:Tx K mg cb):jn P w K mg base cb 3 M.oq.y.a M.oq.y.fd BL pO:=by refine tZ vq M.oq.y.f (λ as _ _=>⟨0,rfl⟩) (λ c cdv A outer s H E hcb hr g n=>?_);subst hcb;exact (aF (bB (bq (oS M) hr (ai (nJ (cP (aU (aa 0) aE) (aU (aa 1) aE)) (cP (aU (aa 1) aE) (aU (aa 0) aE))) (ai (cP (aU (aa 0) aE) (aU (aa 1) aE)) aA)))))
def gT(M:Tx K mg cb):jn P w K mg base cb 2 M.fR.y.a M.fR.y.fd iH cD:=by refine tZ eX M.fR.y.f (λ as _ _=>⟨0,rfl⟩) (λ c cdv A outer s H E hcb hr g n=>?_);subst hcb;exact (aF (bB (cP (bV (aa 0) (bq (cy M) hr (ai (aa 0) (ai (aa 1) aA)))) (aa 1))))
def qx(M:Tx K mg cb):jn P w K mg base cb 4 M.jg.y.a M.jg.y.fd kR bZ:=by
 refine tZ iA M.jg.y.f (λ as _ _=>⟨0,rfl⟩) (λ c cdv A outer s H E hcb hr g n=>?_);subst hcb;exact (aq (jq 3 g.nd (λ B=>(dZ (MS (bH (EK (bH (fM (ai (xR M.ML.v M.ML.g) aA))) (aa 2))) (bH (fM (ai (aU (aa 1) aE) aA)))))))
  (aq (jT (λ B=>(gQ 3)) (λ B=>(aa 0)) (λ B=>(xR M.U3.v M.U3.g)))
  (aq (cU g (d7 (aU (aa 1) aE)) (iP rfl (bF (aR 4 g.nd) (bF (aR 5 g.nd) gr))) (aF (jT (λ B=>(gQ 3)) (λ B=>(aa 4)) (λ B=>(MZ (F9 M) (hr.mono (by decide)) M.oq.m M.oq.y.f.kp M.oq.y.b (ai (aU (Bc 3) (aa 4)) (ai (aa 5) aA)))))))
  (aq (aP 6 g.nd aE)
  (aq (ET 3 (cU g (d7 (aa 3)) (aR 7 g.nd) (aF (aP 6 g.nd (bq (gT M) hr (ai (aa 6) (ai (aU (aa 7) aE) aA)))))))
  (aF (jt (λ B=>(dZ (iC (tm:=false) (k:=1) (caps:=[6]) (N':=["part","bottom"]) (λ h=>nomatch h) rfl (d7 (aa 3)) ⟨rfl,by decide+kernel,rfl,by decide+kernel,rfl,(rj (bR (m6 rfl) eY))⟩ (by decide+kernel) (λ C s₀ H₀ ex=>(aR 0 (by decide+kernel:(["part","bottom"]:List Str).Nodup))) (λ C s₀ H₀ ex=>fW) (λ C s₀ H₀ ex=>(cP (aU (aa 0) aE) (bV (aa 1) (aU (aa 0) aE)))) (cH (by decide))))))))))))
def qo(M:Tx K mg cb):jn P w K mg base cb 1 M.ja.y.a M.ja.y.fd kO bK:=by refine tZ iw M.ja.y.f (λ as _ _=>⟨0,rfl⟩) (λ c cdv A outer s H E hcb hr g n=>?_);subst hcb;have hu:=hr.units;exact (aF (bB (fO M.p.gP (ai (bH (iC (tm:=false) (k:=1) (caps:=[0]) (N':=["equation","number"]) (λ h=>nomatch h) rfl (d7 (aa 1)) ⟨rfl,by decide+kernel,rfl,by decide+kernel,rfl,(rj (bR (m6 rfl) eY))⟩ (by decide+kernel) (λ C s₀ H₀ ex=>(aR 0 (by decide+kernel:(["equation","number"]:List Str).Nodup))) (λ C s₀ H₀ ex=>(tY (iQ hu (aU (aa 0) (aa 1)) aE))) (λ C s₀ H₀ ex=>aE) (cH (by decide)))) aA))))
def qt(M:Tx K mg cb):jn P w K mg base cb 4 M.gi.y.a M.gi.y.fd kP cO:=by
 refine Y0 fu M.gi.y.f (λ as _ _=>⟨0,rfl⟩) M.jP.c (λ c cdv A outer s H E hcb hcd hr g n=>?_);subst hcb;have hu:=hr.units;exact (aq (jr 2 (k:=1) (caps:=[0]) (N':=["number","equation"]) g.nd rfl (d8 M.p.dD (ai (nJ (fO M.p.gP (ai (aa 0) aA)) aE) aA)) ⟨rfl,by decide+kernel,rfl,by decide+kernel,rfl,(rj (bR (m6 rfl) eY))⟩ (by decide+kernel) (λ C s₀ H₀ ex=>(aR 0 (by decide+kernel:(["number","equation"]:List Str).Nodup))) (λ C s₀ H₀ ex=>(tY (iQ hu (aU (aa 1) (aa 0)) aE))) (λ C s₀ H₀ ex=>(aa 0)) (cH (by decide)))
  (aq (cG (lu hu (aa 2) (bH (fM aA))) (aF (sL g M.p.tX (ai EU aA))) bM)
  (aF (bB (IV (LO (k:=1) (caps:=[1]) (N':=["number","others"]) hcd M.p.bm M.p.gZ hr (λ f c' A s H hr=>(bq (qo M) hr (ai (aa 0) (ai (aa 1) aA)))) ⟨rfl,rfl,rfl,rfl,rfl,rfl,by decide+kernel,Jh rfl rfl rfl⟩) M.p.A9 (ai (aa 2) aA))))))
def DK(M:Tx K mg cb):jn P w K mg base cb 2 M.kj.y.a M.kj.y.fd yu dz:=by
 refine tZ jK M.kj.y.f (λ as _ _=>⟨0,rfl⟩) (λ c cdv A outer s H E hcb hr g n=>?_);subst hcb;have hu:=hr.units;exact (aq (aP 1 g.nd aE)
  (aq (cU g (d7 (aa 0)) (aR 2 g.nd) (aq (cG (lu hu (aa 1) aE) (aF (bB (aa 0))) bM)
  (aF (aP 1 g.nd (bq (cy M) hr (ai (aa 2) (ai (aa 1) aA)))))))
  (aq (cG (lu hu (aa 1) aE) (aF (bB (aa 0))) bM)
  (aF (jt (λ B=>(dZ (iC (tm:=false) (k:=1) (caps:=[1]) (N':=["part","divisor"]) (λ h=>nomatch h) rfl (d7 (aa 0)) ⟨rfl,by decide+kernel,rfl,by decide+kernel,rfl,(rj (bR (m6 rfl) eY))⟩ (by decide+kernel) (λ C s₀ H₀ ex=>(aR 0 (by decide+kernel:(["part","divisor"]:List Str).Nodup))) (λ C s₀ H₀ ex=>fW) (λ C s₀ H₀ ex=>(bV (aa 0) (aa 1))) (cH (by decide))))))))))
def As(M:Tx K mg cb):jn P w K mg base cb 3 M.rJ.y.a M.rJ.y.fd sU cN:=by
 refine tZ kg M.rJ.y.f (λ as _ _=>⟨0,rfl⟩) (λ c cdv A outer s H E hcb hr g n=>?_);subst hcb;have hu:=hr.units;exact (aq (cG (lu hu (aU (aa 1) (aa 0)) aE) (aF (bB (aa 1))) bM)
  (aq (aP 3 g.nd (bq (cy M) hr (ai (aU (aa 1) (aa 0)) (ai (aU (aa 2) (aa 0)) aA))))
  (aq (aP 4 g.nd (bV (aU (aa 2) (aa 0)) (aa 3)))
  (aq (aP 5 g.nd (bV (aU (aa 1) (aa 0)) (aa 3)))
  (aF (jt (λ B=>(MR (DK M) (hr.mono (by decide)) M.kj.m M.kj.y.f.kp M.kj.y.b (ai (bH (iC (tm:=false) (k:=2) (caps:=[4,5]) (N':=["one","other","keep","take"]) (λ h=>nomatch h) rfl (IM M.p.ED (ai (aa 1) (ai (aa 2) aA))) ⟨rfl,by decide+kernel,rfl,by decide+kernel,rfl,(rj (bR (m6 rfl) (bR (m6 rfl) eY)))⟩ (by decide+kernel) (λ C s₀ H₀ ex=>(iP rfl (bF (aR 0 (by decide+kernel:(["one","other","keep","take"]:List Str).Nodup)) (bF (aR 1 (by decide+kernel:(["one","other","keep","take"]:List Str).Nodup)) gr)))) (λ C s₀ H₀ ex=>fW) (λ C s₀ H₀ ex=>(nJ (cP (aa 2) (aa 0)) (cP (aa 3) (aa 1)))) (z9 (jV (cH (by decide)) (jV (cH (by decide)) Aa))))) aA)))))))))
def yC(M:Tx K mg cb):jn P w K mg base cb 5 M.ki.y.a M.ki.y.fd lJ cV:=by
 refine Y0 gG M.ki.y.f AK M.o6.c (λ c cdv A outer s H E hcb hcd hr g n=>?_);subst hcb;have hu:=hr.units;exact (aq (jq 1 g.nd (λ B=>(dZ (fM aA))))
  (aq (aP 2 g.nd (aa 0))
  (aq (lz n g (iQ hu (aa 2) (bH (fM aA))) (aq (aP 2 g.nd (bH (EJ (LO (k:=0) (caps:=[]) (N':=["equation"]) hcd M.p.bm M.p.lE hr (λ f c' A s H hr=>(zV (EW (aa 0) aE))) ⟨rfl,rfl,rfl,rfl,rfl,rfl,by decide+kernel,Ji⟩) M.p.pP (ai (aa 2) aA))))
  (aq (aP 3 g.nd (aU (aa 2) aE))
  (aq (aP 4 g.nd (bq (qt M) hr (ai (aa 3) (ai (bH (EL (aa 2) (xP aE) xQ)) aA))))
  (aq (jr 2 (k:=1) (caps:=[4,3]) (N':=["equation","number","first"]) g.nd rfl (d7 (bH (EL (aa 2) (xP aE) xQ))) ⟨rfl,by decide+kernel,rfl,by decide+kernel,rfl,(rj (bR (m6 rfl) (bR (m6 rfl) eY)))⟩ (by decide+kernel) (λ C s₀ H₀ ex=>(aR 0 (by decide+kernel:(["equation","number","first"]:List Str).Nodup))) (λ C s₀ H₀ ex=>fW) (λ C s₀ H₀ ex=>(bq (As M) hr (ai (aa 1) (ai (aa 0) (ai (aa 2) aA))))) (cH (by decide)))
  (aF (lA (λ B=>(gQ 1)) (λ B=>(lC (ai (aa 4) (ai (aa 3) aA)))))))))))
  (aF (pQ 1)))))
def yz(M:Tx K mg cb):jn P w K mg base cb 3 M.om.y.a M.om.y.fd qj jh:=by
 refine tZ lT M.om.y.f (λ as _ _=>⟨0,rfl⟩) (λ c cdv A outer s H E hcb hr g n=>?_);subst hcb;have hu:=hr.units;exact (aq (aP 3 g.nd (aU (aa 1) (zV aE)))
  (aq (aP 4 g.nd aE)
  (aq (cU g (Dk (aa 2)) (iP rfl (bF (aR 5 g.nd) (bF (aR 6 g.nd) gr))) (aF (cG (iQ hu (aU (aa 1) (aa 5)) aE) (aq (aP 7 g.nd (bq (gT M) hr (ai (aa 4) (ai (aU (aa 6) aE) aA))))
  (aq (aP 3 g.nd (nJ (cP (aa 3) (bV (aa 7) (aa 4))) (cP (cP (aU (aa 1) (aa 5)) (aU (aa 6) aE)) (bV (aa 7) (aU (aa 6) aE)))))
  (aF (aP 4 g.nd (aa 7))))) bM)))
  (aF (bB (bq (oS M) hr (ai (aa 3) (ai (cP (aa 4) (aU (aa 1) (aa 0))) aA))))))))
def nU(M:Tx K mg cb):jn P w K mg base cb 6 M.xB.y.a M.xB.y.fd yt cK:=by
 refine tZ m8 M.xB.y.f (λ as _ _=>⟨0,rfl⟩) (λ c cdv A outer s H E hcb hr g n=>?_);subst hcb;have hu1:=hU1 hr.units;exact (aq (jr 1 (k:=2) (caps:=[0]) (N':=["number","row","rows"]) g.nd rfl (Dl M.p.jo (ai (aa 0) aA)) ⟨rfl,by decide+kernel,rfl,by decide+kernel,rfl,(rj (bR (m6 rfl) eY))⟩ (by decide+kernel) (λ C s₀ H₀ ex=>(iP rfl (bF (aR 0 (by decide+kernel:(["number","row","rows"]:List Str).Nodup)) (bF (aR 1 (by decide+kernel:(["number","row","rows"]:List Str).Nodup)) gr)))) (λ C s₀ H₀ ex=>fW) (λ C s₀ H₀ ex=>(bq (qx M) hr (ai (aa 0) (ai (aa 1) (ai (fO M.p.gP (ai (aa 2) aA)) aA))))) (z9 (jV (cH (by decide)) (jV (cH (by decide)) Aa))))
  (aq (jq 2 g.nd (λ B=>IK))
  (aq (cU g (IP M.p.k6 (ai (bq (yC M) hr (ai (aa 1) aA)) aA)) (iP rfl (bF (aR 3 g.nd) (bF (aR 4 g.nd) gr))) (aF (ES hu1 (λ B=>(gQ 2)) (λ B=>(aa 3)) (bq (yz M) hr (ai (aa 3) (ai (aa 4) (ai (aa 2) aA)))))))
  (aF (jt (λ B=>(dZ (iC (tm:=true) (k:=1) (caps:=[2]) (N':=["number","values"]) (λ _=>rfl) rfl (d8 M.p.dD (ai (fO M.p.gP (ai (aa 0) aA)) aA)) ⟨rfl,by decide+kernel,rfl,by decide+kernel,rfl,(rj (bR (m6 rfl) eY))⟩ (by decide+kernel) (λ C s₀ H₀ ex=>(aR 0 (by decide+kernel:(["number","values"]:List Str).Nodup))) (λ C s₀ H₀ ex=>fW) (λ C s₀ H₀ ex=>(MY hu1 (aa 1) (aa 0))) (cH (by decide))))))))))
def mP(M:Tx K mg cb):jn P w K mg base cb 7 M.lY.y.a M.lY.y.fd oQ fK:=by
 refine tZ jM M.lY.y.f (λ as _ _=>⟨0,rfl⟩) (λ c cdv A outer s H E hcb hr g n=>?_);subst hcb;exact (aq (aP 1 g.nd xS)
  (aq (Dn 2 g M.rH.m M.p.yW (λ pn xe g=>(aF (Dq (bq (nU M) hr (ai (aa 0) aA))))) (λ ev pn=>(aF (aP 1 g.nd (zX (zW M.p.cX M.p.xt M.p.Kr (qZ M.A6.m) (aa 2)) (zX (zW M.p.cX M.p.xt M.p.uU (Cz M.p.iM sA (by decide)) (aa 2)) (EV (MX (IX M.p.cX M.p.xt (.cons M.p.O2 (.cons M.p.D7 .nil)) (EY (EY M6)) (aa 2) (Be (EN (qZ M.MN.m)) (Be (EN (qZ M.zM.m)) M5)) (λ _ _ _ q=>q) (by simp))))))))))
  (aF (bB (aa 1)))))
def DM(M:Tx K mg cb):jn P w K mg base cb 2 M.xE.y.a M.xE.y.fd yy nB:=by refine tZ rB M.xE.y.f (λ as _ _=>⟨0,rfl⟩) (λ c cdv A outer s H E hcb hr g n=>?_);subst hcb;exact (aF (bB (bq (qu M) hr (ai (iR (cP (aU (aa 0) aE) (aU (aa 1) aE)) (cP (aU (aa 1) aE) (aU (aa 0) aE))) (ai (cP (aU (aa 0) aE) (aU (aa 1) aE)) aA)))))
def qw(M:Tx K mg cb):jn P w K mg base cb 3 M.je.y.a M.je.y.fd kQ fB:=by
 refine tZ iz M.je.y.f (λ as _ _=>⟨0,rfl⟩) (λ c cdv A outer s H E hcb hr g n=>?_);subst hcb;have hu:=hr.units;exact (aq (cG (EO (ue (ug (uf (zW M.p.cX M.p.xt M.p.O0 (Cz M.p.tW KY (by decide)) (aa 1)))) (uc (iQ hu (fO M.p.gP (ai (aa 1) aA)) (fO M.p.gP (ai (aa 0) aA)))))) (aF (bB xS)) bM)
  (aq (cU g (d8 M.p.dD (ai (fO M.p.gP (ai (aa 0) aA)) aA)) (aR 2 g.nd) (aq (aP 3 g.nd (aU (aU (aa 0) (aa 2)) aE))
  (aq (cU g (d7 (aU (aU (aa 0) (aa 2)) aE)) (iP rfl (bF (aR 4 g.nd) (bF (aR 5 g.nd) gr))) (aF (aP 3 g.nd (bq (DM M) hr (ai (aa 3) (ai (bq (qu M) hr (ai (cP (aU (aa 5) aE) (aU (aU (aa 1) (aa 4)) aE)) (ai (cP (aU (aa 5) aE) (aU (aU (aa 1) (aa 4)) aE)) aA))) aA))))))
  (aF (cG (iQ hu (aa 3) (aU (aa 1) (aa 2))) (aF (bB xS)) bM)))))
  (aF (bB xS))))
def Oq(M:Tx K mg cb):jn P w K mg base cb 8 M.Qh.y.a M.Qh.y.fd LF nA:=by
 refine tZ HP M.Qh.y.f (λ as _ _=>⟨0,rfl⟩) (λ c cdv A outer s H E hcb hr g n=>?_);subst hcb;have hu:=hr.units;exact (aq (aP 1 g.nd (iR aE (fN (bq (c5 M) hr (ai (aa 0) (ai aE aA))) aE)))
  (aq (aP 2 g.nd (bq (DL M) hr (ai (bV (bq (c5 M) hr (ai (aa 0) (ai aE aA))) aE) (ai (aa 1) aA))))
  (aq (aP 3 g.nd (bq (sV M) hr (ai (aa 0) (ai (aa 1) (ai (aa 2) (ai aE aA))))))
  (aq (jr 4 (k:=2) (caps:=[]) (N':=["_law_constant","_law_terms"]) g.nd rfl (d7 (aa 3)) ⟨rfl,by decide+kernel,rfl,by decide+kernel,rfl,(λ i c y h=>by simp at h)⟩ (by decide+kernel) (λ C s₀ H₀ ex=>(iP rfl (bF (aR 0 (by decide+kernel:(["_law_constant","_law_terms"]:List Str).Nodup)) (bF (aR 1 (by decide+kernel:(["_law_constant","_law_terms"]:List Str).Nodup)) gr)))) (λ C s₀ H₀ ex=>fW) (λ C s₀ H₀ ex=>(lC (ai (aa 0) (ai (bH (IL M.p.tW (ai (aa 1) aA))) aA)))) (z9 (jV (cH (by decide)) (jV (cH (by decide)) Aa))))
  (aq (cG (EO (ue (ug (uf (bq (mP M) hr (ai (aa 4) aA)))) (ue (iQ hu (aa 4) (aa 3)) (uc (ug (uf (bq (mP M) hr (ai (aa 4) aA)))))))) (aF (bB xS)) bM)
  (aq (aP 5 g.nd (bq (sV M) hr (ai (aa 0) (ai (aa 1) (ai (aa 2) (ai (iR aE (fN (bV (bq (c5 M) hr (ai (aa 0) (ai aE aA))) aE) aE)) aA))))))
  (aF (bB (zX (bq (qw M) hr (ai (aa 5) (ai (bq (nU M) hr (ai (aa 5) aA)) aA))) (EV (RE hu (bq (nU M) hr (ai (bH (fM aA)) aA)) (bH (fM aA)))))))))))))
end
def all_mk{P:Program}{w:World}{K:W.Frag}{h:Heap}{mg:Str->Option Value}{fa:Addr}(X:K.In h)(G:h.Ns mainGlobals mg)(hfa:mg "law"=some (.ref fa)) (zm:W.nsIn K mainGlobals "BeamError"=some (some (.ref jR))) (mZ:W.nsIn K mainGlobals "NoFraction"=some (some (.ref bX))) (Co:W.nsIn K mainGlobals "Loose"=some (some (.ref gj))) (Ec:W.nsIn K mainGlobals "Crossed"=some (some (.ref Eu))) (PC:W.nsIn K mainGlobals "Ring"=some (some (.ref Qj))) (zI:Gx K "_law_cell_at" oJ L6) (HZ:Gx K "_law_ring" yh Ul) (zG:Gx K "_law_weights" oG L3) (K9:Gx K "_law_low" Bw VV) (HY:Gx K "_law_rows" yg Uk) (lU:Gx K "greatest_divisor" gu AN) (A3:Gx K "fraction" pZ Po) (K8:Gx K "minus" Bv VU) (oi:Gx K "least_multiple" iE Eb) (sF:Gx K "equation_of" kK IA) (sD:Gx K "times_named" kH Iw) (kY:Gx K "least_named" kI sf) (HW:Gx K "lowest" yf Ui) (Es:Gx K "without" sP Ri) (rE:Gx K "unfolded" pY AM) (A2:Gx K "value_of" pX Pk) (HV:Gx K "solved" ye Uh) (zH:Gx K "_law_refused" oH L5) (Ia:Gx K "_law_plus" yi Um) (sE:Gx K "_law_fulfilled" kJ Iz) (HX:Gx K "law" Lx Uj) (iM:W.nsIn K mainGlobals "ValueError"=some none) (Ba:W.nsIn K mainGlobals "abs"=some none) (jo:W.nsIn K mainGlobals "enumerate"=some none) (cX:W.nsIn K mainGlobals "isinstance"=some none) (gP:W.nsIn K mainGlobals "len"=some none) (tW:W.nsIn K mainGlobals "list"=some none) (A9:W.nsIn K mainGlobals "min"=some none) (dD:W.nsIn K mainGlobals "range"=some none) (k6:W.nsIn K mainGlobals "reversed"=some none) (pP:W.nsIn K mainGlobals "sorted"=some none) (EF:W.nsIn K mainGlobals "sum"=some none) (ED:W.nsIn K mainGlobals "zip"=some none) (Pc:W.nsIn K mainGlobals "ONE"=some (some (.ref Di))) (GV:K.lookup Di=some ⟨.type "tuple",Ou,.seq [.int 1 Vn,.int 1 Vm].toArray OB,Nt⟩) (KI:W.nsIn K mainGlobals "ZERO"=some (some (.ref zO))) (DV:K.lookup zO=some ⟨.type "tuple",LG,.seq [.int 0 RQ,.int 1 RP].toArray LJ,Lw⟩) (gZ:tabIn K sf cM=true) (lE:tabIn K AM eZ=true) (iD:eZ≠cM) (bm:PX K=true) (iO:W.excIn K bX HL "ValueError.__new__"=true) (rR:XT K bX) (iZ:W.exmOne K (.ref bX) (.ref jR)=some true) (tX:W.excIn K gj HL "ValueError.__new__"=true) (EI:XT K gj) (mV:W.exmOne K (.ref gj) (.ref jR)=some true) (ik:isAll K mt [("NoFraction",bX),("Loose",gj)] ([]:rK) [(.ref Qj,"Ring"),(.ref Eu,"Crossed"),(.type "ValueError","ValueError"),(.ref gj,"Loose"),(.type "list","list")]=true):
  ∃(cb:Cb) (fd:FuncData),cb.xt=(Ew [(cM,⟨69,28,69,70⟩,"least_named.<locals>.<lambda>"),(eZ,⟨74,32,74,67⟩,"unfolded.<locals>.<lambda>")])/\(∀(s:Shared) (u:Value),BindsTo s fd ⟨[u],[]⟩ [("_law_script",u)])/\∀base:Heap,jn P w K mg base cb 8 fa fd ["_law_script"] nA:=by
 have e:fa=Uj:=Value.ref.inj (Option.some.inj (hfa.symm.trans (W.mg_of X G HX.s)));rw[e];obtain ⟨_,nA⟩:=id HX.e;obtain ⟨_,_,_,_,_,_,_,_,_,rfl,_,_⟩:=id nA.ex;let M:Tx K mg (KW [("NoFraction",bX),("Loose",gj)] ([]:rK) (Ew [(cM,⟨69,28,69,70⟩,"least_named.<locals>.<lambda>"),(eZ,⟨74,32,74,67⟩,"unfolded.<locals>.<lambda>")])):=⟨⟨rO X G zI pD,rO X G HZ pD,rO X G zG K3,rO X G K9 pD,rO X G HY Yz,rO X G lU pD,rO X G A3 pD,rO X G K8 pD,rO X G oi pD,rO X G sF K3,rO X G sD pD,rO X G kY pD,rO X G HW Ep,rO X G Es K3,rO X G rE Ep,rO X G A2 K3,rO X G HV Ep,rO X G zH Ep,rO X G Ia pD,rO X G sE pD,⟨⟨_,_,nA,nA.binds Ep⟩,W.mg_of X G HX.s⟩,⟨.ref Di,W.mg_of X G Pc,(Cd GV (by simp) (j5 pK (j5 pK yY)))⟩,⟨.ref zO,W.mg_of X G KI,(Cd DV (by simp) (j5 pK (j5 pK yY)))⟩,⟨_,W.mg_of X G zm⟩,⟨_,W.mg_of X G mZ⟩,⟨_,W.mg_of X G Co⟩,⟨_,W.mg_of X G Ec⟩,⟨_,W.mg_of X G PC⟩,⟨cM,ya (rO X G kY pD).y.f gZ⟩,⟨eZ,ya (rO X G rE Ep).y.f lE⟩⟩,⟨W.mg_none_of X G iM,W.mg_none_of X G Ba,W.mg_none_of X G jo,W.mg_none_of X G cX,W.mg_none_of X G gP,W.mg_none_of X G tW,W.mg_none_of X G A9,W.mg_none_of X G dD,W.mg_none_of X G k6,W.mg_none_of X G pP,W.mg_none_of X G EF,W.mg_none_of X G ED,KZ X G bm,Rw,Wn iD Rw,λ c C full h=>(nomatch h),⟨W.mg_of X G mZ,iO,rfl⟩,⟨W.mg_of X G Co,tX,rfl⟩,λ c C b hc hb=>Hq (E:=[("NoFraction",bX),("Loose",gj)]) (P:=λ c C=>∀b,tG mt "BeamError" c=some b->W.exmOne K (.ref C) (.ref jR)=some b) (bR (hb1 (show tG mt "BeamError" "NoFraction"=some true from by decide) iZ) (bR (hb1 (show tG mt "BeamError" "Loose"=some true from by decide) mV) eY)) hc b hb,⟨λ c C hc _=>Hq (E:=[("NoFraction",bX),("Loose",gj)]) (P:=λ _ C=>XT K C) (bR rR (bR EI eY)) hc,λ c C ns h=>(nomatch h)⟩,yS ik (qH 0 rfl),yS ik (qH 1 rfl),yS ik (qH 2 rfl),yS ik (qH 3 rfl),yS ik (qH 4 rfl)⟩⟩
 refine ⟨(KW [("NoFraction",bX),("Loose",gj)] ([]:rK) (Ew [(cM,⟨69,28,69,70⟩,"least_named.<locals>.<lambda>"),(eZ,⟨74,32,74,67⟩,"unfolded.<locals>.<lambda>")])),_,rfl,?_,λ base=>Oq M⟩;exact λ s v=> .of_eq rfl
end U9
end
open PySem PySem.W PyProof.Rows
theorem PySem.Challenge.cw_beamtable_k29_loose_holds : PySem.Challenge.rw_beamtable_k29_loose.Holds := by
 refine KO.looked λ said=>?_
 refine W.holds_openX (q:=W.view PySem.Challenge.pw_beamtable_k29_loose [31]) (loose:=KO.LZ) (Xt:=λ _=>true) (XP:=λ _ _=>True) (Yf:=W.X.obsZ KO.AF)
  (Ya:=W.X.valZ KO.KF 210 455) (N:=3592) KO.hl (λ _ _=>trivial) (λ _ _ _ _ _=>trivial) (by rfl) (by rfl) (by rfl)
  (λ _ _=>W.recFacts_nil rfl) (by rfl) said (by decide+kernel) ⟨rfl,rfl,rfl,rfl,rfl,by decide+kernel⟩ ?hw ?hc
 case hw=>w_witness2
 k_fill
 refine L4.IY (KG:=KO.KG) (ZM:=λ _=>by kernel_rfl) (l:=PySem.Challenge.rw_beamtable_k29_loose) (k:=8) [(134,⟨69,28,69,70⟩,"least_named.<locals>.<lambda>"),(139,⟨74,32,74,67⟩,"unfolded.<locals>.<lambda>")] [(136,134),(141,139)] rfl rfl (by decide) (by decide) (λ _=>by kernel_rfl) (λ _=>by kernel_rfl) rfl ?F U9.GP
 case F=>
  k_fill
  intro w mg fa h KX G hmg
  apply U9.all_mk (cM:=134) (eZ:=139) KX G hmg
  any_goals first|k_is|kernel_rfl|decide|exact ⟨by k_is,_,L2.Hh (by k_is) (by k_is) (by k_is)⟩|exact ⟨by k_is,⟨_,L2.Hh (by k_is) (by k_is) (by k_is)⟩,by kernel_rfl⟩|(constructor<;>first|k_is|kernel_rfl|(constructor<;>first|k_is|kernel_rfl))
