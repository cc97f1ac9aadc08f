import PyProof.Rows.All
import Wide.All
import OpenK.AllK
import Wide.FinOn
import Lean
import PyProof.EqAt
import PyProof.EqKinds
import PyProof.TupleCall
import PyProof.P3Statements
import PyProof.NoPylong
import PySem.Builtin.Int.W1All
import PyProof.StrBlockI
import KE.KSortTup
import PyProof.EnumMake
import PyProof.Draws
import KE.KSortAsk
import KE.KItemsList
import PyProof.P3In
import PyProof.DictWalks
import KE.KRevIter
import KE.KLam
import KE.KMinKey
import PyProof.Rows.SeqMore
import PyProof.ZipIter
import PyProof.SumWalk
import PyProof.ListRange
import PySem.Challenge.RW_beamtable_k28_rows_solved
set_option Elab.async false
set_option linter.all false
set_option maxRecDepth 100000
set_option maxHeartbeats 0
set_option exponentiation.threshold 10000
noncomputable section
section
def KO.looked(h:PySem.Challenge.rw_beamtable_k28_rows_solved.row.wellSaid=true->PySem.Challenge.rw_beamtable_k28_rows_solved.row.Holds):PySem.Challenge.rw_beamtable_k28_rows_solved.Holds:=by w_on;o_law;exact h (by assumption)
namespace KO
open PySem PySem.W PySem.Calls
noncomputable abbrev pq:Program:=W.Fast.tw5375651941789983191
def bE:List Stmt:=behindTheImports pq
noncomputable def g0(l:List Stmt)(i:Nat):Stmt:=(List.drop i l).headD (.Pass ⟨0,0,0,0⟩)
def g1(i:Nat):Stmt:=g0 pq.main.body i
noncomputable def gb:Stmt->List Stmt| .ClassDef _ _ _ b _ _ _ _ _ _ _=>b| .FunctionDef _ _ b _ _ _ _ _ _ _=>b|_=>[]
def g2(i j:Nat):Stmt:=g0 (gb (g1 i)) j
def fo(s:Stmt)(q:Str)(g:Addr)(cl:List (Str×Addr))(d kd doc md:Value)(an:Option Addr)(code ct:Value)(b:Addr):Data:=match s with| .FunctionDef n a bd _ _ _ sc _ _ _=> .func ⟨n,q,a,.stmts bd,sc,g,cl,d,kd,doc,md,an,code,ct,b⟩|_=> .plain
def e(P:Params)(s:Str)(t:Nat)(v:Value):DictEntry:=⟨PySem.PyData.keyHash P s,.str s t,v⟩
def ud(o:Obj)(ch:List (Nat×DictEntry))(m:List DictEntry)(n:Nat):Obj:=match o with|⟨c,d,.dict es _,s⟩=>⟨c,d,.dict ⟨(ch.foldl (λ l p=>l.set p.1 p.2) es.toList)++m⟩ n,s⟩|o=>o
noncomputable abbrev r(a:Nat):Value:= .ref a
noncomputable abbrev z:Value:= .int 0 0
noncomputable abbrev v:Value:= .none
noncomputable abbrev s(x:Str)(t:Nat):Value:= .str x t
noncomputable abbrev y(x:String):Value:= .type x
noncomputable abbrev F(c:Value)(xs:Array Value):Obj:=⟨c,none,.fields xs, #[]⟩
noncomputable abbrev Q(c:Value)(xs:Array Value):Obj:=⟨c,none,.seq xs 0, #[]⟩
noncomputable abbrev lf:Life:=⟨[],[],[],0,[],[],false, #[],[],0,false,false,false,0,[2000,10,10],false,0,true,[],[],0,false⟩
noncomputable abbrev I:=BT.ins
@[reducible]noncomputable def ß(l:List Nat):Str:=⟨⟨l⟩⟩
@[reducible]noncomputable def þ(l:List Nat):Str:=⟨⟨95::108::97::119::95::l⟩⟩
def x0:=ß [60,109,111,100,117,108,101,62]
def x1:=ß [47,99,108,97,105,109,47,99,117,116,46,112,121]
def x2:=ß [95,95,109,97,105,110,95,95]
def x3:=ß [95,95,110,97,109,101,95,95]
def x4:=ß [98,101,97,109,116,97,98,108,101,46,101,114,114,111,114,115]
def x5:=ß [66,101,97,109,69,114,114,111,114]
def x6:=ß [95,95,109,111,100,117,108,101,95,95]
def x7:=ß [95,95,113,117,97,108,110,97,109,101,95,95]
def x8:=ß [95,95,102,105,114,115,116,108,105,110,101,110,111,95,95]
def x9:=ß [95,95,115,116,97,116,105,99,95,97,116,116,114,105,98,117,116,101,115,95,95]
def Zf:=ß [95,95,119,101,97,107,114,101,102,95,95]
def WZ:=ß [95,95,100,111,99,95,95]
def LS:=ß [78,111,70,114,97,99,116,105,111,110]
def IY:=ß [98,101,97,109,116,97,98,108,101,46,98,97,108,97,110,99,101,115]
def LR:=ß [76,111,111,115,101]
def Ze:=ß [90,69,82,79]
def Zd:=ß [79,78,69]
def Q8:=ß [103,114,101,97,116,101,115,116,95,100,105,118,105,115,111,114]
def Q7:=ß [102,114,97,99,116,105,111,110]
def Q6:=ß [109,105,110,117,115]
def Q5:=ß [108,101,97,115,116,95,109,117,108,116,105,112,108,101]
def WY:=ß [111,110,101]
def Vy:=ß [111,116,104,101,114]
def x23:=ß [108,97,114,103,101,114]
def x24:=ß [115,109,97,108,108,101,114]
def x25:=ß [114,101,115,116]
def WX:=ß [98,101,97,109,116,97,98,108,101,46,114,97,116,105,111,115]
def Zc:=ß [116,111,112]
def Zb:=ß [98,111,116,116,111,109]
def x29:=ß [100,105,118,105,115,111,114]
def E2:=ß [108,97,119,95,98,101,97,109,116,97,98,108,101,95,107,50,56,95,114,111,119,115,95,115,111,108,118,101,100]
def Q4:=ß [101,113,117,97,116,105,111,110,95,111,102]
def Q3:=ß [108,111,119,101,115,116]
def Q2:=ß [119,105,116,104,111,117,116]
def QZ:=ß [116,105,109,101,115,95,110,97,109,101,100]
def QY:=ß [108,101,97,115,116,95,110,97,109,101,100]
def QX:=ß [117,110,102,111,108,100,101,100]
def QW:=ß [118,97,108,117,101,95,111,102]
def QV:=ß [115,111,108,118,101,100]
def QU:=þ [99,101,108,108,95,97,116]
def QT:=þ [119,104,111,108,101]
def QS:=þ [108,111,119]
def QO:=þ [112,108,117,115]
def QN:=þ [119,101,105,103,104,116,115]
def x44:=ß [110,117,109,98,101,114]
def x45:=ß [101,113,117,97,116,105,111,110]
def x46:=ß [118,97,108,117,101,115]
def x47:=ß [118,97,108,117,101]
def x48:=ß [106,111,105,110,116]
def Za:=þ [115,99,114,105,112,116]
def WV:=þ [107]
def Y9:=þ [102,111,117,110,100]
def x52:=þ [116,111,112]
def x53:=þ [98,111,116,116,111,109]
def WU:=þ [111,110,101]
def Y8:=þ [111,116,104,101,114]
def QM:=þ [99,111,110,115,116,97,110,116]
def QL:=þ [108,101,102,116]
def QK:=þ [114,111,119,115]
def QJ:=þ [102,117,108,102,105,108,108,101,100]
def QI:=þ [116,117,114,110,101,100]
def R6:=ß [108,97,119]
def Y7:=þ [99,101,108,108]
def x63:=þ [119,101,105,103,104,116,115,95,104,101,114,101]
def x64:=þ [106]
def x65:=þ [114,111,119,115,95,104,101,114,101]
def x66:=þ [116,111,116,97,108]
def x67:=þ [110,117,109,98,101,114]
def x68:=þ [115,104,97,114,101]
noncomputable abbrev l0:String:=W.SL.s2766695959194262286x5
noncomputable abbrev l1:String:=W.SL.s5856160107412720595x4
noncomputable abbrev l2:String:=W.SL.s658472552662922059x5
noncomputable abbrev l3:String:=W.SL.s6070975301684473832x10
noncomputable abbrev l4:String:=W.SL.s10062305145149207511x16
noncomputable abbrev l5:String:=W.SL.s17162191345867700912x4
noncomputable abbrev l6:String:=W.SL.s11030030927630378310x26
noncomputable abbrev l7:String:=W.SL.s14018661285674007319x4
noncomputable abbrev l8:String:=W.SL.s5946037652744460706x9
noncomputable abbrev l9:String:=W.SL.s4278001404047624695x13
noncomputable abbrev Uh:String:=W.SL.s2742458400755230247x6
noncomputable abbrev Ug:String:=W.SL.s4209523147560561109x18
noncomputable abbrev l12:String:=W.SL.s10220274742760427390x26
noncomputable abbrev l13:String:=W.SL.s14755015743595814543x17
noncomputable abbrev X8:String:=W.SL.s4290257624100764138x5
noncomputable abbrev X7:String:=W.SL.s4860613602091757760x24
noncomputable abbrev qX:String:=W.SL.s7174869446012820540x8
def cf(n q:Str)(t:Nat)(l:Int)(k:Value)(a:Nat)(u:Int)(w:Nat):Obj:=F (y l1) #[s n t,s q (t+1),s x1 (t+2),.int l 0,k,z,z,.int 3 0,r a,.bool true,.int 181 0,r (a+1),v,r (a+2),r (a+3),r (a+4),.int u 0,.int l 0,s x1 w]
def cl(n:Str)(t:Nat)(l:Int)(a:Nat)(u:Int)(w:Nat):Obj:=F (y l1) #[s n t,s n (t+1),s x1 (t+2),.int l 0,z,z,z,z,r a,.bool false,.int 181 0,r (a+1),v,v,v,v,.int u 0,.int l 0,s x1 w]
def fa(s:Stmt)(q:Str):Obj:=⟨v,none,fo s q 0 [] v v v v none v v 0, #[]⟩
def fb(m:Str)(t:Nat)(s:Stmt)(q:Str)(a:Nat):Obj:=⟨y l3,none,fo s q 3 [] v v v (.str m t) none (r a) v 0, #[]⟩
def ap(o:Obj)(l:List Value):Obj:=match o with|⟨c,d,.fields ⟨x⟩,s⟩=>⟨c,d,.fields ⟨x++l⟩,s⟩|o=>o
noncomputable def il(t:BT):List (Nat×Obj)->BT|[]=>t|p::l=>il (BT.ins t p.1 p.2) l
noncomputable def ir(t:BT)(a:Nat):List Obj->BT|[]=>t|o::l=>ir (BT.ins t a o) (a+1) l
def az:Obj:=Q (y l0) #[]
def aI:Obj:=F v #[]
def DI:Obj:=cl x0 182 1 11 185 186
def DH:Obj:=⟨y l2,none,.plain, #[(some (r 13)),(some (r 3)),(some (r 3)),none,(some (s x2 164)),none,(some (r 0))]⟩
def T0(P:Params):BT:=(.node (boot_o_0 P) (.node (boot_o_1 P) (.node (boot_o_3 P) (.node (boot_o_7 P) .nil .nil) (.node az .nil .nil)) (.node (boot_o_5 P) (.node (boot_o_9 P) .nil .nil) (.node DI .nil .nil))) (.node (boot_o_2 P) (.node (boot_o_4 P) (.node (boot_o_8 P) .nil .nil) (.node aI .nil .nil)) (.node (boot_o_6 P) (.node (boot_o_10 P) .nil .nil) (.node DH .nil .nil))))
def S0(P:Params)(os:OsState):SharedT:=⟨T0 P,15,lf, #[],⟨0,0,0,0⟩,187,os⟩
def T1(P:Params):BT:=(T0 P)
def S1(P:Params)(os:OsState):SharedT:=⟨T1 P,15,lf, #[],⟨0,0,0,0⟩,187,os⟩
def Ve(P:Params):Obj:=ud (boot_o_3 P) [(0,e P x3 165 (s x4 187))] [e P x5 206 (r 24)] 10
def Vh:Obj:=F v #[.int 2 0,z,r 20]
def DG:Obj:=Q (y l0) #[y l3]
def uq:Obj:=F (y l6) #[.builtin l4,y l5]
def MS(P:Params):Obj:=⟨y l7,none,(.dict #[e P x6 196 (s x4 187),e P x7 198 (s x5 197),e P x8 200 (.int 2 199),e P x9 201 (r 22)] 4), #[]⟩
def MR:Obj:=cl x5 191 2 18 194 195
def MQ:Obj:=⟨y l2,none,.plain, #[(some (r 20)),(some (r 3)),(some (r 17)),none,(some (s x4 187)),none,(some (r 0))]⟩
def DF(P:Params):Obj:=⟨y l7,none,(.dict #[e P x6 196 (s x4 187),e P x8 200 (.int 2 199),e P x9 201 (r 22),e P Zf 203 (r 25),e P WZ 204 v] 3), #[]⟩
def Vg:Obj:=⟨y l5,none,(.cls ⟨x5,[y l3],[r 24,y l3,y l8,y l9,y Uh],23,x5,true,[],[],false,none,false⟩), #[(some (r 15)),none,(some (s x5 189)),(some (s x5 197)),(some (.builtin Ug)),(some (.bool true))]⟩
def DC:Obj:=F (y l13) #[s Zf 202,r 24,.builtin l12,v]
def MP:Obj:=F (y X8) #[r 24,r 24,r 24]
def MO:Obj:=F (y l6) #[.builtin X7,r 24]
def T2(P:Params):BT:=(ir (il (T1 P) [(3,Ve P),(12,Vh)]) 15 [DG,uq,MS P,az,aI,MR,MQ,az,DF P,Vg,DC,MP,MO])
def S2(P:Params)(os:OsState):SharedT:=⟨T2 P,28,lf, #[],⟨0,0,0,0⟩,207,os⟩
def Vd(P:Params):Obj:=ud (Ve P) [] [e P LS 222 (r 37)] 11
def MV:Obj:=F v #[.int 2 0,z,r 20,.int 4 0,z,r 33]
def Vf:Obj:=⟨y l5,none,(.cls ⟨x5,[y l3],[r 24,y l3,y l8,y l9,y Uh],23,x5,true,[],[r 37],false,none,false⟩), #[(some (r 15)),none,(some (s x5 189)),(some (s x5 197)),(some (.builtin Ug)),(some (.bool true))]⟩
def pF:Obj:=Q (y l0) #[r 24]
def MN(P:Params):Obj:=⟨y l7,none,(.dict #[e P x6 214 (s x4 187),e P x7 216 (s LS 215),e P x8 218 (.int 4 217),e P x9 219 (r 35)] 4), #[]⟩
def MM:Obj:=cl LS 209 4 31 212 213
def ML:Obj:=⟨y l2,none,.plain, #[(some (r 33)),(some (r 3)),(some (r 30)),none,(some (s x4 187)),none,(some (r 0))]⟩
def DB(P:Params):Obj:=⟨y l7,none,(.dict #[e P x6 214 (s x4 187),e P x8 218 (.int 4 217),e P x9 219 (r 35),e P WZ 220 v] 2), #[]⟩
def DA:Obj:=⟨y l5,none,(.cls ⟨LS,[r 24],[r 37,r 24,y l3,y l8,y l9,y Uh],36,LS,true,[],[],false,none,false⟩), #[(some (r 28)),none,(some (s LS 207)),(some (s LS 215)),(some (.builtin Ug)),(some (.bool true))]⟩
def MK:Obj:=F (y X8) #[r 37,r 37,r 37]
def MJ:Obj:=F (y l6) #[.builtin X7,r 37]
def T3(P:Params):BT:=(ir (il (T2 P) [(3,Vd P),(12,MV),(24,Vf)]) 28 [pF,uq,MN P,az,aI,MM,ML,az,DB P,DA,MK,MJ])
def S3(P:Params)(os:OsState):SharedT:=⟨T3 P,40,lf, #[],⟨0,0,0,0⟩,223,os⟩
def Vc(P:Params):Obj:=ud (Vd P) [(0,e P x3 165 (s IY 275))] [e P LR 238 (r 49),e P Ze 243 (r 52),e P Zd 246 (r 53),e P Q8 257 (r 60),e P Q7 266 (r 67),e P Q6 274 (r 74),e P Q5 284 (r 81)] 18
def MU:Obj:=ap MV [.int 6 0,z,r 45,.int 11 0,z,r 59,.int 19 0,z,r 66,.int 26 0,z,r 73,.int 29 0,z,r 80]
def DE:Obj:=⟨y l5,none,(.cls ⟨x5,[y l3],[r 24,y l3,y l8,y l9,y Uh],23,x5,true,[],[r 37,r 49],false,none,false⟩), #[(some (r 15)),none,(some (s x5 189)),(some (s x5 197)),(some (.builtin Ug)),(some (.bool true))]⟩
def MI(P:Params):Obj:=⟨y l7,none,(.dict #[e P x6 230 (s x4 187),e P x7 232 (s LR 231),e P x8 234 (.int 6 233),e P x9 235 (r 47)] 4), #[]⟩
def MH:Obj:=cl LR 225 6 43 228 229
def MG:Obj:=⟨y l2,none,.plain, #[(some (r 45)),(some (r 3)),(some (r 42)),none,(some (s x4 187)),none,(some (r 0))]⟩
def Dz(P:Params):Obj:=⟨y l7,none,(.dict #[e P x6 230 (s x4 187),e P x8 234 (.int 6 233),e P x9 235 (r 47),e P WZ 236 v] 2), #[]⟩
def Dy:Obj:=⟨y l5,none,(.cls ⟨LR,[r 24],[r 49,r 24,y l3,y l8,y l9,y Uh],48,LR,true,[],[],false,none,false⟩), #[(some (r 40)),none,(some (s LR 223)),(some (s LR 231)),(some (.builtin Ug)),(some (.bool true))]⟩
def MF:Obj:=F (y X8) #[r 49,r 49,r 49]
def ME:Obj:=F (y l6) #[.builtin X7,r 49]
def Dw:Obj:=Q (y l0) #[.int 0 241,.int 1 242]
def Dv:Obj:=Q (y l0) #[.int 1 244,.int 1 245]
def Du:Obj:=Q (y l0) #[s WY 250,s Vy 251,s x23 252,s x24 253,s x25 254]
def Dt:Obj:=fa (g1 7) Q8
def Ds:Obj:=cf Q8 Q8 247 11 (.int 2 0) 54 255 256
def Dr:Obj:=⟨y qX,none,(fo (g1 7) Q8 3 [] v v v (s WX 239) none (r 59) v 0), #[]⟩
def Dq:Obj:=Q (y l0) #[s Zc 261,s Zb 262,s x29 263]
def Dp:Obj:=fa (g1 8) Q7
def Dn:Obj:=cf Q7 Q7 258 19 (.int 2 0) 61 264 265
def Dm:Obj:=⟨y qX,none,(fo (g1 8) Q7 3 [] v v v (s WX 239) none (r 66) v 0), #[]⟩
def Dl:Obj:=Q (y l0) #[s WY 270,s Vy 271]
def Dk:Obj:=fa (g1 9) Q6
def Dj:Obj:=cf Q6 Q6 267 26 (.int 2 0) 68 272 273
def Di:Obj:=⟨y qX,none,(fo (g1 9) Q6 3 [] v v v (s WX 239) none (r 73) v 0), #[]⟩
def Dh:Obj:=Q (y l0) #[s WY 280,s Vy 281]
def Dg:Obj:=fa (g1 11) Q5
def Df:Obj:=cf Q5 Q5 277 29 (.int 2 0) 75 282 283
def De:Obj:=⟨y qX,none,(fo (g1 11) Q5 3 [] v v v (s IY 275) none (r 80) v 0), #[]⟩
def T4(P:Params):BT:=(ir (il (T3 P) [(3,Vc P),(12,MU),(24,DE)]) 40 [pF,uq,MI P,az,aI,MH,MG,az,Dz P,Dy,MF,ME,Dw,Dv,az,aI,Du,az,Dt,Ds,Dr,az,aI,Dq,az,Dp,Dn,Dm,az,aI,Dl,az,Dk,Dj,Di,az,aI,Dh,az,Dg,Df,De])
def S4(P:Params)(os:OsState):SharedT:=⟨T4 P,82,lf, #[],⟨0,0,0,0⟩,285,os⟩
def Vb(P:Params):Obj:=ud (Vc P) [(0,e P x3 165 (s E2 341))] [e P Q4 290 (r 86),e P Q3 296 (r 91),e P Q2 302 (r 96),e P QZ 308 (r 101),e P QY 314 (r 106),e P QX 320 (r 111),e P QW 334 (r 118),e P QV 340 (r 123),e P QU 350 (r 130),e P QT 357 (r 137),e P QS 367 (r 144),e P QO 375 (r 151),e P QN 381 (r 156)] 31
def MT:Obj:=ap MU [.int 31 0,z,r 85,.int 40 0,z,r 90,.int 49 0,z,r 95,.int 56 0,z,r 100,.int 58 0,z,r 105,.int 63 0,z,r 110,.int 73 0,z,r 117,.int 82 0,z,r 122,.int 89 0,z,r 129,.int 93 0,z,r 136,.int 95 0,z,r 143,.int 101 0,z,r 150,.int 103 0,z,r 155]
def Dd:Obj:=fa (g1 12) Q4
def Dc:Obj:=F (y l1) #[s Q4 285,s Q4 286,s x1 287,.int 31 0,.int 3 0,z,z,.int 3 0,r 82,.bool true,.int 181 0,r 83,v,v,v,r 84,.int 288 0,.int 31 0,s x1 289]
def C9:Obj:=⟨y qX,none,(fo (g1 12) Q4 3 [] v v v (s IY 275) none (r 85) v 0), #[]⟩
def C8:Obj:=fa (g1 13) Q3
def C7:Obj:=F (y l1) #[s Q3 291,s Q3 292,s x1 293,.int 40 0,.int 1 0,z,z,.int 3 0,r 87,.bool true,.int 181 0,r 88,v,v,v,r 89,.int 294 0,.int 40 0,s x1 295]
def C6:Obj:=⟨y qX,none,(fo (g1 13) Q3 3 [] v v v (s IY 275) none (r 90) v 0), #[]⟩
def C5:Obj:=fa (g1 14) Q2
def C4:Obj:=F (y l1) #[s Q2 297,s Q2 298,s x1 299,.int 49 0,.int 3 0,z,z,.int 3 0,r 92,.bool true,.int 181 0,r 93,v,v,v,r 94,.int 300 0,.int 49 0,s x1 301]
def C3:Obj:=⟨y qX,none,(fo (g1 14) Q2 3 [] v v v (s IY 275) none (r 95) v 0), #[]⟩
def C2:Obj:=fa (g1 15) QZ
def xC:Obj:=F (y l1) #[s QZ 303,s QZ 304,s x1 305,.int 56 0,.int 2 0,z,z,.int 3 0,r 97,.bool true,.int 181 0,r 98,v,v,v,r 99,.int 306 0,.int 56 0,s x1 307]
def xB:Obj:=⟨y qX,none,(fo (g1 15) QZ 3 [] v v v (s IY 275) none (r 100) v 0), #[]⟩
def xA:Obj:=fa (g1 16) QY
def xy:Obj:=F (y l1) #[s QY 309,s QY 310,s x1 311,.int 58 0,.int 2 0,z,z,.int 3 0,r 102,.bool true,.int 181 0,r 103,v,v,v,r 104,.int 312 0,.int 58 0,s x1 313]
def xx:Obj:=⟨y qX,none,(fo (g1 16) QY 3 [] v v v (s IY 275) none (r 105) v 0), #[]⟩
def xw:Obj:=fa (g1 17) QX
def xu:Obj:=F (y l1) #[s QX 315,s QX 316,s x1 317,.int 63 0,.int 1 0,z,z,.int 3 0,r 107,.bool true,.int 181 0,r 108,v,v,v,r 109,.int 318 0,.int 63 0,s x1 319]
def xq:Obj:=⟨y qX,none,(fo (g1 17) QX 3 [] v v v (s IY 275) none (r 110) v 0), #[]⟩
def xo:Obj:=Q (y l0) #[s x44 324,s x45 325,s x46 326,s Zc 327,s Zb 328,s Vy 329,s x47 330,s x48 331]
def xm:Obj:=fa (g1 18) QW
def xj:Obj:=cf QW QW 321 73 (.int 3 0) 112 332 333
def xh:Obj:=⟨y qX,none,(fo (g1 18) QW 3 [] v v v (s IY 275) none (r 117) v 0), #[]⟩
def xg:Obj:=fa (g1 19) QV
def w9:Obj:=F (y l1) #[s QV 335,s QV 336,s x1 337,.int 82 0,.int 1 0,z,z,.int 3 0,r 119,.bool true,.int 181 0,r 120,v,v,v,r 121,.int 338 0,.int 82 0,s x1 339]
def w6:Obj:=⟨y qX,none,(fo (g1 19) QV 3 [] v v v (s IY 275) none (r 122) v 0), #[]⟩
def wZ:Obj:=Q (y l0) #[s Za 346,s WV 347]
def wY:Obj:=fa (g1 21) QU
def wX:Obj:=cf QU QU 343 89 (.int 2 0) 124 348 349
def wW:Obj:=⟨y qX,none,(fo (g1 21) QU 3 [] v v v (s E2 341) none (r 129) v 0), #[]⟩
def wV:Obj:=Q (y l0) #[s Y9 354]
def wU:Obj:=fa (g1 22) QT
def wR:Obj:=cf QT QT 351 93 (.int 1 0) 131 355 356
def wQ:Obj:=⟨y qX,none,(fo (g1 22) QT 3 [] v v v (s E2 341) none (r 136) v 0), #[]⟩
def wO:Obj:=Q (y l0) #[s x52 361,s x53 362,s WU 363,s Y8 364]
def wN:Obj:=fa (g1 23) QS
def wM:Obj:=cf QS QS 358 95 (.int 2 0) 138 365 366
def wL:Obj:=⟨y qX,none,(fo (g1 23) QS 3 [] v v v (s E2 341) none (r 143) v 0), #[]⟩
def wK:Obj:=Q (y l0) #[s WU 371,s Y8 372]
def wJ:Obj:=fa (g1 24) QO
def wI:Obj:=cf QO QO 368 101 (.int 2 0) 145 373 374
def wH:Obj:=⟨y qX,none,(fo (g1 24) QO 3 [] v v v (s E2 341) none (r 150) v 0), #[]⟩
def wG:Obj:=fa (g1 25) QN
def wF:Obj:=F (y l1) #[s QN 376,s QN 377,s x1 378,.int 103 0,.int 2 0,z,z,.int 3 0,r 152,.bool true,.int 181 0,r 153,v,v,v,r 154,.int 379 0,.int 103 0,s x1 380]
def wD:Obj:=⟨y qX,none,(fo (g1 25) QN 3 [] v v v (s E2 341) none (r 155) v 0), #[]⟩
def T5(P:Params):BT:=(ir (il (T4 P) [(3,Vb P),(12,MT)]) 82 [az,aI,Dd,Dc,C9,az,aI,C8,C7,C6,az,aI,C5,C4,C3,az,aI,C2,xC,xB,az,aI,xA,xy,xx,az,aI,xw,xu,xq,az,aI,xo,az,xm,xj,xh,az,aI,xg,w9,w6,az,aI,wZ,az,wY,wX,wW,az,aI,wV,az,wU,wR,wQ,az,aI,wO,az,wN,wM,wL,az,aI,wK,az,wJ,wI,wH,az,aI,wG,wF,wD])
def S5(P:Params)(os:OsState):SharedT:=⟨T5 P,157,lf, #[],⟨0,0,0,0⟩,382,os⟩
def LA(P:Params):Obj:=ud (Vb P) [] [e P QM 389 (r 163),e P QL 399 (r 170),e P QK 405 (r 175),e P QJ 418 (r 182),e P QI 424 (r 187),e P R6 430 (r 192)] 37
def DJ:Obj:=ap MT [.int 115 0,z,r 162,.int 119 0,z,r 169,.int 124 0,z,r 174,.int 137 0,z,r 181,.int 152 0,z,r 186,.int 158 0,z,r 191]
def wC:Obj:=Q (y l0) #[s Y7 385,s WV 386]
def wB:Obj:=fa (g1 26) QM
def wA:Obj:=cf QM QM 382 115 (.int 2 0) 157 387 388
def wz:Obj:=⟨y qX,none,(fo (g1 26) QM 3 [] v v v (s E2 341) none (r 162) v 0), #[]⟩
def wu:Obj:=Q (y l0) #[s Za 393,s x63 394,s x64 395,s Y7 396]
def wm:Obj:=fa (g1 27) QL
def wk:Obj:=cf QL QL 390 119 (.int 3 0) 164 397 398
def wj:Obj:=⟨y qX,none,(fo (g1 27) QL 3 [] v v v (s E2 341) none (r 169) v 0), #[]⟩
def wg:Obj:=fa (g1 28) QK
def we:Obj:=F (y l1) #[s QK 400,s QK 401,s x1 402,.int 124 0,.int 2 0,z,z,.int 3 0,r 171,.bool true,.int 181 0,r 172,v,v,v,r 173,.int 403 0,.int 124 0,s x1 404]
def wc:Obj:=⟨y qX,none,(fo (g1 28) QK 3 [] v v v (s E2 341) none (r 174) v 0), #[]⟩
def v8:Obj:=Q (y l0) #[s x65 409,s Y9 410,s WU 411,s WV 412,s x66 413,s x67 414,s x68 415]
def v7:Obj:=fa (g1 29) QJ
def vZ:Obj:=cf QJ QJ 406 137 (.int 2 0) 176 416 417
def vY:Obj:=⟨y qX,none,(fo (g1 29) QJ 3 [] v v v (s E2 341) none (r 181) v 0), #[]⟩
def vX:Obj:=fa (g1 30) QI
def vW:Obj:=F (y l1) #[s QI 419,s QI 420,s x1 421,.int 152 0,.int 1 0,z,z,.int 3 0,r 183,.bool true,.int 181 0,r 184,v,v,v,r 185,.int 422 0,.int 152 0,s x1 423]
def vV:Obj:=⟨y qX,none,(fo (g1 30) QI 3 [] v v v (s E2 341) none (r 186) v 0), #[]⟩
def vU:Obj:=fa (g1 31) R6
def vS:Obj:=F (y l1) #[s R6 425,s R6 426,s x1 427,.int 158 0,.int 1 0,z,z,.int 3 0,r 188,.bool true,.int 181 0,r 189,v,v,v,r 190,.int 428 0,.int 158 0,s x1 429]
def vR:Obj:=⟨y qX,none,(fo (g1 31) R6 3 [] v v v (s E2 341) none (r 191) v 0), #[]⟩
def T6(P:Params):BT:=(ir (il (T5 P) [(3,LA P),(12,DJ)]) 157 [az,aI,wC,az,wB,wA,wz,az,aI,wu,az,wm,wk,wj,az,aI,wg,we,wc,az,aI,v8,az,v7,vZ,vY,az,aI,vX,vW,vV,az,aI,vU,vS,vR])
def S6(P:Params)(os:OsState):SharedT:=⟨T6 P,193,lf, #[],⟨0,0,0,0⟩,431,os⟩
def HF(P:Params):Heap:=⟨⟨[boot_o_0 P,boot_o_1 P,boot_o_2 P,LA P,boot_o_4 P,boot_o_5 P,boot_o_6 P,boot_o_7 P,boot_o_8 P,boot_o_9 P,boot_o_10 P,az,DJ,DI,DH,DG,uq,MS P,az,aI,MR,MQ,az,DF P,DE,DC,MP,MO,pF,uq,MN P,az,aI,MM,ML,az,DB P,DA,MK,MJ,pF,uq,MI P,az,aI,MH,MG,az,Dz P,Dy,MF,ME,Dw,Dv,az,aI,Du,az,Dt,Ds,Dr,az,aI,Dq,az,Dp,Dn,Dm,az,aI,Dl,az,Dk,Dj,Di,az,aI,Dh,az,Dg,Df,De,az,aI,Dd,Dc,C9,az,aI,C8,C7,C6,az,aI,C5,C4,C3,az,aI,C2,xC,xB,az,aI,xA,xy,xx,az,aI,xw,xu,xq,az,aI,xo,az,xm,xj,xh,az,aI,xg,w9,w6,az,aI,wZ,az,wY,wX,wW,az,aI,wV,az,wU,wR,wQ,az,aI,wO,az,wN,wM,wL,az,aI,wK,az,wJ,wI,wH,az,aI,wG,wF,wD,az,aI,wC,az,wB,wA,wz,az,aI,wu,az,wm,wk,wj,az,aI,wg,we,wc,az,aI,v8,az,v7,vZ,vY,az,aI,vX,vW,vV,az,aI,vU,vS,vR]⟩,lf⟩
def KF(P:Params):Frag:=(nat_lit 0,(boot_o_0 P))::(nat_lit 1,(boot_o_1 P))::(nat_lit 2,(boot_o_2 P))::(nat_lit 3,(LA P))::(nat_lit 4,(boot_o_4 P))::(nat_lit 5,(boot_o_5 P))::(nat_lit 6,(boot_o_6 P))::(nat_lit 7,(boot_o_7 P))::(nat_lit 8,(boot_o_8 P))::(nat_lit 9,(boot_o_9 P))::(nat_lit 10,(boot_o_10 P))::(nat_lit 11,az)::(nat_lit 12,DJ)::(nat_lit 13,DI)::(nat_lit 14,DH)::(nat_lit 15,DG)::(nat_lit 22,az)::(nat_lit 23,(DF P))::(nat_lit 24,DE)::(nat_lit 25,DC)::(nat_lit 28,pF)::(nat_lit 35,az)::(nat_lit 36,(DB P))::(nat_lit 37,DA)::(nat_lit 40,pF)::(nat_lit 47,az)::(nat_lit 48,(Dz P))::(nat_lit 49,Dy)::(nat_lit 52,Dw)::(nat_lit 53,Dv)::(nat_lit 54,az)::(nat_lit 55,aI)::(nat_lit 56,Du)::(nat_lit 57,az)::(nat_lit 58,Dt)::(nat_lit 59,Ds)::(nat_lit 60,Dr)::(nat_lit 61,az)::(nat_lit 62,aI)::(nat_lit 63,Dq)::(nat_lit 64,az)::(nat_lit 65,Dp)::(nat_lit 66,Dn)::(nat_lit 67,Dm)::(nat_lit 68,az)::(nat_lit 69,aI)::(nat_lit 70,Dl)::(nat_lit 71,az)::(nat_lit 72,Dk)::(nat_lit 73,Dj)::(nat_lit 74,Di)::(nat_lit 75,az)::(nat_lit 76,aI)::(nat_lit 77,Dh)::(nat_lit 78,az)::(nat_lit 79,Dg)::(nat_lit 80,Df)::(nat_lit 81,De)::(nat_lit 82,az)::(nat_lit 83,aI)::(nat_lit 84,Dd)::(nat_lit 85,Dc)::(nat_lit 86,C9)::(nat_lit 87,az)::(nat_lit 88,aI)::(nat_lit 89,C8)::(nat_lit 90,C7)::(nat_lit 91,C6)::(nat_lit 92,az)::(nat_lit 93,aI)::(nat_lit 94,C5)::(nat_lit 95,C4)::(nat_lit 96,C3)::(nat_lit 97,az)::(nat_lit 98,aI)::(nat_lit 99,C2)::(nat_lit 100,xC)::(nat_lit 101,xB)::(nat_lit 102,az)::(nat_lit 103,aI)::(nat_lit 104,xA)::(nat_lit 105,xy)::(nat_lit 106,xx)::(nat_lit 107,az)::(nat_lit 108,aI)::(nat_lit 109,xw)::(nat_lit 110,xu)::(nat_lit 111,xq)::(nat_lit 112,az)::(nat_lit 113,aI)::(nat_lit 114,xo)::(nat_lit 115,az)::(nat_lit 116,xm)::(nat_lit 117,xj)::(nat_lit 118,xh)::(nat_lit 119,az)::(nat_lit 120,aI)::(nat_lit 121,xg)::(nat_lit 122,w9)::(nat_lit 123,w6)::(nat_lit 124,az)::(nat_lit 125,aI)::(nat_lit 126,wZ)::(nat_lit 127,az)::(nat_lit 128,wY)::(nat_lit 129,wX)::(nat_lit 130,wW)::(nat_lit 131,az)::(nat_lit 132,aI)::(nat_lit 133,wV)::(nat_lit 134,az)::(nat_lit 135,wU)::(nat_lit 136,wR)::(nat_lit 137,wQ)::(nat_lit 138,az)::(nat_lit 139,aI)::(nat_lit 140,wO)::(nat_lit 141,az)::(nat_lit 142,wN)::(nat_lit 143,wM)::(nat_lit 144,wL)::(nat_lit 145,az)::(nat_lit 146,aI)::(nat_lit 147,wK)::(nat_lit 148,az)::(nat_lit 149,wJ)::(nat_lit 150,wI)::(nat_lit 151,wH)::(nat_lit 152,az)::(nat_lit 153,aI)::(nat_lit 154,wG)::(nat_lit 155,wF)::(nat_lit 156,wD)::(nat_lit 157,az)::(nat_lit 158,aI)::(nat_lit 159,wC)::(nat_lit 160,az)::(nat_lit 161,wB)::(nat_lit 162,wA)::(nat_lit 163,wz)::(nat_lit 164,az)::(nat_lit 165,aI)::(nat_lit 166,wu)::(nat_lit 167,az)::(nat_lit 168,wm)::(nat_lit 169,wk)::(nat_lit 170,wj)::(nat_lit 171,az)::(nat_lit 172,aI)::(nat_lit 173,wg)::(nat_lit 174,we)::(nat_lit 175,wc)::(nat_lit 176,az)::(nat_lit 177,aI)::(nat_lit 178,v8)::(nat_lit 179,az)::(nat_lit 180,v7)::(nat_lit 181,vZ)::(nat_lit 182,vY)::(nat_lit 183,az)::(nat_lit 184,aI)::(nat_lit 185,vX)::(nat_lit 186,vW)::(nat_lit 187,vV)::(nat_lit 188,az)::(nat_lit 189,aI)::(nat_lit 190,vU)::(nat_lit 191,vS)::(nat_lit 192,vR)::[]
def KG(P:Params):Frag:=(nat_lit 0,(boot_o_0 P))::(nat_lit 1,(boot_o_1 P))::(nat_lit 2,(boot_o_2 P))::(nat_lit 3,(LA P))::(nat_lit 4,(boot_o_4 P))::(nat_lit 5,(boot_o_5 P))::(nat_lit 6,(boot_o_6 P))::(nat_lit 7,(boot_o_7 P))::(nat_lit 8,(boot_o_8 P))::(nat_lit 9,(boot_o_9 P))::(nat_lit 10,(boot_o_10 P))::(nat_lit 11,az)::(nat_lit 12,DJ)::(nat_lit 13,DI)::(nat_lit 14,DH)::(nat_lit 15,DG)::(nat_lit 22,az)::(nat_lit 23,(DF P))::(nat_lit 24,DE)::(nat_lit 25,DC)::(nat_lit 28,pF)::(nat_lit 35,az)::(nat_lit 36,(DB P))::(nat_lit 37,DA)::(nat_lit 40,pF)::(nat_lit 47,az)::(nat_lit 48,(Dz P))::(nat_lit 49,Dy)::(nat_lit 52,Dw)::(nat_lit 53,Dv)::(nat_lit 54,az)::(nat_lit 55,aI)::(nat_lit 56,Du)::(nat_lit 57,az)::(nat_lit 58,Dt)::(nat_lit 59,Ds)::(nat_lit 60,Dr)::(nat_lit 61,az)::(nat_lit 62,aI)::(nat_lit 63,Dq)::(nat_lit 64,az)::(nat_lit 65,Dp)::(nat_lit 66,Dn)::(nat_lit 67,Dm)::(nat_lit 68,az)::(nat_lit 69,aI)::(nat_lit 70,Dl)::(nat_lit 71,az)::(nat_lit 72,Dk)::(nat_lit 73,Dj)::(nat_lit 74,Di)::(nat_lit 75,az)::(nat_lit 76,aI)::(nat_lit 77,Dh)::(nat_lit 78,az)::(nat_lit 79,Dg)::(nat_lit 80,Df)::(nat_lit 81,De)::(nat_lit 82,az)::(nat_lit 83,aI)::(nat_lit 84,Dd)::(nat_lit 85,Dc)::(nat_lit 86,C9)::(nat_lit 87,az)::(nat_lit 88,aI)::(nat_lit 89,C8)::(nat_lit 90,C7)::(nat_lit 91,C6)::(nat_lit 92,az)::(nat_lit 93,aI)::(nat_lit 94,C5)::(nat_lit 95,C4)::(nat_lit 96,C3)::(nat_lit 97,az)::(nat_lit 98,aI)::(nat_lit 99,C2)::(nat_lit 100,xC)::(nat_lit 101,xB)::(nat_lit 102,az)::(nat_lit 104,xA)::(nat_lit 105,xy)::(nat_lit 106,xx)::(nat_lit 107,az)::(nat_lit 109,xw)::(nat_lit 110,xu)::(nat_lit 111,xq)::(nat_lit 112,az)::(nat_lit 113,aI)::(nat_lit 114,xo)::(nat_lit 115,az)::(nat_lit 116,xm)::(nat_lit 117,xj)::(nat_lit 118,xh)::(nat_lit 119,az)::(nat_lit 120,aI)::(nat_lit 121,xg)::(nat_lit 122,w9)::(nat_lit 123,w6)::(nat_lit 124,az)::(nat_lit 125,aI)::(nat_lit 126,wZ)::(nat_lit 127,az)::(nat_lit 128,wY)::(nat_lit 129,wX)::(nat_lit 130,wW)::(nat_lit 131,az)::(nat_lit 132,aI)::(nat_lit 133,wV)::(nat_lit 134,az)::(nat_lit 135,wU)::(nat_lit 136,wR)::(nat_lit 137,wQ)::(nat_lit 138,az)::(nat_lit 139,aI)::(nat_lit 140,wO)::(nat_lit 141,az)::(nat_lit 142,wN)::(nat_lit 143,wM)::(nat_lit 144,wL)::(nat_lit 145,az)::(nat_lit 146,aI)::(nat_lit 147,wK)::(nat_lit 148,az)::(nat_lit 149,wJ)::(nat_lit 150,wI)::(nat_lit 151,wH)::(nat_lit 152,az)::(nat_lit 153,aI)::(nat_lit 154,wG)::(nat_lit 155,wF)::(nat_lit 156,wD)::(nat_lit 157,az)::(nat_lit 158,aI)::(nat_lit 159,wC)::(nat_lit 160,az)::(nat_lit 161,wB)::(nat_lit 162,wA)::(nat_lit 163,wz)::(nat_lit 164,az)::(nat_lit 165,aI)::(nat_lit 166,wu)::(nat_lit 167,az)::(nat_lit 168,wm)::(nat_lit 169,wk)::(nat_lit 170,wj)::(nat_lit 171,az)::(nat_lit 172,aI)::(nat_lit 173,wg)::(nat_lit 174,we)::(nat_lit 175,wc)::(nat_lit 176,az)::(nat_lit 177,aI)::(nat_lit 178,v8)::(nat_lit 179,az)::(nat_lit 180,v7)::(nat_lit 181,vZ)::(nat_lit 182,vY)::(nat_lit 183,az)::(nat_lit 184,aI)::(nat_lit 185,vX)::(nat_lit 186,vW)::(nat_lit 187,vV)::(nat_lit 188,az)::(nat_lit 189,aI)::(nat_lit 190,vU)::(nat_lit 191,vS)::(nat_lit 192,vR)::[]
noncomputable def AF:List Nat:=[0,1,2,3,4,5,6,7,8,9,10,11,12,13,14,15,22,23,24,25,28,35,36,37,40,47,48,49,52,53,54,55,56,57,58,59,60,61,62,63,64,65,66,67,68,69,70,71,72,73,74,75,76,77,78,79,80,81,82,83,84,85,86,87,88,89,90,91,92,93,94,95,96,97,98,99,100,101,102,103,104,105,106,107,108,109,110,111,112,113,114,115,116,117,118,119,120,121,122,123,124,125,126,127,128,129,130,131,132,133,134,135,136,137,138,139,140,141,142,143,144,145,146,147,148,149,150,151,152,153,154,155,156,157,158,159,160,161,162,163,164,165,166,167,168,169,170,171,172,173,174,175,176,177,178,179,180,181,182,183,184,185,186,187,188,189,190,191,192]
def LZ:List Str:=[x5,LS,LR,Ze,Zd,Q8,Q7,Q6,Q5,Q4,Q3,Q2,QZ,QY,QX,QW,QV,QU,QT,QS,QO,QN,QM,QL,QK,QJ,QI]
def ev:Env:={scope:=pq.main.scope,locals:=mainNs,globals:=mainNs,cells:=[],code:=(.ref 13),frame:=some 14}
noncomputable abbrev cE:Code:= .body bE ev
noncomputable abbrev Bq:List Frame:=[topFrame ⟨0,0,0,0⟩]
def sl(i n:Nat):List Stmt:=(bE.drop i).take n
noncomputable abbrev an:Option Value:=(some (.ref 6))
def lg{w:World}{n:Nat}{s s':SharedT}{t:Thread}{f:Flow}{c:Code}{q:Pos}(h:W.Fast.tw10110043849684766642 W.Fast.tw14364793385576792824 pq w 11 an 1 n s t=some (f,s',c,q)):segRun treeTable pq w 11 an 1 n s.abs t=some (f,s'.abs,c,q):=segRun_of (by rw[W.Fast.te10110043849684766642,W.Fast.te14364793385576792824];exact h)
def lt{w:World}{n:Nat}{s:Shared}{t:Thread}{r:Option Shared}(h:W.Fast.tw14082659384304107361 W.Fast.tw14364793385576792824 pq w 11 an n s t=r):topRun treeTable pq w 11 an n s t=r:=by rw[W.Fast.te14082659384304107361,W.Fast.te14364793385576792824];exact h
def lp{w:World}{n:Nat}{s s':Shared}{p:Pos}(h:W.Fast.tw15667345088766844465 W.Fast.tw14364793385576792824 pq w 11 an n s (W.topStub pq)=some (s',⟨W.Fast.tw11892475500146522536 W.Fast.tw14364793385576792824 cE,cE,p,Bq⟩)):topGo treeTable pq w 11 an n s (topStub pq)=some (s',⟨denote treeTable cE,cE,p,Bq⟩):=by rw[W.Fast.te15667345088766844465,W.Fast.te11892475500146522536,W.Fast.te14364793385576792824];exact h
def pre(w:World)(os:OsState):topGo treeTable pq w 11 an 12 ⟨boot_heap w.params,Array.mk [],boot_drawn,boot_toks,os⟩ (topStub pq)=some ((S0 w.params os).abs,⟨denote treeTable cE,cE,⟨0,0,0,0⟩,Bq⟩):=lp (by kernel_rfl)
def iK(w:World)(os:OsState):segRun treeTable pq w 11 an 1 1 (S0 w.params os).abs (blockOf bE ev cE ⟨0,0,0,0⟩ Bq)=some (.next,(S1 w.params os).abs,cE,⟨0,0,0,0⟩):=lg (by kernel_rfl)
def g_1(w:World)(os:OsState):segRun treeTable pq w 11 an 1 196 (S1 w.params os).abs (piecesOf (sl 0 2) ev cE ⟨0,0,0,0⟩ Bq)=some (.next,(S2 w.params os).abs,cE,⟨2,0,3,8⟩):=lg (by kernel_rfl)
def g_2(w:World)(os:OsState):segRun treeTable pq w 11 an 1 214 (S2 w.params os).abs (piecesOf (sl 2 1) ev cE ⟨2,0,3,8⟩ Bq)=some (.next,(S3 w.params os).abs,cE,⟨4,0,5,8⟩):=lg (by kernel_rfl)
def g_3(w:World)(os:OsState):segRun treeTable pq w 11 an 1 380 (S3 w.params os).abs (piecesOf (sl 3 9) ev cE ⟨4,0,5,8⟩ Bq)=some (.next,(S4 w.params os).abs,cE,⟨29,0,30,54⟩):=lg (by kernel_rfl)
def g_4(w:World)(os:OsState):segRun treeTable pq w 11 an 1 375 (S4 w.params os).abs (piecesOf (sl 12 14) ev cE ⟨29,0,30,54⟩ Bq)=some (.next,(S5 w.params os).abs,cE,⟨103,0,114,28⟩):=lg (by kernel_rfl)
def g_5(w:World)(os:OsState):segRun treeTable pq w 11 an 1 176 (S5 w.params os).abs (piecesOf (sl 26 6) ev cE ⟨103,0,114,28⟩ Bq)=some (.next,(S6 w.params os).abs,cE,⟨158,0,169,65⟩):=lg (by kernel_rfl)
def fin(w:World)(os:OsState):topRun treeTable pq w 11 an 2 (S6 w.params os).abs ⟨doneF .next,cE,⟨158,0,169,65⟩,Bq⟩=some ⟨HF w.params, #[],⟨0,0,0,0⟩,431,os⟩:=lt (by kernel_rfl)
def U8:bE=sl 0 2++(sl 2 1++(sl 3 9++(sl 12 14++(sl 26 6++[])))):=by kernel_rfl
def rest(w:World)(os:OsState):topRun treeTable pq w 11 an (196+(214+(380+(375+(176+(2)))))) (S1 w.params os).abs (restOf bE ev cE ⟨0,0,0,0⟩ Bq)=some ⟨HF w.params, #[],⟨0,0,0,0⟩,431,os⟩:=(congrArg (λ l=>topRun treeTable pq w 11 an (196+(214+(380+(375+(176+(2)))))) (S1 w.params os).abs (restOf l ev cE ⟨0,0,0,0⟩ Bq)) U8).trans (piece_app (g_1 w os) (piece_app (g_2 w os) (piece_app (g_3 w os) (piece_app (g_4 w os) (piece_app (g_5 w os) (piece_nil (fin w os)))))))
def run(w:World)(os:OsState):topRun treeTable pq w 11 an (12+(1+(196+(214+(380+(375+(176+(2)))))))) ⟨boot_heap w.params,Array.mk [],boot_drawn,boot_toks,os⟩ (topStub pq)=some ⟨HF w.params, #[],⟨0,0,0,0⟩,431,os⟩:=go_top (pre w os) (piece_block (iK w os) (rest w os))
noncomputable abbrev qv:Program:=view pq [31]
def lk1(w:World)(os:OsState):(staticsOk (importedModules pq.main.body) (boot_heap w.params) (HF w.params)&&namesBound pq (HF w.params)&&gensDone (Shared.mk (HF w.params) #[] ⟨0,0,0,0⟩ 431 os)&&laidKept (boot_heap w.params) (HF w.params))=true:=by kernel_rfl
def lk2(w:World)(os:OsState):openSeen qv LZ (importedModules pq.main.body) (λ _=>true) true (Shared.mk (HF w.params) #[] ⟨0,0,0,0⟩ 431 os)=openGood qv LZ:=by rw[W.Fast.te4187177175401517315];kernel_rfl
def lk3(w:World)(os:OsState):X.obsZ AF (Shared.mk (HF w.params) #[] ⟨0,0,0,0⟩ 431 os)=X.valZ KF 193 431 w:=by kernel_rfl
def hl1:LeftO pq qv LZ (λ _=>true) (X.obsZ AF) (X.valZ KF 193 431) 2798:=LeftO.of_pieces (boot_open (by kernel_rfl) (by kernel_rfl) (λ s=>by kernel_rfl)) (m₀:=11) (ann:=an) (λ w=>by kernel_rfl) run (by kernel_rfl) (λ w=>funext λ os=>looks_pair (lk1 w os) (looks_pair (lk2 w os) (lk3 w os)))
def hl:LeftO PySem.Challenge.pw_beamtable_k28_rows_solved (view PySem.Challenge.pw_beamtable_k28_rows_solved [31]) LZ (λ _=>true) (X.obsZ AF) (X.valZ KF 193 431) 2798:=by rw[W.Fast.te5375651941789983191];exact hl1
end KO
end
section
def cC{p q:Prop}{G:Prop}(j:p->q->G):(p/\q)->G:=by rintro ⟨x,y⟩;exact j x y
def bg{p q r:Prop}{G:Prop}(j:p->q->r->G):(p/\q/\r)->G:=by rintro ⟨x,y,z⟩;exact j x y z
def aV{p q r:Prop}(x:p)(y:q)(z:r):p/\q/\r:=⟨x,y,z⟩
def jE{p q r s:Prop}{G:Prop}(j:p->q->r->s->G):(p/\q/\r/\s)->G:=by rintro ⟨x,y,z,k⟩;exact j x y z k
def iE{p q r s:Prop}(x:p)(y:q)(z:r)(k:s):p/\q/\r/\s:=⟨x,y,z,k⟩
def jD{p q r s t:Prop}{G:Prop}(j:p->q->r->s->t->G):(p/\q/\r/\s/\t)->G:=by rintro ⟨x,y,z,k,l⟩;exact j x y z k l
def nV{p q r s t:Prop}(x:p)(y:q)(z:r)(k:s)(l:t):p/\q/\r/\s/\t:=⟨x,y,z,k,l⟩
def fh{p q r s t u:Prop}{G:Prop}(j:p->q->r->s->t->u->G):(p/\q/\r/\s/\t/\u)->G:=by rintro ⟨x,y,z,k,l,m⟩;exact j x y z k l m
def Aw{p q r s t u:Prop}(x:p)(y:q)(z:r)(k:s)(l:t)(m:u):p/\q/\r/\s/\t/\u:=⟨x,y,z,k,l,m⟩
def ah{A:Sort _}{p q:A->Prop}{G:Prop}(j:∀a,p a->q a->G):(∃a,p a/\q a)->G:=by rintro ⟨a,x,y⟩;exact j a x y
def af{A:Sort _}{p q:A->Prop}(a)(x:p a)(y:q a):∃a,p a/\q a:=⟨a,x,y⟩
def aH{A:Sort _}{p q r:A->Prop}{G:Prop}(j:∀a,p a->q a->r a->G):(∃a,p a/\q a/\r a)->G:=by rintro ⟨a,x,y,z⟩;exact j a x y z
def aY{A:Sort _}{p q r:A->Prop}(a)(x:p a)(y:q a)(z:r a):∃a,p a/\q a/\r a:=⟨a,x,y,z⟩
def dw{A:Sort _}{p q r s:A->Prop}{G:Prop}(j:∀a,p a->q a->r a->s a->G):(∃a,p a/\q a/\r a/\s a)->G:=by rintro ⟨a,x,y,z,k⟩;exact j a x y z k
def bW{A:Sort _}{p q r s:A->Prop}(a)(x:p a)(y:q a)(z:r a)(k:s a):∃a,p a/\q a/\r a/\s a:=⟨a,x,y,z,k⟩
def NP{A:Sort _}{p q r s u:A->Prop}{G:Prop}(j:∀a,p a->q a->r a->s a->u a->G):(∃a,p a/\q a/\r a/\s a/\u a)->G:=by rintro ⟨a,x,y,z,k,l⟩;exact j a x y z k l
def Av{A:Sort _}{p q r s u:A->Prop}(a)(x:p a)(y:q a)(z:r a)(k:s a)(l:u a):∃a,p a/\q a/\r a/\s a/\u a:=⟨a,x,y,z,k,l⟩
def Ar{A B:Sort _}{p:A->B->Prop}{G:Prop}(j:∀a b,p a b->G):(∃a b,p a b)->G:=by rintro ⟨a,b,x⟩;exact j a b x
def lq{A B:Sort _}{p:A->B->Prop}(a)(b)(x:p a b):∃a b,p a b:=⟨a,b,x⟩
def aW{A B:Sort _}{p q:A->B->Prop}{G:Prop}(j:∀a b,p a b->q a b->G):(∃a b,p a b/\q a b)->G:=by rintro ⟨a,b,x,y⟩;exact j a b x y
def aQ{A B:Sort _}{p q:A->B->Prop}(a)(b)(x:p a b)(y:q a b):∃a b,p a b/\q a b:=⟨a,b,x,y⟩
def aq{A B:Sort _}{p q r:A->B->Prop}{G:Prop}(j:∀a b,p a b->q a b->r a b->G):(∃a b,p a b/\q a b/\r a b)->G:=by rintro ⟨a,b,x,y,z⟩;exact j a b x y z
def ay{A B:Sort _}{p q r:A->B->Prop}(a)(b)(x:p a b)(y:q a b)(z:r a b):∃a b,p a b/\q a b/\r a b:=⟨a,b,x,y,z⟩
def aL{A B:Sort _}{p q r s:A->B->Prop}{G:Prop}(j:∀a b,p a b->q a b->r a b->s a b->G):(∃a b,p a b/\q a b/\r a b/\s a b)->G:=by rintro ⟨a,b,x,y,z,k⟩;exact j a b x y z k
def bh{A B:Sort _}{p q r s:A->B->Prop}(a)(b)(x:p a b)(y:q a b)(z:r a b)(k:s a b):∃a b,p a b/\q a b/\r a b/\s a b:=⟨a,b,x,y,z,k⟩
def cR{A B:Sort _}{p q r s t:A->B->Prop}{G:Prop}(j:∀a b,p a b->q a b->r a b->s a b->t a b->G):(∃a b,p a b/\q a b/\r a b/\s a b/\t a b)->G:=by rintro ⟨a,b,x,y,z,k,l⟩;exact j a b x y z k l
def bN{A B:Sort _}{p q r s t:A->B->Prop}(a)(b)(x:p a b)(y:q a b)(z:r a b)(k:s a b)(l:t a b):∃a b,p a b/\q a b/\r a b/\s a b/\t a b:=⟨a,b,x,y,z,k,l⟩
def uT{A B C:Sort _}{p:A->B->C->Prop}{G:Prop}(j:∀a b c,p a b c->G):(∃a b c,p a b c)->G:=by rintro ⟨a,b,c,x⟩;exact j a b c x
def bT{A B C:Sort _}{p q:A->B->C->Prop}{G:Prop}(j:∀a b c,p a b c->q a b c->G):(∃a b c,p a b c/\q a b c)->G:=by rintro ⟨a,b,c,x,y⟩;exact j a b c x y
def iD{A B C:Sort _}{p q:A->B->C->Prop}(a)(b)(c)(x:p a b c)(y:q a b c):∃a b c,p a b c/\q a b c:=⟨a,b,c,x,y⟩
def eZ{A B C:Sort _}{p q r:A->B->C->Prop}{G:Prop}(j:∀a b c,p a b c->q a b c->r a b c->G):(∃a b c,p a b c/\q a b c/\r a b c)->G:=by rintro ⟨a,b,c,x,y,z⟩;exact j a b c x y z
def nU{A B C:Sort _}{p q r:A->B->C->Prop}(a)(b)(c)(x:p a b c)(y:q a b c)(z:r a b c):∃a b c,p a b c/\q a b c/\r a b c:=⟨a,b,c,x,y,z⟩
def nT{A B C:Sort _}{p q r s:A->B->C->Prop}{G:Prop}(j:∀a b c,p a b c->q a b c->r a b c->s a b c->G):(∃a b c,p a b c/\q a b c/\r a b c/\s a b c)->G:=by rintro ⟨a,b,c,x,y,z,k⟩;exact j a b c x y z k
def iC{A B C:Sort _}{p q r s:A->B->C->Prop}(a)(b)(c)(x:p a b c)(y:q a b c)(z:r a b c)(k:s a b c):∃a b c,p a b c/\q a b c/\r a b c/\s a b c:=⟨a,b,c,x,y,z,k⟩
def qE{A B C:Sort _}{p q r s t:A->B->C->Prop}{G:Prop}(j:∀a b c,p a b c->q a b c->r a b c->s a b c->t a b c->G):(∃a b c,p a b c/\q a b c/\r a b c/\s a b c/\t a b c)->G:=by rintro ⟨a,b,c,x,y,z,k,l⟩;exact j a b c x y z k l
def k9{A B C:Sort _}{p q r s t:A->B->C->Prop}(a)(b)(c)(x:p a b c)(y:q a b c)(z:r a b c)(k:s a b c)(l:t a b c):∃a b c,p a b c/\q a b c/\r a b c/\s a b c/\t a b c:=⟨a,b,c,x,y,z,k,l⟩
def Aq{A B C D:Sort _}{p q:A->B->C->D->Prop}{G:Prop}(j:∀a b c d,p a b c d->q a b c d->G):(∃a b c d,p a b c d/\q a b c d)->G:=by rintro ⟨a,b,c,d,x,y⟩;exact j a b c d x y
def NQ{A B C D:Sort _}{p q:A->B->C->D->Prop}(a)(b)(c)(d)(x:p a b c d)(y:q a b c d):∃a b c d,p a b c d/\q a b c d:=⟨a,b,c,d,x,y⟩
def Ao{A B C D:Sort _}{p q r s:A->B->C->D->Prop}{G:Prop}(j:∀a b c d,p a b c d->q a b c d->r a b c d->s a b c d->G):(∃a b c d,p a b c d/\q a b c d/\r a b c d/\s a b c d)->G:=by rintro ⟨a,b,c,d,x,y,z,k⟩;exact j a b c d x y z k
def Au{A B C D:Sort _}{p q r s:A->B->C->D->Prop}(a)(b)(c)(d)(x:p a b c d)(y:q a b c d)(z:r a b c d)(k:s a b c d):∃a b c d,p a b c d/\q a b c d/\r a b c d/\s a b c d:=⟨a,b,c,d,x,y,z,k⟩
def cI{A B C D:Sort _}{p q r s t:A->B->C->D->Prop}{G:Prop}(j:∀a b c d,p a b c d->q a b c d->r a b c d->s a b c d->t a b c d->G):(∃a b c d,p a b c d/\q a b c d/\r a b c d/\s a b c d/\t a b c d)->G:=by rintro ⟨a,b,c,d,x,y,z,k,l⟩;exact j a b c d x y z k l
def bV{A B C D:Sort _}{p q r s t:A->B->C->D->Prop}(a)(b)(c)(d)(x:p a b c d)(y:q a b c d)(z:r a b c d)(k:s a b c d)(l:t a b c d):∃a b c d,p a b c d/\q a b c d/\r a b c d/\s a b c d/\t a b c d:=⟨a,b,c,d,x,y,z,k,l⟩
def cA{A B C D:Sort _}{p q r s t u:A->B->C->D->Prop}{G:Prop}(j:∀a b c d,p a b c d->q a b c d->r a b c d->s a b c d->t a b c d->u a b c d->G):(∃a b c d,p a b c d/\q a b c d/\r a b c d/\s a b c d/\t a b c d/\u a b c d)->G:=by rintro ⟨a,b,c,d,x,y,z,k,l,m⟩;exact j a b c d x y z k l m
def dz{A B C D:Sort _}{p q r s t u:A->B->C->D->Prop}(a)(b)(c)(d)(x:p a b c d)(y:q a b c d)(z:r a b c d)(k:s a b c d)(l:t a b c d)(m:u a b c d):∃a b c d,p a b c d/\q a b c d/\r a b c d/\s a b c d/\t a b c d/\u a b c d:=⟨a,b,c,d,x,y,z,k,l,m⟩
def jF{A B C D E:Sort _}{p q r s t u:A->B->C->D->E->Prop}(a)(b)(c)(d)(e)(x:p a b c d e)(y:q a b c d e)(z:r a b c d e)(k:s a b c d e)(l:t a b c d e)(m:u a b c d e):∃a b c d e,p a b c d e/\q a b c d e/\r a b c d e/\s a b c d e/\t a b c d e/\u a b c d e:=⟨a,b,c,d,e,x,y,z,k,l,m⟩
def As{A B C D E:Sort _}{p q r s t u v w:A->B->C->D->E->Prop}(a)(b)(c)(d)(e)(x:p a b c d e)(y:q a b c d e)(z:r a b c d e)(k:s a b c d e)(l:t a b c d e)(m:u a b c d e)(n:v a b c d e)(o:w a b c d e):∃a b c d e,p a b c d e/\q a b c d e/\r a b c d e/\s a b c d e/\t a b c d e/\u a b c d e/\v a b c d e/\w a b c d e:=⟨a,b,c,d,e,x,y,z,k,l,m,n,o⟩
end
section
namespace L2
open PySem PySem.Spec PyProof.Rows
noncomputable abbrev Key:=Sum Int Str
def o9:Key->Value->Bool
 | .inl k,v=>Value.isInt k v
 | .inr x,v=>Value.isStrOf x v
def Yb(w:World):Key->Int
 | .inl k=>hashInt k
 | .inr x=>hashStr w x
def bH:∀{k:Key} {v:Value},o9 k v=true->(∃i t,k=Sum.inl i/\v=Value.int i t)\/(∃x t,k=Sum.inr x/\v=Value.str x t)
 | .inl i,v,h=>by obtain ⟨t,e⟩:=Value.isInt_shape (k:=i) (v:=v) h;exact .inl (aQ i t rfl e)
 | .inr x,v,h=>by obtain ⟨t,e⟩:=Value.isStrOf_shape (x:=x) (v:=v) h;exact .inr (aQ x t rfl e)
def Eu(i:Int)(t:Tok):o9 (.inl i) (.int i t)=true:=by simp[o9,Value.isInt]
def Et(x:Str)(t:Tok):o9 (.inr x) (.str x t)=true:=by simp[o9,Value.isStrOf]
def OZ(a b:Int):decide ((Sum.inl a:Key)=Sum.inl b)=(a==b):=by
 by_cases e:a=b
 ·subst e;simp
 ·have h:¬(Sum.inl a:Key)=Sum.inl b:=λ q=>e (Sum.inl.inj q);rw[decide_eq_false h];exact (beq_eq_false_iff_ne.mpr e).symm
def OW(a b:Str):decide ((Sum.inr a:Key)=Sum.inr b)=decide (a=b):=by
 by_cases e:a=b
 ·subst e;simp
 ·have h:¬(Sum.inr a:Key)=Sum.inr b:=λ q=>e (Sum.inr.inj q);rw[decide_eq_false h,decide_eq_false e]
def OY(a:Int)(b:Str):decide ((Sum.inl a:Key)=Sum.inr b)=false:=decide_eq_false (λ q=>nomatch q)
def OX(a:Str)(b:Int):decide ((Sum.inr a:Key)=Sum.inl b)=false:=decide_eq_false (λ q=>nomatch q)
def cJ(prog:Program)(w:World):PySem.KeyKind prog w Key where
 is:=o9
 hash:=Yb w
 inj:=λ v a b ha hb=>by
  rcases bH ha with ⟨i,t,rfl,rfl⟩|⟨x,t,rfl,rfl⟩
  ·rcases bH hb with ⟨j,u,rfl,e⟩|⟨y,u,rfl,e⟩
   ·injection e with e1 _;rw[e1]
   ·exact nomatch e
  ·rcases bH hb with ⟨j,u,rfl,e⟩|⟨y,u,rfl,e⟩
   ·exact nomatch e
   ·injection e with e1 _;rw[e1]
 byValue:=λ k v h=>by
  rcases bH h with ⟨i,t,rfl,rfl⟩|⟨x,t,rfl,rfl⟩<;>rfl
 pyHash:=λ hv h=>by
  rcases bH hv with ⟨i,t,rfl,rfl⟩|⟨x,t,rfl,rfl⟩
  ·exact wpAny_pyHash_int h
  ·exact wpAny_pyHash_str h
 eqBool:=λ hu hv h=>by
  rcases bH hu with ⟨i,t,rfl,rfl⟩|⟨x,t,rfl,rfl⟩
  ·rcases bH hv with ⟨j,u,rfl,rfl⟩|⟨y,u,rfl,rfl⟩
   ·rw[OZ] at h;exact wpAny_eqBool_int h
   ·rw[OY] at h;exact SeqAt.EqAt.int_str i t y u _ _ _ _ h
  ·rcases bH hv with ⟨j,u,rfl,rfl⟩|⟨y,u,rfl,rfl⟩
   ·rw[OX] at h;exact SeqAt.EqAt.str_int x t j u _ _ _ _ h
   ·rw[OW] at h;exact wpAny_eqBool_str h
 «strs»:=λ k x t v h=>by
  rcases bH h with ⟨i,u,rfl,e⟩|⟨y,u,rfl,e⟩
  ·exact nomatch e
  ·injection e with e1 _
   subst e1
   cases v<;>rfl
def OO(prog:Program)(w:World)(k:Key)(v:Value):(cJ prog w).is k v=o9 k v:=rfl
def yR(prog:Program)(w:World)(i:Int)(t:Tok):(cJ prog w).is (.inl i) (.int i t)=true:=Eu i t
def yQ(prog:Program)(w:World)(x:Str)(t:Tok):(cJ prog w).is (.inr x) (.str x t)=true:=Et x t
inductive V where
 |gY|bl (b:Bool)|int (i:Int)|str (x:Str)|U5 (b:Array UInt8)|UA (b:UInt64)|ref (a:Addr)|ty (n:String)
 deriving DecidableEq
noncomputable def RelV:V->Value->Prop
 | .gY,u=>u=Value.none
 | .bl b,u=>u=Value.bool b
 | .int i,u=>∃t,u=Value.int i t
 | .str x,u=>∃t,u=Value.str x t
 | .U5 b,u=>∃t,u=Value.bytes b t
 | .UA b,u=>∃t,u=Value.float b t
 | .ref a,u=>u=Value.ref a
 | .ty n,u=>u=Value.type n
abbrev Vals:List V->List Value->Prop:=Paired RelV
theorem Vals.length{xs:List V}{us:List Value}(r:Vals xs us):xs.length=us.length:=Paired.length r
theorem Vals.get:∀{xs:List V} {us:List Value} {i:Nat} {x:V},Vals xs us->xs[i]? =some x->∃u,us[i]? =some u/\RelV x u
 |_,_,_,_,.nil,e=>by simp at e
 |_,_,0,_,.cons r _,e=>by simp at e;subst e;exact af _ rfl r
 |_,_,i+1,x,.cons _ t,e=>by refine ah (λ u h1 h2=>?_) (Vals.get (i:=i) (x:=x) t (by simpa using e));exact af u (by simpa using h1) h2
theorem Vals.set(r:RelV x u):∀{xs:List V} {us:List Value} (i:Nat),Vals xs us->Vals (xs.set i x) (us.set i u)
 |_,_,_,.nil=> .nil
 |_,_,0,.cons _ t=> .cons r t
 |_,_,i+1,.cons q t=> .cons q (Vals.set r i t)
theorem Vals.append:∀{xs ys:List V} {us ws:List Value},Vals xs us->Vals ys ws->Vals (xs++ys) (us++ws)
 |_,_,_,_,.nil,s=>s
 |_,_,_,_,.cons r t,s=> .cons r (Vals.append t s)
theorem Vals.take:∀{xs:List V} {us:List Value} (n:Nat),Vals xs us->Vals (xs.take n) (us.take n)
 |_,_,0,_=> .nil
 |_,_,_+1,.nil=> .nil
 |_,_,n+1,.cons r t=> .cons r (Vals.take n t)
theorem Vals.drop:∀{xs:List V} {us:List Value} (n:Nat),Vals xs us->Vals (xs.drop n) (us.drop n)
 |_,_,0,r=>r
 |_,_,_+1,.nil=> .nil
 |_,_,n+1,.cons _ t=>Vals.drop n t
def rV:Option V->Option Value->Prop
 |some v,some u=>RelV v u
 |none,none=>True
 |_,_=>False
def KV{κ:Type}:List (κ×V)->List (κ×Value)->Prop:=Paired λ(p:κ×V) (q:κ×Value)=>p.1=q.1/\RelV p.2 q.2
def kV:Key->V
 | .inl i=> .int i
 | .inr x=> .str x
inductive HO where
 /-- a list -/
 |lst (xs:List V)
 /-- a tuple (never changes) -/
 |tup (xs:List V)
 /-- a dict R8 keys are ints and texts;one R8 keys are tuples of ints and texts (Ag empty one is both) -/
 |dK (kvs:List (Key×V))|dT (kvs:List (List Key×V))
 /-- a set of ints:its members,its size -/
 |set (S:Int->Bool) (n:Nat)
 /-- an instance of Ag class at C,its dict at dx,its attributes -/
 |ins (C dx:Addr) (fs:List (Str×V))
 /-- Ag dict of Ag instance at x -/
 |own (x:Addr)
 /-- Ag dict of an exception -/
 |xd (fs:List (Str×V))
 /-- a bound method,f of x -/
 |met (f x:Addr)
 /-- a range object lo,lo+1,.. below hi -/
 |VN (lo hi:Int)
 /-- a thing yb is known to Ag object (Ag script;a dict while a loop walks it):read,never written while it is so -/
 |jP (o:Obj) (u:HO)
 /-- a code Tw table -/
 |JB (ps:Array Value)
 /-- any other thing,by what is true of its one object (a def of Zx own:acj a S n:=HO.ext λ h=> ..) -/
 |ext (φ:Heap->Prop)
 /-- Ag table of a code object within which one OU is made,at p,of Ag long name q -/
 |EO (p:Pos) (q:Str)
noncomputable abbrev Hp:=Addr->Option HO
def upd(H:Hp)(a:Addr)(o:HO):Hp:=λ b=>if b=a then some o else H b
def aJ{H:Hp}{a:Addr}{o:HO}:upd H a o a=some o:=by unfold upd;rw[if_pos rfl]
def aE{H:Hp}{a b:Addr}{o:HO}(h:b≠a):upd H a o b=H b:=by unfold upd;rw[if_neg h]
def TR{H:Hp}{a b:Addr}{o u:HO}(h:H a=some o)(h':H b=some u)(d:o≠u):a≠b:=by intro e;subst e;rw[h] at h';exact d (Option.some.inj h')
def bX{H:Hp}{a b:Addr}{o:HO}(h:H a=some o)(h':H b=none):a≠b:=by intro e;subst e;rw[h] at h';cases h'
section
variable(P:Program)(w:World)
noncomputable def IW(q:Str)(oc:Obj):Prop:=∃vs t,oc.data= .fields vs/\vs[1]? =some (.str q t)
def bS(H:Hp)(h:Heap)(a:Addr):HO->Prop
 | .lst xs=>xs.length<=sizeLine/\∃(its:List Value) (n:Nat),Vals xs its/\h.get? a=some {cls:= .type "list",data:= .seq its.toArray n}
 | .tup xs=>xs.length<=sizeLine/\∃its:List Value,Vals xs its/\IsTup h a its.toArray
 | .dK kvs=>kvs.length<=sizeLine/\(a==sysModules)=false/\∃vs,KV kvs vs/\h.DictOf (cJ P w) a vs
 | .dT kvs=>kvs.length<=sizeLine/\(a==sysModules)=false/\∃xs:List (List Key×Addr×Value),Paired (λ(p:List Key×V) (q:List Key×Addr×Value)=>p.1=q.1/\H q.2.1=some (.tup (p.1.map kV))/\RelV p.2 q.2.2) kvs xs/\∃o es ep,h.get? a=some o/\o.ExactDict/\o.data= .dict es ep/\es.toList=xs.map (entryOfKey (tupleKind (cJ P w)))/\(xs.map (·.1)).Nodup
 | .set S n=>h.SetOf (intKind P w) a S n
 | .ins C dx fs=>H dx=some (.own a)/\fs.length<=1000/\dx≠a/\h.get? a=some (W.instObj C dx)/\∃mA,h.Ns1 dx mA/\(∀f,rV (fs.lookup f) (mA f))/\PySem.Within mA (fs.map (·.1))
 | .own _=>∃o,h.get? a=some o
 | .xd fs=>∃mA,h.Ns1 a mA/\∀f,rV (fs.lookup f) (mA f)
 | .VN lo hi=>∃t u v,h.get? a=some {cls:= .type "range",data:= .fields #[.int lo t,.int hi u,.int 1 v]}
 | .jP o u=>h.get? a=some o/\bS H h a u
 | .JB ps=>h.get? a=some {cls:= .none,data:= .fields ps}
 | .met f x=>h.get? a=some (W.methodObj (.ref f) (.ref x))
 | .ext φ=>φ h/\(∃o,h.get? a=some o)/\∀h1 h2:Heap,φ h1->(∀o,h1.get? a=some o->h2.get? a=some o)->φ h2
 | .EO p q=>∃ps:Array Value,h.get? a=some {cls:= .none,data:= .fields ps}/\TriplesOk ps.toList/\∀cv,codeAmong p ps.toList=some cv->∃c' oc,cv= .ref c'/\H c'=some (.jP oc (.own a))/\IW q oc
def kC(H:Hp)(h:Heap):Prop:=∀a o,H a=some o->bS P w H h a o
end
section
variable{P:Program}{w:World}{H H':Hp}{h h':Heap}{a:Addr}{o:HO}
theorem bS.lt(x:bS P w H h a o):a<h.objs.size:=by
 cases o with
 |lst xs=>refine cC (λ _=>aW λ _ _ _ e=>?_) x;exact Heap.lt_size e
 |tup xs=>refine cC (λ _=>ah λ _ _ p=>?_) x;exact p.lt
 |dK kvs=>refine bg (λ _ _=>ah λ _ _=>bT λ o _ _ e _=>?_) x;exact Heap.lt_size e
 |dT kvs=>refine bg (λ _ _=>ah λ _ _=>bT λ o _ _ e _=>?_) x;exact Heap.lt_size e
 |set S n=>refine Aq (λ o _ _ _ e _=>?_) x;exact Heap.lt_size e
 |ins C dx fs=>refine jD (λ _ _ _ e _=>?_) x;exact Heap.lt_size e
 |own y=>obtain ⟨_,e⟩:=x;exact Heap.lt_size e
 |xd fs=>revert x;refine ah λ _ z _=>?_;revert z;refine bT λ _ _ _ e _=>?_;exact Heap.lt_size e
 |VN lo hi=>refine uT (λ _ _ _ e=>?_) x;exact Heap.lt_size e
 |jP ob u=>obtain ⟨e,_⟩:=x;exact Heap.lt_size e
 |JB ps=>exact Heap.lt_size (show h.get? a=some _ from x)
 |met f y=>exact Heap.lt_size (show h.get? a=some _ from x)
 |ext φ=>revert x;refine bg λ _ z _=>?_;obtain ⟨_,e⟩:=z;exact Heap.lt_size e
 |EO p q=>obtain ⟨_,e,_⟩:=x;exact Heap.lt_size e
theorem Paired.OP{F G:α->β->Prop}:∀{l₁:List α} {l₂:List β},Paired F l₁ l₂->(∀a b,F a b->G a b)->Paired G l₁ l₂
 |_,_,.nil,_=> .nil
 |_,_,.cons r t,f=> .cons (f _ _ r) (Paired.OP t f)
def bS.stay(x:bS P w H h a o)(k:∀b u,(b=a\/H b=some (.own a))->h.get? b=some u->h'.get? b=some u) (ho:∀b,H b=some (.own a)->H' b=some (.own a)) (ht:∀b xs,H b=some (.tup xs)->H' b=some (.tup xs)) (hz:∀b ob y,H b=some (.jP ob (.own y))->H' b=some (.jP ob (.own y))):bS P w H' h' a o:=by
 induction o with
 |lst xs=>revert x;refine cC λ z=>aW λ its n r e=>?_;exact ⟨z,aQ its n r (k _ _ (.inl rfl) e)⟩
 |tup xs=>revert x;refine cC λ z=>ah λ its r=>ah λ ob e c=>?_;exact ⟨z,af its r (af ob (k _ _ (.inl rfl) e) c)⟩
 |dK kvs=>revert x;refine bg λ z y=>ah λ vs r=>bT λ ob es ep e c=>?_;exact aV z y (af vs r (iD ob es ep (k _ _ (.inl rfl) e) c))
 |dT kvs=>
  revert x;refine bg λ z y=>ah λ xs r=>bT λ ob es ep e c=>?_
  exact aV z y (af xs (Paired.OP r λ p q z=>aV z.1 (ht _ _ z.2.1) z.2.2) (iD ob es ep (k _ _ (.inl rfl) e) c))
 |set S n=>revert x;refine Aq λ ob es ep t e c=>?_;exact NQ ob es ep t (k _ _ (.inl rfl) e) c
 |ins C dx fs=>
  revert x;refine jD λ d z ne e=>ah λ mA z1 r=>?_;revert z1;refine bT λ od es ep e2 c=>?_
  exact nV (ho _ d) z ne (k _ _ (.inl rfl) e) (af mA (iD od es ep (k _ _ (.inr d) e2) c) r)
 |own y=>obtain ⟨ob,e⟩:=x;exact ⟨ob,k _ _ (.inl rfl) e⟩
 |xd fs=>revert x;refine ah λ mA z1 r=>?_;revert z1;refine bT λ od es ep e c=>?_;exact af mA (iD od es ep (k _ _ (.inl rfl) e) c) r
 |VN lo hi=>revert x;refine uT λ t u v e=>?_;exact ⟨t,u,v,k _ _ (.inl rfl) e⟩
 |jP ob u ih=>obtain ⟨e,q⟩:=x;exact ⟨k _ _ (.inl rfl) e,ih q⟩
 |JB ps=>have e:h.get? a=some {cls:= .none,data:= .fields ps}:=x;show h'.get? a=some {cls:= .none,data:= .fields ps};exact k a _ (.inl rfl) e
 |met f y=>have e:h.get? a=some (W.methodObj (.ref f) (.ref y)):=x;show h'.get? a=some (W.methodObj (.ref f) (.ref y));exact k a _ (.inl rfl) e
 |ext φ=>revert x;refine bg λ p z1 st=>?_;obtain ⟨o,e⟩:=z1;exact aV (st _ _ p λ o q=>k _ _ (.inl rfl) q) ⟨o,k _ _ (.inl rfl) e⟩ st
 |EO p q=>obtain ⟨ps,e,t,f⟩:=x;refine ⟨ps,k _ _ (.inl rfl) e,t,λ cv hc=>?_⟩;obtain ⟨c',oc,e1,e2,e3⟩:=f cv hc;exact ⟨c',oc,e1,hz _ _ _ e2,e3⟩
theorem kC.lt(x:kC P w H h)(e:H a=some o):a<h.objs.size:=(x a o e).lt
def kC.fresh(x:kC P w H h)(e:h.objs.size<=a):H a=none:=by
 cases q:H a with
 |none=>rfl
 |some u=>exact absurd (Nat.lt_of_lt_of_le (x.lt q) e) (Nat.lt_irrefl _)
def kC.kept(x:kC P w H h)(k:∀b u,h.get? b=some u->h'.get? b=some u):kC P w H h':=λ a o e=>(x a o e).stay (λ b u _ q=>k b u q) (λ _ q=>q) (λ _ _ q=>q) λ _ _ _ q=>q
def kC.laid(x:kC P w H h)(k:∀b u,h.get? b=some u->h'.get? b=some u)(hp:h.objs.size<=a)(new:bS P w (upd H a o) h' a o):kC P w (upd H a o) h':=λ b u e=>by
 have hn:=x.fresh hp;by_cases hb:b=a
 ·subst hb;rw[aJ] at e;cases e;exact new
 ·rw[aE hb] at e;exact (x b u e).stay (λ c v _ q=>k c v q) (λ c q=>by rw[aE (bX q hn)];exact q) (λ c xs q=>by rw[aE (bX q hn)];exact q) λ c ob y q=>by rw[aE (bX q hn)];exact q
end
def Rd(H:Hp)(a:Addr)(u:HO):Prop:=H a=some u\/∃o,H a=some (.jP o u)
def Rd.ok{P:Program}{w:World}{H:Hp}{h:Heap}{a:Addr}{u:HO}(r:Rd H a u)(x:kC P w H h):bS P w H h a u:=by
 rcases r with r|⟨o,r⟩
 ·exact x a u r
 ·obtain ⟨_,q⟩:=x a _ r;exact q
def Vn:Option HO->Prop
 |some (.lst _)=>True
 |some (.dK _)=>True
 |some (.dT _)=>True
 |some (.set _ _)=>True
 |some (.ins _ _ _)=>True
 |some (.ext _)=>True
 |_=>False
section
variable{P:Program}{w:World}{H:Hp}{h h':Heap}{x e:Addr}{o':HO}
def kC.write(ok:kC P w H h)(mu:Vn (H x))(he:e=x\/H e=some (.own x))(k:∀b u,b≠e->h.get? b=some u->h'.get? b=some u)(RE:∃u,h'.get? e=some u) (new:bS P w (upd H x o') h' x o'):kC P w (upd H x o') h':=λ b u q=>by
 have TM:∀c y,H c=some (.own y)->c≠x:=λ c y r z=>by subst z;rw[r] at mu;exact mu
 have XF:∀c xs,H c=some (.tup xs)->c≠x:=λ c xs r z=>by subst z;rw[r] at mu;exact mu
 by_cases hb:b=x
 ·subst hb;rw[aJ] at q;cases q;exact new
 ·rw[aE hb] at q;by_cases Pq:b=e
  ·have q':H b=some (.own x):=by
    rcases he with z|z
    ·exact absurd (Pq.trans z) hb
    ·rw[Pq];exact z
   rw[q] at q';cases q';obtain ⟨v,hv⟩:=RE;exact ⟨v,by rw[Pq];exact hv⟩
  ·refine (ok b u q).stay (λ c v hc r=>k c v ?_ r) (λ c r=>by rw[aE (TM c b r)];exact r) (λ c xs r=>by rw[aE (XF c xs r)];exact r) λ c ob y r=>by rw[aE λ z=>by subst z;rw[r] at mu;exact mu];exact r
   rcases hc with rfl|hc
   ·exact Pq
   ·rintro rfl
    rcases he with z|z
    ·exact TM c b hc z
    ·rw[hc] at z;cases z;exact hb rfl
end
structure Un(fs ex:List Addr)(H H':Hp)(h h':Heap):Prop where
 keep:∀b o,h.get? b=some o->H b=none->b∉fs->b∉ex->h'.get? b=some o
 slot:∀b o,h.get? b=some o->H b=none->b∈fs->b∉ex->∃sl,h'.get? b=some {o with slots:=sl}
 free:∀b o,h.get? b=some o->H b=none->b∉ex->H' b=none
 there:∀b o,h.get? b=some o->b∉ex->∃o',h'.get? b=some o'
 tups:∀b xs,H b=some (.tup xs)->H' b=some (.tup xs)
 n9:∀b o u,H b=some (.jP o u)->H' b=some (.jP o u)
 pJ:∀b ps,H b=some (.JB ps)->∃more,H' b=some (.JB (ps++more))
section
variable{fs fs' ex ex':List Addr}{H H1 H2:Hp}{h h1 h2 h':Heap}{a x e:Addr}{o:HO}
def Un.any(u:Un fs ex H H1 h h1){b:Addr}{ob:Obj}(q:h.get? b=some ob)(n:H b=none)(hx:b∉ex):∃sl,h1.get? b=some {ob with slots:=sl}:=by
 by_cases hb:b∈fs
 ·exact u.slot b ob q n hb hx
 ·exact ⟨ob.slots,u.keep b ob q n hb hx⟩
def Un.kept(k:∀b u,h.get? b=some u->h'.get? b=some u):Un fs ex H H h h':=⟨λ b ob q _ _ _=>k b ob q,λ b ob q _ _ _=>⟨ob.slots,k b ob q⟩,λ _ _ _ n _=>n,λ b ob q _=>⟨ob,k b ob q⟩,λ _ _ q=>q,λ _ _ _ q=>q,λ _ ps q=>⟨#[],by rw[q];simp⟩⟩
def Un.refl:Un fs ex H H h h:=Un.kept λ _ _ q=>q
def Un.laid(k:∀b u,h.get? b=some u->h'.get? b=some u)(hp:h.objs.size<=a)(hn:H a=none):Un fs ex H (upd H a o) h h' where
 keep:=λ b u q _ _ _=>k b u q
 slot:=λ b u q _ _ _=>⟨u.slots,k b u q⟩
 free:=λ b u q n _=>by rw[aE (Nat.ne_of_lt (Nat.lt_of_lt_of_le (Heap.lt_size q) hp))];exact n
 there:=λ b u q _=>⟨u,k b u q⟩
 tups:=λ b xs q=>by rw[aE (bX q hn)];exact q
 n9:=λ b u xs q=>by rw[aE (bX q hn)];exact q
 pJ:=λ b ps q=>⟨#[],by rw[aE (bX q hn),q];simp⟩
def Un.write(mu:Vn (H x))(he:e=x\/H e=some (.own x))(k:∀b u,b≠e->h.get? b=some u->h'.get? b=some u)(RE:∃u,h'.get? e=some u):Un fs ex H (upd H x o) h h':=by
 have hx:∀b,H b=none->b≠x:=λ b n z=>by subst z;rw[n] at mu;exact mu
 have hb:∀b,H b=none->b≠e:=λ b n z=>by
  subst z;rcases he with r|r
  ·exact hx b n r
  ·rw[n] at r;cases r
 have hm:∀b u,H b=some u->¬Vn (some u)->b≠x:=λ b u q nm z=>by subst z;rw[q] at mu;exact nm mu
 refine ⟨λ b u q n _ _=>k b u (hb b n) q,λ b u q n _ _=>⟨u.slots,k b u (hb b n) q⟩,λ b u q n _=>by rw[aE (hx b n)];exact n,λ b u q _=>?_,λ b xs q=>by rw[aE (hm b _ q λ z=>z)];exact q,λ b u xs q=>by rw[aE (hm b _ q λ z=>z)];exact q,λ b ps q=>⟨#[],by rw[aE (hm b _ q λ z=>z),q];simp⟩⟩;by_cases Pq:b=e
 ·subst Pq;exact RE
 ·exact ⟨u,k b u Pq q⟩
end
def VA(h:Heap)(H:Hp):List Addr:=(List.range h.objs.size).filter λ a=>(H a).isSome
def vn(h:Heap)(H:Hp):Heap:=W.hideAll h (VA h H)
def EG(h:Heap)(H:Hp):(vn h H).objs.size=h.objs.size:=W.hideAll_size _ _
def HJ(e:h.get? b=some o)(n:H b=none):(vn h H).get? b=some o:=W.hideAll_get _ e λ hm=>by have q:(H b).isSome=true:=(List.mem_filter.mp hm).2;rw[n] at q;simp at q
def Ko(e:(vn h H).get? b=some o):h.get? b=some o/\H b=none:=by
 have e':h.get? b=some o:=W.of_hideAll (VA h H) e;refine ⟨e',?_⟩;cases q:H b with
 |none=>rfl
 |some x=>have hm:b∈VA h H:=List.mem_filter.mpr ⟨List.mem_range.mpr (Heap.lt_size e'),by simp[q]⟩;have z:(vn h H).get? b=none:=W.hideAll_none (VA h H) hm;rw[z] at e;cases e
noncomputable def Lw(g h:Heap)(L:Addr):List (Addr×Obj):=(List.range h.objs.size).filterMap λ a=>if a=L\/(g.get? a).isSome=true then none else (h.get? a).map λ o=>(a,o)
def rest(g h:Heap)(L d:Addr):List (Addr×Obj):=(Lw g h L).filter λ p=>decide (p.1≠d)
structure Mod(K:W.Frag)(mg:Str->Option Value)(base:Heap):Prop where
 Ru:K.In base
 glob:base.Ns mainGlobals mg
 blt:∃mb,base.Ns builtinsNs mb/\∀x:Str,x≠"__name__"->mb x=bootBuiltins x
 nolimit:base.NoLimit
set_option genInjectivity false in
structure Cx where
 prog:Program
 w:World
 K:W.Frag
 mg:Str->Option Value
 base:Heap
 A:Around
 N:List Str
 s₀:Shared
 H₀:Hp
 env:Env
 outer:List Env
 stack:List Env
 ex:List Addr
 fn:Str->Bool
 calm:Bool
 pn:List (Addr×Obj)
 xe:Value->Shared->Prop
noncomputable def frs(l:List Env):List Addr:=l.filterMap (·.frame)
abbrev Cx.fs(X:Cx):List Addr:=frs X.outer
noncomputable def IP(sc:Scope)(x:Str):Prop:=sc.names.lookup x=some .local\/sc.names.lookup x=some .cell\/sc.names.lookup x=some .free
noncomputable def Loc(sc:Scope)(x:Str):Prop:=sc.names.lookup x=some .local\/sc.names.lookup x=some .cell
noncomputable def Look(env:Env)(h:Heap)(m:Str->Option Value)(x:Str)(u:Value):Prop:=(env.kindOf x=some .local/\m x=some u)\/((env.kindOf x=some .cell\/env.kindOf x=some .free)/\∃c,env.cells.lookup x=some c/\h.IsCell c (some u))
set_option genInjectivity false in
structure Cx.Ok(X:Cx):Prop where
 mod:Mod X.K X.mg X.base
 kind:X.env.scope.kind= .function
 glob:X.env.globals=mainGlobals
 blt:X.env.builtins=builtinsNs
 above:X.s₀.heap.objs.size<=X.env.locals
 inj:∀x y c,X.env.cells.lookup x=some c->X.env.cells.lookup y=some c->x=y
 has:∀x,(X.env.kindOf x=some .cell\/X.env.kindOf x=some .free)->∃c,X.env.cells.lookup x=some c
 YL:∀x c,X.fn x=true->X.env.cells.lookup x=some c->X.s₀.heap.objs.size<=c
 hd:X.calm=true->X.A.handled=none
 frames:X.A.frames=some X.stack
 stk:X.stack=X.outer\/(X.stack=X.env::X.outer/\X.env.frame=some X.env.locals)
 exf:∀b∈X.ex,b≠X.env.locals/\∀x c,X.env.cells.lookup x=some c->c≠b
 bs:∀b o,X.base.get? b=some o->X.s₀.heap.get? b=some o/\X.H₀ b=none
 RP:X.base.objs.size<=X.s₀.heap.objs.size
 OH:∀b o,X.base.get? b=some o->b∉X.ex
 PU:∀b∈X.ex,b∉X.fs
 vt:X.s₀.heap.FunFrames X.base X.outer
 Wg:∀b∈X.fs,X.H₀ b=none
structure Inv(X:Cx)(pins:List (Addr×Obj))(σ:List (Option V))(H:Hp)(s:Shared):Prop where
 ok:X.Ok
 os:s.os=X.s₀.os
 bare:AllBare s.gens
 base:Un X.fs X.ex X.H₀ H X.s₀.heap s.heap
 loc:∃m,s.heap.Ns X.env.locals m/\∀(i:Nat) (x:Str) (v:V),X.N[i]? =some x->σ[i]? =some (some v)->IP X.env.scope x->∃u,RelV v u/\Look X.env s.heap m x u
 cell:∀x c,X.env.cells.lookup x=some c->∃v,s.heap.IsCell c v
 free:H X.env.locals=none
 g8:∀x c,X.env.cells.lookup x=some c->H c=none
 pin:∀p∈X.pn++pins,s.heap.get? p.1=some p.2/\H p.1=none/\p.1≠X.env.locals/\p.1∉X.fs/\∀v,p.2.data≠.cell v
 hok:kC X.prog X.w H s.heap
 len:σ.length=X.N.length
section
variable{X:Cx}{pins:List (Addr×Obj)}{σ:List (Option V)}{H H':Hp}{s:Shared}{h':Heap}
def Cx.Ok.XM(ok:X.Ok)(e:X.base.get? b=some o):b∉X.fs:=λ hb=>by have:=(ok.vt.mem hb).1;rw[e] at this;cases this
theorem Inv.bs(I:Inv X pins σ H s):∀b o,X.base.get? b=some o->s.heap.get? b=some o/\H b=none:=λ b o e=>⟨I.base.keep b o (I.ok.bs b o e).1 (I.ok.bs b o e).2 (I.ok.XM e) (I.ok.OH b o e),I.base.free b o (I.ok.bs b o e).1 (I.ok.bs b o e).2 (I.ok.OH b o e)⟩
def Inv.bk(I:Inv X pins σ H s):∀b o,X.base.get? b=some o->s.heap.get? b=some o:=λ b o e=>(I.bs b o e).1
theorem Inv.mod(I:Inv X pins σ H s):Mod X.K X.mg X.base:=I.ok.mod
def Inv.Hz(I:Inv X pins σ H s):X.K.In s.heap:=I.ok.mod.Ru.keeps I.bk
theorem Inv.nolimit(I:Inv X pins σ H s):s.heap.NoLimit:=I.ok.mod.nolimit.keeps I.bk
theorem Inv.lt(I:Inv X pins σ H s):X.env.locals<s.heap.objs.size:=let ⟨_,hn,_⟩:=I.loc;hn.lt
def Inv.sz(I:Inv X pins σ H s):X.s₀.heap.objs.size<=s.heap.objs.size:=Nat.le_trans I.ok.above (Nat.le_of_lt I.lt)
def Inv.XJ(I:Inv X pins σ H s)(h:s.heap.objs.size<=a):a∉X.fs:=λ hb=>by refine cC (λ _=>ah λ o ho _=>?_) (I.ok.vt.mem hb);exact absurd (Nat.lt_of_lt_of_le (Heap.lt_size ho) (Nat.le_trans I.sz h)) (Nat.lt_irrefl _)
def Inv.Qf(I:Inv X pins σ H s):∀x c,X.env.cells.lookup x=some c->c≠X.env.locals:=λ x c e z=>by refine aW (λ v o ho hd=>?_) (I.cell x c e);refine ah (λ m y _=>?_) I.loc;revert y;refine eZ λ o' es ep ho' hd' _=>?_;rw[z,ho'] at ho;cases ho;rw[hd'] at hd;cases hd
theorem Inv.vt(I:Inv X pins σ H s):s.heap.FunFrames X.base X.outer:=by
 have all:∀(l:List Env),(∀b∈frs l,b∈X.fs)->X.s₀.heap.FunFrames X.base l->s.heap.FunFrames X.base l:=by
  intro l;induction l with
  |nil=>intro _ _;trivial
  |cons env r ih=>
   intro hs hl
   revert hl;refine bg λ hk y hr=>?_;revert y;refine aL λ L o hf hn ho hd=>?_
   have hL:L∈X.fs:=hs L (by unfold frs;rw[List.filterMap_cons,hf];exact List.mem_cons_self);obtain ⟨sl,e⟩:=I.base.slot L o ho (I.ok.Wg L hL) hL λ z=>I.ok.PU L z hL;exact aV hk (bh L _ hf hn e hd) (ih (λ b hb=>hs b (by unfold frs;rw[List.filterMap_cons,hf];exact List.mem_cons_of_mem _ hb)) hr)
 exact all X.outer (λ _ hb=>hb) I.ok.vt
theorem Inv.stack(I:Inv X pins σ H s):s.heap.FunFrames X.base X.stack:=by
 rcases I.ok.stk with e|⟨e,hf⟩
 ·rw[e];exact I.vt
 ·rw[e];refine ah (λ m hn _=>?_) I.loc;refine .cons (by rw[I.ok.kind];decide) hf hn ?_ I.vt;exact Heap.get?_none_of_le (Nat.le_trans I.ok.RP I.ok.above)
def Inv.Ah(I:Inv X pins σ H s):∀b∈frs X.stack,b∈X.env.locals::X.fs:=λ b hb=>by
 rcases I.ok.stk with e|⟨e,hf⟩
 ·rw[e] at hb;exact List.mem_cons_of_mem _ hb
 ·rw[e] at hb;unfold frs at hb;rw[List.filterMap_cons,hf] at hb;exact hb
def Inv.pR(I:Inv X pins σ H s):∀b∈frs X.stack,H b=none:=λ b hb=>by
 rcases List.mem_cons.mp (I.Ah b hb) with e|hb
 ·rw[e];exact I.free
 ·refine cC (λ _=>ah λ o ho _=>?_) (I.ok.vt.mem hb);exact I.base.free b o ho (I.ok.Wg b hb) λ z=>I.ok.PU b z hb
def Inv.step{g':Array GenState}{t':Nat}{d':Drawn}{ch:List Addr}(I:Inv X pins σ H s) (hch:∀b∈ch,(b∈X.ex\/X.s₀.heap.objs.size<=b)/\b≠X.env.locals/\(∀x c,X.env.cells.lookup x=some c->c≠b)/\∀p∈X.pn++pins,p.1≠b) (keep:∀b o,b≠X.env.locals->b∉X.fs->b∉ch->s.heap.get? b=some o->H b=none->h'.get? b=some o) (slot:∀b o,b≠X.env.locals->b∈X.fs->b∉ch->s.heap.get? b=some o->H b=none->∃sl,h'.get? b=some {o with slots:=sl}) (free:∀b o,b∉ch->s.heap.get? b=some o->H b=none->H' b=none) (there:∀b o,b∉ch->s.heap.get? b=some o->∃o',h'.get? b=some o') (tups:∀b xs,H b=some (.tup xs)->H' b=some (.tup xs)) (n9:∀b o u,H b=some (.jP o u)->H' b=some (.jP o u)) (pJ:∀b ps,H b=some (.JB ps)->∃more,H' b=some (.JB (ps++more))) (ns:∀m,s.heap.Ns X.env.locals m->h'.Ns X.env.locals m) (hok:kC X.prog X.w H' h') (hg:AllBare g'):
  Inv X pins σ H' {s with heap:=h',gens:=g',drawn:=d',toks:=t'}:=by
 have ZC:∀b o,X.s₀.heap.get? b=some o->b≠X.env.locals:=λ b o e=>Nat.ne_of_lt (Nat.lt_of_lt_of_le (Heap.lt_size e) I.ok.above);have V4:∀b o,X.s₀.heap.get? b=some o->b∉X.ex->b∉ch:=λ b o e hx hb=>by
  rcases (hch b hb).1 with z|z
  ·exact hx z
  ·exact absurd (Nat.lt_of_lt_of_le (Heap.lt_size e) z) (Nat.lt_irrefl _)
 have cellK:∀x c,X.env.cells.lookup x=some c->∀v,s.heap.IsCell c v->h'.IsCell c v:=λ x c e v ⟨o,ho,hd⟩=>by
  have TV:c∉ch:=λ z=>(hch c z).2.2.1 x c e rfl;by_cases hc:c∈X.fs
  ·obtain ⟨sl,q⟩:=slot c o (I.Qf x c e) hc TV ho (I.g8 x c e);exact af _ q hd
  ·exact af o (keep c o (I.Qf x c e) hc TV ho (I.g8 x c e)) hd
 refine ⟨I.ok,I.os,hg,⟨λ b o e n hb hx=>?_,λ b o e n hb hx=>?_,λ b o e n hx=>?_,λ b o e hx=>?_,λ b xs e=>tups b xs (I.base.tups b xs e),λ b o xs e=>n9 b o xs (I.base.n9 b o xs e),λ b ps e=>?_⟩,?_,λ x c e=>?_,?_,λ x c e=>?_,λ p hp=>?_,hok,I.len⟩
 ·exact keep b o (ZC b o e) hb (V4 b o e hx) (I.base.keep b o e n hb hx) (I.base.free b o e n hx)
 ·obtain ⟨sl,e1⟩:=I.base.slot b o e n hb hx;obtain ⟨E3,e2⟩:=slot b _ (ZC b o e) hb (V4 b o e hx) e1 (I.base.free b o e n hx);exact ⟨E3,e2⟩
 ·obtain ⟨o',e1⟩:=I.base.there b o e hx;exact free b o' (V4 b o e hx) e1 (I.base.free b o e n hx)
 ·obtain ⟨o',e1⟩:=I.base.there b o e hx;exact there b o' (V4 b o e hx) e1
 ·obtain ⟨m1,e1⟩:=I.base.pJ b ps e;obtain ⟨m2,e2⟩:=pJ b _ e1;exact ⟨m1++m2,by rw[e2,Array.append_assoc]⟩
 ·refine ah (λ m hn hl=>?_) I.loc;refine af m (ns m hn) (λ i x v e1 e2 e3=>?_);refine ah (λ u r l=>?_) (hl i x v e1 e2 e3);refine af u r ?_;rcases l with l|⟨k,c,e,z⟩
  ·exact .inl l
  ·exact .inr (⟨k,af c e (cellK x c e _ z)⟩)
 ·obtain ⟨v,z⟩:=I.cell x c e;exact ⟨v,cellK x c e v z⟩
 ·refine ah (λ m y _=>?_) I.loc;revert y;refine bT λ o _ _ ho _=>?_;exact free _ o (λ z=>(hch _ z).2.1 rfl) ho I.free
 ·refine aW (λ v o ho hd=>?_) (I.cell x c e);exact free c o (λ z=>(hch c z).2.2.1 x c e rfl) ho (I.g8 x c e)
 ·refine jD (λ e n ne nf d=>?_) (I.pin p hp);have TV:p.1∉ch:=λ z=>(hch p.1 z).2.2.2 p hp rfl;exact nV (keep p.1 p.2 ne nf TV e n) (free p.1 p.2 TV e n) ne nf d
def Inv.un{t':Nat}(I:Inv X pins σ H s)(u:Un X.fs [] H H' s.heap h')(hok:kC X.prog X.w H' h'):Inv X pins σ H' {s with heap:=h',toks:=t'}:=by
 refine ah (λ m y _=>?_) (id I.loc);revert y;refine bT λ o es ep ho r=>?_;obtain ⟨sl,hL⟩:=u.any ho I.free (by simp);exact I.step (g':=s.gens) (d':=s.drawn) (ch:=[]) (λ _ z=>nomatch z) (λ b o _ hb _ e n=>u.keep b o e n hb (by simp)) (λ b o _ hb _ e n=>u.slot b o e n hb (by simp)) (λ b o _ e n=>u.free b o e n (by simp)) (λ b o _ e=>u.there b o e (by simp)) u.tups u.n9 u.pJ (λ m' hm=>by
  revert hm;refine bT λ o' es' YG ho' r'=>?_
  rw[ho] at ho';cases ho';exact iD _ es' YG hL r') hok I.bare
def Inv.call{g':Array GenState}{t':Nat}{d':Drawn}{ch:List Addr}(I:Inv X pins σ H s)(u:Un (frs X.stack) ch H H' s.heap h')(hok:kC X.prog X.w H' h')(hg:AllBare g') (hch:∀b∈ch,(b∈X.ex\/X.s₀.heap.objs.size<=b)/\b≠X.env.locals/\(∀x c,X.env.cells.lookup x=some c->c≠b)/\∀p∈X.pn++pins,p.1≠b):
  Inv X pins σ H' {s with heap:=h',gens:=g',drawn:=d',toks:=t'}:=by
 refine ah (λ m y _=>?_) (id I.loc);revert y;refine bT λ o es ep ho r=>?_;obtain ⟨sl,hL⟩:=u.any ho I.free λ z=>(hch _ z).2.1 rfl;exact I.step (ch:=ch) hch (λ b o hL hb hc e n=>u.keep b o e n (λ z=>(List.mem_cons.mp (I.Ah b z)).elim hL hb) hc) (λ b o _ _ hc e n=>u.any e n hc) (λ b o hc e n=>u.free b o e n hc) (λ b o hc e=>u.there b o e hc) u.tups u.n9 u.pJ (λ m' hm=>by
  revert hm;refine bT λ o' es' YG ho' r'=>?_
  rw[ho] at ho';cases ho';exact iD _ es' YG hL r') hok hg
def Inv.turned{t':Nat}{it:Addr}(I:Inv X pins σ H s)(k:∀b o,b≠it->s.heap.get? b=some o->h'.get? b=some o)(hn:H it=none)(hL:it≠X.env.locals) (h1:it∈X.ex\/X.s₀.heap.objs.size<=it) (h2:∀x c,X.env.cells.lookup x=some c->c≠it) (h3:∀p∈X.pn++pins,p.1≠it):Inv X pins σ H {s with heap:=h',toks:=t'}:=by
 have Mn:∀b u,H b=some u->b≠it:=λ b u e z=>by rw[z,hn] at e;cases e
 refine I.step (g':=s.gens) (d':=s.drawn) (ch:=[it]) (λ b hb=>?_) (λ b o _ _ hc e _=>k b o (λ z=>hc (by simp[z])) e) (λ b o _ _ hc e _=>⟨o.slots,k b o (λ z=>hc (by simp[z])) e⟩) (λ _ _ _ _ n=>n)
  (λ b o hc e=>⟨o,k b o (λ z=>hc (by simp[z])) e⟩) (λ _ _ e=>e) (λ _ _ _ e=>e) (λ b ps e=>⟨#[],by rw[e];simp⟩) (λ m hm=>?_) (λ b u e=>?_) I.bare
 ·have e:b=it:=by simpa using hb
  subst e;exact iE h1 hL h2 h3
 ·revert hm;refine bT λ o es ep ho r=>?_
  exact iD o es ep (k _ o (Ne.symm hL) ho) r
 ·refine (I.hok b u e).stay (λ c v hc q=>k c v ?_ q) (λ _ q=>q) (λ _ _ q=>q) λ _ _ _ q=>q;rcases hc with z|z
  ·rw[z];exact Mn b u e
  ·exact Mn c _ z
def Inv.tok(I:Inv X pins σ H s)(t:Nat):Inv X pins σ H {s with toks:=t}:=I.un (h':=s.heap) (t':=t) Un.refl I.hok
theorem Inv.kept(I:Inv X pins σ H s)(k:∀b u,s.heap.get? b=some u->h'.get? b=some u):Inv X pins σ H {s with heap:=h',toks:=t'}:=I.un (Un.kept k) (I.hok.kept k)
theorem Inv.laid{a:Addr}{o:HO}{t':Nat}(I:Inv X pins σ H s)(k:∀b u,s.heap.get? b=some u->h'.get? b=some u)(hp:s.heap.objs.size<=a)(new:bS X.prog X.w (upd H a o) h' a o):
  Inv X pins σ (upd H a o) {s with heap:=h',toks:=t'}:=I.un (Un.laid k hp (I.hok.fresh hp)) (I.hok.laid k hp new)
theorem Inv.write{x e:Addr}(I:Inv X pins σ H s)(mu:Vn (H x))(he:e=x\/H e=some (.own x))(k:∀b u,b≠e->s.heap.get? b=some u->h'.get? b=some u)(RE:∃u,h'.get? e=some u)(new:bS X.prog X.w (upd H x o) h' x o):Inv X pins σ (upd H x o) {s with heap:=h',toks:=t'}:=I.un (Un.write mu he k RE) (I.hok.write mu he k RE new)
def Inv.eK(I:Inv X pins σ H s)(h:∀p∈yy,s.heap.get? p.1=some p.2/\H p.1=none/\p.1≠X.env.locals/\p.1∉X.fs/\∀v,p.2.data≠.cell v):Inv X yy σ H s:=⟨I.ok,I.os,I.bare,I.base,I.loc,I.cell,I.free,I.g8,λ p hp=>(List.mem_append.mp hp).elim (λ z=>I.pin p (List.mem_append_left _ z)) (h p),I.hok,I.len⟩
def yL{N:List Str}(hN:N.Nodup){i j:Nat}{x:Str}(a:N[i]? =some x)(b:N[j]? =some x):i=j:=by obtain ⟨h1,e1⟩:=List.getElem?_eq_some_iff.mp a;obtain ⟨h2,e2⟩:=List.getElem?_eq_some_iff.mp b;exact (List.getElem_inj hN).mp (e1.trans e2.symm)
def sY{M:Model}{A:Around}{E:Value->Shared->Prop}{i:Nat}{x:Str}{v:V}{u:Value}{Q:Unit->Shared->Prop}(I:Inv X pins σ H s)(hN:X.N.Nodup)(hi:X.N[i]? =some x)(hx:Loc X.env.scope x)(r:RelV v u)
  (h:∀s',Inv X pins (σ.set i (some v)) H s'->(∃a,Heap.SameBut a s.heap s'.heap/\(a=X.env.locals\/X.env.cells.lookup x=some a))->Q () s') (hf:X.fn x=true\/X.env.scope.names.lookup x=some .local:=by first|exact .inl rfl|exact .inr rfl|assumption):wpAny M A (storeName X.env x u) Q E s:=by
 refine ah (λ m hn hl=>?_) (id I.loc)
 have hcls:(X.env.scope.kind== .class||(X.env.scope.kind== .module&&X.env.locals !=X.env.globals))=false:=by rw[I.ok.kind];rfl
 have Uu:i<σ.length:=by rw[I.len];exact (List.getElem?_eq_some_iff.mp hi).1
 have Qf:=I.Qf
 have tracked:∀{a:Addr} {h':Heap},(∃o,s.heap.get? a=some o/\H a=none)->Heap.SameBut a s.heap h'->kC X.prog X.w H h':=λ{a h'} ha hs b ob e=>by
  revert ha;refine ah λ _ _ hfree=>?_
  refine (I.hok b ob e).stay (λ c w' hc q=>(hs.2 c ?_).trans q) (λ _ q=>q) (λ _ _ q=>q) λ _ _ _ q=>q
  rintro rfl
  rcases hc with rfl|hc
  ·rw[hfree] at e;cases e
  ·rw[hfree] at hc;cases hc
 rcases hx with hk|hk
 ·refine wpAny_storeName_local hk hn (λ h' hn' hs=>?_) hcls
  refine bT (λ oL _ _ Pg _=>?_) (id hn)
  refine h _ ⟨I.ok,I.os,I.bare,⟨λ b o e n hb hx=>?_,λ b o e n hb hx=>?_,I.base.free,λ b o e hx=>?_,I.base.tups,I.base.n9,I.base.pJ⟩,af _ hn' (λ j y v' e1 e2 e3=>?_),λ y c e=>?_,I.free,I.g8,λ p hp=>?_,tracked (af oL Pg I.free) hs,by simpa using I.len⟩ (af _ hs (.inl rfl))
  ·exact (hs.2 b (Nat.ne_of_lt (Nat.lt_of_lt_of_le (Heap.lt_size e) I.ok.above))).trans (I.base.keep b o e n hb hx)
  ·obtain ⟨sl,e1⟩:=I.base.slot b o e n hb hx
   exact ⟨sl,(hs.2 b (Nat.ne_of_lt (Nat.lt_of_lt_of_le (Heap.lt_size e) I.ok.above))).trans e1⟩
  ·obtain ⟨o',e1⟩:=I.base.there b o e hx
   exact ⟨o',(hs.2 b (Nat.ne_of_lt (Nat.lt_of_lt_of_le (Heap.lt_size e) I.ok.above))).trans e1⟩
  ·by_cases hj:j=i
   ·subst hj
    rw[hi] at e1;cases e1
    rw[List.getElem?_set_self Uu] at e2
    cases e2
    exact af u r (.inl ⟨hk,by simp⟩)
   ·rw[List.getElem?_set_ne (Ne.symm hj)] at e2
    refine ah (λ u' r' q=>?_) (hl j y v' e1 e2 e3)
    refine af u' r' ?_
    rcases q with ⟨k,e⟩|⟨k,c,e,z⟩
    ·refine .inl ⟨k,?_⟩
     have:y≠x:=λ e=>hj (yL hN e1 (e▸hi))
     simp[this,e]
    ·exact .inr (⟨k,af c e (z.sameBut hs (Qf y c e))⟩)
  ·obtain ⟨w',z⟩:=I.cell y c e
   exact ⟨w',z.sameBut hs (Qf y c e)⟩
  ·refine jD (λ e n ne nf d=>?_) (I.pin p hp)
   exact nV ((hs.2 p.1 ne).trans e) n ne nf d
 ·have hfn:X.fn x=true:=by
   rcases hf with z|z
   ·exact z
   ·rw[z] at hk;cases hk
  obtain ⟨c,hc⟩:=I.ok.has x (.inl hk)
  obtain ⟨w',z⟩:=I.cell x c hc
  refine wpAny_storeName_cell I.ok.kind hk hc z (λ h' hc' hs=>?_)
  refine ah (λ oc hoc Yp=>?_) (id z)
  refine h {s with heap:=h'} ⟨I.ok,I.os,I.bare,⟨λ b o e n hb hx=>?_,λ b o e n hb hx=>?_,I.base.free,λ b o e hx=>?_,I.base.tups,I.base.n9,I.base.pJ⟩,af m (hn.sameBut hs (Ne.symm (Qf x c hc))) (λ j y v' e1 e2 e3=>?_),λ y c' e=>?_,I.free,I.g8,λ p hp=>?_,tracked (af oc hoc (I.g8 x c hc)) hs,by simpa using I.len⟩ (af c hs (.inr hc))
  ·exact (hs.2 b (Nat.ne_of_lt (Nat.lt_of_lt_of_le (Heap.lt_size e) (I.ok.YL x c hfn hc)))).trans (I.base.keep b o e n hb hx)
  ·obtain ⟨sl,e1⟩:=I.base.slot b o e n hb hx
   exact ⟨sl,(hs.2 b (Nat.ne_of_lt (Nat.lt_of_lt_of_le (Heap.lt_size e) (I.ok.YL x c hfn hc)))).trans e1⟩
  ·obtain ⟨o',e1⟩:=I.base.there b o e hx
   exact ⟨o',(hs.2 b (Nat.ne_of_lt (Nat.lt_of_lt_of_le (Heap.lt_size e) (I.ok.YL x c hfn hc)))).trans e1⟩
  ·by_cases hj:j=i
   ·subst hj
    rw[hi] at e1;cases e1
    rw[List.getElem?_set_self Uu] at e2
    cases e2
    exact af u r (.inr (⟨.inl hk,af c hc hc'⟩))
   ·rw[List.getElem?_set_ne (Ne.symm hj)] at e2
    refine ah (λ u' r' q=>?_) (hl j y v' e1 e2 e3)
    refine af u' r' ?_
    rcases q with q|⟨k,c',e,z'⟩
    ·exact .inl q
    ·refine .inr (⟨k,af c' e (z'.sameBut hs ?_)⟩)
     rintro rfl
     exact hj (yL hN e1 (I.ok.inj _ _ _ e hc▸hi))
  ·by_cases hcc:c'=c
   ·subst hcc;exact ⟨_,hc'⟩
   ·obtain ⟨w2,z2⟩:=I.cell y c' e
    exact ⟨w2,z2.sameBut hs hcc⟩
  ·refine jD (λ e n ne nf d=>?_) (I.pin p hp)
   refine nV ((hs.2 p.1 ?_).trans e) n ne nf d
   intro q
   rw[q,hoc] at e
   have q':oc=p.2:=Option.some.inj e
   exact d w' (by rw[<-q'];exact Yp)
def mG{M:Model}{v:V}{Q:Unit->Shared->Prop}(I:Inv X pins σ H s)(hN:X.N.Nodup)(hi:X.N[i]? =some x)(hx:Loc X.env.scope x)(r:RelV v u)(h:∀s',Inv X pins (σ.set i (some v)) H s'->Q () s')(hf:X.fn x=true\/X.env.scope.names.lookup x=some .local:=by first|exact .inl rfl|exact .inr rfl|assumption):wpAny M A (storeName X.env x u) Q E s:=sY I hN hi hx r (λ s' I' _=>h s' I') hf
def Inv.Im(I:Inv X pins σ H s)(ho:s'.os=s.os)(u:Un (frs X.stack) ch H H' s.heap s'.heap)(hok:kC X.prog X.w H' s'.heap)(hg:AllBare s'.gens)(hch:∀b∈ch,(b∈X.ex\/X.s₀.heap.objs.size<=b)/\b≠X.env.locals/\(∀x c,X.env.cells.lookup x=some c->c≠b)/\∀p∈X.pn++pins,p.1≠b):Inv X pins σ H' s':=by obtain ⟨h',g',d',t',o'⟩:=s';have e:o'=s.os:=ho;subst e;exact I.call (g':=g') (t':=t') (d':=d') u hok hg hch
end
abbrev XK:=Value->Option Addr->Hp->Prop
noncomputable abbrev St:=List (Option V)
abbrev VK:=V->Hp->Prop
abbrev TE:=St->Hp->VK->Prop
abbrev TT:=St->Hp->(Bool->Hp->Prop)->Prop
abbrev TA:=St->Hp->(List V->Hp->Prop)->Prop
set_option genInjectivity false in
structure Ends where
 nx:St->Hp->Prop
 rt:VK
 bk:St->Hp->Prop:=λ _ _=>False
 ct:St->Hp->Prop:=λ _ _=>False
abbrev TS:=Ends->St->Hp->Prop
def EP(X:Cx)(pins:List (Addr×Obj))(σ:St)(Q:VK)(u:Value)(s':Shared):Prop:=∃v H',Inv X pins σ H' s'/\RelV v u/\Q v H'
def TP(X:Cx)(pins:List (Addr×Obj))(σ:St)(Q:Bool->Hp->Prop)(b:Bool)(s':Shared):Prop:=∃H',Inv X pins σ H' s'/\Q b H'
def AP(X:Cx)(pins:List (Addr×Obj))(σ:St)(Q:List V->Hp->Prop)(us:List Value)(s':Shared):Prop:=∃vs H',Inv X pins σ H' s'/\Vals vs us/\Q vs H'
def SP(X:Cx)(pins:List (Addr×Obj))(D:Ends)(f:Flow)(s':Shared):Prop:=match f with
 | .next=>∃σ' H',Inv X pins σ' H' s'/\D.nx σ' H'
 | .brk=>∃σ' H',Inv X pins σ' H' s'/\D.bk σ' H'
 | .cont=>∃σ' H',Inv X pins σ' H' s'/\D.ct σ' H'
 | .ret u=>∃v σ' H',Inv X pins σ' H' s'/\RelV v u/\D.rt v H'
def PE(X:Cx)(e:Expr)(t:TE):Prop:=∀(pins:List (Addr×Obj)) (s:Shared) (σ:St) (H:Hp) (Q:VK),Inv X pins σ H s->t σ H Q->wpAny (model X.prog X.w) X.A (eval e X.env) (EP X pins σ Q) X.xe s
def PT(X:Cx)(e:Expr)(t:TT):Prop:=∀(pins:List (Addr×Obj)) (s:Shared) (σ:St) (H:Hp) (Q:Bool->Hp->Prop),Inv X pins σ H s->t σ H Q->wpAny (model X.prog X.w) X.A (isTrue e X.env (eval e X.env)) (TP X pins σ Q) X.xe s
def PW(X:Cx)(e:Expr)(t:TT):Prop:=∀(whole:Sem Value) (pins:List (Addr×Obj)) (s:Shared) (σ:St) (H:Hp) (Q:Bool->Hp->Prop),Inv X pins σ H s->t σ H Q->wpAny (model X.prog X.w) X.A (isTrue e X.env whole) (TP X pins σ Q) X.xe s
def PW.pt{e:Expr}(h:PW X e t):PT X e t:=h _
def PA(X:Cx)(es:List Expr)(t:TA):Prop:=∀(pos:Pos) (pins:List (Addr×Obj)) (s:Shared) (σ:St) (H:Hp) (Q:List V->Hp->Prop),Inv X pins σ H s->t σ H Q->wpAny (model X.prog X.w) X.A (spliced (backTo pos (starEach es X.env))) (AP X pins σ Q) X.xe s
def PS(X:Cx)(st:Stmt)(t:TS):Prop:=∀(pins:List (Addr×Obj)) (s:Shared) (σ:St) (H:Hp) (D:Ends),Inv X pins σ H s->t D σ H->wpAny (model X.prog X.w) X.A (exec st X.env) (SP X pins D) X.xe s
def zZ(X:Cx)(st:List Stmt)(t:TS):Prop:=∀(pins:List (Addr×Obj)) (s:Shared) (σ:St) (H:Hp) (D:Ends),Inv X pins σ H s->t D σ H->wpAny (model X.prog X.w) X.A (execs st X.env) (SP X pins D) X.xe s
def zX{α:Sort _}{P R:α->Prop}{C:Prop}(h:∃a,P a/\R a)(k:∀a,P a->R a->C):C:=by refine ah (λ a b c=>?_) h;exact k a b c
def tY{α β:Sort _}{P R S:α->β->Prop}{C:Prop}(h:∃a b,P a b/\R a b/\S a b)(k:∀a b,P a b->R a b->S a b->C):C:=by refine aq (λ a b c d e=>?_) h;exact k a b c d e
def dm{α:Type}{t:Sem α}{Q Q':α->Shared->Prop}{M:Model}{A:Around}{E:Value->Shared->Prop}{s:Shared}(h:wpAny M A t Q E s)(hQ:∀a s,Q a s->Q' a s):wpAny M A t Q' E s:=wpAny_mono h hQ λ _ _ x=>x
section
variable{X:Cx}
def W9(i:Nat):TE:=λ σ H Q=>∃v,σ[i]? =some (some v)/\Q v H
def tC(v:V):TE:=λ _ H Q=>Q v H
def uW(hN:X.N[i]? =some x)(hv:IP X.env.scope x)(hd:(x==("__debug__":Str))=false:=by decide)(hcd:(x==("__classdict__":Str))=false:=by decide):PE X (.Name x pos) (W9 i):=by
 intro pins s σ H Q I h
 revert h;refine ah λ v e h=>?_
 refine ah (λ m hn hl=>?_) I.loc;refine ah (λ u r l=>?_) (hl i x v hN e hv);have fin:EP X pins σ Q u s:=ay v H I r h;rcases l with ⟨hk,hm⟩|⟨hk,c,hc,hcell⟩
 ·exact wpAny_Name (wpAny_loadName_local I.ok.kind hk hn hm fin) hd
 ·rcases hk with hk|hk
  ·exact wpAny_Name (wpAny_loadName_cell I.ok.kind hk hc hcell fin) hd
  ·exact wpAny_Name (wpAny_loadName_free I.ok.kind hk hc hcell fin hcd) hd
def Oc{i j pos}:PE X (.Constant (.int i) j pos) (tC (.int i)):=λ _ _ _ H _ I h=>wpAny_Constant_int (ay (.int i) H (I.tok _) ⟨_,rfl⟩ h)
def Tn{b j pos}:PE X (.Constant (.bool b) j pos) (tC (.bl b)):=λ _ _ _ H _ I h=>Constant_bool (ay (.bl b) H I rfl h)
def N8{x j pos}:PE X (.Constant (.str x) j pos) (tC (.str x)):=λ _ _ _ H _ I h=>Calls.Constant_str (ay (.str x) H (I.tok _) ⟨_,rfl⟩ h)
noncomputable def Gl(X:Cx)(x:Str):Prop:=X.env.kindOf x=some .globalImplicit
def vh{s:Shared}{Q:Value->Shared->Prop}(I:Inv X pins σ H s)(hg:Gl X x)(hm:X.mg x=some u)(h:Q u s)(hd:(x==("__debug__":Str))=false:=by decide):wpAny (model X.prog X.w) X.A (eval (.Name x pos) X.env) Q E s:=Calls.Name_function_global I.ok.kind hg (Calls.loadGlobal_global (by rw[I.ok.glob];exact I.mod.glob.keeps I.bk) hm h) hd
def gP{s:Shared}{Q:Value->Shared->Prop}(I:Inv X pins σ H s)(hg:Gl X x)(hm:X.mg x=none)(hv:bootBuiltins x=some u)(h:Q u s)(hn:x≠"__name__":=by decide)(hd:(x==("__debug__":Str))=false:=by decide):wpAny (model X.prog X.w) X.A (eval (.Name x pos) X.env) Q E s:=by refine ah (λ mb h1 h2=>?_) I.mod.blt;exact Calls.Name_function_global I.ok.kind hg (Calls.loadGlobal_builtin (by rw[I.ok.glob];exact I.mod.glob.keeps I.bk) hm (by rw[I.ok.blt];exact h1.keeps I.bk) ((h2 x hn).trans hv) h) hd
def B9{v:V}(hg:Gl X x)(hm:X.mg x=some u)(r:RelV v u)(hd:(x==("__debug__":Str))=false:=by decide):PE X (.Name x pos) (tC v):=λ _ _ _ H _ I h=>vh I hg hm (ay v H I r h) hd
def Ke{v:V}(hg:Gl X x)(hm:X.mg x=none)(hv:bootBuiltins x=some u)(r:RelV v u)(hn:x≠"__name__":=by decide)(hd:(x==("__debug__":Str))=false:=by decide):PE X (.Name x pos) (tC v):=λ _ _ _ H _ I h=>gP I hg hm hv (ay v H I r h) hn hd
variable{a b:Expr}{ta tb:TE}{pos:Pos}
def tB(t:TE):TT:=λ σ H Q=>t σ H λ x H1=>∃c,x= .bl c/\Q c H1
def NT{e:Expr}{t:TE}(h:PE X e t)(he:∀whole,isTrue e X.env whole=(do let v <-whole;standAt e.pos;holding [v] (truthy v)):=by intro _;rfl):PT X e (tB t):=by
 intro pins s σ H Q I hw
 refine isTrue_plain (dm (h pins s σ H _ I hw) λ v s1 z_=>tY z_ λ x H1 I1 r1 q1=>?_) (he _)
 revert q1;refine ah λ d z q=>?_;subst z
 cases r1
 exact wpAny_truthy_bool (af H1 I1 q)
variable{tA VF:TT}{rest:List Expr}
def Xm(t u:TT):TT:=λ σ H Q=>t σ H λ c H1=>if c=true then u σ H1 Q else Q false H1
def tOr(t u:TT):TT:=λ σ H Q=>t σ H λ c H1=>if c=true then Q true H1 else u σ H1 Q
def Xf(t:TT):TT:=λ σ H Q=>t σ H λ c H1=>Q (!c) H1
def JX(ha:PT X a tA):PW X (.BoolOp .And [a] pos) tA:=by
 intro wh pins s σ H Q I h;refine isTrue_and (dm (ha pins s σ H Q I h) λ c s1 e=>?_);cases c with
 |true=>exact isTrue_and_nil e
 |false=>exact e
def NR(ha:PT X a tA):PW X (.BoolOp .Or [a] pos) tA:=by
 intro wh pins s σ H Q I h;refine isTrue_or (dm (ha pins s σ H Q I h) λ c s1 e=>?_);cases c with
 |false=>exact isTrue_or_nil e
 |true=>exact e
def NS(ha:PT X a tA)(hb:PW X (.BoolOp .And (b::rest) pos) VF):PW X (.BoolOp .And (a::b::rest) pos) (Xm tA VF):=by
 intro wh pins s σ H Q I h;refine isTrue_and (dm (ha pins s σ H _ I h) ?_);refine λ c s1=>ah λ H1 I1 q1=>?_;cases c with
 |true=>exact hb wh pins s1 σ H1 Q I1 q1
 |false=>exact af H1 I1 q1
def Th(ha:PT X a tA)(hb:PW X (.BoolOp .Or (b::rest) pos) VF):PW X (.BoolOp .Or (a::b::rest) pos) (tOr tA VF):=by
 intro wh pins s σ H Q I h;refine isTrue_or (dm (ha pins s σ H _ I h) ?_);refine λ c s1=>ah λ H1 I1 q1=>?_;cases c with
 |true=>exact af H1 I1 q1
 |false=>exact hb wh pins s1 σ H1 Q I1 q1
def NU(ha:PT X a tA):PT X (.UnaryOp .Not a pos) (Xf tA):=by intro pins s σ H Q I h;exact isTrue_not (ha pins s σ H (λ c H1=>Q (!c) H1) I h)
def Sx(ta tb:TE):TE:=λ σ H Q=>ta σ H λ x H1=>∃c,x= .bl c/\if c=true then tb σ H1 Q else Q (.bl false) H1
def Sn(ta:TE):TE:=λ σ H Q=>ta σ H λ x H1=>∃c,x= .bl c/\Q (.bl (!c)) H1
def N9{op}(h:PE X a t):PE X (.BoolOp op [a] pos) t:=λ pins s σ H Q I hw=>BoolOp_one (h pins s σ H Q I hw)
def Of(ha:PE X a ta)(hb:PE X (.BoolOp .And (b::rest) pos) tb):PE X (.BoolOp .And (a::b::rest) pos) (Sx ta tb):=by
 intro pins s σ H Q I h;refine BoolOp_and (dm (ha pins s σ H _ I h) ?_);refine λ v s1=>aq λ x H1 I1 r1 q1=>?_
 revert q1;refine ah λ c z q1=>?_;subst z
 cases r1;refine wpAny_truthy_bool ?_;cases c with
 |true=>exact hb pins s1 σ H1 Q I1 q1
 |false=>exact ay (.bl false) H1 I1 rfl q1
def Oa(ha:PE X a ta):PE X (.UnaryOp .Not a pos) (Sn ta):=by
 intro pins s σ H Q I h;refine UnaryOp_ (dm (ha pins s σ H _ I h) ?_);refine λ v s1=>aq λ x H1 I1 r1 q1=>?_
 revert q1;refine ah λ c z q1=>?_;subst z
 cases r1;exact not_of (wpAny_truthy_bool (ay (.bl (!c)) H1 I1 rfl q1))
end
def fZ(K:W.Frag)(H:Hp)(a:Addr)(xs:List V):Prop:=Rd H a (.lst xs)\/∃(o:Obj) (its:Array Value) (n:Nat),K.lookup a=some o/\o.cls= .type "list"/\o.dict=none/\o.data= .seq its n/\its.size<=sizeLine/\Vals xs its.toList
def sR(K:W.Frag)(H:Hp)(a:Addr)(xs:List V):Prop:=Rd H a (.tup xs)\/∃(o:Obj) (its:Array Value) (n:Nat),K.lookup a=some o/\o.cls= .type "tuple"/\o.data= .seq its n/\its.size<=sizeLine/\Vals xs its.toList
noncomputable def YS:Value->Option V
 | .none=>some .gY
 | .bool b=>some (.bl b)
 | .int i _=>some (.int i)
 | .str x _=>some (.str x)
 | .bytes b _=>some (.U5 b)
 | .float b _=>some (.UA b)
 | .ref a=>some (.ref a)
 | .type n=>some (.ty n)
 |_=>none
def RelV.abs(r:RelV x u):YS u=some x:=by
 cases x with
 |gY=>cases r;rfl
 |bl _=>cases r;rfl
 |int _=>obtain ⟨t,rfl⟩:=r;rfl
 |str _=>obtain ⟨t,rfl⟩:=r;rfl
 |U5 _=>obtain ⟨t,rfl⟩:=r;rfl
 |UA _=>obtain ⟨t,rfl⟩:=r;rfl
 |ref _=>cases r;rfl
 |ty _=>cases r;rfl
theorem RelV.inj{x y:V}{u:Value}(r:RelV x u)(q:RelV y u):x=y:=Option.some.inj (r.abs.symm.trans q.abs)
theorem Vals.inj:∀{xs ys:List V} {us:List Value},Vals xs us->Vals ys us->xs=ys
 |_,_,_,.nil,.nil=>rfl
 |_,_,_,.cons r t,.cons r' t'=>by rw[r.inj r',Vals.inj t t']
section
variable{X:Cx}{pins:List (Addr×Obj)}{σ:St}{H:Hp}{s:Shared}{a:Addr}{xs ys:List V}
def fZ.of{K:W.Frag}(h:H a=some (.lst xs)):fZ K H a xs:= .inl (.inl h)
def Inv.list(I:Inv X pins σ H s)(h:fZ X.K H a xs):∃its:List Value,Vals xs its/\PlainL s.heap a its.toArray/\xs.length<=sizeLine:=by
 rcases h with h|⟨o,its,n,hk,hc,hd,hs,hz,r⟩
 ·refine cC (λ z=>aW λ its n r e=>?_) (h.ok I.hok);exact aY its r (bh _ n e rfl rfl rfl) z
 ·refine aY its.toList r (bh o n (I.Hz a o hk) hc hd (by simpa using hs)) ?_;have e:=r.length;simp only[Array.length_toList] at e;omega
def Inv.tuple(I:Inv X pins σ H s)(h:sR X.K H a xs):∃its:List Value,Vals xs its/\IsTup s.heap a its.toArray/\xs.length<=sizeLine:=by
 rcases h with h|⟨o,its,n,hk,hc,hs,hz,r⟩
 ·refine cC (λ z=>ah λ its r p=>?_) (h.ok I.hok);exact aY its r p z
 ·refine aY its.toList r (aY o (I.Hz a o hk) hc ⟨n,by simpa using hs⟩) ?_;have e:=r.length;simp only[Array.length_toList] at e;omega
def Inv.jN(I:Inv X pins σ H s)(h:fZ X.K H a xs)(h':fZ X.K H a ys):xs=ys:=by
 refine aH (λ its r z _=>?_) (I.list h);revert z;refine aL λ o n e _ _ d=>?_;refine aH (λ its' r' z _=>?_) (I.list h');revert z;refine aL λ o' n' e' _ _ d'=>?_;rw[e] at e';cases e';rw[d] at d';injection d' with d1 _
 have:its=its':=by simpa using congrArg Array.toList d1
 subst this;exact r.inj r'
def Inv.sX(I:Inv X pins σ H s)(h:sR X.K H a xs)(h':sR X.K H a ys):xs=ys:=by
 refine aH (λ its r z _=>?_) (I.tuple h);revert z;refine aH λ o e _ y=>?_;obtain ⟨n,d⟩:=y;refine aH (λ its' r' z _=>?_) (I.tuple h');revert z;refine aH λ o' e' _ y=>?_;obtain ⟨n',d'⟩:=y;rw[e] at e';cases e';rw[d] at d';injection d' with d1 _
 have:its=its':=by simpa using congrArg Array.toList d1
 subst this;exact r.inj r'
end
section
variable{X:Cx}{pins:List (Addr×Obj)}{σ:St}{H:Hp}{s:Shared}{E:Value->Shared->Prop}
end
section
variable{X:Cx}{st:Stmt}{rest:List Stmt}{t u:TS}{e:Expr}{te:TE}{pos:Pos}
def So:TS:=λ D σ H=>D.nx σ H
def Xc(t u:TS):TS:=λ D σ H=>t {D with nx:=u D} σ H
def J3:zZ X [] So:=λ _ _ σ H _ I h=>wpAny_execs_nil (aQ σ H I h)
def F8(h1:PS X st t)(h2:zZ X rest u):zZ X (st::rest) (Xc t u):=by
 intro pins s σ H D I h;refine wpAny_execs_cons (dm (h1 pins s σ H {D with nx:=u D} I h) λ f s1 q=>?_);cases f with
 |next=>refine aW (λ σ' H' I' q=>?_) q;exact h2 pins s1 σ' H' D I' q
 |ret v=>exact q
 |brk=>exact q
 |cont=>exact q
def J1(h1:PS X st t):zZ X [st] t:=by
 intro pins s σ H D I h;refine wpAny_execs_cons (dm (h1 pins s σ H D I h) λ f s1 q=>?_);cases f with
 |next=>exact wpAny_execs_nil q
 |ret v=>exact q
 |brk=>exact q
 |cont=>exact q
def Inv.quiet{pins:List (Addr×Obj)}{σ:St}{H:Hp}{s:Shared}(I:Inv X pins σ H s):interactive X.env=false:=by simp[interactive,I.ok.kind]
def Ss(te:TE):TS:=λ D σ H=>te σ H λ _ H1=>D.nx σ H1
def B6(he:PE X e te)(hs:swapsWith e none pos.line X.env=pure false:=by rfl):PS X (.Expr e pos) (Ss te):=by intro pins s σ H D I h;exact wpAny_Expr_any (dm (he pins s σ H _ I h) λ v s1 z_=>tY z_ λ x H1 I1 r1 q1=>aQ σ H1 I1 q1) I.quiet hs
def Xd(te:TE):TS:=λ D σ H=>te σ H D.rt
def Ax(he:PE X e te):PS X (.Return (some e) pos) (Xd te):=by intro pins s σ H D I h;exact wpAny_Return_some (dm (he pins s σ H _ I h) λ v s1 z_=>tY z_ λ x H1 I1 r1 q1=>nU x σ H1 I1 r1 q1)
def Xi(c:TT)(t u:TS):TS:=λ D σ H=>c σ H λ b H1=>if b=true then t D σ H1 else u D σ H1
def Ma{c:Expr}{a b:List Stmt}{tc:TT}(hc:PT X c tc)(ha:zZ X a t)(hb:zZ X b u):PS X (.If c a b pos) (Xi tc t u):=by
 intro pins s σ H D I h;refine wpAny_If (dm (hc pins s σ H _ I h) ?_);refine λ d s1=>ah λ H1 I1 q1=>?_;cases d with
 |true=>exact ha pins s1 σ H1 D I1 q1
 |false=>exact hb pins s1 σ H1 D I1 q1
end
abbrev TG:=V->St->Hp->(St->Hp->Prop)->Prop
abbrev LD:=List V->St->Hp->(St->Hp->Prop)->Prop
def PG(X:Cx)(target:Expr)(t:TG):Prop:=∀(pins:List (Addr×Obj)) (s:Shared) (σ:St) (H:Hp) (v:V) (u:Value) (Q:St->Hp->Prop),Inv X pins σ H s->RelV v u->t v σ H Q->wpAny (model X.prog X.w) X.A (assign target X.env u) (λ _ s'=>∃σ' H',Inv X pins σ' H' s'/\Q σ' H') X.xe s
def IV(X:Cx)(ts:List Expr)(t:LD):Prop:=∀(pins:List (Addr×Obj)) (s:Shared) (σ:St) (H:Hp) (vs:List V) (us:List Value) (Q:St->Hp->Prop),Inv X pins σ H s->Vals vs us->t vs σ H Q->wpAny (model X.prog X.w) X.A (assignInOrder ((assignEach ts X.env).map (·.2)) us) (λ _ s'=>∃σ' H',Inv X pins σ' H' s'/\Q σ' H') X.xe s
abbrev Qt:=V->V->V->Hp->(Hp->Prop)->Prop
def Vl(X:Cx)(t:Qt):Prop:=∀(pins:List (Addr×Obj)) (s:Shared) (σ:St) (H:Hp) (o i v:V) (ov iv u:Value) (Q:Hp->Prop),Inv X pins σ H s->RelV o ov->RelV i iv->RelV v u->t o i v H Q->wpAny (model X.prog X.w) X.A (setItem ov iv u) (λ _ s'=>∃H',Inv X pins σ H' s'/\Q H') X.xe s
section
variable{X:Cx}{pos:Pos}
def Mv(i:Nat):TG:=λ v σ H Q=>Q (σ.set i (some v)) H
def Kc(hN:X.N.Nodup)(hi:X.N[i]? =some x)(hx:Loc X.env.scope x)(hf:X.fn x=true\/X.env.scope.names.lookup x=some .local:=by first|exact .inl rfl|exact .inr rfl|assumption):PG X (.Name x pos) (Mv i):=by intro pins s σ H v u Q I r h;exact wpAny_assign_Name (mG I hN hi hx r (λ s' I'=>aQ _ H I' h) hf)
def Yy:LD:=λ vs σ H Q=>vs=[]/\Q σ H
def Ux(t:TG)(u:LD):LD:=λ vs σ H Q=>∃v r,vs=v::r/\t v σ H λ σ' H'=>u r σ' H' Q
def Ka:IV X [] Yy:=by intro pins s σ H vs us Q I r h;obtain ⟨e,h⟩:=h;subst e;cases r;exact assignInOrder_nil (aQ σ H I h)
def Gn{e:Expr}{es:List Expr}{t:TG}{u:LD}(h1:PG X e t)(h2:IV X es u) (hs:(assignEach (e::es) X.env).map (·.2)=assign e X.env::(assignEach es X.env).map (·.2):=by rfl):IV X (e::es) (Ux t u):=by
 intro pins s σ H vs us Q I r h
 revert h;refine aW λ v vr e1 h=>?_
 subst e1;cases r with
 |cons r rr=>rw[hs];refine assignInOrder_cons (dm (h1 pins s σ H _ _ _ I r h) ?_);refine λ _ s1=>aW λ σ1 H1 I1 q1=>?_;exact h2 pins s1 σ1 H1 _ _ Q I1 rr q1
def Yw(K:W.Frag)(n:Nat)(t:LD):TG:=λ v σ H Q=>∃a xs,v= .ref a/\sR K H a xs/\xs.length=n/\t xs σ H Q
def N5(hc:X.calm=true)(h:IV X es t)(hn:(assignEach es X.env).length=n:=by rfl)(hst:(assignEach es X.env).findIdx? (·.1)=none:=by rfl):PG X (.Tuple es k pos) (Yw X.K n t):=by
 intro pins s σ H v u Q I r hw
 revert hw;refine aL λ a xs e1 hq hl hw=>?_
 subst e1;cases r;refine aH (λ its rv ht hz=>?_) (I.tuple hq);refine assign_Tuple_tuple (I.ok.hd hc) ht (by simp[hn, <-hl,rv.length]) hst λ h' hx=>?_;have I1:Inv X pins σ H {s with heap:=h'}:=I.kept (t':=s.toks) λ b o e=>hx b o (Nat.ne_of_lt (Heap.lt_size e)) e;exact h pins _ σ H xs _ Q I1 (by simpa using rv) hw
def Yx(to ti:TE)(t:Qt):TG:=λ v σ H Q=>to σ H λ o H1=>ti σ H1 λ i H2=>t o i v H2 λ H3=>Q σ H3
def N6{o i:Expr}{to ti:TE}{t:Qt}(ho:PE X o to)(hi:PE X i ti)(hs:Vl X t)
  (ha:∀v,assign (.Subscript o i pos) X.env v=(do
   let ov <-holding [v] (eval o X.env)
   let iv <-holding [v,ov] (eval i X.env)
   standAt pos
   holding [v,ov,iv] (setItem ov iv v)
   release [v,ov,iv] []):=by intro _;rfl):PG X (.Subscript o i pos) (Yx to ti t):=by
 intro pins s σ H v u Q I r h
 rw[ha]
 refine wpAny_bind (wpAny_holding (dm (ho pins s σ H _ I h) ?_))
 refine λ ov s1=>aq λ x H1 I1 r1 q1=>?_
 refine wpAny_bind (wpAny_holding (dm (hi pins s1 σ H1 _ I1 q1) ?_))
 refine λ iv s2=>aq λ y H2 I2 r2 q2=>?_
 refine wpAny_bind (wpAny_standAt (wpAny_bind (wpAny_holding (dm (hs pins s2 σ H2 x y v ov iv u _ I2 r1 r2 r q2) ?_))))
 refine λ _ s3=>ah λ H3 I3 q3=>?_
 exact wpAny_release (aQ σ H3 I3 q3)
def Sw(te:TE)(g:TG):TS:=λ D σ H=>te σ H λ x H1=>g x σ H1 D.nx
def NY{tg e:Expr}{te:TE}{g:TG}(he:PE X e te)(hg:PG X tg g)(hs:swapsWithSole [tg] e pos.line X.env=pure false:=by rfl)(hw:swappedStores [tg] e X.env=pure none:=by rfl) (h1:(assignEach [tg] X.env).map (·.2)=[assign tg X.env]:=by rfl):PS X (.Assign [tg] e pos) (Sw te g):=by intro pins s σ H D I h;refine wpAny_Assign_stores (dm (he pins s σ H _ I h) λ v s1 z_=>tY z_ λ x H1 I1 r1 q1=>?_) hs hw;rw[h1];exact dm (hg pins s1 σ H1 x v _ I1 r1 q1) λ _ s2 q=>q
def Ga{i:Nat}{x:Str}{e:Expr}{te:TE}{pos':Pos}(hN:X.N.Nodup)(hi:X.N[i]? =some x)(hx:Loc X.env.scope x)(he:PE X e te)(hs:swapsWith e (some (.Name x pos')) pos.line X.env=pure false:=by rfl)(hf:X.fn x=true\/X.env.scope.names.lookup x=some .local:=by first|exact .inl rfl|exact .inr rfl|assumption):
  PS X (.Assign [.Name x pos'] e pos) (Sw te (Mv i)):=by
 intro pins s σ H D I h;refine wpAny_Assign_Name (dm (he pins s σ H _ I h) λ v s1 z_=>tY z_ λ y H1 I1 r1 q1=>?_) hs;exact mG I1 hN hi hx r1 (λ s2 I2=>aQ _ H1 I2 q1) hf
def Xe(i j:Nat)(ta:TA):TS:=λ D σ H=>ta σ H λ vs H1=>∃v w,vs=[v,w]/\D.nx ((σ.set i (some v)).set j (some w)) H1
def NW{i j:Nat}{x y:Str}{a b:Expr}{ta:TA}{px py pt:Pos}{kt k2 NV}(hc:X.calm=true)(hN:X.N.Nodup)(hi:X.N[i]? =some x)(hj:X.N[j]? =some y)(hij:i≠j)
  (hx:X.env.scope.names.lookup x=some .local) (hy:X.env.scope.names.lookup y=some .local) (ha:PA X [a,b] ta)
  (hw:swappedStores [.Tuple [.Name x px,.Name y py] kt pt] (.Tuple [a,b] k2 NV) X.env=pure (some [x,y]))
  (hs:swapsWithSole [.Tuple [.Name x px,.Name y py] kt pt] (.Tuple [a,b] k2 NV) pos.line X.env=pure false:=by rfl):
  PS X (.Assign [.Tuple [.Name x px,.Name y py] kt pt] (.Tuple [a,b] k2 NV) pos) (Xe i j ta):=by
 intro pins s σ H D I h
 rw[exec_Assign_arm]
 refine wpAny_bind (wpAny_standAt ?_)
 rw[hs]
 refine wpAny_bind (wpAny_pure ?_)
 rw[if_neg (by decide)]
 refine wpAny_bind (Tuple_ (dm (ha _ pins s σ H _ I h) ?_))
 refine λ us s1=>aq λ vs H1 I1 r1 q1=>?_
 revert q1;refine aW λ v w e1 q1=>?_
 subst e1
 obtain ⟨u1,u2,rfl,rv,rw'⟩:∃u1 u2,us=[u1,u2]/\RelV v u1/\RelV w u2:=by
  cases r1 with
  |cons p q=>
   cases q with
   |cons p' q'=>
    cases q'
    exact ay _ _ rfl p p'
 refine wpAny_newObj_type ?_ (by show 2<=sizeLine;decide)
 have I2:Inv X pins σ H1 {s1 with heap:=s1.heap.push {cls:= .type "tuple",data:= .seq [u1,u2].toArray}}:=I1.kept (t':=s1.toks) λ b o e=>Heap.get?_push_of_some _ e
 rw[hw]
 refine wpAny_bind (wpAny_pure ?_)
 show wpAny (model X.prog X.w) X.A (do rule "assign.swapped-stores";let items <-unpackItems (.ref s1.heap.objs.size) 2 none;assignInOrder [λ v=>bindName X.env y v,λ v=>bindName X.env x v] items.reverse;pure Flow.next) _ _ _
 refine wpAny_bind (wpAny_rule (wpAny_bind (unpackItems_tuple (items:= #[u1,u2]) (I.ok.hd hc) (IsTup.new s1.heap _) λ h' hx'=>?_)))
 have I3:=I2.kept (h':=h') (t':=s1.toks) λ b o e=>hx' b o (Nat.ne_of_lt (Heap.lt_size e)) e
 show wpAny _ _ (assignInOrder [λ v=>bindName X.env y v,λ v=>bindName X.env x v] [u2,u1]>>=λ _=>pure Flow.next) _ _ _
 refine wpAny_bind (assignInOrder_cons (wpAny_bindName (mG I3 hN hj (.inl hy) rw' (λ s2 I4=>?_) (.inr hy))))
 refine assignInOrder_cons (wpAny_bindName (mG I4 hN hi (.inl hx) rv (λ s3 I5=>assignInOrder_nil (wpAny_pure ?_)) (.inr hx)))
 rw[List.set_comm _ _ (Ne.symm hij)] at I5
 exact aQ _ H1 I5 q1
def Nm(c:TT)(tb:TS):TS:=λ D σ H=>∃W:Nat->St->Hp->Prop,(∃m,W m σ H)/\∀m σ H,W m σ H->c σ H λ b H1=>if b=true then ∃N:St->Hp->Prop,(∀σ' H',N σ' H'->∃m',m'<m/\W m' σ' H')/\tb {D with nx:=N,ct:=N,bk:=D.nx} σ H1 else D.nx σ H1
def F9(hp:PassesOwn (model X.prog X.w) X.A X.env X.xe)(hc:PT X c tc)(hb:zZ X body tb):PS X (.While c body [] pos) (Nm tc tb):=by
 intro pins s σ H D I h
 revert h;refine ah λ W z turn=>?_;obtain ⟨m0,w0⟩:=z
 refine wpAny_While (codeAny_whileLoop (λ n s'=>∃σ' H',Inv X pins σ' H' s'/\W n σ' H') ?_ m0 (aQ σ H I w0));refine λ n s1=>aW λ σ1 H1 I1 w1=>?_;refine wpAny_passesOwn hp (dm (hc pins s1 σ1 H1 _ I1 (turn n σ1 H1 w1)) ?_);refine λ b s2=>ah λ H2 I2 q2=>?_;cases b with
 |true=>
  revert q2;refine ah λ N hN q2=>?_
  rw[if_pos rfl];refine wpAny_passesOwn hp (dm (hb pins s2 σ1 H2 _ I2 q2) λ f s3 q3=>?_);cases f with
  |next=>refine aW (λ σ3 H3 I3 n3=>?_) q3;refine ah (λ m' hm w3=>?_) (hN σ3 H3 n3);exact af m' hm (aQ σ3 H3 I3 w3)
  |cont=>refine aW (λ σ3 H3 I3 n3=>?_) q3;refine ah (λ m' hm w3=>?_) (hN σ3 H3 n3);exact af m' hm (aQ σ3 H3 I3 w3)
  |brk=>exact q3
  |ret v=>exact q3
 |false=>rw[if_neg Bool.false_ne_true];exact wpAny_execs_nil (aQ σ1 H2 I2 q2)
end
set_option genInjectivity false in
structure It where
 go:Nat->Hp->Prop
 RY:Nat->Hp->V->Hp->Prop
 stop:Nat->Hp->Prop
def f9(X:Cx)(pins:List (Addr×Obj))(H:Hp)(b:Addr):Prop:=H b=none/\b≠X.env.locals/\b∉X.fs/\(b∈X.ex\/X.s₀.heap.objs.size<=b)/\(∀x c,X.env.cells.lookup x=some c->c≠b)/\∀p∈X.pn++pins,p.1≠b
def Inv.oh{s:Shared}(I:Inv X pins σ H s)(hb:s.heap.objs.size<=b)(hn:H' b=none):f9 X pins H' b:=by
 refine Aw hn (Nat.ne_of_gt (Nat.lt_of_lt_of_le I.lt hb)) (I.XJ hb) (.inr (Nat.le_trans I.sz hb)) (λ x c e z=>?_) (λ p hp z=>?_)
 ·obtain ⟨v,q⟩:=I.cell x c e;exact absurd (Nat.lt_of_lt_of_le q.lt (by rw[z];exact hb)) (Nat.lt_irrefl _)
 ·exact absurd (Nat.lt_of_lt_of_le (Heap.lt_size (I.pin p hp).1) (by rw[z];exact hb)) (Nat.lt_irrefl _)
structure Turn(P:Program)(w:World)(K:W.Frag)(tg:Expr)(J:It)(fp:List Addr)(it:Addr)(tn:Nat->Heap->Prop):Prop where
 mem:it∈fp
 obj:∀i h,tn i h->∀b∈fp,∃o,h.get? b=some o/\∀v,o.data≠.cell v
 keep:∀i h h',tn i h->(∀b∈fp,∀o,h.get? b=some o->h'.get? b=some o)->tn i h'
 item:∀(X:Cx),X.prog=P->X.w=w->X.K=K->X.calm=true->∀(i:Nat) (pins:List (Addr×Obj)) (s:Shared) (σ:St) (H:Hp) (E:Value->Shared->Prop),Inv X pins σ H s->(∀b∈fp,f9 X pins H b)->tn i s.heap->J.go i H->
  wpAny (model P w) X.A (pyNext (.ref it)) (λ r s1=>∃u,r=some u/\
   wpAny (model P w) X.A (letOwnedTupleGo tg (.ref it) u) (λ _ s2=>∃x H',Inv X pins σ H' s2/\RelV x u/\J.RY i H x H'/\tn (i+1) s2.heap/\∀b∈fp,H' b=none) E s1) E s
 done:∀(X:Cx),X.prog=P->X.w=w->X.K=K->X.calm=true->∀(i:Nat) (pins:List (Addr×Obj)) (s:Shared) (σ:St) (H:Hp) (E:Value->Shared->Prop),Inv X pins σ H s->(∀b∈fp,f9 X pins H b)->tn i s.heap->J.stop i H->
  wpAny (model P w) X.A (pyNext (.ref it)) (λ r s1=>r=none/\Inv X pins σ H s1) E s
 self:∀(A:Around) (i:Nat) (s:Shared) (Q:Value->Shared->Prop) (E:Value->Shared->Prop),tn i s.heap->Q (.ref it) s->wpAny (model P w) A (pyIter (.ref it)) Q E s
abbrev TI:=St->Hp->(It->Hp->Prop)->Prop
def PIE(X:Cx)(pins:List (Addr×Obj))(σ:St)(tg:Expr)(R:It->Hp->Prop)(itv:Value)(s2:Shared):Prop:=∃(it:Addr) (fp:List Addr) (tn:Nat->Heap->Prop) (J:It) (H':Hp),itv= .ref it/\Inv X pins σ H' s2/\Turn X.prog X.w X.K tg J fp it tn/\tn 0 s2.heap/\(∀b∈fp,f9 X pins H' b)/\R J H'
def PI(X:Cx)(tg iter:Expr)(wi:TI):Prop:=∀(pins:List (Addr×Obj)) (s:Shared) (σ:St) (H:Hp) (R:It->Hp->Prop),Inv X pins σ H s->wi σ H R->wpAny (model X.prog X.w) X.A (eval iter X.env) (λ v s1=>wpAny (model X.prog X.w) X.A (pyIter v) (PIE X pins σ tg R) X.xe s1) X.xe s
def zg{M:Model}{s:Shared}{Q:Unit->Shared->Prop}(ho:s.heap.get? it=some o)(hc:o.cls= .type n)(hd:o.data= .fields vs)(hn:["enumerate","zip","dict_itemiterator","dict_reverseitemiterator","odict_iterator","itertools.zip_longest","itertools.pairwise"].contains n=false)(hQ:Q () s):wpAny M A (letOwnedTupleGo tg (.ref it) u) Q E s:=by
 unfold letOwnedTupleGo;cases tg<;>first
  |exact wpAny_pure hQ
  |(cases u<;>first
    |exact wpAny_pure hQ
    |(refine wpAny_bind (wpAny_load ho ?_)
      rw[hc,hd]
      show wpAny M A (if (["enumerate","zip","dict_itemiterator","dict_reverseitemiterator","odict_iterator","itertools.zip_longest","itertools.pairwise"].contains n&&vs[0]? ==some (rawInt _))=true then _ else _) Q E s
      rw[if_neg (by intro h;rw[hn,Bool.false_and] at h;cases h)]
      exact wpAny_pure hQ))
def WN(K:W.Frag)(a:Addr):It:=⟨λ i H=>∃xs x,fZ K H a xs/\xs[i]? =some x,λ i H x H'=>H'=H/\∀xs,fZ K H a xs->xs[i]? =some x,λ i H=>∃xs,fZ K H a xs/\xs.length<=i⟩
def YZ(K:W.Frag)(a:Addr):It:=⟨λ i H=>∃xs x,sR K H a xs/\xs[i]? =some x,λ i H x H'=>H'=H/\∀xs,sR K H a xs->xs[i]? =some x,λ i H=>∃xs,sR K H a xs/\xs.length<=i⟩
def Vs(lo:Int)(n:Nat):It:=⟨λ i _=>i<n,λ i H x H'=>H'=H/\x= .int (lo+i),λ i _=>n<=i⟩
def DV{P:Program}{w:World}{K:W.Frag}{tg:Expr}(a it:Addr):Turn P w K tg (WN K a) [it] it (λ i h=>h.IsListIter it a i) where
 mem:=by simp
 obj:=λ i h st b hb=>by
  have e:b=it:=by simpa using hb
  subst e
  revert st;refine aH λ o e c d=>?_
  exact af o e (λ v z=>by rw[d] at z;cases z)
 keep:=λ i h h' st k=>st.at λ o e=>k it (by simp) o e
 item:=by
  intro X hP hw hK hc i pins s σ H E I hf st hg
  subst hP hw hK
  revert hg;refine aW λ xs x hq hx=>?_
  refine aH (λ its rv p hz=>?_) (I.list hq)
  refine ah (λ u hu ru=>?_) (rv.get hx)
  refine fh (λ f0 f1 f2 f3 f4 f5=>?_) (hf it (by simp))
  refine wpAny_pyNext_list_item st p.isList (x:=u) (by simpa using hu) λ h' st' sb=>?_
  have I1:Inv X pins σ H {s with heap:=h'}:=I.turned (t':=s.toks) (λ b o hb e=>(sb.2 b hb).trans e) f0 f1 f3 f4 f5
  refine aH (λ o e c d=>?_) (id st')
  exact af u rfl (zg (s:={s with heap:=h'}) e c d (by decide) (bN x H I1 ru ⟨rfl,λ ys hy=>by rw[I.jN hy hq];exact hx⟩ st' (λ b hb=>(hf b hb).1)))
 done:=by
  intro X hP hw hK hc i pins s σ H E I hf st hg
  subst hP hw hK
  revert hg;refine ah λ xs hq hx=>?_
  refine aH (λ its rv p hz=>?_) (I.list hq)
  refine fh (λ f0 f1 f2 f3 f4 f5=>?_) (hf it (by simp))
  have hl:=rv.length
  exact wpAny_pyNext_list_end (I.ok.hd hc) st p.isList (by simp;omega) λ h' eb=>⟨rfl,I.turned (t':=s.toks) (λ b o hb e=>eb b o hb e) f0 f1 f3 f4 f5⟩
 self:=λ _ _ _ _ _ st h=>wpAny_pyIter_listiter st h
def Ab{P:Program}{w:World}{K:W.Frag}{tg:Expr}(a it:Addr):Turn P w K tg (YZ K a) [it] it (λ i h=>h.IsTupleIter it a i) where
 mem:=by simp
 obj:=λ i h st b hb=>by
  have e:b=it:=by simpa using hb
  subst e
  revert st;refine aH λ o e c d=>?_
  exact af o e (λ v z=>by rw[d] at z;cases z)
 keep:=λ i h h' st k=>st.at λ o e=>k it (by simp) o e
 item:=by
  intro X hP hw hK hc i pins s σ H E I hf st hg
  subst hP hw hK
  revert hg;refine aW λ xs x hq hx=>?_
  refine aH (λ its rv p hz=>?_) (I.tuple hq)
  refine ah (λ u hu ru=>?_) (rv.get hx)
  refine fh (λ f0 f1 f2 f3 f4 f5=>?_) (hf it (by simp))
  refine wpAny_pyNext_tuple_item st (show s.heap.IsTuple a its.toArray from p) (x:=u) (by simpa using hu) λ h' st' sb=>?_
  have I1:Inv X pins σ H {s with heap:=h'}:=I.turned (t':=s.toks) (λ b o hb e=>(sb.2 b hb).trans e) f0 f1 f3 f4 f5
  refine aH (λ o e c d=>?_) (id st')
  exact af u rfl (zg (s:={s with heap:=h'}) e c d (by decide) (bN x H I1 ru ⟨rfl,λ ys hy=>by rw[I.sX hy hq];exact hx⟩ st' (λ b hb=>(hf b hb).1)))
 done:=by
  intro X hP hw hK hc i pins s σ H E I hf st hg
  subst hP hw hK
  revert hg;refine ah λ xs hq hx=>?_
  refine aH (λ its rv p hz=>?_) (I.tuple hq)
  refine fh (λ f0 f1 f2 f3 f4 f5=>?_) (hf it (by simp))
  have hl:=rv.length
  exact wpAny_pyNext_tuple_end (I.ok.hd hc) st (show s.heap.IsTuple a its.toArray from p) (by simp;omega) λ h' eb=>⟨rfl,I.turned (t':=s.toks) (λ b o hb e=>eb b o hb e) f0 f1 f3 f4 f5⟩
 self:=λ _ _ _ _ _ st h=>wpAny_pyIter_tupleiter st h
def Ac{P:Program}{w:World}{K:PySem.W.Frag}{tg:Expr}(it:Addr)(lo:Int)(n:Nat):Turn P w K tg (Vs lo n) [it] it (λ i h=>IsRangeIter h it (lo+(i:Nat)*1) ((n:Int) -(i:Nat)) 1) where
 mem:=by simp
 obj:=λ i h st b hb=>by
  have e:b=it:=by simpa using hb
  subst e
  exact af _ st (λ v z=>by
   have z':Data.fields _=Data.cell v:=z
   cases z')
 keep:=λ i h h' st k=>k it (by simp) _ st
 item:=by
  intro X hP hw hK hc i pins s σ H E I hf st hg
  subst hP hw hK
  refine fh (λ f0 f1 f2 f3 f4 f5=>?_) (hf it (by simp))
  have W:=Walks.range (prog:=X.prog) (w:=X.w) (I.ok.hd hc) it lo 1 n
  refine W.item i s _ _ hg st λ v h' tk hv st' kk=>?_
  obtain ⟨t,rfl⟩:=hv
  have I1:Inv X pins σ H {s with heap:=h',toks:=tk}:=I.turned (λ b o hb e=>kk b o (by simpa using hb) e) f0 f1 f3 f4 f5
  refine af _ rfl (zg (s:={s with heap:=h',toks:=tk}) (n:="range_iterator") st' rfl rfl (by decide) (bN (.int (lo+i)) H I1 ⟨t,?_⟩ ⟨rfl,rfl⟩ st' (λ b hb=>(hf b hb).1)))
  rw[Int.mul_one]
 done:=by
  intro X hP hw hK hc i pins s σ H E I hf st hg
  subst hP hw hK
  refine fh (λ f0 f1 f2 f3 f4 f5=>?_) (hf it (by simp))
  exact wpAny_pyNext_range_end (I.ok.hd hc) st (by have:n<=i:=hg;omega) λ h' eb=>⟨rfl,I.turned (t':=s.toks) (λ b o hb e=>eb b o hb e) f0 f1 f3 f4 f5⟩
 self:=λ _ _ _ _ _ st h=>wpAny_pyIter_rangeiter st h
section
variable{X:Cx}{tg:Expr}
def Uq(K:W.Frag)(tl:TE):TI:=λ σ H R=>tl σ H λ x H1=>∃a,x= .ref a/\(∃xs,fZ K H1 a xs)/\R (WN K a) H1
def Yg(K:W.Frag)(tl:TE):TI:=λ σ H R=>tl σ H λ x H1=>∃a,x= .ref a/\(∃xs,sR K H1 a xs)/\R (YZ K a) H1
def uV{l:Expr}{tl:TE}(hl:PE X l tl):PI X tg l (Uq X.K tl):=by
 intro pins s σ H R I h;refine dm (hl pins s σ H _ I h) ?_;refine λ v s1=>aq λ x H1 I1 r1 q1=>?_
 revert q1;refine aH λ a e z q=>?_;obtain ⟨xs,hq⟩:=z
 subst e;cases r1;refine aH (λ its rv p hz=>?_) (I1.list hq);refine wpAny_pyIter_list p.isList ?_;refine jF s1.heap.objs.size [s1.heap.objs.size] _ _ H1 rfl (I1.kept (t':=s1.toks) λ b o e=>Heap.get?_push_of_some _ e) (DV a _) (aY _ (Heap.get?_push_size _ rfl) rfl rfl) (λ b hb=>?_) q;have e:b=s1.heap.objs.size:=by simpa using hb
 subst e;exact I1.oh (Nat.le_refl _) (I1.hok.fresh (Nat.le_refl _))
def Gk{l:Expr}{tl:TE}(hl:PE X l tl):PI X tg l (Yg X.K tl):=by
 intro pins s σ H R I h;refine dm (hl pins s σ H _ I h) ?_;refine λ v s1=>aq λ x H1 I1 r1 q1=>?_
 revert q1;refine aH λ a e z q=>?_;obtain ⟨xs,hq⟩:=z
 subst e;cases r1;refine aH (λ its rv p hz=>?_) (I1.tuple hq);refine wpAny_pyIter_tuple (show s1.heap.IsTuple a its.toArray from p) ?_;refine jF s1.heap.objs.size [s1.heap.objs.size] _ _ H1 rfl (I1.kept (t':=s1.toks) λ b o e=>Heap.get?_push_of_some _ e) (Ab a _) (aY _ (Heap.get?_push_size _ rfl) rfl rfl) (λ b hb=>?_) q;have e:b=s1.heap.objs.size:=by simpa using hb
 subst e;exact I1.oh (Nat.le_refl _) (I1.hok.fresh (Nat.le_refl _))
def yq{pins:List (Addr×Obj)}{σ:St}{H:Hp}{s:Shared}{R:It->Hp->Prop}{E:Value->Shared->Prop}{lo hi:Int}{t u v:Tok}{tk:Nat}(I:Inv X pins σ H s)(h1: -(2^62)<=lo)(h2:lo<2^62)(h3: -(2^62)<=hi)(h4:hi<2^62) (q:R (Vs lo (hi- lo).toNat) H):wpAny (model X.prog X.w) X.A (pyIter (.ref s.heap.objs.size)) (PIE X pins σ tg R) E {s with heap:=s.heap.push {cls:= .type "range",data:= .fields #[.int lo t,.int hi u,.int 1 v]},toks:=tk}:=by
 refine wpAny_pyIter_range (IsRange.new ..) (small_one h1 h2 h3 h4) ?_;have I1:Inv X pins σ H {s with heap:=s.heap.push {cls:= .type "range",data:= .fields #[.int lo t,.int hi u,.int 1 v]},toks:=tk}:=I.kept λ b o e=>Heap.get?_push_of_some _ e;refine jF ((s.heap.push {cls:= .type "range",data:= .fields #[.int lo t,.int hi u,.int 1 v]}).objs.size) [(s.heap.push {cls:= .type "range",data:= .fields #[.int lo t,.int hi u,.int 1 v]}).objs.size] _ _ H rfl (I1.kept (t':=tk) λ b o e=>Heap.get?_push_of_some _ e) (Ac _ lo (hi- lo).toNat) ?_ (λ b hb=>?_) q
 ·have e1:lo+((0:Nat):Int)*1=lo:=by simp
  have e2:(((hi- lo).toNat:Nat):Int) -((0:Nat):Int)=Builtin.Range.rangeSize lo hi 1:=by rw[rangeSize_one];split<;>omega
  show IsRangeIter _ _ (lo+((0:Nat):Int)*1) ((((hi- lo).toNat:Nat):Int) -((0:Nat):Int)) 1;rw[e1,e2];exact Heap.get?_push_size _ rfl
 ·have e:b=(s.heap.push {cls:= .type "range",data:= .fields #[.int lo t,.int hi u,.int 1 v]}).objs.size:=by simpa using hb
  subst e;exact I1.oh (Nat.le_refl _) (I1.hok.fresh (Nat.le_refl _))
def jr(ta:TA):TI:=λ σ H R=>ta σ H λ vs H1=>∃j:Int,vs=[.int j]/\ -(2^62)<=j/\j<2^62/\R (Vs 0 j.toNat) H1
def ze(ta:TA):TI:=λ σ H R=>ta σ H λ vs H1=>∃i j:Int,vs=[.int i,.int j]/\(-(2^62)<=i/\i<2^62/\ -(2^62)<=j/\j<2^62)/\R (Vs i (j- i).toNat) H1
def D7{a:Expr}{ta:TA}{p pos:Pos}(hg:Gl X "range")(hm:X.mg "range"=none)(ha:PA X [a] ta)(hs:starEach [a] X.env=[(false,eval a X.env)]:=by rfl):PI X tg (.Call (.Name "range" p) [a] [] pos) (jr ta):=by
 intro pins s σ H R I h;refine Call_ (gP I hg hm boot_range (PyProof.Rows.callWith_type1 (dm (ha pos pins s σ H _ I h) λ us s1 z_=>tY z_ λ vs H1 I1 r1 q1=>?_) hs rfl))
 revert q1;refine dw λ j e q1 q2 q=>?_
 subst e;cases r1 with
 |cons r rr=>cases rr;obtain ⟨t,rfl⟩:=r;exact call_range_1 (yq I1 (by omega) (by omega) q1 q2 (by simpa using q))
def D6(hg:Gl X "range")(hm:X.mg "range"=none)(ha:PA X [a,b] ta)(hs:starEach [a,b] X.env=[(false,eval a X.env),(false,eval b X.env)]:=by rfl)(hs2:starEach [b] X.env=[(false,eval b X.env)]:=by rfl):
  PI X tg (.Call (.Name "range" p) [a,b] [] pos) (ze ta):=by
 intro pins s σ H R I h;refine Call_ (gP I hg hm boot_range (PyProof.Rows.callWith_type1 (dm (ha pos pins s σ H _ I h) λ us s1 z_=>tY z_ λ vs H1 I1 r1 q1=>?_) (by rw[hs,hs2]) (by rw[hs2];rfl)))
 revert q1;refine aq λ i j e z q=>?_;revert z;refine jE λ q1 q2 q3 q4=>?_
 subst e;cases r1 with
 |cons r rr=>
  cases rr with
  |cons r' rr=>cases rr;obtain ⟨t,rfl⟩:=r;obtain ⟨t',rfl⟩:=r';exact call_range_2 (yq I1 q1 q2 q3 q4 q)
def Xj(wi:TI)(g:TG)(tb:TS):TS:=λ D σ H=>wi σ H λ J H1=>∃W:Nat->Nat->St->Hp->Prop,(∃m,W 0 m σ H1)/\∀i m σ H,W i m σ H->(J.stop i H/\D.nx σ H)\/(J.go i H/\∃N:St->Hp->Prop,(∀σ' H',N σ' H'->∃m',m'<m/\W (i+1) m' σ' H')/\∀x H',J.RY i H x H'->g x σ H' λ σ2 H2=>tb {D with nx:=N,ct:=N,bk:=D.nx} σ2 H2)
noncomputable def qI(fp:List Addr)(h:Heap):List (Addr×Obj):=fp.filterMap λ b=>(h.get? b).map λ o=>(b,o)
def ja(hb:b∈fp)(e:h.get? b=some o):(b,o)∈qI fp h:=List.mem_filterMap.mpr (af b hb (by rw[e];rfl))
def Ed(hp:p∈qI fp h):p.1∈fp/\h.get? p.1=some p.2:=by
 refine ah (λ b hb e=>?_) (List.mem_filterMap.mp hp);cases q:h.get? b with
 |none=>rw[q] at e;cases e
 |some o=>rw[q] at e;have e':(b,o)=p:=Option.some.inj e;subst e';exact ⟨hb,q⟩
def Inv.pinned{s:Shared}(I:Inv X pins σ H s)(hf:∀b∈fp,f9 X pins H b)(ho:∀b∈fp,∃o,s.heap.get? b=some o/\∀v,o.data≠.cell v):Inv X (pins++qI fp s.heap) σ H s:=I.eK λ p hp=>(List.mem_append.mp hp).elim (λ z=>I.pin p (List.mem_append_right _ z)) λ z=>by obtain ⟨hb,e⟩:=Ed z;refine jE (λ f0 f1 f2 _=>?_) (hf p.1 hb);refine ah (λ o e' d=>?_) (ho p.1 hb);rw[e] at e';cases e';exact nV e f0 f1 f2 d
def Inv.jB{pins pl:List (Addr×Obj)}{s:Shared}(I:Inv X (pins++pl) σ H s):Inv X pins σ H s:=I.eK λ p hp=>I.pin p (List.mem_append_right _ (List.mem_append_left _ hp))
def NX(hp:PassesOwn (model X.prog X.w) X.A X.env X.xe)(hc:X.calm=true)(hi:PI X tg iter wi)(hg:PG X tg g)(hb:zZ X body tb)(hs:∀x,foldedSetIterable iter X.env x=pure x:=by intro _;rfl):PS X (.For tg iter body [] pos) (Xj wi g tb):=by
 intro pins s σ H D I h;refine wpAny_For (dm (hi pins s σ H _ I h) λ v s1 h1=>dm h1 λ itv s2 h2=>?_) hs;obtain ⟨it,fp,tn,J,H2,e,I2,T,st2,f2,W,⟨m0,w0⟩,turn⟩:=h2;subst e
 -- what stays true of Ag O4 objects through Ag loop
 have Nr:∀{H':Hp},(∀b∈fp,H' b=none)->∀b∈fp,f9 X pins H' b:=λ hn b hb=>⟨hn b hb,(f2 b hb).2⟩;refine codeAny_forLoop_any (λ n s'=>∃i σ' H',Inv X pins σ' H' s'/\tn i s'.heap/\(∀b∈fp,H' b=none)/\W i n σ' H') ?_ m0 (iC 0 σ H2 I2 st2 (λ b hb=>(f2 b hb).1) w0);refine λ n s3=>nT λ i σ3 H3 I3 st3 Uy w3=>?_;rcases turn i n σ3 H3 w3 with ⟨stop,qn⟩|⟨go,N,hN,step⟩
 ·refine wpAny_passesOwn hp (dm (T.done X rfl rfl rfl hc i pins s3 σ3 H3 X.xe I3 (Nr Uy) st3 stop) ?_)
  rintro r s4 ⟨hr,I4⟩
  subst hr;exact wpAny_execs_nil (aQ σ3 H3 I4 qn)
 ·refine wpAny_passesOwn hp (dm (T.item X rfl rfl rfl hc i pins s3 σ3 H3 X.xe I3 (Nr Uy) st3 go) ?_);refine λ r s4=>ah λ u hr h4=>?_;subst hr;refine wpAny_passesOwn hp (dm h4 ?_);refine λ _ s5=>cR λ x H5 I5 r5 y5 Nt YA=>?_;have Y0:=I5.pinned (Nr YA) (T.obj _ _ Nt);refine wpAny_passesOwn hp (dm (hg _ s5 σ3 H5 x u _ Y0 r5 (step x H5 y5)) ?_);refine λ _ s6=>aW λ σ6 H6 I6 q6=>?_;refine wpAny_passesOwn hp (dm (hb _ s6 σ6 H6 _ I6 q6) λ f s7 q7=>?_);have again:∀{σ7:St} {H7:Hp},Inv X (pins++qI fp s5.heap) σ7 H7 s7->N σ7 H7->∃m,m<n/\∃i σ' H',Inv X pins σ' H' s7/\tn i s7.heap/\(∀b∈fp,H' b=none)/\W i m σ' H':=λ{σ7 H7} I7 n7=>by refine ah (λ m' hm w7=>?_) (hN σ7 H7 n7);refine af m' hm (iC (i+1) σ7 H7 I7.jB (T.keep _ _ _ Nt λ b hb o e=>(I7.pin (b,o) (List.mem_append_right _ (List.mem_append_right _ (ja hb e)))).1) (λ b hb=>?_) w7);refine ah (λ o e d=>?_) (T.obj _ _ Nt b hb);exact (I7.pin (b,o) (List.mem_append_right _ (List.mem_append_right _ (ja hb e)))).2.1
  cases f with
  |next=>refine aW (λ σ7 H7 I7 n7=>?_) q7;exact again I7 n7
  |cont=>refine aW (λ σ7 H7 I7 n7=>?_) q7;exact again I7 n7
  |brk=>refine aW (λ σ7 H7 I7 q7=>?_) q7;exact aQ σ7 H7 I7.jB q7
  |ret v=>refine eZ (λ x7 σ7 H7 I7 r7 q7=>?_) q7;exact nU x7 σ7 H7 I7.jB r7 q7
end
abbrev R2:=V->V->Hp->VK->Prop
def oG(X:Cx)(f:Value->Value->Sem Value)(r:R2):Prop:=∀(pins:List (Addr×Obj)) (s:Shared) (σ:St) (H:Hp) (x y:V) (v u:Value) (Q:VK),Inv X pins σ H s->RelV x v->RelV y u->r x y H Q->wpAny (model X.prog X.w) X.A (f v u) (EP X pins σ Q) X.xe s
def YT(X:Cx)(f:Value->Sem Value)(r:V->Hp->VK->Prop):Prop:=∀(pins:List (Addr×Obj)) (s:Shared) (σ:St) (H:Hp) (x:V) (v:Value) (Q:VK),Inv X pins σ H s->RelV x v->r x H Q->wpAny (model X.prog X.w) X.A (f v) (EP X pins σ Q) X.xe s
def pI(X:Cx)(f:Value)(r:List V->Hp->VK->Prop):Prop:=∀(pins:List (Addr×Obj)) (s:Shared) (σ:St) (H:Hp) (xs:List V) (us:List Value) (Q:VK),Inv X pins σ H s->Vals xs us->r xs H Q->wpAny (model X.prog X.w) X.A (call f us) (EP X pins σ Q) X.xe s
def VD(r:R2)(ta tb:TE):TE:=λ σ H Q=>ta σ H λ x H1=>tb σ H1 λ y H2=>r x y H2 Q
def tUn(r:V->Hp->VK->Prop)(ta:TE):TE:=λ σ H Q=>ta σ H λ x H1=>r x H1 Q
def rI(C:Int->Int->Prop)(g:Int->Int->V):R2:=λ x y H Q=>∃i j,x= .int i/\y= .int j/\C i j/\Q (g i j) H
def NK(g:Int->Int->V):R2:=λ x y H Q=>∃i j,x= .int i/\y= .int j/\Q (g i j) H
def rU(g:Int->V):V->Hp->VK->Prop:=λ x H Q=>∃i,x= .int i/\Q (g i) H
section
variable{X:Cx}{a b c:Expr}{ta tb tc:TE}{pos:Pos}
def U6(ha:PE X a ta)(hb:PE X b tb){pins:List (Addr×Obj)}{s:Shared}{σ:St}{H:Hp}{R:V->V->Hp->Prop}(I:Inv X pins σ H s) (h:ta σ H λ x H1=>tb σ H1 λ y H2=>R x y H2) {Q:Value->Shared->Prop} {f:Value->Value->Sem Value} (hf:∀v u s2 x y H2,Inv X pins σ H2 s2->RelV x v->RelV y u->R x y H2->wpAny (model X.prog X.w) X.A (f v u) Q X.xe s2):
  wpAny (model X.prog X.w) X.A (eval a X.env) (λ v s₁=>wpAny (model X.prog X.w) X.A (eval b X.env) (λ u s₂=>wpAny (model X.prog X.w) X.A (f v u) Q X.xe s₂) X.xe s₁) X.xe s:=by
 refine dm (ha pins s σ H _ I h) ?_;refine λ v s1=>aq λ x H1 I1 r1 q1=>?_;refine dm (hb pins s1 σ H1 _ I1 q1) ?_;refine λ u s2=>aq λ y H2 I2 r2 q2=>?_;exact hf v u s2 x y H2 I2 r1 r2 q2
def Gq{op:Operator}{r:R2}(ho:oG X (binaryOp op) r)(ha:PE X a ta)(hb:PE X b tb):PE X (.BinOp a op b pos) (VD r ta tb):=by intro pins s σ H Q I h;exact wpAny_BinOp (U6 ha hb I h λ v u s2 x y H2 I2 rx ry q=>ho pins s2 σ H2 x y v u Q I2 rx ry q)
def Ti{r:V->Hp->VK->Prop}(ho:YT X (unaryOp op) r)(ha:PE X a ta):PE X (.UnaryOp op a pos) (tUn r ta):=by intro pins s σ H Q I h;exact UnaryOp_ (dm (ha pins s σ H _ I h) λ v s1 z_=>tY z_ λ x H1 I1 r1 q1=>ho pins s1 σ H1 x v Q I1 r1 q1)
def VS{f:Value->Value->Sem Value}{C:Int->Int->Prop}{g:Int->Int->Int} (rule:∀(i j:Int) (t u:Tok) (s:Shared) (Q:Value->Shared->Prop) (E:Value->Shared->Prop),C i j->Q (.int (g i j) s.toks) {s with toks:=s.toks+1}->wpAny (model X.prog X.w) X.A (f (.int i t) (.int j u)) Q E s):
  oG X f (rI C λ i j=> .int (g i j)):=by
 intro pins s σ H x y v u Q I rx ry h
 revert h;refine aL λ i j z w hc q=>?_;subst z;subst w
 obtain ⟨t,rfl⟩:=rx;obtain ⟨t',rfl⟩:=ry;exact rule i j t t' s _ _ hc (ay (.int (g i j)) H (I.tok _) ⟨_,rfl⟩ q)
def Tt{f:Value->Value->Sem Value}{g:Int->Int->Int} (rule:∀(i j:Int) (t u:Tok) (s:Shared) (Q:Value->Shared->Prop) (E:Value->Shared->Prop),Q (.int (g i j) s.toks) {s with toks:=s.toks+1}->wpAny (model X.prog X.w) X.A (f (.int i t) (.int j u)) Q E s):
  oG X f (NK λ i j=> .int (g i j)):=by
 intro pins s σ H x y v u Q I rx ry h
 revert h;refine aq λ i j z w q=>?_;subst z;subst w
 obtain ⟨t,rfl⟩:=rx;obtain ⟨t',rfl⟩:=ry;exact rule i j t t' s _ _ (ay (.int (g i j)) H (I.tok _) ⟨_,rfl⟩ q)
def Tu{f:Value->Value->Sem Value}{g:Int->Int->Bool} (rule:∀(i j:Int) (t u:Tok) (s:Shared) (Q:Value->Shared->Prop) (E:Value->Shared->Prop),Q (.bool (g i j)) s->wpAny (model X.prog X.w) X.A (f (.int i t) (.int j u)) Q E s):
  oG X f (NK λ i j=> .bl (g i j)):=by
 intro pins s σ H x y v u Q I rx ry h
 revert h;refine aq λ i j z w q=>?_;subst z;subst w
 obtain ⟨t,rfl⟩:=rx;obtain ⟨t',rfl⟩:=ry;exact rule i j t t' s _ _ (ay (.bl (g i j)) H I rfl q)
noncomputable def Y4(i j:Int):Prop:=0<=j/\j<=1000000/\i.natAbs<2^64
def Oo:oG X (binaryOp .Add) (NK λ i j=> .int (i+j)):=Tt λ _ _ _ _ _ _ _ q=>add_int q
def Oh:oG X (binaryOp .Sub) (NK λ i j=> .int (i- j)):=Tt λ _ _ _ _ _ _ _ q=>sub_int q
def Km:oG X (binaryOp .Mod) (rI (λ _ j=>j≠0) λ i j=> .int (i.fmod j)):=VS λ _ _ _ _ _ _ _ hc q=>mod_int' hc q
def Oj:oG X (binaryOp .Pow) (rI Y4 λ i j=> .int (i^j.toNat)):=VS λ _ _ _ _ _ _ _ hc q=>pow_int_small hc.1 hc.2.1 hc.2.2 q
def unI{f:Value->Sem Value}{g:Int->Int} (rule:∀(i:Int) (t:Tok) (s:Shared) (Q:Value->Shared->Prop) (E:Value->Shared->Prop),Q (.int (g i) s.toks) {s with toks:=s.toks+1}->wpAny (model X.prog X.w) X.A (f (.int i t)) Q E s):
  YT X f (rU λ i=> .int (g i)):=by
 intro pins s σ H x v Q I rx h
 revert h;refine ah λ i z q=>?_;subst z
 obtain ⟨t,rfl⟩:=rx;exact rule i t s _ _ (ay (.int (g i)) H (I.tok _) ⟨_,rfl⟩ q)
def Nf:YT X (unaryOp .USub) (rU λ i=> .int (-i)):=unI λ _ _ _ _ _ q=>neg_int q
def To:oG X (compareOp .Lt) (NK λ i j=> .bl (decide (i<j))):=Tu λ _ _ _ _ _ _ _ q=>lt_int q
def Tq:oG X (compareOp .Gt) (NK λ i j=> .bl (decide (j<i))):=Tu λ _ _ _ _ _ _ _ q=>gt_int q
def oG.or{r r':R2}(h:oG X f r)(h':oG X f r'):oG X f (λ x y H Q=>r x y H Q\/r' x y H Q):=by
 intro pins s σ H x y v u Q I rx ry q;rcases q with q|q
 ·exact h pins s σ H x y v u Q I rx ry q
 ·exact h' pins s σ H x y v u Q I rx ry q
def vf(b:Expr)(h:op≠.In:=by decide)(h2:op≠.NotIn:=by decide):behindInMarks op b=false:=by
 have e1:(op==CmpOp.In)=false:=by cases op<;>first|rfl|exact absurd rfl h
 have e2:(op==CmpOp.NotIn)=false:=by cases op<;>first|rfl|exact absurd rfl h2
 cases b<;>simp[behindInMarks,e1,e2]
def LW(t:TE):TT:=λ σ H Q=>t σ H λ x H'=>∃k,x= .bl k/\Q k H'
def J0{r:R2}(ho:oG X (compareOp op) r)(ha:PE X a ta)(hb:PE X b tb)(hm:behindInMarks op b=false):PT X (.Compare a [op] [b] pos) (LW (VD r ta tb)):=by intro pins s σ H Q I h;refine wpAny_isTrue_Compare1 (dm (ha pins s σ H _ I h) λ v s1 z_=>tY z_ λ x H1 I1 r1 q1=>dm (hb pins s1 σ H1 _ I1 q1) λ u s2 ⟨y,H2,I2,r2,q2⟩=>dm (ho pins s2 σ H2 x y v u _ I2 r1 r2 q2) λ c s3 ⟨z,H3,I3,r3,k,e,q3⟩=>?_) hm;subst e;cases r3;exact wpAny_truthy_bool (af H3 I3 q3)
def qV:(sizeLine:Nat)<2^63:=by rw[sizeLine_eq];decide
def AD:oG X (binaryOp .Add) (λ x y H Q=>∃i j,x= .str i/\y= .str j/\i.length+j.length<=sizeLine/\Q (.str (i++j)) H):=by
 intro pins s σ H x y v u Q I rx ry h
 revert h;refine aL λ i j z w hz q=>?_;subst z;subst w
 obtain ⟨t,rfl⟩:=rx;obtain ⟨t',rfl⟩:=ry;exact add_str (λ t' tk=>ay (.str (i++j)) H (I.tok _) ⟨_,rfl⟩ q) hz
def vals1(r:Vals [x] us):∃u,us=[u]/\RelV x u:=by
 cases r with
 |cons r1 r2=>cases r2;exact af _ rfl r1
def vals2{x y:V}(r:Vals [x,y] us):∃u w',us=[u,w']/\RelV x u/\RelV y w':=by
 cases r with
 |cons r1 r2=>
  cases r2 with
  |cons r3 r4=>cases r4;exact ay _ _ rfl r1 r3
def Il:pI X (.builtin "abs") (λ xs H Q=>∃i,xs=[.int i]/\Q (.int (if i<0 then -i else i)) H):=by
 intro pins s σ H xs us Q I r h
 revert h;refine ah λ i z q=>?_;subst z
 refine ah (λ u z y=>?_) (vals1 r);subst z;obtain ⟨t,rfl⟩:=y;exact call_abs_int λ u tk=>ay (.int (if i<0 then -i else i)) H (I.tok _) ⟨_,rfl⟩ q
def ET(hc:X.calm=true):pI X (.builtin "min") (λ xs H Q=>∃i j,xs=[.int i,.int j]/\Q (.int (if j<i then j else i)) H):=by
 intro pins s σ H xs us Q I r h
 revert h;refine aW λ i j z q=>?_;subst z
 refine aq (λ u w' z y w=>?_) (vals2 r);subst z;obtain ⟨t,rfl⟩:=y;obtain ⟨t',rfl⟩:=w;refine min_two_ints (I.ok.hd hc) λ h' tk k=>ay _ H (I.kept k) ?_ q;by_cases hj:j<i
 ·rw[if_pos hj,if_pos hj];exact ⟨_,rfl⟩
 ·rw[if_neg hj,if_neg hj];exact ⟨_,rfl⟩
def YW(K:W.Frag)(x:V)(H:Hp)(n:Nat):Prop:=match x with
 | .str y=>y.length<=sizeLine/\n=y.length
 | .U5 y=>y.size<=sizeLine/\n=y.size
 | .ref p=>(∃xs,fZ K H p xs/\n=xs.length)\/∃xs,sR K H p xs/\n=xs.length
 |_=>False
def Ij:pI X (.builtin "len") (λ xs H Q=>∃x n,xs=[x]/\YW X.K x H n/\Q (.int n) H):=by
 intro pins s σ H xs us Q I r h
 revert h;refine aq λ x n z e q=>?_;subst z
 refine ah (λ u z rx=>?_) (vals1 r);subst z;have hl:=qV;have hs:sizeLine=16777216:=sizeLine_eq;cases x with
 |str y=>obtain ⟨t,rfl⟩:=rx;obtain ⟨hy,e'⟩:y.length<=sizeLine/\n=y.length:=e;subst e';exact len_str (by omega) (ay (.int _) H (I.tok _) ⟨_,rfl⟩ q)
 |U5 y=>obtain ⟨t,rfl⟩:=rx;obtain ⟨hy,e'⟩:y.size<=sizeLine/\n=y.size:=e;subst e';exact W.len_bytes (by omega) (ay (.int _) H (I.tok _) ⟨_,rfl⟩ q)
 |ref p=>
  cases rx;have e':(∃xs,fZ X.K H p xs/\n=xs.length)\/∃xs,sR X.K H p xs/\n=xs.length:=e;rcases e' with ⟨xs,hx,e'⟩|⟨xs,hx,e'⟩
  ·subst e';refine aH (λ its r' pl hz=>?_) (I.list hx);have hlen:=r'.length;exact Calls.call_len_list pl.isList (by simp only[List.size_toArray];omega) (ay (.int xs.length) H (I.tok _) ⟨_,by simp only[List.size_toArray];rw[hlen]⟩ q)
  ·subst e';refine aH (λ its r' pl hz=>?_) (I.tuple hx);have hlen:=r'.length;exact len_tuple pl (by simp only[List.size_toArray];omega) (ay (.int xs.length) H (I.tok _) ⟨_,by simp only[List.size_toArray];rw[hlen]⟩ q)
 |_=>exact (show False from e).elim
end
structure Qx(h:Heap)(x dx C:Addr)(mA:Str->Option Value):Prop where
 obj:h.get? x=some (W.instObj C dx)
 ns:h.Ns1 dx mA
 ne:dx≠x
def En{h:Heap}{dx:Addr}{mA:Str->Option Value}(n:h.Ns1 dx mA):∃od,h.get? dx=some od/\∀name,W.lookIn name od=some (mA name):=by
 revert n;refine qE λ o es ep ho hd hk _ hm=>?_
 refine af o ho (λ name=>?_);have e:=hm name;unfold nsFind findBy at e;rw[<-Array.find?_toList] at e;unfold W.lookIn;rw[hd];dsimp only;split
 ·rename_i y q;rw[q] at e;exact congrArg some e
 ·rename_i q;rw[q] at e;have a:es.toList.any (·.refKey)=false:=by rw[List.any_eq_false];intro y hy;refine Ar (λ z t hkey=>?_) (hk y (Array.mem_toList_iff.mp hy));simp[DictEntry.refKey,hkey]
  have a':¬es.toList.any (·.refKey)=true:=by rw[a];exact Bool.false_ne_true
  rw[if_neg a'];exact congrArg some e
def Qx.look(I:Qx h x dx C mA):∃od,W.InstAt h x (W.instObj C dx) C (some od)/\∀name,W.lookIn name od=some (mA name):=let ⟨od,ho,hl⟩:=En I.ns
 (af od ⟨I.obj,rfl,rfl,ho⟩ hl)
section
variable{prog:Program}{w:World}{A:Around}{E:Value->Shared->Prop}{s:Shared}{K:W.Frag}{x dx C f:Addr}{mA:Str->Option Value}{name:Str}{v:Value}
end
def rV.some_of{v:V}(r:rV (some v) o):∃u,o=some u/\RelV v u:=by
 cases o with
 |none=>exact (show False from r).elim
 |some u=>exact af u rfl r
section
variable{P:Program}{w:World}{H H':Hp}{h h':Heap}{a C dx:Addr}{fs fs':List (Str×V)}
def K0(hok:kC P w H h)(e:H a=some (.ins C dx fs)):∃mA,Qx h a dx C mA/\(∀f,rV (fs.lookup f) (mA f))/\PySem.Within mA (fs.map (·.1))/\fs.length<=1000/\H dx=some (.own a):=by refine jD (λ d z ne ob=>aH λ mA n r q=>?_) (show bS P w H h a (.ins C dx fs) from hok a _ e);exact ⟨mA,⟨ob,n,ne⟩,r,q,z,d⟩
end
structure Vv(K:W.Frag)(C:Addr):Prop where
 pg:W.plainGet K C Str.empty=true
 hd:W.hasDictIn K C=true
 po:W.plainOver K C=true
 sa:W.findIn K (.ref C) "__setattr__"=some (some (.builtin "object.__setattr__"))
def Vv.get{K:W.Frag}{C:Addr}(c:Vv K C)(f:Str):W.plainGet K C f=true:=c.pg
structure Con(K:W.Frag)(C:Addr)(f:Str)(v:V)(u:Value):Prop where
 at_:W.findIn K (.ref C) f=some (some u)
 rel:RelV v u
 get:W.specialIn K u "__get__"=some none
 cp:W.copiedNames.contains f=false
structure Meth(K:W.Frag)(C:Addr)(m:Str)(f:Addr):Prop where
 at_:W.findIn K (.ref C) m=some (some (.ref f))
 fn:W.isFn K (.ref f)=true
 kp:W.keepIn K (.ref f)=true
section
variable{X:Cx}{pins:List (Addr×Obj)}{σ:St}{H:Hp}{s:Shared}{a C dx:Addr}{fs:List (Str×V)}{f:Str}{v:V}{A:Around}{E:Value->Shared->Prop}
end
section
variable{X:Cx}{o e value:Expr}{f:Str}{pos pos' tpos:Pos}{ta tv:TE}
end
section
variable{X:Cx}{pins:List (Addr×Obj)}{σ:St}{H:Hp}{s:Shared}{A:Around}{E:Value->Shared->Prop}{Q:Value->Shared->Prop}{c:Value}{b:Bool}
inductive rT(K:W.Frag)(H:Hp):V->Value->Prop where
 |gY:rT K H .gY (.type "NoneType")
 |bl (x:Bool):rT K H (.bl x) (.type "bool")
 |int (i:Int):rT K H (.int i) (.type "int")
 |str (x:Str):rT K H (.str x) (.type "str")
 |UA (x:UInt64):rT K H (.UA x) (.type "float")
 |lst {a:Addr} {xs:List V} (e:H a=some (.lst xs)):rT K H (.ref a) (.type "list")
 |jP {a:Addr} {o:Obj} {xs:List V} (e:H a=some (.jP o (.lst xs))):rT K H (.ref a) (.type "list")
 |tup {a:Addr} {xs:List V} (e:H a=some (.tup xs)):rT K H (.ref a) (.type "tuple")
 |dK {a:Addr} {kvs:List (Key×V)} (e:H a=some (.dK kvs)):rT K H (.ref a) (.type "dict")
 |dT {a:Addr} {kvs:List (List Key×V)} (e:H a=some (.dT kvs)):rT K H (.ref a) (.type "dict")
 |ins {a C dx:Addr} {fs:List (Str×V)} (e:H a=some (.ins C dx fs)) (cl:Vv K C) (ha:W.findIn K (.ref C) "__class__"=some (some (.builtin "object.__class__")))
   (hn:W.specialIn K (.builtin "object.__class__") "__get__"=some (some (.builtin "getset_descriptor.__get__"))) (htk:W.takesIn K (.builtin "object.__class__")=some true)
   (hm:W.mroIn K C (.type "object")=some true):rT K H (.ref a) (.ref C)
end
structure dH(k:Nat)(A:Around):Prop where
 hd:A.handled=none
 dp:A.depth+3*k+5<recursionLimit
 un:A.units+16*k+200<cLine
def dH.mono(r:dH k A)(h:j<=k):dH j A:=⟨r.hd,by have:=r.dp;omega,by have:=r.un;omega⟩
theorem dH.deeper(r:dH (k+1) A)(env:Env):dH k (A.deeper env):=⟨r.hd,by have:=r.dp;show A.depth+1+3*k+5<_;omega,by have:=r.un;show A.units+3+16*k+200<_;omega⟩
theorem dH.depth(r:dH k A):A.depth<recursionLimit:=by have:=r.dp;omega
theorem dH.units(r:dH k A):A.units+64<cLine:=by have:=r.un;omega
def Xg:TA:=λ _ H Q=>Q [] H
def Sv(ta:TE)(tr:TA):TA:=λ σ H Q=>ta σ H λ x H1=>tr σ H1 λ xs H2=>Q (x::xs) H2
section
variable{X:Cx}{e:Expr}{es:List Expr}{te:TE}{t:TA}{pos:Pos}
def AB:PA X [] Xg:=λ _ _ _ _ H Q I h=>Calls.spliced_nil (ay [] H I .nil h)
def pW(ha:PE X e te)(hr:PA X es t)(hs:starEach (e::es) X.env=(false,eval e X.env)::starEach es X.env:=by rfl):PA X (e::es) (Sv te t):=by intro pos pins s σ H Q I h;rw[hs];show wpAny _ _ (spliced ((false,eval e X.env)::backTo pos (starEach es X.env))) _ _ s;refine Calls.spliced_cons (dm (ha pins s σ H _ I h) ?_);refine λ u s1=>aq λ x H1 I1 r1 q1=>?_;exact dm (hr pos pins s1 σ H1 _ I1 q1) λ us s2 z_=>tY z_ λ xs H2 I2 r2 q2=>ay (x::xs) H2 I2 (.cons r1 r2) q2
def Xa(t:TA):TE:=λ σ H Q=>t σ H λ xs H1=>xs.length<=sizeLine/\∀p,H1 p=none->Q (.ref p) (upd H1 p (.tup xs))
def Xh(t:TA):TE:=λ σ H Q=>t σ H λ xs H1=>xs.length<=sizeLine/\∀p,H1 p=none->Q (.ref p) (upd H1 p (.lst xs))
def N7{x1}(h:PA X es t):PE X (.Tuple es x1 pos) (Xa t):=by intro pins s σ H Q I hq;refine wpAny_Tuple_spliced (dm (h pos pins s σ H _ I hq) λ us s1 ⟨xs,H1,I1,r,z,q⟩=>⟨by rw[<-r.length];exact z,?_⟩);have hf:H1 s1.heap.objs.size=none:=I1.hok.fresh (Nat.le_refl _);refine ay (.ref s1.heap.objs.size) (upd H1 s1.heap.objs.size (.tup xs)) (I1.laid (t':=s1.toks) (λ b u e=>Heap.get?_push_of_some _ e) (Nat.le_refl _) ?_) rfl (q _ hf);exact ⟨z,af us r (aY _ (Heap.get?_push_size _ rfl) rfl ⟨_,rfl⟩)⟩
def Ob(h:PA X es t):PE X (.List es pos) (Xh t):=by intro pins s σ H Q I hq;refine wpAny_List_spliced (dm (h pos pins s σ H _ I hq) λ us s1 ⟨xs,H1,I1,r,z,q⟩=>⟨by rw[<-r.length];exact z,?_⟩);have hf:H1 s1.heap.objs.size=none:=I1.hok.fresh (Nat.le_refl _);refine ay (.ref s1.heap.objs.size) (upd H1 s1.heap.objs.size (.lst xs)) (I1.laid (t':=s1.toks) (λ b u e=>Heap.get?_push_of_some _ e) (Nat.le_refl _) ?_) rfl (q _ hf);exact ⟨z,aQ us 0 r (Heap.get?_push_size _ rfl)⟩
end
abbrev Sp:=List V->Hp->VK->XK->Prop
abbrev LQ:=List Env->Hp->Shared->XK->Value->Shared->Prop
structure LO(P:Program)(w:World)(K:W.Frag)(mg:Str->Option Value)(base:Heap)(A:Around)(outer:List Env)(s:Shared)(H:Hp):Prop where
 frames:A.frames=some outer
 mod:Mod K mg base
 bs:∀b o,base.get? b=some o->s.heap.get? b=some o/\H b=none
 RP:base.objs.size<=s.heap.objs.size
 vt:s.heap.FunFrames base outer
 Wg:∀b∈frs outer,H b=none
 hok:kC P w H s.heap
 bare:AllBare s.gens
def CE(outer:List Env)(P:Program)(w:World)(H:Hp)(s:Shared)(Q:VK)(u:Value)(s':Shared):Prop:=∃v H',s'.os=s.os/\AllBare s'.gens/\Un (frs outer) [] H H' s.heap s'.heap/\kC P w H' s'.heap/\RelV v u/\Q v H'
def CR(CX:LQ)(outer:List Env)(P:Program)(w:World)(H:Hp)(s:Shared)(Q:VK)(E:XK)(r:Result)(s':Shared):Prop:=match r with
 | .ok (.ret u)=>CE outer P w H s Q u s'
 | .ok _=>False
 | .error e=>CX outer H s E e s'
structure QD(P:Program)(w:World)(K:W.Frag)(mg:Str->Option Value)(base:Heap)(CX:LQ)(k:Nat)(f:Addr)(fd:FuncData)(ps:List Str)(sp:Sp):Prop where
 len:∀vs H Q E,sp vs H Q E->vs.length=ps.length
 run:∀(A:Around) (outer:List Env) (s:Shared) (H:Hp) (args:Args) (us:List Value) (vs:List V) (Q:VK) (E:XK),dH k A->LO P w K mg base A outer s H->BindsTo s fd args (ps.zip us)->Vals vs us->sp vs H Q E->
  codeAny (model P w) A (.call (.ref f) args) (CR CX outer P w H s Q E) s
section
variable{X:Cx}{pins:List (Addr×Obj)}{σ:St}{H:Hp}{s s':Shared}
def Inv.YH(I:Inv X pins σ H s):LO X.prog X.w X.K X.mg X.base X.A X.stack s H:=⟨I.ok.frames,I.ok.mod,I.bs,Nat.le_trans I.ok.RP I.sz,I.stack,I.pR,I.hok,I.bare⟩
def Inv.after{Q:VK}(I:Inv X pins σ H s)(h:CE X.stack X.prog X.w H s Q u s'):EP X pins σ Q u s':=by obtain ⟨v,H',os,bare,un,hok,r,q⟩:=h;obtain ⟨hh,g,d,t,os'⟩:=s';obtain rfl:os'=s.os:=os;exact ay v H' (I.call (h':=hh) (g':=g) (d':=d) (t':=t) (ch:=[]) un hok bare (λ b z=>absurd z (by simp))) r q
end
def Binds(K:W.Frag)(fd:FuncData)(ps:List Str)(ds:List Value):Prop:=∀(s:Shared) (us:List Value),K.In s.heap->(us++ds).length=ps.length->BindsTo s fd ⟨us,[]⟩ (ps.zip (us++ds))
def Binds.all{K:W.Frag}{fd:FuncData}{ps:List Str}(h:∀us:List Value,us.length=ps.length->bindArgs fd ⟨us,[]⟩=pure (ps.zip us)):Binds K fd ps []:=λ s us _ hl=>by rw[List.append_nil] at hl ⊢;exact .of_eq (h us hl)
section
variable{X:Cx}{CX:LQ}{k:Nat}{f C:Addr}{fd:FuncData}{ps:List Str}{sp:Sp}{dvs:List V}{ds:List Value}{E:XK}{x m:Str}{p pos apos:Pos}{e o:Expr}{es:List Expr}{ta:TE}{t:TA}
structure Mk(K:W.Frag)(C f:Addr):Prop where
 makes:W.makesIn K C=true
 init:W.findIn K (.ref C) "__init__"=some (some (.ref f))
 fn:W.isFn K (.ref f)=true
 kp:W.keepIn K (.ref C)=true
end
section
variable{X:Cx}{CX:LQ}{k:Nat}{f C:Addr}{fd:FuncData}{ps ks:List Str}{sp:Sp}{E:XK}{x m:Str}{p pos apos kpos:Pos}{e o:Expr}{es:List Expr}{kws:List Keyword}{te ta:TE}{t tk:TA}{nm:Option Str}
structure YY(K:W.Frag)(fd:FuncData)(ps ks:List Str)(g:List Value->List Value->List Value)(gV:List V->List V->List V):Prop where
 to:∀(s:Shared) (us ws:List Value),K.In s.heap->(g us ws).length=ps.length->BindsTo s fd ⟨us,ks.zip ws⟩ (ps.zip (g us ws))
 rel:∀{vs:List V} {us:List Value} {zs:List V} {ws:List Value},Vals vs us->Vals zs ws->Vals (gV vs zs) (g us ws)
variable{g:List Value->List Value->List Value}{gV:List V->List V->List V}
end
structure ji(N P:List Str)(sc:Scope):Prop where
 kind:sc.kind= .function
 co:sc.isCoroutine=false
 gen:sc.isGenerator=false
 nd:N.Nodup
 pre:N.take P.length=P
 par:∀x∈P,sc.names.lookup x=some .local\/sc.names.lookup x=some .cell
 OG:∀y∈sc.names,y.2≠.free
def EU{kindOf:Str->Option NameKind}{x:Str}:∀{binds:List (Str×Value)} {m:Str->Option Value},(∀v,(x,v)∉binds)->bindL kindOf binds m x=m x:=by
 intro v_;induction v_ with
 |nil=>
  rintro _ _
  exact rfl
 |cons e_ r lV=>
  obtain ⟨n,v⟩:=e_
  rintro m h
  unfold bindL;rw[lV λ w hw=>h w (List.mem_cons_of_mem _ hw)];split
  ·have:x≠n:=by rintro rfl;exact h v List.mem_cons_self
   simp[this]
  ·rfl
def EV{kindOf:Str->Option NameKind}{x:Str}:∀{binds:List (Str×Value)} {m:Str->Option Value},(∀v,(x,v)∉binds)->bindC kindOf binds m x=m x:=by
 intro v_;induction v_ with
 |nil=>
  rintro _ _
  exact rfl
 |cons e_ r lV=>
  obtain ⟨n,v⟩:=e_
  rintro m h
  unfold bindC;rw[lV λ w hw=>h w (List.mem_cons_of_mem _ hw)];split
  ·rfl
  ·have:x≠n:=by rintro rfl;exact h v List.mem_cons_self
   simp[this]
theorem ug{kindOf:Str->Option NameKind}{x:Str}{v:Value}:∀{P:List Str} {vs:List Value} {i:Nat} {m:Str->Option Value},P.Nodup->P[i]? =some x->vs[i]? =some v->kindOf x=some .local->bindL kindOf (P.zip vs) m x=some v
 |[],_,_,_,_,h,_,_=>by simp at h
 |_::_,[],_,_,_,_,h,_=>by simp at h
 |p::P,w::vs,0,m,nd,h1,h2,hk=>by simp at h1 h2;subst h1;subst h2;show bindL kindOf ((p,w)::P.zip vs) m p=_;unfold bindL;rw[EU λ v hv=>(List.nodup_cons.mp nd).1 (List.of_mem_zip hv).1,if_pos hk];simp
 |p::P,w::vs,i+1,m,nd,h1,h2,hk=>by show bindL kindOf ((p,w)::P.zip vs) m x=_;unfold bindL;exact ug (i:=i) (List.nodup_cons.mp nd).2 (by simpa using h1) (by simpa using h2) hk
theorem uh{kindOf:Str->Option NameKind}{x:Str}{v:Value}:∀{P:List Str} {vs:List Value} {i:Nat} {m:Str->Option Value},P.Nodup->P[i]? =some x->vs[i]? =some v->kindOf x≠some .local->bindC kindOf (P.zip vs) m x=some v
 |[],_,_,_,_,h,_,_=>by simp at h
 |_::_,[],_,_,_,_,h,_=>by simp at h
 |p::P,w::vs,0,m,nd,h1,h2,hk=>by simp at h1 h2;subst h1;subst h2;show bindC kindOf ((p,w)::P.zip vs) m p=_;unfold bindC;rw[EV λ v hv=>(List.nodup_cons.mp nd).1 (List.of_mem_zip hv).1,if_neg hk];simp
 |p::P,w::vs,i+1,m,nd,h1,h2,hk=>by show bindC kindOf ((p,w)::P.zip vs) m x=_;unfold bindC;exact uh (i:=i) (List.nodup_cons.mp nd).2 (by simpa using h1) (by simpa using h2) hk
def start(N:List Str)(vs:List V):St:=vs.map some++List.replicate (N.length- vs.length) none
def jc(CX:LQ)(P:Program)(w:World)(K:W.Frag)(mg:Str->Option Value)(base:Heap)(N:List Str)(qual:Str)(scope:Scope)(f:Addr)(cd:Value)(A:Around)(outer:List Env)(s:Shared)(H:Hp)(E:XK):Cx where
 prog:=P
 w:=w
 K:=K
 mg:=mg
 base:=base
 A:=A.deeper (envOfC qual scope s.heap.objs.size f cd)
 N:=N
 s₀:=s
 H₀:=H
 env:=envOfC qual scope s.heap.objs.size f cd
 outer:=outer
 stack:=envOfC qual scope s.heap.objs.size f cd::outer
 ex:=[]
 calm:=true
 fn:=λ _=>true
 pn:=[]
 xe:=λ e s'=>wpAny (model P w) (A.deeper (envOfC qual scope s.heap.objs.size f cd)) (leaving (envOfC qual scope s.heap.objs.size f cd) e) (λ _ s''=>CX outer H s E e s'') (λ e' s''=>CX outer H s E e' s'') s'
def zH{sc:Scope}{n:Nat}{x:Str}(h:sc.names.lookup x=some .cell):∃c,(cellsFrom n sc.names []).lookup x=some c:=by have q:=W.cellsFrom_some sc.names n [] (.inl h);exact Option.isSome_iff_exists.mp q
def EB{CX:LQ}{P:Program}{w:World}{K:W.Frag}{mg:Str->Option Value}{base:Heap}{N ps:List Str}{qual:Str}{scope:Scope}{f:Addr}{cd:Value}{A:Around}{outer:List Env}{s s1:Shared}{H:Hp}{E:XK}{us:List Value}{vs:List V} (S:ji N ps scope) (hd:A.handled=none) (e0:LO P w K mg base A outer s H) (hl:vs.length=ps.length) (r:Vals vs us) (x:InCallC s s.heap.objs.size (bindL (envOfC qual scope s.heap.objs.size f cd).kindOf (ps.zip us) λ _=>none) (cellsFrom (s.heap.objs.size+1) scope.names []) (bindC (envOfC qual scope s.heap.objs.size f cd).kindOf (ps.zip us) λ _=>none) s1):
  Inv (jc CX P w K mg base N qual scope f cd A outer s H E) [] (start N vs) H s1:=by
 have hpl:ps.length<=N.length:=by have:=congrArg List.length S.pre;rw[List.length_take] at this;omega
 refine aW (λ h1 tk z1 hk=>?_) x.done;subst z1;have Ku:∀b:Addr,b∉(jc CX P w K mg base N qual scope f cd A outer s H E).ex:=λ b z=>absurd (show b∈([]:List Addr) from z) (by simp);refine ⟨⟨e0.mod,S.kind,rfl,rfl,Nat.le_refl _,λ y z c h1 h2=>?_,λ y hy=>?_,λ y c _ h=>?_,λ _=>hd,Around.frames_deeper e0.frames,.inr ⟨rfl,rfl⟩,λ b z=>absurd z (Ku b),e0.bs,e0.RP,λ b _ _=>Ku b,λ b z=>absurd z (Ku b),e0.vt,e0.Wg⟩,
  rfl,e0.bare,Un.kept hk,af _ x.toInCall.ns (λ i y v h1 h2 h3=>?_),λ y c h=>⟨_,x.cell y c h⟩,e0.hok.fresh (Nat.le_refl _),λ y c h=>?_,λ p hp=>absurd (show p∈([]:List (Addr×Obj)) from hp) (by simp),e0.hok.kept hk,?_⟩
 ·exact name_of_addr x.apart (PySem.mem_of_lookup h1) (PySem.mem_of_lookup h2)
 ·have hy:scope.names.lookup y=some .cell\/scope.names.lookup y=some .free:=hy;rcases hy with hy|hy
  ·exact zH hy
  ·exact absurd rfl (S.OG _ (PySem.mem_of_lookup hy))
 ·exact Nat.le_of_lt (x.above y c (PySem.mem_of_lookup h))
 ·have hi:i<vs.length:=by
   unfold start at h2;by_cases hi:i<vs.length
   ·exact hi
   ·rw[List.getElem?_append_right (by simpa using hi)] at h2;rw[List.getElem?_replicate] at h2;split at h2<;>cases h2
  have ha:vs[i]? =some v:=by
   unfold start at h2;rw[List.getElem?_append_left (by simpa using hi),List.getElem?_map] at h2;cases e:vs[i]? with
   |none=>rw[e] at h2;cases h2
   |some a=>rw[e] at h2;cases h2;rfl
  refine ah (λ u hu rv=>?_) (r.get ha);have hp:ps[i]? =some y:=by rw[<-S.pre,List.getElem?_take_of_lt (by omega)];exact h1
  have ZD:ps.Nodup:=by rw[<-S.pre];exact S.nd.sublist (List.take_sublist _ _)
  refine af u rv ?_;rcases S.par y (List.mem_of_getElem? hp) with k|k
  ·exact .inl ⟨k,ug ZD hp hu k⟩
  ·obtain ⟨c,e⟩:=zH (n:=s.heap.objs.size+1) k;refine .inr (⟨.inl k,af c e ?_⟩);have q:=x.cell y c e;rw[uh ZD hp hu (by show scope.names.lookup y≠_;rw[k];decide)] at q;exact q
 ·exact e0.hok.fresh (Nat.le_of_lt (x.above y c (PySem.mem_of_lookup h)))
 ·unfold start;show _=N.length;rw[List.length_append,List.length_map,List.length_replicate];omega
def My{CX:LQ}{P:Program}{w:World}{K:W.Frag}{mg:Str->Option Value}{base:Heap}{k:Nat}{f:Addr}{name qual:Str}{params:Arguments}{body:List Stmt}{scope:Scope}{dV kV doc pm cdv ct oc:Value}{an od:Option Addr} {osl:Array (Option Value)} {N ps:List Str} {sp:Sp} (lk:K.lookup f=some ⟨oc,od,.func (W.fnOf name qual params body scope dV kV doc pm an cdv ct),osl⟩) (hcd:W.codeIn K cdv qual=true) (S:ji N ps scope) (len:∀vs H Q E,sp vs H Q E->vs.length=ps.length) (hbody:∀(A:Around) (outer:List Env) (s:Shared) (H:Hp) (vs:List V) (Q:VK) (E:XK),dH k (A.deeper (envOfC qual scope s.heap.objs.size f cdv))->sp vs H Q E->∃t,zZ (jc CX P w K mg base N qual scope f cdv A outer s H E) body t/\t {nx:=λ _ H'=>Q .gY H',rt:=Q} (start N vs) H):
  QD P w K mg base CX (k+1) f (W.fnOf name qual params body scope dV kV doc pm an cdv ct) ps sp:=by
 refine ⟨len,λ A outer s H args us vs Q E hr e0 hb r E4=>?_⟩;have hl:=len _ _ _ _ E4;have KX:K.In s.heap:=e0.mod.Ru.keeps λ b o e=>(e0.bs b o e).1;have lim:s.heap.NoLimit:=e0.mod.nolimit.keeps λ b o e=>(e0.bs b o e).1;have hkind:∀y∈ps.zip us,scope.names.lookup y.1=some .local\/(scope.names.lookup y.1=some .cell/\((cellsFrom (s.heap.objs.size+1) scope.names []).lookup y.1).isSome=true):=λ⟨n,v⟩ hy=>by
  rcases S.par n (List.of_mem_zip hy).1 with q|q
  ·exact .inl q
  ·exact .inr ⟨q,W.cellsFrom_some _ _ _ (.inl q)⟩
 refine codeAny_call_function hr.depth (KX _ _ lk) rfl S.co S.gen rfl (W.codeRec_of KX hcd) (hb _ _ _ _ ?_);refine wpAny_newFunctionEnv_cells S.kind hkind λ env he s1 x=>?_;subst he;refine ⟨lim.keeps x.toInCall.keep,codeAny_func ?_⟩;refine ah (λ t ht hq=>?_) (hbody A outer s H vs Q E (hr.deeper _) E4);have I:Inv (jc CX P w K mg base N qual scope f cdv A outer s H E) [] (start N vs) H s1:=EB S hr.hd e0 hl r x;refine wpAny_mono (ht [] s1 (start N vs) H _ I hq) (λ fl s' hs=>?_) λ e s' hs=>hs;have fin:∀{σ':St} {H':Hp} {v:V} {u:Value},Inv (jc CX P w K mg base N qual scope f cdv A outer s H E) [] σ' H' s'->RelV v u->Q v H'->CE outer P w H s Q u s':=
  λ{σ' H' v u} J rv q=>⟨v,H',J.os,J.bare,J.base,J.hok,rv,q⟩
 cases fl with
 |ret u=>
  revert hs;refine eZ λ v σ' H' J rv q=>?_
  exact fin J rv q
 |next=>
  revert hs;refine aW λ σ' H' J q=>?_
  exact fin (v:=V.gY) (u:=Value.none) J rfl q
 |brk=>refine aW (λ _ _ _ q=>?_) hs;exact False.elim q
 |cont=>refine aW (λ _ _ _ q=>?_) hs;exact False.elim q
section
variable{X:Cx}{x:Str}{p pos:Pos}{e:Expr}{es:List Expr}{t:TA}{id T:String}{r:List V->Hp->VK->Prop}
def VE(r:List V->Hp->VK->Prop)(t:TA):TE:=λ σ H Q=>t σ H λ vs H1=>r vs H1 Q
def jG(hc:pI X (.builtin id) r)(hg:Gl X x)(hm:X.mg x=none)(hv:bootBuiltins x=some (.builtin id))(ha:PA X (e::es) t)(hn:x≠"__name__":=by decide)(hdb:(x==("__debug__":Str))=false:=by decide) (he:starEach (e::es) X.env=(false,eval e X.env)::starEach es X.env:=by rfl) (hpl:(backTo pos (starEach es X.env)).any (·.1)=false:=by rfl):PE X (.Call (.Name x p) (e::es) [] pos) (VE r t):=by intro pins s σ H Q I h;refine wpAny_Call_Name_kw (gP I hg hm hv ?_ hn hdb);exact PyProof.Rows.callWith_builtin1 (dm (ha pos pins s σ H _ I h) λ us s1 z_=>tY z_ λ vs H1 I1 r1 q1=>hc pins s1 σ H1 vs us Q I1 r1 q1) he hpl
def D8(hc:pI X (.type T) r)(hg:Gl X x)(hm:X.mg x=none)(hv:bootBuiltins x=some (.type T))(ha:PA X (e::es) t)(hn:x≠"__name__":=by decide)(hdb:(x==("__debug__":Str))=false:=by decide) (he:starEach (e::es) X.env=(false,eval e X.env)::starEach es X.env:=by rfl) (hpl:(backTo pos (starEach es X.env)).any (·.1)=false:=by rfl):PE X (.Call (.Name x p) (e::es) [] pos) (VE r t):=by intro pins s σ H Q I h;refine wpAny_Call_Name_kw (gP I hg hm hv ?_ hn hdb);exact PyProof.Rows.callWith_type1 (dm (ha pos pins s σ H _ I h) λ us s1 z_=>tY z_ λ vs H1 I1 r1 q1=>hc pins s1 σ H1 vs us Q I1 r1 q1) he hpl
end
end L2
namespace HT
open PySem PyProof.Rows
def lexLt:List Int->List Int->Bool
 |[],[]=>false
 |[],_::_=>true
 |_::_,[]=>false
 |x::xs,y::ys=>if x=y then lexLt xs ys else decide (x<y)
def OS(x y:Int)(xs ys:List Int):lexLt (x::xs) (y::ys)=if x=y then lexLt xs ys else decide (x<y):=rfl
def Ja:lexLt [] []=false:=rfl
def Hj(y:Int)(ys:List Int):lexLt [] (y::ys)=true:=rfl
def Hl(x:Int)(xs:List Int):lexLt (x::xs) []=false:=rfl
section
open PySem.SeqAt
open PySem.AutoSeq1 (wpAny_loadPart')
open PySem.MeetsSeq PySem.MeetsSeq2 PySem.MeetsSeq3
end
section
variable{prog:Program}{w:World}{A:Around}{E:Value->Shared->Prop}{s:Shared}
def su(n d:Nat):Option Int->Nat
 |none=>d
 |some v=>if v<0 then (v+(n:Int)).toNat else min v.toNat n
def SN(n d:Nat):su n d none=d:=rfl
end
end HT
namespace L2
open PySem PySem.Spec PyProof.Rows
abbrev TO:=St->Hp->(Option Int->Hp->Prop)->Prop
def PO(X:Cx)(e:Option Expr)(t:TO):Prop:=∀(pins:List (Addr×Obj)) (s:Shared) (σ:St) (H:Hp) (Q:Option Int->Hp->Prop),Inv X pins σ H s->t σ H Q->wpAny (model X.prog X.w) X.A (evalPart e X.env) (λ u s'=>∃o H',Inv X pins σ H' s'/\IsPart u o/\Q o H') X.xe s
def JD:TO:=λ _ H Q=>Q none H
def Sm(t:TE):TO:=λ σ H Q=>t σ H λ x H1=>∃i,x= .int i/\Q (some i) H1
section
variable{X:Cx}{e:Expr}{te:TE}{lo hi:Option Expr}{tl th:TO}{pos p2:Pos}
def J6:PO X none JD:=by intro pins s σ H Q I h;rw[evalPart_none];exact wpAny_pure (ay none H I .none h)
def J5(h:PE X e te):PO X (some e) (Sm te):=by
 intro pins s σ H Q I hw;rw[evalPart_some];refine dm (h pins s σ H _ I hw) ?_;refine λ u s1=>aq λ x H1 I1 r1 q1=>?_
 revert q1;refine ah λ i z q=>?_;subst z
 obtain ⟨t,rfl⟩:=r1;exact ay (some i) H1 I1 (.int i t) q
def Z9(X:Cx)(r:V->Option Int->Option Int->Hp->VK->Prop):Prop:=∀(pins:List (Addr×Obj)) (s:Shared) (σ:St) (H:Hp) (x:V) (v vl vu:Value) (lo hi:Option Int) (sl:Addr) (Q:VK),Inv X pins σ H s->RelV x v->s.heap.IsSliceOf sl vl vu .none->IsPart vl lo->IsPart vu hi->r x lo hi H Q->∃T id,typeLookup (.type T) "__getitem__"=pure (some (.builtin id))/\s.TypeIs v T/\wpAny (model X.prog X.w) X.A (getItem v (.ref sl)) (EP X pins σ Q) X.xe s
def tSl(r:V->Option Int->Option Int->Hp->VK->Prop)(te:TE)(tl th:TO):TE:=λ σ H Q=>te σ H λ x H1=>tl σ H1 λ l H2=>th σ H2 λ u H3=>r x l u H3 Q
def Gp{r:V->Option Int->Option Int->Hp->VK->Prop}(hr:Z9 X r)(he:PE X e te)(hl:PO X lo tl)(hu:PO X hi th):PE X (.Subscript e (.Slice lo hi none p2) pos) (tSl r te tl th):=by intro pins s σ H Q I h;refine Subscript_ (dm (he pins s σ H _ I h) ?_);refine λ v s1=>aq λ x H1 I1 r1 q1=>?_;refine wpAny_Slice (dm (hl pins s1 σ H1 _ I1 q1) ?_);refine λ vl s2=>aq λ l H2 I2 pl q2=>?_;refine dm (hu pins s2 σ H2 _ I2 q2) ?_;refine λ vu s3=>aq λ u H3 I3 pu q3=>?_;rw[evalPart_none];refine wpAny_pure ?_;have I4:Inv X pins σ H3 {s3 with heap:=s3.heap.push {cls:= .type "slice",data:= .fields #[vl,vu,.none]}}:=I3.kept (t':=s3.toks) λ b ob q=>Heap.get?_push_of_some _ q;refine aq (λ T id hT ht hg=>?_) (hr pins {s3 with heap:=s3.heap.push {cls:= .type "slice",data:= .fields #[vl,vu,.none]}} σ H3 x v vl vu l u s3.heap.objs.size Q I4 r1 (Heap.IsSliceOf.new ..) pl pu q3);show wpAny (model X.prog X.w) X.A (subscriptTail e (.Slice lo hi none p2) v (.ref s3.heap.objs.size)) (EP X pins σ Q) X.xe {s3 with heap:=s3.heap.push {cls:= .type "slice",data:= .fields #[vl,vu,.none]}};exact tail_any (ops:=[.ref s3.heap.objs.size,v]) ht hT hg (by with_unfolding_all rfl)
def Bb(xs:List V)(lo hi:Option Int):List V:=(xs.drop (HT.su xs.length 0 lo)).take (HT.su xs.length xs.length hi- HT.su xs.length 0 lo)
def zB(xs:List V)(lo hi:Option Int):(Bb xs lo hi).length<=xs.length:=by unfold Bb;rw[List.length_take,List.length_drop];omega
end
noncomputable def mY(n:Nat)(i:Int):Option Nat:=if 0<=i then (if i<n then some i.toNat else none) else if -(n:Int)<=i then some (i+n).toNat else none
def um{α:Type}(xs:List α)(i:Int):Option α:=(mY xs.length i).bind λ j=>xs[j]?
def Cu(h:mY n i=some j):seqIndex? i n=some j/\j<n/\ -(n:Int)<=i/\i<n:=by
 unfold mY at h;by_cases h0:0<=i
 ·rw[if_pos h0] at h;by_cases h1:i<n
  ·rw[if_pos h1] at h;have e:i.toNat=j:=Option.some.inj h;exact iE (by rw[seqIndex_of h0 h1,e]) (by omega) (by omega) h1
  ·rw[if_neg h1] at h;cases h
 ·rw[if_neg h0] at h;by_cases h1: -(n:Int)<=i
  ·rw[if_pos h1] at h;have e:(i+n).toNat=j:=Option.some.inj h;exact iE (by rw[seqIndex_neg (by omega) h1,e]) (by omega) h1 (by omega)
  ·rw[if_neg h1] at h;cases h
def vO{α:Type}{xs:List α}{i:Int}{v:α}(h:um xs i=some v):∃j,seqIndex? i xs.length=some j/\xs[j]? =some v/\j<xs.length/\ -(xs.length:Int)<=i/\i<xs.length:=by
 unfold um at h;cases e:mY xs.length i with
 |none=>rw[e] at h;cases h
 |some j=>rw[e] at h;refine jE (λ h1 h2 h3 h4=>?_) (Cu e);exact ⟨j,h1,h,h2,h3,h4⟩
noncomputable def nE(b:Expr):Prop:=∀o i,subscripted b false o i=operate [o,i] (getItem o i)
def LG(X:Cx)(r:R2):Prop:=∀(value slice:Expr) (pins:List (Addr×Obj)) (s:Shared) (σ:St) (H:Hp) (x y:V) (v u:Value) (Q:VK),Inv X pins σ H s->RelV x v->RelV y u->r x y H Q->subscripted slice false v u=operate [v,u] (getItem v u)->wpAny (model X.prog X.w) X.A (subscriptTail value slice v u) (EP X pins σ Q) X.xe s
def MtR(X:Cx)(id:String)(r:V->List V->Hp->VK->Prop):Prop:=∀(pins:List (Addr×Obj)) (s:Shared) (σ:St) (H:Hp) (x:V) (xs:List V) (v:Value) (us:List Value) (Q:VK),Inv X pins σ H s->RelV x v->Vals xs us->r x xs H Q->wpAny (model X.prog X.w) X.A (call (.builtin id) (v::us)) (EP X pins σ Q) X.xe s
section
variable{X:Cx}{a b:Expr}{ta tb:TE}{pos:Pos}
def LG.or{r r':R2}(h:LG X r)(h':LG X r'):LG X (λ x y H Q=>r x y H Q\/r' x y H Q):=by
 intro value slice pins s σ H x y v u Q I rx ry q hs;rcases q with q|q
 ·exact h value slice pins s σ H x y v u Q I rx ry q hs
 ·exact h' value slice pins s σ H x y v u Q I rx ry q hs
def Me{r:R2}(hr:LG X r)(ha:PE X a ta)(hb:PE X b tb)(hs:nE b):PE X (.Subscript a b pos) (VD r ta tb):=by intro pins s σ H Q I h;exact Subscript_ (U6 ha hb I h λ v u s2 x y H2 I2 rx ry q=>hr a b pins s2 σ H2 x y v u Q I2 rx ry q (hs _ _))
def Tc(K:W.Frag):R2:=λ x y H Q=>∃p xs i v,x= .ref p/\y= .int i/\fZ K H p xs/\um xs i=some v/\Q v H
def SY(K:W.Frag):R2:=λ x y H Q=>∃p xs i v,x= .ref p/\y= .int i/\sR K H p xs/\um xs i=some v/\Q v H
def S9:R2:=λ x y H Q=>∃z i c,x= .str z/\y= .int i/\z.length<=sizeLine/\um z.cps.toList i=some c/\Q (.str ⟨#[c]⟩) H
def KL:LG X (Tc X.K):=by
 intro value slice pins s σ H x y v u Q I rx ry h hs
 revert h;refine cI λ p xs i z z1 z2 hq he q=>?_;subst z1;subst z2
 cases rx;obtain ⟨t,rfl⟩:=ry;refine aH (λ its r pl hz=>?_) (I.list hq);obtain ⟨j,h1,h2,h3,h4,h5⟩:=vO he;refine ah (λ w ew rw'=>?_) (r.get h2);have hl:=r.length;have hn:=qV;have fin:EP X pins σ Q w s:=ay z H I rw' q;by_cases h0:0<=i
 ·have hj:i.toNat=j:=by rw[seqIndex_of h0 h5] at h1;exact Option.some.inj h1
  exact item_listR pl.isList h0 (by omega) (by rw[hj];simpa using ew) fin hs
 ·have hj:(i+(its.toArray.size:Int)).toNat=j:=by rw[seqIndex_neg (by omega) h4] at h1;rw[List.size_toArray, <-hl];exact Option.some.inj h1
  exact subscriptTail_builtinR (x:=w) pl.isList.typeIs slot_list_getitem.lookup
   (wpAny_getItem_list_neg (Q:=λ r s'=>r=w/\EP X pins σ Q r s') pl.isList (by omega) (by rw[List.size_toArray]<;>omega) (by omega) (by rw[hj];simpa using ew) ⟨rfl,fin⟩) hs
def O0:LG X (SY X.K):=by
 intro value slice pins s σ H x y v u Q I rx ry h hs
 revert h;refine cI λ p xs i z z1 z2 hq he q=>?_;subst z1;subst z2
 cases rx;obtain ⟨t,rfl⟩:=ry;refine aH (λ its r pl hz=>?_) (I.tuple hq);obtain ⟨j,h1,h2,h3,h4,h5⟩:=vO he;refine ah (λ w ew rw'=>?_) (r.get h2);have hl:=r.length;have hn:=qV;have fin:EP X pins σ Q w s:=ay z H I rw' q;exact subscriptTail_builtinR (x:=w) pl.typeIs slot_tuple_getitem.lookup
  (getItem_tuple (j:=j) (Q:=λ r s'=>r=w/\EP X pins σ Q r s') pl (by omega) (by omega) (by rw[List.size_toArray, <-hl];exact h1) (by simpa using ew) ⟨rfl,fin⟩) hs
def O2:LG X S9:=by
 intro value slice pins s σ H x y v u Q I rx ry h hs
 revert h;refine qE λ z i c w z1 hz he q=>?_;subst w;subst z1
 obtain ⟨t,rfl⟩:=rx;obtain ⟨t',rfl⟩:=ry;obtain ⟨j,h1,h2,h3,h4,h5⟩:=vO he;have hl:z.cps.toList.length=z.length:=by simp[Str.length]
 rw[hl] at h1 h4 h5;have hn:=qV;exact tail_any (typeIs_str s z t) slot_str_getitem.lookup (getItem_str (c:=c) (by have e1:decide (i< -(2^63:Int))=false:=decide_eq_false (by omega);have e2:decide (i>=2^63)=false:=decide_eq_false (by omega);rw[e1,e2,Bool.or_false]) (by rw[h1];simpa using h2) (ay (.str ⟨#[c]⟩) H (I.tok _) ⟨_,rfl⟩ q)) hs
def Zs(K:W.Frag):R2:=λ x y H Q=>Tc K x y H Q\/SY K x y H Q\/S9 x y H Q
def HC:LG X (Zs X.K):=KL.or (O0.or O2)
def AQ(its:List Value)(n j:Nat)(u:Value):Obj.mapSeq (·.setIfInBounds j u) {cls:= .type "list",data:= .seq its.toArray n}={cls:= .type "list",data:= .seq (its.set j u).toArray n}:=by simp[Obj.mapSeq]
theorem Inv.lst{s:Shared}(I:Inv X pins σ H s)(h:H p=some (.lst xs)):
  ∃(its:List Value) (n:Nat),Vals xs its/\s.heap.get? p=some {cls:= .type "list",data:= .seq its.toArray n}/\xs.length<=sizeLine:=by
 refine cC (λ z=>aW λ its n r e=>?_) (I.hok p _ h);exact ay its n r e z
def Inv.OR{s:Shared}{its its':List Value}{n n':Nat}(I:Inv X pins σ H s)(h:H p=some (.lst xs))(ho:s.heap.get? p=some {cls:= .type "list",data:= .seq its.toArray n})(hf:f {cls:= .type "list",data:= .seq its.toArray n}={cls:= .type "list",data:= .seq its'.toArray n'})(r:Vals ys its')(hz:ys.length<=sizeLine)(t:Nat):
  Inv X pins σ (upd H p (.lst ys)) {s with heap:=s.heap.update p f,toks:=t}:=by
 have e:(s.heap.update p f).get? p=some {cls:= .type "list",data:= .seq its'.toArray n'}:=by rw[Heap.get?_update_self f ho (by rw[hf]<;>rfl),hf]
 refine I.write (x:=p) (e:=p) (by rw[h];trivial) (.inl rfl) (λ b u hb q=>(Heap.get?_update_other _ _ (Ne.symm hb)).trans q) ⟨_,e⟩ ?_;exact ⟨hz,aQ its' n' r e⟩
def SW:V->V->V->Hp->(Hp->Prop)->Prop:=λ o i v H Q=>∃p xs k j,o= .ref p/\i= .int k/\H p=some (.lst xs)/\mY xs.length k=some j/\Q (upd H p (.lst (xs.set j v)))
def set_list:Vl X SW:=by
 intro pins s σ H o i v ov iv u Q I ro ri rv h
 revert h;refine cI λ p xs k j z y hp hj q=>?_;subst z;subst y
 cases ro;obtain ⟨t,rfl⟩:=ri;refine aq (λ its n r ho hz=>?_) (I.lst hp);refine jE (λ h1 h2 h3 h4=>?_) (Cu hj);have hl:=r.length;have hn:=qV;have I':Inv X pins σ (upd H p (.lst (xs.set j v))) {s with heap:=s.heap.update p (Obj.mapSeq (·.setIfInBounds j u))}:=
  I.OR hp ho (AQ its n j u) (r.set rv j) (by rw[List.length_set];exact hz) s.toks
 by_cases h0:0<=k
 ·have hk:k.toNat=j:=by rw[seqIndex_of h0 h4] at h1;exact Option.some.inj h1
  exact W.ki_setAt ho h0 (by omega) (by rw[List.size_toArray, <-hl];exact h4) (by rw[hk];exact af _ I' q)
 ·have hk:(k+(its.toArray.size:Int)).toNat=j:=by rw[seqIndex_neg (by omega) h3] at h1;rw[List.size_toArray, <-hl];exact Option.some.inj h1
  exact W.ki_setBack ho (by omega) (by rw[List.size_toArray, <-hl];exact h3) (by omega) (by rw[hk];exact af _ I' q)
def uK(lo hi:Option Int)(n:Nat):(sliceBounds lo hi none n).1=((HT.su n 0 lo:Nat):Int)/\(sliceBounds lo hi none n).2.1=((HT.su n n hi:Nat):Int)/\(sliceBounds lo hi none n).2.2=1:=by
 refine aV ?_ ?_ rfl
 ·cases lo with
  |none=>simp[sliceBounds,HT.su]
  |some i=>
   simp only[sliceBounds,HT.su,Option.getD_none,show (1:Int)>0 by decide,if_true];by_cases h:i<0
   ·simp only[h,if_true]<;>omega
   ·simp only[h,if_false]<;>omega
 ·cases hi with
  |none=>simp[sliceBounds,HT.su]
  |some i=>
   simp only[sliceBounds,HT.su,Option.getD_none,show (1:Int)>0 by decide,if_true];by_cases h:i<0
   ·simp only[h,if_true]<;>omega
   ·simp only[h,if_false]<;>omega
def sj(its:List Value)(lo hi:Option Int):slicePick its.toArray lo hi none=((its.drop (HT.su its.length 0 lo)).take (HT.su its.length its.length hi- HT.su its.length 0 lo)).toArray:=by refine bg (λ h1 h2 h3=>?_) (uK lo hi its.toArray.size);unfold slicePick;rw[h1,h2,h3];simp only[sliceRange_one,pick_run,List.size_toArray]<;>rfl
def Xr(K:W.Frag):V->Option Int->Option Int->Hp->VK->Prop:=λ x lo hi H Q=>∃a xs,x= .ref a/\fZ K H a xs/\∀p,H p=none->Q (.ref p) (upd H p (.lst (Bb xs lo hi)))
def JF:Z9 X (Xr X.K):=by
 intro pins s σ H x v vl vu lo hi sl Q I rx hs pl pu h
 revert h;refine aq λ a xs z hx q=>?_;subst z
 cases rx;refine aH (λ its r ht hz=>?_) (I.list hx);have hlen:=r.length;refine ay ("list") _ slot_list_getitem.lookup ht.isList.typeIs ?_;refine wpAny_getItem_list_slice ht.isList hs pl pu .none (by simp) ?_ (by rw[List.size_toArray]<;>omega);rw[sj, <-hlen];refine ay (.ref s.heap.objs.size) _ (I.laid (t':=s.toks) (o:= .lst (Bb xs lo hi)) (λ b ob q=>Heap.get?_push_of_some _ q) (Nat.le_refl _) ?_) rfl (q _ (I.hok.fresh (Nat.le_refl _)));exact ⟨Nat.le_trans (zB xs lo hi) hz,aQ _ 0 ((r.drop (HT.su xs.length 0 lo)).take (HT.su xs.length xs.length hi- HT.su xs.length 0 lo)) (Heap.get?_push_size _ rfl)⟩
def vI:pI X (.type "list") (λ xs H Q=>∃p ys,xs=[.ref p]/\(fZ X.K H p ys\/sR X.K H p ys)/\∀l,H l=none->Q (.ref l) (upd H l (.lst ys))):=by
 intro pins s σ H xs us Q I r h
 revert h;refine aq λ p ys z hq q=>?_;subst z
 refine ah (λ u z rx=>?_) (vals1 r);subst z;cases rx;have fin:∀(its:List Value),Vals ys its->ys.length<=sizeLine->∀(h':Heap) (c':Nat),(∀b o',s.heap.get? b=some o'->h'.get? b=some o')->
   h'.get? s.heap.objs.size=some {cls:= .type "list",dict:=none,data:= .seq its.toArray c',slots:= #[]}->EP X pins σ Q (.ref s.heap.objs.size) {s with heap:=h'}:=λ its r' hz h' c' kp e=>
  ay (.ref s.heap.objs.size) _ (I.laid (t':=s.toks) kp (Nat.le_refl _) (show bS X.prog X.w _ h' _ (.lst ys) from (⟨hz,aQ its c' r' e⟩))) rfl (q _ (I.hok.fresh (Nat.le_refl _)))
 rcases hq with hq|hq
 ·refine aH (λ its r' pl hz=>?_) (I.list hq);have hlen:=r'.length;refine aH (λ o ho hc z=>?_) pl.isList;obtain ⟨n,hd⟩:=z;exact call_list_seq p (.inl rfl) ho hc hd (λ h' c' kp e=>fin its r' hz h' c' kp e) (by simp only[List.size_toArray]<;>omega)
 ·refine aH (λ its r' pl hz=>?_) (I.tuple hq);have hlen:=r'.length
  revert pl;refine aH λ o ho hc z=>?_;obtain ⟨n,hd⟩:=z
  exact call_list_seq p (.inr rfl) ho hc hd (λ h' c' kp e=>fin its r' hz h' c' kp e) (by simp only[List.size_toArray]<;>omega)
def W5(K:W.Frag)(T:String)(x:V)(H:Hp):Prop:=match x with
 | .str _=>T="str"
 | .int _=>T="int"
 | .ref p=>(T="list"/\∃xs,fZ K H p xs)\/(T="tuple"/\∃o,K.lookup p=some o/\o.cls= .type "tuple"/\o.dict=none)\/(T="dict"/\((∃kvs,H p=some (.dK kvs))\/∃kvs,H p=some (.dT kvs)))\/(T="set"/\∃S n,H p=some (.set S n))
 |_=>False
def FI{s:Shared}{v:Value}(I:Inv X pins σ H s)(r:RelV x v)(ty:W5 X.K T x H):
  s.TypeIs v T/\∀a,v= .ref a->∃ob,s.heap.get? a=some ob/\ob.dict=none:=by
 cases x with
 |str z=>obtain ⟨t,rfl⟩:=r;cases (show T="str" from ty);exact ⟨typeIs_str s z t,λ _ e=>nomatch e⟩
 |int i=>obtain ⟨t,rfl⟩:=r;cases (show T="int" from ty);exact ⟨typeIs_int s i t,λ _ e=>nomatch e⟩
 |ref p=>
  cases r;rcases ty with ⟨rfl,xs,hq⟩|⟨rfl,o,hk,hc,hd⟩|⟨rfl,hk⟩|⟨rfl,S,n,hk⟩
  ·refine aH (λ its _ pl _=>?_) (I.list hq);refine ⟨pl.isList.typeIs,λ a e=>?_⟩;cases e
   revert pl;refine aL λ o n e c hd _=>?_
   exact af o e hd
  ·refine ⟨af o (I.Hz p o hk) hc,λ a e=>?_⟩;cases e;exact af o (I.Hz _ o hk) hd
  ·have z:∃o,s.heap.get? p=some o/\o.ExactDict:=by
    rcases hk with ⟨kvs,hk⟩|⟨kvs,hk⟩
    ·refine bg (λ _ _=>ah λ _ _=>eZ λ o _ _ e ex _=>?_) (I.hok p _ hk);exact af o e ex
    ·refine bg (λ _ _=>ah λ _ _=>eZ λ o _ _ e ex _=>?_) (I.hok p _ hk);exact af o e ex
   revert z;refine ah λ o e ex=>?_
   refine ⟨af o e ex.1,λ a e2=>?_⟩;cases e2;exact af o e ex.2.1
  ·obtain ⟨o,_,_,_,e,ex,_⟩:=I.hok p _ hk;refine ⟨af o e ex.1,λ a e2=>?_⟩;cases e2;exact af o e ex.2.1
 |_=>exact False.elim ty
def Xl(K:W.Frag)(T:String)(r:V->List V->Hp->VK->Prop)(to:TE):TE:=λ σ H Q=>to σ H λ x H1=>W5 K T x H1/\r x [] H1 Q
def tBM(K:W.Frag)(T:String)(r:V->List V->Hp->VK->Prop)(to:TE)(t:TA):TE:=λ σ H Q=>to σ H λ x H1=>W5 K T x H1/\t σ H1 λ xs H2=>r x xs H2 Q
variable{o e:Expr}{es:List Expr}{to:TE}{t:TA}{name:Str}{apos cpos:Pos}{T id:String}{r:V->List V->Hp->VK->Prop}
def Oe(pa:PlainAttrs T)(slot:Slot T name id)(hty:typeOf (.builtin id)=pure (.type "method_descriptor"))(hm:MtR X id r)(ho:PE X o to) (hbase:attributeBase o name X.env (eval o X.env)=eval o X.env:=by rfl) (hline:(apos.endLine==cpos.line)=true:=by rfl):PE X (.Call (.Attribute o name apos) [] [] cpos) (Xl X.K T r to):=by intro pins s σ H Q I h;refine wpAny_Call_method0_late hbase hline (dm (ho pins s σ H _ I h) ?_);refine λ v s1=>aL λ x H1 I1 r1 ty q1=>?_;obtain ⟨h1,h2⟩:=FI I1 r1 ty;exact ⟨T,id,pa,slot,hty,h1,h2,Calls.callWith_builtin rfl (PySem.evalArgs_none (hm pins s1 σ H1 x [] v [] Q I1 r1 .nil q1))⟩
def Tj(pa:PlainAttrs T)(slot:Slot T name id)(hty:typeOf (.builtin id)=pure (.type "method_descriptor"))(hm:MtR X id r)(ho:PE X o to)(ha:PA X (e::es) t) (hbase:attributeBase o name X.env (eval o X.env)=eval o X.env:=by rfl) (hfew:((backTo cpos (starEach (e::es) X.env)).all (λ x=>!x.1)&&(backToKw cpos (keywordEach [] X.env)).all (λ x=>x.1.isSome)
   &&decide ((e::es).length+([]:List Keyword).length+(if ([]:List Keyword).isEmpty then 0 else 1)<30))=true:=by rfl)
  (hline:(apos.endLine==cpos.line)=true:=by rfl) (hs:starEach (e::es) X.env=(false,eval e X.env)::starEach es X.env:=by rfl) (hplain:(backTo cpos (starEach es X.env)).any (·.1)=false:=by rfl):
  PE X (.Call (.Attribute o name apos) (e::es) [] cpos) (tBM X.K T r to t):=by
 intro pins s σ H Q I h;refine wpAny_Call_method_late hbase hfew hline rfl (dm (ho pins s σ H _ I h) ?_);refine λ v s1=>aL λ x H1 I1 r1 ty q1=>?_;obtain ⟨h1,h2⟩:=FI I1 r1 ty;refine ⟨T,id,pa,slot,hty,h1,h2,?_⟩;have hA:=ha cpos pins s1 σ H1 _ I1 q1;rw[hs] at hA ⊢;refine Calls.callWith_builtin (by show (false||(backTo cpos (starEach es X.env)).any (·.1))=false;rw[hplain]<;>rfl) (Calls.evalArgs_plain ?_);exact dm hA λ us s2 z_=>tY z_ λ vs H2 I2 r2 q2=>hm pins s2 σ H2 x vs v us Q I2 r1 r2 q2
end
def MtM(X:Cx)(id:String)(r:V->List V->Hp->VK->Prop):Prop:=∀(pins:List (Addr×Obj)) (s:Shared) (σ:St) (H:Hp) (x:V) (xs:List V) (v:Value) (us:List Value) (Q:VK),Inv X pins σ H s->RelV x v->Vals xs us->r x xs H Q->wpAny (model X.prog X.w) X.A (call (.builtin id) (v::us)) (EP X pins σ Q) X.xe s
def Vals.one:∀{x:V} {us:List Value},Vals [x] us->∃u,us=[u]/\RelV x u
 |_,_,.cons r .nil=>af _ rfl r
def Vals.zero:∀{us:List Value},Vals [] us->us=[]
 |_,.nil=>rfl
section
variable{X:Cx}{pins:List (Addr×Obj)}{σ:St}{H:Hp}{s:Shared}{l b:Addr}{xs ys zs:List V}
def Inv.T9{its its':List Value}{n:Nat}{f:Array Value->Array Value}{t':Nat}(I:Inv X pins σ H s)(hH:H l=some (.lst xs)) (e:s.heap.get? l=some {cls:= .type "list",data:= .seq its.toArray n}) (hf:f its.toArray=its'.toArray) (hv:Vals ys its') (hz:ys.length<=sizeLine):
  Inv X pins σ (upd H l (.lst ys)) {s with heap:=s.heap.update l (Obj.mapSeq f),toks:=t'}:=by
 have q:=PySem.IsL.update e f;rw[hf] at q;refine I.write (x:=l) (e:=l) (by rw[hH];exact trivial) (.inl rfl) (λ b' u hb hu=>(Heap.get?_update_other s.heap (Obj.mapSeq f) (Ne.symm hb)).trans hu) ⟨_,q⟩ ?_;exact ⟨hz,aQ its' _ hv q⟩
def Inv.Ua(I:Inv X pins σ H s)(hv:Vals ys its)(hz:ys.length<=sizeLine):
  Inv X pins σ (upd H s.heap.objs.size (.lst ys)) {s with heap:=s.heap.push {cls:= .type "list",data:= .seq its.toArray},toks:=t'}:=
 I.laid (λ _ _ q=>Heap.get?_push_of_some _ q) (Nat.le_refl _) (⟨hz,aQ its 0 hv (Heap.get?_push_size _ rfl)⟩)
theorem Inv.fresh(I:Inv X pins σ H s):H s.heap.objs.size=none:=I.hok.fresh (Nat.le_refl _)
def Inv.T7(I:Inv X pins σ H s)(hH:H l=some (.lst xs)):xs.length<=sizeLine/\∃(its:List Value) (n:Nat),Vals xs its/\xs.length=its.length/\s.heap.get? l=some {cls:= .type "list",data:= .seq its.toArray n}:=by refine cC (λ z=>aW λ its n r e=>?_) (I.hok l _ hH);exact ⟨z,ay its n r r.length e⟩
end
section
variable{X:Cx}
def JW:V->List V->Hp->VK->Prop:=λ x vs H Q=>∃l xs y,x= .ref l/\vs=[y]/\H l=some (.lst xs)/\xs.length<sizeLine/\Q .gY (upd H l (.lst (xs++[y])))
def tQ:MtM X "list.append" JW:=by
 intro pins s σ H x vs v us Q I rx rv h
 revert h;refine qE λ l xs y w z1 hH hz q=>?_;subst w;subst z1
 cases rx;refine ah (λ u w ru=>?_) rv.one;subst w;refine cC (λ z=>aq λ its n r hl e=>?_) (I.T7 hH);refine call_meets F.slot_list_append (af _ e rfl) F.entry_list_append (F.args_list_append_2 _ _) (PySem.list_append l its.toArray n u (by rw[List.size_toArray];omega)) ⟨e,?_⟩;refine ay .gY _ (I.T9 (its':=its++[u]) hH e (by simp) (r.append (.cons ru .nil)) ?_) rfl q;rw[List.length_append,List.length_singleton];omega
def NL:V->List V->Hp->VK->Prop:=λ x vs H Q=>∃l xs,x= .ref l/\vs=[]/\H l=some (.lst xs)/\Q .gY (upd H l (.lst []))
def G3:MtM X "list.clear" NL:=by
 intro pins s σ H x vs v us Q I rx rv h
 revert h;refine aL λ l xs y w hH q=>?_;subst y;subst w
 cases rx;have hus:=rv.zero;subst hus;refine cC (λ z=>aq λ its n r hl e=>?_) (I.T7 hH);refine call_meets F.slot_list_clear (af _ e rfl) F.entry_list_clear (F.args_list_clear_1 _) (AutoSeq1.list_clear_list_0 l its.toArray n (by rw[List.size_toArray];omega)) ⟨e,?_⟩;exact ay .gY _ (I.T9 (its':=[]) (ys:=[]) hH e rfl .nil (Nat.zero_le _)) rfl q
def SX:R2:=λ x y H Q=>∃l k xs,x= .ref l/\y= .int k/\H l=some (.lst xs)/\ -(2^63)<=k/\k<2^63/\xs.length*k.toNat<=sizeLine/\∀p,H p=none->Q (.ref p) (upd H p (.lst (List.replicate k.toNat xs).flatten))
end
section
variable{prog:Program}{w:World}{A:Around}{E:Value->Shared->Prop}{s:Shared}
end
section
variable{X:Cx}
end
section
variable{κ:Type} [DecidableEq κ]
noncomputable def mw(kvs:List (κ×V))(k:κ):Option V:=(kvs.find? λ kv=>decide (kv.1=k)).map (·.2)
def putK(kvs:List (κ×V))(k:κ)(v:V):List (κ×V):=if (kvs.any λ kv=>decide (kv.1=k))=true then kvs.map (λ kv=>if kv.1=k then (kv.1,v) else kv) else kvs++[(k,v)]
def Se:mw ([]:List (κ×V)) k=none:=rfl
def qm{p:κ×V}{r:List (κ×V)}{k:κ}(e:p.1=k):mw (p::r) k=some p.2:=by simp[mw,List.find?_cons,e]
def qo{p:κ×V}{r:List (κ×V)}{k:κ}(e:¬p.1=k):mw (p::r) k=mw r k:=by simp[mw,List.find?_cons,e]
def FH(k:κ):∀kvs:List (κ×V),(kvs.any λ kv=>decide (kv.1=k))=(mw kvs k).isSome:=by
 intro v_;induction v_ with
 |nil=>exact rfl
 |cons p r lV=>
  rw[List.any_cons];by_cases e:p.1=k
  ·simp only[qm e,decide_eq_true e,Bool.true_or,Option.isSome_some]
  ·rw[qo e,decide_eq_false e,Bool.false_or];exact lV
def o7(kvs:List (κ×V))(k:κ)(v:V):(putK kvs k v).length<=kvs.length+1:=by
 unfold putK;split
 ·rw[List.length_map];omega
 ·rw[List.length_append,List.length_cons,List.length_nil];omega
def rV.EA(r:rV o u):o.isSome=u.isSome:=by
 cases o with
 |none=>cases u with
  |none=>rfl
  |some _=>exact (show False from r).elim
 |some _=>cases u with
  |none=>exact (show False from r).elim
  |some _=>rfl
def KV.val(r:KV kvs vs)(k:κ):rV (mw kvs k) (valueAt vs k):=by
 unfold KV at r;induction r with
 |nil=>exact True.intro
 | @cons p q ps qs h t ih=>
  obtain ⟨h1,h2⟩:=h;by_cases e:p.1=k
  ·have e':q.1=k:=h1.symm.trans e;have b:valueAt (q::qs) k=some q.2:=by simp[valueAt,List.find?_cons,e']
   rw[qm e,b];exact h2
  ·have e':¬q.1=k:=λ z=>e (h1.trans z);have b:valueAt (q::qs) k=valueAt qs k:=by simp[valueAt,List.find?_cons,e']
   rw[qo e,b];exact ih
theorem KV.any{kvs:List (κ×V)}{vs:List (κ×Value)}(r:KV kvs vs)(k:κ):(kvs.any λ kv=>decide (kv.1=k))=vs.any λ kv=>decide (kv.1=k):=by
 unfold KV at r;induction r with
 |nil=>rfl
 |cons h t ih=>rw[List.any_cons,List.any_cons,ih,h.1]
def KV.repl(r:KV kvs vs)(k:κ){y:V}(ry:RelV y u):
  KV (kvs.map λ kv=>if kv.1=k then (kv.1,y) else kv) (vs.map λ kv=>if kv.1=k then (kv.1,u) else kv):=by
 unfold KV at r ⊢;induction r with
 |nil=>exact .nil
 | @cons p q ps qs h t ih=>
  rw[List.map_cons,List.map_cons];refine .cons ?_ ih;obtain ⟨h1,h2⟩:=h;by_cases e:p.1=k
  ·rw[if_pos e,if_pos (h1.symm.trans e)];exact ⟨h1,ry⟩
  ·rw[if_neg e,if_neg (λ z=>e (h1.trans z))];exact ⟨h1,h2⟩
def KV.put(r:KV kvs vs)(k:κ){y:V}(ry:RelV y u):KV (putK kvs k y) (stored vs k u):=by
 unfold putK stored;rw[r.any k];by_cases e:(vs.any λ kv=>decide (kv.1=k))=true
 ·rw[if_pos e,if_pos e];exact r.repl k ry
 ·rw[if_neg e,if_neg e];exact Paired.snoc r ⟨rfl,ry⟩
theorem KV.length{kvs:List (κ×V)}{vs:List (κ×Value)}(r:KV kvs vs):kvs.length=vs.length:=Paired.length r
end
def Hy(r:RelV (kV k) u):(cJ P w).is k u=true:=by
 cases k with
 |inl i=>obtain ⟨t,e⟩:=(show ∃t,u=Value.int i t from r);subst e;exact yR P w i t
 |inr x=>obtain ⟨t,e⟩:=(show ∃t,u=Value.str x t from r);subst e;exact yQ P w x t
def Ew:∀{ks:List Key} {us:List Value},Vals (ks.map kV) us->ItemsAre (cJ P w) ks us:=by
 intro v_;induction v_ with
 |nil=>
  rintro _ r
  rw[List.map_nil] at r;cases r;exact .nil
 |cons k ks lV=>
  rintro _ r
  rw[List.map_cons] at r;cases r with
  |cons h t=>exact .cons (Hy h) (lV t)
abbrev KT(H:Hp):List (List Key×V)->List (List Key×Addr×Value)->Prop:=Paired λ p q=>p.1=q.1/\H q.2.1=some (.tup (p.1.map kV))/\RelV p.2 q.2.2
def KT.val(r:KT H kvs xs)(k:List Key):rV (mw kvs k) ((atKey xs k).map (·.2)):=by
 induction r with
 |nil=>exact True.intro
 | @cons p q ps qs h t ih=>
  refine bg (λ h1 _ h2=>?_) h;by_cases e:p.1=k
  ·have e':q.1=k:=h1.symm.trans e;have b:atKey (q::qs) k=some q.2:=by simp[atKey,List.find?_cons,e']
   rw[qm e,b];exact h2
  ·have e':¬q.1=k:=λ z=>e (h1.trans z);have b:atKey (q::qs) k=atKey qs k:=by simp[atKey,List.find?_cons,e']
   rw[qo e,b];exact ih
def KT.repl(r:KT H kvs xs)(k:List Key){y:V}(ry:RelV y u):
  KT H (kvs.map λ kv=>if kv.1=k then (kv.1,y) else kv) (xs.map (putAt k u)):=by
 induction r with
 |nil=>exact .nil
 | @cons p q ps qs h t ih=>
  rw[List.map_cons,List.map_cons];refine .cons ?_ ih;refine bg (λ h1 h2 h3=>?_) h;unfold putAt;by_cases e:p.1=k
  ·rw[if_pos e,if_pos (h1.symm.trans e)];exact aV h1 h2 ry
  ·rw[if_neg e,if_neg (λ z=>e (h1.trans z))];exact aV h1 h2 h3
def KT.put(r:KT H kvs xs)(k:List Key){y:V}(hb:H b=some (.tup (k.map kV)))(ry:RelV y u):
  KT H (putK kvs k y) (storedH xs k b u):=by
 have e:(kvs.any λ kv=>decide (kv.1=k))=(atKey xs k).isSome:=by rw[FH,(r.val k).EA,Option.isSome_map]
 unfold putK storedH;rw[e];by_cases q:(atKey xs k).isSome=true
 ·rw[if_pos q,if_pos q];exact r.repl k ry
 ·rw[if_neg q,if_neg q];exact Paired.snoc r (aV rfl hb ry)
def KT.keeps(r:KT H kvs xs)(ht:∀b ys,H b=some (.tup ys)->H' b=some (.tup ys)):KT H' kvs xs:=Paired.OP r λ _ _ z=>aV z.1 (ht _ _ z.2.1) z.2.2
section
variable{P:Program}{w:World}{H:Hp}{h:Heap}{a:Addr}
def L8(ok:kC P w H h)(e:Rd H a u):bS P w H h a u:=e.ok ok
def CS(ok:kC P w H h)(e:Rd H a (.dK kvs)):kvs.length<=sizeLine/\(a==sysModules)=false/\∃vs,KV kvs vs/\h.DictOf (cJ P w) a vs:=show bS P w H h a (.dK kvs) from L8 ok e
def UM(ok:kC P w H h)(e:H a=some (.dK kvs)):kvs.length<=sizeLine/\(a==sysModules)=false/\∃vs,KV kvs vs/\h.DictOf (cJ P w) a vs:=CS ok (.inl e)
def AV(ok:kC P w H h)(e:H a=some (.tup (ks.map kV))):(tupleKind (cJ P w)).is h ks a:=by refine cC (λ _=>ah λ its r=>aH λ o h1 h2 z=>?_) (show bS P w H h a (.tup (ks.map kV)) from ok a _ e);obtain ⟨n,h3⟩:=z;exact iC o its.toArray n h1 h2 h3 (by simpa using Ew r)
def CO(ok:kC P w H h)(e:Rd H a (.dT kvs)):kvs.length<=sizeLine/\(a==sysModules)=false/\∃xs,KT H kvs xs/\h.DictOfH (tupleKind (cJ P w)) a xs:=by
 refine bg (λ z y=>ah λ xs r=>qE λ o es ep h1 h2 h3 h4 h5=>?_) (show bS P w H h a (.dT kvs) from L8 ok e);refine aV z y (af xs r ⟨o,es,ep,h1,h2,h3,h4,λ x hx=>?_,h5⟩);have all:∀{l:List (List Key×V)} {m:List (List Key×Addr×Value)},KT H l m->∀x∈m,(tupleKind (cJ P w)).is h x.1 x.2.1:=by
  intro l m q;induction q with
  |nil=>intro x hx;exact nomatch hx
  | @cons p q ps qs hq t ih=>
   intro x hx;rcases List.mem_cons.mp hx with e|hx
   ·subst e;exact AV ok (by rw[<-hq.1];exact hq.2.1)
   ·exact ih x hx
 exact all r x hx
def UL(ok:kC P w H h)(e:H a=some (.dT kvs)):kvs.length<=sizeLine/\(a==sysModules)=false/\∃xs,KT H kvs xs/\h.DictOfH (tupleKind (cJ P w)) a xs:=CO ok (.inl e)
end
def QF(H:Hp)(a:Addr)(y:V)(r:Option V):Prop:=(∃kvs k,Rd H a (.dK kvs)/\y=kV k/\r=mw kvs k)\/∃kvs k b,Rd H a (.dT kvs)/\y= .ref b/\H b=some (.tup (k.map kV))/\r=mw kvs k
def Vu(H:Hp)(a:Addr)(y v:V)(H':Hp):Prop:=(∃kvs k,H a=some (.dK kvs)/\y=kV k/\kvs.length<sizeLine/\H'=upd H a (.dK (putK kvs k v)))\/∃kvs k b,H a=some (.dT kvs)/\y= .ref b/\H b=some (.tup (k.map kV))/\kvs.length<sizeLine/\H'=upd H a (.dT (putK kvs k v))
section
variable{X:Cx}{pins:List (Addr×Obj)}{σ:St}{H:Hp}{s:Shared}{a:Addr}{y v:V}{u r:Value}{o:Option V}{A:Around}{E:Value->Shared->Prop}
def Inv.big(I:Inv X pins σ H s):sysModules<s.heap.objs.size:=by have h:mainGlobals<s.heap.objs.size:=(I.mod.glob.keeps I.bk).lt;exact Nat.lt_trans (by decide) h
def EL{Q:Value->Shared->Prop}(hu:A.units+1<cLine)(I:Inv X pins σ H s)(g:QF H a y (some v))(ry:RelV y u)(h:∀w' s',Inv X pins σ H s'->RelV v w'->Q w' s'):
  wpAny (model X.prog X.w) A (getItem (.ref a) u) Q E s:=by
 rcases g with ⟨kvs,k,e,ey,l⟩|⟨kvs,k,b,e,ey,eb,l⟩
 ·subst ey;refine bg (λ z hd=>ah λ vs rel dd=>?_) (CS I.hok e);refine ah (λ w' hw rw'=>?_) (rV.some_of (v:=v) (o:=valueAt vs k) (by rw[l];exact rel.val k));exact wpAny_getItem_of (Hy ry) dd.mapOf hw (h w' _ (I.tok _) rw')
 ·subst ey;cases (show u=Value.ref b from ry);refine bg (λ z hd=>ah λ xs rel dd=>?_) (CO I.hok e);refine ah (λ w' hw rw'=>?_) (rV.some_of (v:=v) (o:=(atKey xs k).map (·.2)) (by rw[l];exact rel.val k));refine ah (λ p hp hp2=>?_) (Option.map_eq_some_iff.mp hw);refine wpAny_getItem_heap (tupleKind_room_in1 hu) (AV I.hok eb) dd hp ?_;rw[hp2];exact h w' _ (I.tok _) rw'
def CU(I:Inv X pins σ H s)(mu:Vn (H a))(hs:Heap.SameBut a s.heap h')(he:∃q,h'.get? a=some q)(new:bS X.prog X.w (upd H a ob) h' a ob):
  Inv X pins σ (upd H a ob) {s with heap:=h',toks:=t'}:=
 I.write (x:=a) (e:=a) mu (.inl rfl) (λ b q hb z=>(hs.2 b hb).trans z) he new
def P6(z:kvs.length<=sizeLine)(hd:(a==sysModules)=false)(rel:KV kvs vs)(dd:h'.DictOf (cJ P w) a vs):
  bS P w H' h' a (.dK kvs):=aV z hd (af vs rel dd)
def EK{Q:Unit->Shared->Prop}(hu:A.units+1<cLine)(I:Inv X pins σ H s)(g:Vu H a y v H')(ry:RelV y u)(rv:RelV v r)(h:∀s',Inv X pins σ H' s'->Q () s'):
  wpAny (model X.prog X.w) A (setItem (.ref a) u r) Q E s:=by
 rcases g with ⟨kvs,k,e,ey,l,eH⟩|⟨kvs,k,b,e,ey,eb,l,eH⟩
 ·subst ey eH;refine bg (λ z hd=>ah λ vs rel dd=>?_) (UM I.hok e);have hz:vs.length<=sizeLine:=by rw[<-rel.length];exact z
  have hl:(putK kvs k v).length<=sizeLine:=by have:=o7 kvs k v;omega
  refine wpAny_setItem_pairs (hsz:=hz) (Hy ry) dd λ h' Wn hs=>h _ ?_;have he:∃q,h'.get? a=some q:=let ⟨q,_,_,hq,_⟩:=Wn;⟨q,hq⟩
  exact CU I (by rw[e];exact True.intro) hs he (P6 hl hd (rel.put k rv) Wn)
 ·subst ey eH;cases (show u=Value.ref b from ry);refine bg (λ z hd=>ah λ xs rel dd=>?_) (UL I.hok e);have hz:xs.length<=sizeLine:=by rw[<-Paired.length rel];exact z
  have hl:(putK kvs k v).length<=sizeLine:=by have:=o7 kvs k v;omega
  refine wpAny_setItem_heap (hsz:=hz) (tupleKind_room_in1 hu) (AV I.hok eb) dd λ h' Wn hs=>h _ ?_;obtain ⟨q,es,ep,hq,h2,h3,h4,_,h5⟩:=Wn;refine CU I (by rw[e];exact True.intro) hs ⟨q,hq⟩ (aV hl hd (af _ ((rel.put k eb rv).keeps λ c ys ec=>?_) (k9 q es ep hq h2 h3 h4 h5)));rw[aE (TR ec e (λ z=>nomatch z))];exact ec
end
section
variable{X:Cx}{pins:List (Addr×Obj)}{σ:St}{H:Hp}{s:Shared}{a:Addr}{kvs:List (Key×V)}{k:Key}{u:Value}{A:Around}{E:Value->Shared->Prop}
end
noncomputable def Qy(i:Expr):Prop:=∀ov iv,subscripted i false ov iv=operate [ov,iv] (getItem ov iv)
def JE{prog:Program}{w:World}{A:Around}{E:Value->Shared->Prop}{s:Shared}{env:Env}{value slice:Expr}{pos:Pos}{T id:String}{Q:Value->Shared->Prop} (hl:typeLookup (.type T) "__getitem__"=pure (some (.builtin id))) (hs:Qy slice) (h:wpAny (model prog w) A (eval value env) (λ o s₁=>wpAny (model prog w) A (eval slice env) (λ i s₂=>s₂.TypeIs o T/\wpAny (model prog w) A (getItem o i) Q E s₂) E s₁) E s):
  wpAny (model prog w) A (eval (.Subscript value slice pos) env) Q E s:=by
 refine Subscript_ (wpAny_mono h (λ o s₁ h₁=>wpAny_mono h₁ (λ i s₂ h₂=>?_) λ _ _ x=>x) λ _ _ x=>x);obtain ⟨hT,h₂⟩:=h₂;unfold subscriptTail;refine wpAny_bind ?_;rw[getitemInPython_of_ne hT.not_modules];refine wpAny_bind (wpAny_specialOf hT hl ?_);have fin:wpAny (model prog w) A (subscripted slice false o i) (λ r s₃=>wpAny (model prog w) A (letTemporaryGo value o r>>=λ _=>pure r) Q E s₃) E s₂:=by rw[hs o i];exact wpAny_operating (wpAny_mono h₂ (λ r s₃ h₃=>wpAny_bind (wpAny_letTemporaryGo (wpAny_pure h₃))) λ _ _ x=>x)
 first
  |exact wpAny_pure (wpAny_bind fin)
  |exact wpAny_bind (wpAny_pure (wpAny_bind fin))
  |exact wpAny_bind fin
def zy{s:Shared}{y:V}(I:Inv X pins σ H s)(g:QF H a y o):s.TypeIs (.ref a) "dict":=by
 rcases g with ⟨kvs,k,e,_,_⟩|⟨kvs,k,b,e,_,_,_⟩
 ·refine bg (λ _ _=>ah λ vs _ dd=>?_) (CS I.hok e);exact dd.typeIs
 ·refine bg (λ _ _=>ah λ xs _ dd=>?_) (CO I.hok e);exact dd.typeIs
def Su(td ty:TE):TE:=λ σ H Q=>td σ H λ x H1=>ty σ H1 λ y H2=>∃a v,x= .ref a/\QF H2 a y (some v)/\Q v H2
def SO(td ty tv:TE):TS:=λ D σ H=>tv σ H λ v H1=>td σ H1 λ x H2=>ty σ H2 λ y H3=>∃a H4,x= .ref a/\Vu H3 a y v H4/\D.nx σ H4
section
variable{X:Cx}{o i e value:Expr}{pos pos' tpos:Pos}{td ty tv:TE}
def Kd(hu:X.A.units+1<cLine)(ho:PE X o td)(hi:PE X i ty)(hs:Qy i):PE X (.Subscript o i pos) (Su td ty):=by intro pins s σ H Q I h;refine JE PySem.F.slot_dict_getitem.lookup hs (dm (ho pins s σ H _ I h) λ u s1 z_=>tY z_ λ x H1 I1 rx q1=>dm (hi pins s1 σ H1 _ I1 q1) ?_);refine λ iv s2=>aq λ y H2 I2 ry=>aq λ a v ex g q2=>?_;subst ex;obtain rfl:u=Value.ref a:=rx;exact ⟨zy I2 g,EL hu I2 g ry λ w' s3 I3 rw'=>ay v H2 I3 rw' q2⟩
def J4(hu:X.A.units+1<cLine)(ho:PE X o td)(hi:PE X i ty)(hv:PE X value tv)(hs:swapsWith value (some (.Subscript o i pos')) pos.line X.env=pure false):
  PS X (.Assign [.Subscript o i pos'] value pos) (SO td ty tv):=by
 intro pins s σ H D I h;refine wpAny_Assign_Subscript (dm (hv pins s σ H _ I h) λ r s1 z_=>tY z_ λ v H1 I1 rv q1=>dm (ho pins s1 σ H1 _ I1 q1) λ u s2 z_=>tY z_ λ x H2 I2 rx q2=>dm (hi pins s2 σ H2 _ I2 q2) ?_) hs;refine λ iv s3=>aq λ y H3 I3 ry=>aq λ a H4 ex g q3=>?_;subst ex;obtain rfl:u=Value.ref a:=rx;exact EK hu I3 g ry rv λ s4 I4=>aQ σ H4 I4 q3
end
def HY(h:Heap)(hb:sysModules<h.objs.size):bS P w H (h.push {cls:= .type "dict",data:= .dict #[]}) h.objs.size (.dK []):=aV (Nat.zero_le _) (beq_eq_false_iff_ne.mpr (Ne.symm (Nat.ne_of_lt hb))) (af [] .nil (Heap.DictOf.new h))
def Np:TE:=λ _ H Q=>∀p,H p=none->Q (.ref p) (upd H p (.dK []))
section
variable{X:Cx}{pos:Pos}
def Gs:PE X (.Dict [] [] pos) Np:=λ pins s σ H Q I h=>wpAny_Dict_empty (ay (.ref s.heap.objs.size) _ (I.laid (a:=s.heap.objs.size) (o:= .dK []) (t':=s.toks) (λ _ _ q=>Heap.get?_push_of_some _ q) (Nat.le_refl _) (HY s.heap I.big)) rfl (h _ (I.hok.fresh (Nat.le_refl _))))
end
structure M1(X:Cx)(o:Expr)(m:Str)(apos:Pos)(e:Expr)(cpos:Pos):Prop where
 base:attributeBase o m X.env (eval o X.env)=eval o X.env
 few:((backTo cpos (starEach [e] X.env)).all (λ x=>!x.1)&&(backToKw cpos (keywordEach [] X.env)).all (λ x=>x.1.isSome)
  &&decide (([e]:List Expr).length+([]:List Keyword).length+(if ([]:List Keyword).isEmpty then 0 else 1)<30))=true
 line:(apos.endLine==cpos.line)=true
 trees:backTo cpos (starEach [e] X.env)=[(false,eval e X.env)]
structure M2(X:Cx)(o:Expr)(m:Str)(apos:Pos)(e f:Expr)(cpos:Pos):Prop where
 base:attributeBase o m X.env (eval o X.env)=eval o X.env
 few:((backTo cpos (starEach [e,f] X.env)).all (λ x=>!x.1)&&(backToKw cpos (keywordEach [] X.env)).all (λ x=>x.1.isSome)
  &&decide (([e,f]:List Expr).length+([]:List Keyword).length+(if ([]:List Keyword).isEmpty then 0 else 1)<30))=true
 line:(apos.endLine==cpos.line)=true
 trees:backTo cpos (starEach [e,f] X.env)=[(false,eval e X.env),(false,eval f X.env)]
def IsD(H:Hp)(a:Addr):Prop:=(∃kvs,Rd H a (.dK kvs))\/∃kvs,Rd H a (.dT kvs)
def O6{s:Shared}(I:Inv X pins σ H s)(d:IsD H a):
  s.TypeIs (.ref a) "dict"/\(∀b,Value.ref a= .ref b->∃ob,s.heap.get? b=some ob/\ob.dict=none)/\(a==sysModules)=false:=by
 rcases d with ⟨kvs,e⟩|⟨kvs,e⟩
 ·refine bg (λ _ hd=>ah λ vs _ dd=>?_) (CS I.hok e);refine aV dd.typeIs (λ b q=>?_) hd;cases q
  revert dd;refine eZ λ ob _ _ h1 h2 _=>?_
  exact af ob h1 h2.2.1
 ·refine bg (λ _ hd=>ah λ xs _ dd=>?_) (CO I.hok e);refine aV dd.typeIs (λ b q=>?_) hd;cases q;refine eZ (λ ob _ _ h1 h2 _=>?_) dd;exact af ob h1 h2.2.1
section
variable{X:Cx}{pins:List (Addr×Obj)}{σ:St}{H:Hp}{s:Shared}{a:Addr}{y d:V}{u r:Value}{o:Option V}{A:Around}{E:Value->Shared->Prop}
end
section
variable{X:Cx}{o e f:Expr}{apos cpos:Pos}{td ty tx:TE}
end
section
variable{X:Cx}{pins:List (Addr×Obj)}{σ:St}{H:Hp}{s:Shared}{a:Addr}{kvs:List (Key×V)}{A:Around}{E:Value->Shared->Prop}
end
section
variable{X:Cx}{pins:List (Addr×Obj)}{σ:St}{H:Hp}{s:Shared}{a:Addr}{y:V}{u:Value}{A:Around}{E:Value->Shared->Prop}
end
end L2
namespace Att
open PySem PySem.W PySem.Calls PyProof.Rows
def pL:∀(ns:List Int) (vs:List Value),WellAll P h vs (ns.map WData.int)->IntsAre vs ns:=by
 intro ns;induction ns with
 |nil=>intro vs w;rw[List.map_nil] at w;cases w;exact .nil
 |cons n ns ih=>
  intro vs w;rw[List.map_cons] at w;cases w with
  |cons a b=>cases a;exact .cons _ _ (ih _ b)
def D0{l:OpenLaw}{n:Nat}(hn:l.most=some n){P:Params}{h:Heap}{args:List WData}{vals:List Value} (hpre:l.row.toRowW.claim.pre args=true) (hwl:WellAll P h vals args):
  ∃a vs ns,vals=[Value.ref a]/\args=[WData.list (ns.map WData.int)]/\h.get? a=some {cls:= .type "list",data:= .seq vs.toArray}/\IntsAre vs ns/\ns.length<=n:=by
 have hsh:WShape.hasAll [] args [.list .int]=true:=(pre_splitW hpre).1;have hc:l.pre.holds [] {args:=args}=true:=(pre_splitW hpre).2;refine aq (λ d r z h1 h2=>?_) (hasAllW_cons hsh);subst z;obtain rfl:=hasAllW_nil h2;refine ah (λ xs z h3=>?_) (hasW_list h1);subst z;obtain ⟨ns,rfl⟩:=items_int h3;have hlen:ns.length<=n:=by
  unfold OpenLaw.pre at hc;have h4:(WTm.not (.lt (.lit (.int (n:Int))) (.len (.arg 0)))).holds [] {args:=[.list (ns.map .int)]}=true:=by have h4:=(holds_andW hc).1;rw[hn] at h4;exact h4
  have h5:=condW_of h4 (w_not (w_lt w_lit (w_len_list (w_arg rfl))));rw[List.length_map] at h5;refine Nat.le_of_not_lt λ q=>?_;have q':(n:Int)<((ns.length:Nat):Int):=by omega
  first
   |(rw[decide_eq_true q'] at h5;exact absurd h5 (by decide))
   |(simp at h5;omega)
 cases hwl with
 |cons w1 w2=>
  cases w2;cases w1 with
  |list ho hall=>exact k9 _ _ ns rfl rfl ho (pL ns _ hall) hlen
def D4(l:OpenLaw)(args:List WData):l.row.toRowW.claim.post args (.bool true) args=true:=postW_of (r:=l.row.toRowW) (X:=(true==true))
  (show WShape.has [] (.bool true) .bool=true by first|rfl|decide|simp[WShape.has,WShape.arms,WShape.armsAll])
  (show (WTm.eq .res (.lit (.bool true))).value [] {args:=args,res:=some (.bool true),after:=args}=some (.bool (true==true)) from w_eq_bool (w_res rfl) w_lit) rfl
def zL{l:OpenLaw}{n:Nat}{q:Program}{loose:List Str}{XP:(Str->Option Value)->Heap->Prop}{YP:World->Heap->Prop}{d:DefRec} (hn:l.most=some n) (hdf:d.params.defaults=[]) (call:∀(w:World) (s₀ s₁:Shared) (mg mb:Str->Option Value) (fa:Addr) (o:Obj) (pm cd doc:Value) (a:Addr) (vs:List Value) (ns:List Int),Ground q loose [] XP w s₀ mg mb s₁.heap->YP w s₁.heap->s₁.heap.get? fa=some o->o.data= .func (docDef d.name d.params d.body d.scope pm cd doc)->s₁.heap.CodeRec cd d.name->mg d.name=some (.ref fa)->s₁.heap.get? a=some {cls:= .type "list",data:= .seq vs.toArray}->IntsAre vs ns->ns.length<=n->s₁.gens= #[]->codeAny (model l.prog w) callerA (.call (.ref fa) ⟨[.ref a],[]⟩) (λ r s'=>r= .ok (.ret (.bool true))/\OldK s₁.heap s'.heap/\s'.os=s₁.os/\AllBare s'.gens) s₁):
  WalkO q loose XP YP l.row.toRowW d [] (λ f vs=>PySem.call f vs):=by
 intro w s₀ s₁ mg mb G Y fa o pm cd doc dV kV ho hd hcd hD hmg hg args vals as hpre hlay hrd hwl hlo;obtain rfl:dV= .none:=Dflts.none hD hdf;obtain rfl:kV= .none:=Dflts.noKw hD;refine qE (λ a vs ns z y hobj hints hlen=>?_) (D0 hn hpre hwl);subst z;subst y;refine enter_call (codeAny_mono (call w s₀ s₁ mg mb fa o pm cd doc a vs ns G Y ho (fd_plain hd) hcd hmg hobj hints hlen hg) λ r s' hq=>?_)
 revert hq;refine jE λ z h2 h3 h4=>?_;subst z
 exact iE (.inl (k9 (.bool true) (.bool true) [] rfl (λ _=>rfl) (.bool true) (D4 l _) (λ _=>⟨List.Pairwise.nil,λ _ hm=>(nomatch hm)⟩))) h2 h3 h4
section
variable{prog:Program}{w:World}{A:Around}{E:Value->Shared->Prop}{s:Shared}{K:Frag}
end
end Att
namespace L2
open PySem PySem.Spec PyProof.Rows
theorem sW:∀{vs:List Value} {ns:List Int},IntsAre vs ns->Vals (ns.map V.int) vs
 |_,_,.nil=> .nil
 |_,_,.cons n t h=> .cons ⟨t,rfl⟩ (sW h)
def ig(s:Stmt):Arguments:=match s with
 | .FunctionDef _ a _ _ _ _ _ _ _ _=>a
 |_=>{posonlyargs:=[],args:=[],vararg:=none,kwonlyargs:=[],kw_defaults:=[],kwarg:=none,defaults:=[]}
def c9(s:Stmt):List Stmt:=match s with
 | .FunctionDef _ _ b _ _ _ _ _ _ _=>b
 |_=>[]
def aU(s:Stmt):Scope:=match s with
 | .FunctionDef _ _ _ _ _ _ sc _ _ _=>sc
 |_=>{kind:= .function,names:=[],isGenerator:=false,isCoroutine:=false}
structure E0(K:W.Frag)(x qual:Str)(st:Stmt)(f:Addr)(fd:FuncData):Prop where
 ex:∃(oc:Value) (od:Option Addr) (kV doc pm:Value) (an:Option Addr) (cdv ct:Value) (osl:Array (Option Value)),
  fd=W.fnOf x qual (ig st) (c9 st) (aU st) .none kV doc pm an cdv ct/\K.lookup f=some ⟨oc,od,.func fd,osl⟩/\W.codeIn K cdv qual=true
 kp:W.keepIn K (.ref f)=true
section
variable{P:Program}{w:World}{K:W.Frag}{mg:Str->Option Value}{base:Heap}
def E0.binds{x qual:Str}{st:Stmt}{f:Addr}{fd:FuncData}{ps:List Str}(F:E0 K x qual st f fd) (h:∀(kV doc pm:Value) (an:Option Addr) (cdv ct:Value) (us:List Value),us.length=ps.length->bindArgs (W.fnOf x qual (ig st) (c9 st) (aU st) .none kV doc pm an cdv ct) ⟨us,[]⟩=pure (ps.zip us)):Binds K fd ps []:=by obtain ⟨oc,od,kV,doc,pm,an,cdv,ct,osl,rfl,lk,hcd⟩:=F.ex;exact .all (h kV doc pm an cdv ct)
def HN{x qual:Str}{st:Stmt}{f:Addr}{oc:Value}{od an:Option Addr}{osl:Array (Option Value)}{kV doc pm cdv ct:Value}(l:K.lookup f=some ⟨oc,od,.func (W.fnOf x qual (ig st) (c9 st) (aU st) .none kV doc pm an cdv ct),osl⟩) (c:W.codeIn K cdv qual=true) (k:W.keepIn K (.ref f)=true):E0 K x qual st f (W.fnOf x qual (ig st) (c9 st) (aU st) .none kV doc pm an cdv ct):=⟨⟨oc,od,kV,doc,pm,an,cdv,ct,osl,rfl,l,c⟩,k⟩
end
def nQ(h:n<=1000):n<sizeLine:=Nat.lt_of_le_of_lt h (by decide)
section
variable{X:Cx}
end
def Ey{A B:Prop}(h:B):if false=true then A else B:=by rw[if_neg Bool.false_ne_true];exact h
def Ex{A B:Prop}(h:A):if true=true then A else B:=by rw[if_pos rfl];exact h
def aB(H H':Hp):Prop:=∀b o,H b=some o->H' b=some o
def aB.refl(H:Hp):aB H H:=λ _ _ h=>h
def aB.trans(a:aB H H1)(b:aB H1 H2):aB H H2:=λ c o h=>b c o (a c o h)
def aB.free{H H':Hp}(e:aB H H'){l:Addr}(h:H' l=Option.none):H l=Option.none:=by
 cases q:H l with
 |none=>rfl
 |some o=>rw[e l o q] at h;cases h
section
variable{κ:Type} [DecidableEq κ]
end
end L2
end
section
namespace L4
open PySem
def mY(n:Nat)(i:Int):Option Nat:=if 0<=i then (if i<n then some i.toNat else none) else if -(n:Int)<=i then some (i+n).toNat else none
def um{α:Type}(xs:List α)(i:Int):Option α:=(mY xs.length i).bind λ j=>xs[j]?
def su(n d:Nat):Option Int->Nat
 |none=>d
 |some v=>if v<0 then (v+(n:Int)).toNat else min v.toNat n
inductive Ks where
 |s (ks:List (Sum Int Str))|t (ks:List (List (Sum Int Str)))
def Ks.len:Ks->Nat
 | .s ks=>ks.length
 | .t ks=>ks.length
inductive D where
 |gY|bl (b:Bool)|int (i:Int)|str (x:Str)|tup (xs:List D)|lst (xs:List D)
 /-- a tuple yb is a constant of Ag module -/
 |gt (xs:List D)
 /-- an instance yb OI changes any more;an exception -/
 |obj (c:String) (ns:List Str) (xs:List D)|exc (c:String)
 /-- a list yb VH o8:for this expression (true),for this call (false) -/
 |bor (t:Bool) (xs:List D)
 /-- a dict yb OI changes;a lent one -/
 |lJ (ks:Ks) (xs:List D)|lY (t:Bool) (ks:Ks) (xs:List D)
 /-- a lent instance yb may change -/
 |rO (t:Bool) (c:String) (ns:List Str) (xs:List D)
inductive M where
 |d (x:D)|l (xs:List D)|n (ms:List M)|t (ms:List M)|k (ks:Ks) (xs:List D)
 /-- an instance yb may change -/
 |o (c:String) (ns:List Str) (xs:List D)
 /-- a dict of what it owns -/
 |q (ks:Ks) (ms:List M)
mutual
/-- lent for an expression -/
noncomputable def lend:M->D
 | .d x=>x
 | .l xs=> .bor true xs
 | .n ms=> .bor true (o8 ms)
 | .t ms=> .tup (o8 ms)
 | .k ks xs=> .lY true ks xs
 | .o c ns xs=> .rO true c ns xs
 | .q ks ms=> .lY true ks (o8 ms)
noncomputable def o8:List M->List D
 |[]=>[]
 |m::ms=>lend m::o8 ms
end
mutual
/-- changed no more -/
noncomputable def zm:M->D
 | .d x=>x
 | .l xs=> .lst xs
 | .n ms=> .lst (m6 ms)
 | .t ms=> .tup (m6 ms)
 | .k ks xs=> .lJ ks xs
 | .o _ _ _=> .gY
 | .q ks ms=> .lJ ks (m6 ms)
noncomputable def m6:List M->List D
 |[]=>[]
 |m::ms=>zm m::m6 ms
end
mutual
/-- no instance yb may change is in it -/
noncomputable def rE:M->Bool
 | .n ms=>mZ ms
 | .t ms=>mZ ms
 | .q _ ms=>mZ ms
 | .o _ _ _=>false
 |_=>true
noncomputable def mZ:List M->Bool
 |[]=>true
 |m::ms=>rE m&&mZ ms
end
mutual
/-- nothing lent for Ag expression alone is in it -/
noncomputable def nt:D->Bool
 | .tup xs=>eu xs
 | .gt xs=>eu xs
 | .lst xs=>eu xs
 | .obj _ _ xs=>eu xs
 | .lJ _ xs=>eu xs
 | .bor t xs=>!t&&eu xs
 | .lY t _ xs=>!t&&eu xs
 | .rO t _ _ xs=>!t&&eu xs
 |_=>true
noncomputable def eu:List D->Bool
 |[]=>true
 |d::ds=>nt d&&eu ds
end
mutual
/-- nothing lent is in it -/
noncomputable def nb:D->Bool
 | .tup xs=>Ei xs
 | .gt xs=>Ei xs
 | .lst xs=>Ei xs
 | .obj _ _ xs=>Ei xs
 | .lJ _ xs=>Ei xs
 | .bor _ _=>false
 | .lY _ _ _=>false
 | .rO _ _ _ _=>false
 |_=>true
noncomputable def Ei:List D->Bool
 |[]=>true
 |d::ds=>nb d&&Ei ds
end
mutual
/-- lent on to a def yb is called -/
noncomputable def dn:D->D
 | .tup xs=> .tup (lW xs)
 | .gt xs=> .gt (lW xs)
 | .lst xs=> .lst (lW xs)
 | .obj c ns xs=> .obj c ns (lW xs)
 | .lJ ks xs=> .lJ ks (lW xs)
 | .bor _ xs=> .bor false (lW xs)
 | .lY _ ks xs=> .lY false ks (lW xs)
 | .rO _ c ns xs=> .rO false c ns (lW xs)
 |d=>d
noncomputable def lW:List D->List D
 |[]=>[]
 |d::ds=>dn d::lW ds
end
mutual
def AJ:M->Bool
 | .d x=>nb x
 | .l xs=>Ei xs
 | .n ms=>Ej ms
 | .t ms=>Ej ms
 | .k _ xs=>Ei xs
 | .o _ _ xs=>Ei xs
 | .q _ ms=>Ej ms
def Ej:List M->Bool
 |[]=>true
 |m::ms=>AJ m&&Ej ms
end
mutual
def kr:M->Bool
 | .d x=>nt x
 | .l xs=>eu xs
 | .n ms=>yK ms
 | .t ms=>yK ms
 | .k _ xs=>eu xs
 | .o _ _ xs=>eu xs
 | .q _ ms=>yK ms
def yK:List M->Bool
 |[]=>true
 |m::ms=>kr m&&yK ms
end
inductive Res(α:Type) where
 |ok (a:α)|err (c:String)|bad
def Res.bnd{α β:Type}(r:Res α)(f:α->Res β):Res β:=match r with
 | .ok a=>f a
 | .err c=> .err c
 | .bad=> .bad
@[simp] theorem Res.iF(a:α)(f:α->Res β):(Res.ok a).bnd f=f a:=(rfl)
@[simp] theorem Res.vJ(c:String)(f:α->Res β):(Res.err c:Res α).bnd f= .err c:=(rfl)
@[simp] theorem Res.vK(f:α->Res β):(Res.bad:Res α).bnd f= .bad:=(rfl)
inductive Slot where
 |no|val (d:D)|own (m:M)|par (m:M)
noncomputable abbrev Sg:=List Slot
inductive Out where
 |nx (Γ:Sg)|bk (Γ:Sg)|ct (Γ:Sg)|rt (d:D)|zV (m:M)|L7 (d:D) (Γ:Sg)|yo (m:M) (Γ:Sg)|err (c:String) (Γ:Sg)|bad
def aj(i:Nat):Sg->Res D:=λ Γ=>match Γ[i]? with
 |some (.val d)=> .ok d
 |_=> .bad
def rH(i:Nat):Sg->Res D:=λ Γ=>match Γ[i]? with
 |some (.val d)=> .ok d
 |some (.own m)=> .ok (lend m)
 |some (.par m)=> .ok (lend m)
 |_=> .bad
def dC(d:D):Sg->Res D:=λ _=> .ok d
def aO(r:D->D->Res D)(f g:Sg->Res D):Sg->Res D:=λ Γ=>(f Γ).bnd λ x=>(g Γ).bnd λ y=>r x y
noncomputable def Nh:D->Res Bool
 | .bl b=> .ok b
 |_=> .bad
def dT(f:Sg->Res D):Sg->Res Bool:=λ Γ=>(f Γ).bnd Nh
def Ip(f g:Sg->Res Bool):Sg->Res Bool:=λ Γ=>(f Γ).bnd λ c=>if c=true then g Γ else .ok false
def Lo(f g:Sg->Res Bool):Sg->Res Bool:=λ Γ=>(f Γ).bnd λ c=>if c=true then .ok true else g Γ
def Bj(f:Sg->Res Bool):Sg->Res Bool:=λ Γ=>(f Γ).bnd λ c=> .ok (!c)
def Lk(f g:Sg->Res D):Sg->Res D:=λ Γ=>(f Γ).bnd λ x=>(Nh x).bnd λ c=>if c=true then g Γ else .ok (.bl false)
def P8(f:Sg->Res D):Sg->Res D:=λ Γ=>(f Γ).bnd λ x=>(Nh x).bnd λ c=> .ok (.bl (!c))
def aM:Sg->Res (List D):=λ _=> .ok []
def au(f:Sg->Res D)(r:Sg->Res (List D)):Sg->Res (List D):=λ Γ=>(f Γ).bnd λ x=>(r Γ).bnd λ xs=> .ok (x::xs)
def ni(r:Sg->Res (List D)):Sg->Res D:=λ Γ=>(r Γ).bnd λ xs=>if xs.length<=1000 then .ok (.tup xs) else .bad
def om(r:Sg->Res (List D)):Sg->Res (List D):=λ Γ=>(r Γ).bnd λ xs=>if xs.length<=1000 then .ok xs else .bad
def lX(f:Sg->Res (List D)):Sg->Res D:=λ Γ=>(f Γ).bnd λ ds=> .ok (.lst ds)
def oE{α:Type}(r:Res α)(Γ:Sg)(k:α->Out):Out:=match r with
 | .ok d=>k d
 | .err c=> .err c Γ
 | .bad=> .bad
@[simp] theorem Mi(d:α)(Γ:Sg)(k:α->Out):oE (.ok d) Γ k=k d:=(rfl)
@[simp] theorem XE(c:String)(Γ:Sg)(k:α->Out):oE (.err c) Γ k= .err c Γ:=(rfl)
def di:Sg->Out:=λ Γ=> .nx Γ
def aZ(F G:Sg->Out):Sg->Out:=λ Γ=>match F Γ with
 | .nx Γ'=>G Γ'
 |o=>o
def eE(f:Sg->Res D):Sg->Out:=λ Γ=>oE (f Γ) Γ λ d=> .rt d
def tG(f:Sg->Res M):Sg->Out:=λ Γ=>oE (f Γ) Γ λ m=>if kr m=true then .zV m else .bad
def jn(i:Nat):Sg->Out:=λ Γ=>match Γ[i]? with
 |some (.own m)=> .zV m
 |some (.val d)=> .rt d
 |_=> .bad
def qB(p:Sg->Res Bool)(F G:Sg->Out):Sg->Out:=λ Γ=>oE (p Γ) Γ λ c=>if c=true then F Γ else G Γ
def bR(i:Nat)(f:Sg->Res D):Sg->Out:=λ Γ=>oE (f Γ) Γ λ d=> .nx (Γ.set i (.val d))
def iP(i:Nat)(f:Sg->Res M):Sg->Out:=λ Γ=>oE (f Γ) Γ λ m=>if kr m=true then .nx (Γ.set i (.own m)) else .bad
def mL(f:Sg->Res (List D)):Sg->Res M:=λ Γ=>(f Γ).bnd λ ds=> .ok (.l ds)
def mD(f:Sg->Res D):Sg->Res M:=λ Γ=>(f Γ).bnd λ d=> .ok (.d d)
def vq(m:M):Res D:=if rE m=true then .ok (zm m) else .bad
def zA(f:Sg->Res M):Sg->Res D:=λ Γ=>(f Γ).bnd vq
abbrev Tg:=D->Sg->Option Sg
abbrev IQ:=List D->Sg->Option Sg
def aG(i:Nat):Tg:=λ d Γ=>some (Γ.set i (.val d))
def cW:IQ:=λ ds Γ=>match ds with
 |[]=>some Γ
 |_=>none
def aS(t:Tg)(u:IQ):IQ:=λ ds Γ=>match ds with
 |d::r=>(t d Γ).bind λ Γ'=>u r Γ'
 |[]=>none
def cL(n:Nat)(t:IQ):Tg:=λ d Γ=>match d with
 | .tup ds=>if ds.length=n then t ds Γ else none
 |_=>none
def aaM(f:Sg->Res D)(t:Tg):Sg->Out:=λ Γ=>oE (f Γ) Γ λ d=>match t d Γ with
 |some Γ'=> .nx Γ'
 |none=> .bad
def NF(i k:Nat)(r:Sg->Res (List D)):Sg->Out:=λ Γ=>oE (r Γ) Γ λ ds=>match ds with
 |[x,y]=> .nx ((Γ.set i (.val x)).set k (.val y))
 |_=> .bad
def cS(t:Tg)(B:Sg->Out):List D->Sg->Out
 |[],Γ=> .nx Γ
 |x::xs,Γ=>match t x Γ with
  |none=> .bad
  |some Γ1=>match B Γ1 with
   | .nx Γ'=>cS t B xs Γ'
   | .ct Γ'=>cS t B xs Γ'
   | .bk Γ'=> .nx Γ'
   |o=>o
def bD(p:Sg->Res Bool)(B:Sg->Out):Nat->Sg->Out
 |0,_=> .bad
 |n+1,Γ=>oE (p Γ) Γ λ c=>if c=true then (match B Γ with
   | .nx Γ'=>bD p B n Γ'
   | .ct Γ'=>bD p B n Γ'
   | .bk Γ'=> .nx Γ'
   |o=>o) else .nx Γ
def drop_one{α:Type}{xs:List α}{i:Nat}{d:α}(h:xs[i]? =some d):xs.drop i=d::xs.drop (i+1):=by obtain ⟨hi,e⟩:=List.getElem?_eq_some_iff.mp h;rw[List.drop_eq_getElem_cons hi,e]
def gU(lo:Int)(n:Nat):List D:=(List.range n).map λ(k:Nat)=>D.int (lo+k)
def ED{lo:Int}(h:i<n):(gU lo n)[i]? =some (.int (lo+i)):=by unfold gU;rw[List.getElem?_map,List.getElem?_range h];rfl
def jY{lo:Int}:(gU lo n).length=n:=by simp[gU]
def uR(ds:List D):Res (List D):=match ds with
 |[.int j]=>if -(2^62)<=j/\j<2^62 then .ok (gU 0 j.toNat) else .bad
 |_=> .bad
def JS(h:uR ds= .ok xs):∃j,ds=[.int j]/\ -(2^62)<=j/\j<2^62/\xs=gU 0 j.toNat:=by
 unfold uR at h;split at h
 ·split at h
  ·rename_i j hj;cases h;exact bW j rfl hj.1 hj.2 rfl
  ·cases h
 ·cases h
def JT(ds:List D)(c:String):uR ds≠.err c:=by
 unfold uR;split
 ·split<;>exact λ z=>nomatch z
 ·exact λ z=>nomatch z
def uQ(ds:List D):Res (List D):=match ds with
 |[.int i,.int j]=>if -(2^62)<=i/\i<2^62/\ -(2^62)<=j/\j<2^62 then .ok (gU i (j- i).toNat) else .bad
 |_=> .bad
def JQ(h:uQ ds= .ok xs):∃i j,ds=[.int i,.int j]/\(-(2^62)<=i/\i<2^62/\ -(2^62)<=j/\j<2^62)/\xs=gU i (j- i).toNat:=by
 unfold uQ at h;split at h
 ·split at h
  ·rename_i i j hj;cases h;exact ay i j rfl hj rfl
  ·cases h
 ·cases h
def JR(ds:List D)(c:String):uQ ds≠.err c:=by
 unfold uQ;split
 ·split<;>exact λ z=>nomatch z
 ·exact λ z=>nomatch z
inductive dN where
 |ok (d:D)|new (m:M)|Tv (d:D) (os:List (Nat×M))|GU (m:M) (os:List (Nat×M))|err (c:String)|bad
def nW:Nat->Sg->List (Nat×M)
 |_,[]=>[]
 |i,.par m::r=>(i,m)::nW (i+1) r
 |i,_::r=>nW (i+1) r
def jx:Out->dN
 | .nx _=> .ok .gY
 | .rt d=> .ok d
 | .zV m=> .new m
 | .L7 d Γ=> .Tv d (nW 0 Γ)
 | .yo m Γ=> .GU m (nW 0 Γ)
 | .err c _=> .err c
 |_=> .bad
def lM:dN->Res D
 | .ok d=> .ok d
 | .new m=>vq m
 | .err c=> .err c
 |_=> .bad
noncomputable def ju:dN->Res M
 | .ok d=> .ok (.d d)
 | .new m=> .ok m
 | .err c=> .err c
 |_=> .bad
def bu(n:Nat)(F:List Slot->dN)(fa:Sg->Res (List D)):Sg->Res D:=λ Γ=>(fa Γ).bnd λ ds=>if ds.length=n then lM (F (ds.map Slot.val)) else .bad
def G7(n:Nat)(F:List Slot->dN)(fa:Sg->Res (List D)):Sg->Res M:=λ Γ=>(fa Γ).bnd λ ds=>if ds.length=n then ju (F (ds.map Slot.val)) else .bad
def lK(n:Nat)(F:List Slot->dN)(fa:Sg->Res (List D)):Sg->Res D:=λ Γ=>(fa Γ).bnd λ ds=>if ds.length=n/\eu ds=true then lM (F (ds.map Slot.val)) else .bad
def lD(n:Nat)(F:List Slot->dN)(fa:Sg->Res (List D)):Sg->Res M:=λ Γ=>(fa Γ).bnd λ ds=>if ds.length=n/\eu ds=true then ju (F (ds.map Slot.val)) else .bad
def Kv:dN->dN
 | .ok d=>if nb d=true then .ok d else .bad
 | .new m=>if AJ m=true then .new m else .bad
 | .err c=> .err c
 |_=> .bad
def oq(n:Nat)(F:List Slot->dN)(fa:Sg->Res (List D)):Sg->Res D:=λ Γ=>(fa Γ).bnd λ ds=>if ds.length=n then lM (Kv (F ((lW ds).map Slot.val))) else .bad
def AR(n:Nat)(F:List Slot->dN)(fa:Sg->Res (List D)):Sg->Res M:=λ Γ=>(fa Γ).bnd λ ds=>if ds.length=n then ju (Kv (F ((lW ds).map Slot.val))) else .bad
def cT(N:List Str)(as:List Slot):Sg:=as++List.replicate (N.length- as.length) Slot.no
noncomputable def intD(C:Int->Int->Bool)(g:Int->Int->D):D->D->Res D
 | .int i,.int j=>if C i j=true then .ok (g i j) else .bad
 |_,_=> .bad
@[simp] theorem rA(C:Int->Int->Bool)(g:Int->Int->D)(i j:Int):intD C g (.int i) (.int j)=if C i j=true then .ok (g i j) else .bad:=(rfl)
noncomputable abbrev yes:Int->Int->Bool:=λ _ _=>true
def fP:D->D->Res D:=intD yes λ i j=> .int (i- j)
noncomputable def jM(i j:Int):Bool:=decide (Builtin.Int.intBits i<=64)||decide (Builtin.Int.intBits j<=64)||(decide (Builtin.Int.intBits i<=2^20)&&decide (Builtin.Int.intBits j<=2^20))
def cX:D->D->Res D:=intD jM λ i j=> .int (i*j)
noncomputable def rG(_ j:Int):Bool:=decide (j≠0)&&decide (j.natAbs.log2<9000)
def cF:D->D->Res D:=intD rG λ i j=> .int (i.fdiv j)
def dD:D->D->Res D:=intD (λ _ j=>decide (j≠0)) λ i j=> .int (i.fmod j)
noncomputable def Mb(i j:Int):Bool:=decide (0<=j)&&decide (j<=1000000)&&decide (i.natAbs<2^64)
def Gb:D->D->Res D:=intD Mb λ i j=> .int (i^j.toNat)
def ltI:D->D->Res D:=intD yes λ i j=> .bl (decide (i<j))
def Jb:D->D->Res D:=intD yes λ i j=> .bl (decide (j<i))
noncomputable def pK:D->Res D
 | .int i=> .ok (.int (-i))
 |_=> .bad
def Ib(r:D->Res D)(f:Sg->Res D):Sg->Res D:=λ Γ=>(f Γ).bnd r
def p6(r:List D->Res D)(fa:Sg->Res (List D)):Sg->Res D:=λ Γ=>(fa Γ).bnd r
noncomputable def IA:List D->Res D
 |[.int i]=> .ok (.int (if i<0 then -i else i))
 |_=> .bad
noncomputable def c8:List D->Res D
 |[.lst ds]=> .ok (.int ds.length)
 |[.tup ds]=> .ok (.int ds.length)
 |[.gt ds]=> .ok (.int ds.length)
 |[.bor _ ds]=> .ok (.int ds.length)
 |[.str x]=>if x.length<=sizeLine then .ok (.int x.length) else .bad
 |_=> .bad
mutual
noncomputable def py:D->PyData
 | .gY=> .none
 | .bl b=> .bool b
 | .int i=> .int i
 | .str x=> .str x
 | .tup ds=> .tuple (sD ds)
 | .gt ds=> .tuple (sD ds)
 | .lst ds=> .list (sD ds)
 | .bor _ ds=> .list (sD ds)
 | .obj _ _ _=> .none
 | .exc _=> .none
 | .lJ _ _=> .none
 | .lY _ _ _=> .none
 | .rO _ _ _ _=> .none
noncomputable def sD:List D->List PyData
 |[]=>[]
 |d::ds=>py d::sD ds
end
noncomputable def cM:Nat->D->Bool
 |_,.gY=>true
 |_,.bl _=>true
 |_,.int _=>true
 |_,.str x=>PyData.strOk x
 |n+1,.tup ds=>ds.all (cM n)
 |n+1,.gt ds=>ds.all (cM n)
 |n+1,.lst ds=>ds.all (cM n)
 |n+1,.bor _ ds=>ds.all (cM n)
 |_,_=>false
def HZ(x y:D):Bool:=(py x).eqv (py y)
def vE(x y:D):Res D:=if cM 12 x=true/\cM 12 y=true then .ok (.bl (HZ x y)) else .bad
def lU(x y:D):Res D:=if cM 12 x=true/\cM 12 y=true then .ok (.bl (!HZ x y)) else .bad
def vL(i j:Int):(i==j)=decide (i=j):=by
 by_cases h:i=j
 ·subst h;simp
 ·simp[h]
@[simp] theorem Wj(i j:Int):vE (.int i) (.int j)= .ok (.bl (decide (i=j))):=by simp[vE,cM,HZ,py,PyData.eqv,vL]
@[simp] theorem V3(i j:Int):lU (.int i) (.int j)= .ok (.bl (!decide (i=j))):=by simp[lU,cM,HZ,py,PyData.eqv,vL]
def bG:D->D->Res D
 | .lst ds,.int i=>match um ds i with
  |some d=> .ok d
  |none=> .bad
 | .bor _ ds,.int i=>match um ds i with
  |some d=> .ok d
  |none=> .bad
 | .tup ds,.int i=>match um ds i with
  |some d=> .ok d
  |none=> .bad
 | .gt ds,.int i=>match um ds i with
  |some d=> .ok d
  |none=> .bad
 | .str x,.int i=>if x.length<=sizeLine then (match um x.cps.toList i with
  |some c=> .ok (.str ⟨#[c]⟩)
  |none=> .bad) else .bad
 |_,_=> .bad
def eU:D->D->Res D
 | .int i,.int j=> .ok (.int (i+j))
 | .str x,.str y=>if x.length+y.length<=sizeLine then .ok (.str (x++y)) else .bad
 |_,_=> .bad
noncomputable def qe:D->Option (List D)
 | .lst xs=>some xs
 | .bor _ xs=>some xs
 |_=>none
@[simp] theorem Wz(xs:List D):qe (.lst xs)=some xs:=(rfl)
def Ii(x y:D):Res (List D):=match qe x,qe y with
 |some xs,some ys=>if xs.length+ys.length<=sizeLine then .ok (xs++ys) else .bad
 |_,_=> .bad
def Ms(r:D->D->Res (List D))(f g:Sg->Res D):Sg->Res (List D):=λ Γ=>(f Γ).bnd λ x=>(g Γ).bnd λ y=>r x y
def Ll{α:Type}(xs:List α)(lo hi:Option Int):List α:=(xs.drop (su xs.length 0 lo)).take (su xs.length xs.length hi- su xs.length 0 lo)
def Ic:Sg->Res (Option Int):=λ _=> .ok none
def dP(f:Sg->Res D):Sg->Res (Option Int):=λ Γ=>(f Γ).bnd λ d=>match d with
 | .int i=> .ok (some i)
 |_=> .bad
def Hu(f:Sg->Res D)(l u:Sg->Res (Option Int)):Sg->Res (List D):=λ Γ=>(f Γ).bnd λ d=>(l Γ).bnd λ lo=>(u Γ).bnd λ hi=>match qe d with
 |some xs=> .ok (Ll xs lo hi)
 |none=> .bad
noncomputable def gi:M->List Nat->Option M
 |m,[]=>some m
 | .n ms,k::ks=>(ms[k]?).bind λ m=>gi m ks
 | .t ms,k::ks=>(ms[k]?).bind λ m=>gi m ks
 | .q _ ms,k::ks=>(ms[k]?).bind λ m=>gi m ks
 |_,_::_=>none
noncomputable def eG:M->List Nat->M->M
 |_,[],m'=>m'
 | .n ms,k::ks,m'=> .n (match ms[k]? with
  |some m=>ms.set k (eG m ks m')
  |none=>ms)
 | .t ms,k::ks,m'=> .t (match ms[k]? with
  |some m=>ms.set k (eG m ks m')
  |none=>ms)
 | .q kq ms,k::ks,m'=> .q kq (match ms[k]? with
  |some m=>ms.set k (eG m ks m')
  |none=>ms)
 |m,_::_,_=>m
noncomputable def yX:M->Option Nat
 | .n ms=>some ms.length
 | .t ms=>some ms.length
 |_=>none
noncomputable def sZ:Slot->Option M
 | .own m=>some m
 | .par m=>some m
 |_=>none
def fR(i:Nat):Sg->Res (List Nat):=λ Γ=>match (Γ[i]?).bind sZ with
 |some _=> .ok []
 |none=> .bad
def Ro(i:Nat)(g:Sg->Res (List Nat))(f:Sg->Res D):Sg->Res (List Nat):=λ Γ=>(g Γ).bnd λ ks=>(f Γ).bnd λ d=>match d,(((Γ[i]?).bind sZ).bind λ m=>(gi m ks).bind yX) with
 | .int z,some n=>(match mY n z with
  |some k=> .ok (ks++[k])
  |none=> .bad)
 |_,_=> .bad
def An:Slot->M->Slot
 | .own _,m=> .own m
 | .par _,m=> .par m
 |s,_=>s
def oQ(i:Nat)(ks:List Nat)(f:M->Option M)(Γ:Sg):Option Sg:=(Γ[i]?).bind λ s=>(sZ s).bind λ m=>(gi m ks).bind λ m'=>(f m').map λ dZ=>Γ.set i (An s (eG m ks dZ))
def IZ:Option Sg->Out
 |some Γ=> .nx Γ
 |none=> .bad
def rR(d:D):M->Option M
 | .l xs=>if xs.length<1000000/\nt d=true then some (.l (xs++[d])) else none
 | .n ms=>if ms.length<1000000/\nt d=true then some (.n (ms++[.d d])) else none
 |_=>none
noncomputable def Qh:M->Option M
 | .l _=>some (.l [])
 | .n _=>some (.n [])
 |_=>none
def setM(z:Int)(d:D):M->Option M
 | .l xs=>if nt d=true then (mY xs.length z).map λ j=> .l (xs.set j d) else none
 | .n ms=>if nt d=true then (mY ms.length z).map λ j=> .n (ms.set j (.d d)) else none
 |_=>none
noncomputable def vm:Option M->Bool
 |some (.l _)=>true
 |some (.n _)=>true
 |_=>false
def jL(i:Nat)(ks:List Nat)(Γ:Sg):Option M:=((Γ[i]?).bind sZ).bind λ m=>gi m ks
def jW(i:Nat)(g:Sg->Res (List Nat))(f:Sg->Res D):Sg->Out:=λ Γ=>oE (g Γ) Γ λ ks=>if vm (jL i ks Γ)=true then oE (f Γ) Γ λ d=>IZ (oQ i ks (rR d) Γ) else .bad
def Al(i:Nat)(g:Sg->Res (List Nat)):Sg->Out:=λ Γ=>oE (g Γ) Γ λ ks=>IZ (oQ i ks Qh Γ)
def iB(i:Nat)(g:Sg->Res (List Nat))(fk f:Sg->Res D):Sg->Out:=λ Γ=>oE (f Γ) Γ λ d=>oE (g Γ) Γ λ ks=>oE (fk Γ) Γ λ z=>match z with
 | .int z=>IZ (oQ i ks (setM z d) Γ)
 |_=> .bad
def g5(fi:Sg->Res (List D))(t:Tg)(B:Sg->Out):Sg->Out:=λ Γ=>oE (fi Γ) Γ λ xs=>cS t B xs Γ
def jr(r:Sg->Res (List D)):Sg->Res (List D):=λ Γ=>(r Γ).bnd uR
def ze(r:Sg->Res (List D)):Sg->Res (List D):=λ Γ=>(r Γ).bnd uQ
def lN(tm:Bool):Slot->Slot
 | .val d=> .val d
 | .own m=>if tm=true then .val (lend m) else .no
 | .par m=>if tm=true then .val (lend m) else .no
 | .no=> .no
def iK(tm:Bool)(k:Nat)(caps:List Nat)(Γ:Sg):Sg:=List.replicate k .no++caps.map λ i=>lN tm ((Γ[i]?).getD .no)
def CZ{tm:Bool}{sl:Slot}(h:(iK tm k caps Γ)[i]? =some sl):sl= .no\/∃c sc,caps[i- k]? =some c/\k<=i/\Γ[c]? =some sc/\sl=lN tm sc:=by
 unfold iK at h;by_cases hi:i<k
 ·rw[List.getElem?_append_left (by simpa using hi),List.getElem?_replicate,if_pos hi] at h;cases h;exact .inl rfl
 ·rw[List.getElem?_append_right (by simpa using hi),List.length_replicate,List.getElem?_map] at h;cases q:caps[i- k]? with
  |none=>rw[q] at h;cases h
  |some c=>
   rw[q] at h;simp only[Option.map_some,Option.some.injEq] at h;subst h;cases q2:Γ[c]? with
   |none=>exact .inl rfl
   |some sl=>exact .inr (bh c sl rfl (Nat.le_of_not_lt hi) q2 rfl)
def jQ(t:Tg)(p:Sg->Res Bool)(fe:Sg->Res D)(Γ0:Sg)(x:D):Res (Option D):=match t x Γ0 with
 |none=> .bad
 |some Γ1=>match p Γ1 with
  | .ok true=>(match fe Γ1 with
   | .ok d=> .ok (some d)
   |_=> .bad)
  | .ok false=> .ok none
  |_=> .bad
def bP(e:D->Res (Option D)):List D->Res (List D)
 |[]=> .ok []
 |x::xs=>(e x).bnd λ o=>(bP e xs).bnd λ r=> .ok (match o with
  |some d=>d::r
  |none=>r)
def d8(tm:Bool)(fi:Sg->Res (List D))(k:Nat)(caps:List Nat)(t:Tg)(p:Sg->Res Bool)(fe:Sg->Res D):Sg->Res (List D):=λ Γ=>(fi Γ).bnd λ xs=>if xs.length<1000000 then bP (jQ t p fe (iK tm k caps Γ)) xs else .bad
def E6(t:Tg)(p:Sg->Res Bool)(fe:Sg->Res M)(Γ0:Sg)(x:D):Res (Option M):=match t x Γ0 with
 |none=> .bad
 |some Γ1=>match p Γ1 with
  | .ok true=>(match fe Γ1 with
   | .ok d=> .ok (some d)
   |_=> .bad)
  | .ok false=> .ok none
  |_=> .bad
def gh(e:D->Res (Option M)):List D->Res (List M)
 |[]=> .ok []
 |x::xs=>(e x).bnd λ o=>(gh e xs).bnd λ r=> .ok (match o with
  |some d=>d::r
  |none=>r)
def jo(tm:Bool)(fi:Sg->Res (List D))(k:Nat)(caps:List Nat)(t:Tg)(p:Sg->Res Bool)(fe:Sg->Res M):Sg->Res (List M):=λ Γ=>(fi Γ).bnd λ xs=>if xs.length<1000000 then gh (E6 t p fe (iK tm k caps Γ)) xs else .bad
def mN(f:Sg->Res (List M)):Sg->Res M:=λ Γ=>(f Γ).bnd λ ms=> .ok (.n ms)
def P5:E6 t p fe Γ0 x≠.err c:=by
 unfold E6;split
 ·exact λ z=>nomatch z
 ·split
  ·split<;>exact λ z=>nomatch z
  ·exact λ z=>nomatch z
  ·exact λ z=>nomatch z
def Ih{e:D->Res (Option M)}(he:∀x c,e x≠.err c):∀xs c,gh e xs≠.err c:=by
 intro v_;induction v_ with
 |nil=>
  rintro c
  exact λ z=>nomatch z
 |cons x xs lV=>
  rintro c
  simp only[gh];cases q:e x with
  |ok o=>
   cases q2:gh e xs with
   |ok r=>exact λ z=>nomatch z
   |err c'=>exact absurd q2 (lV c')
   |bad=>exact λ z=>nomatch z
  |err c'=>exact absurd q (he x c')
  |bad=>exact λ z=>nomatch z
def Bf{e:D->Res (Option M)}{r:List M}(h:gh e (x::xs)= .ok r):∃o r',e x= .ok o/\gh e xs= .ok r'/\r=(match o with|some d=>d::r'|none=>r'):=by
 simp only[gh] at h;cases q:e x with
 |ok o=>
  cases q2:gh e xs with
  |ok r'=>rw[q,q2] at h;cases h;exact ay o r' rfl rfl rfl
  |err c'=>rw[q,q2] at h;cases h
  |bad=>rw[q,q2] at h;cases h
 |err c'=>rw[q] at h;cases h
 |bad=>rw[q] at h;cases h
def Li:E6 t p (mD fe) Γ0 x=(jQ t p fe Γ0 x).bnd λ o=> .ok (o.map M.d):=by
 unfold E6 jQ mD;cases t x Γ0 with
 |none=>rfl
 |some Γ1=>
  dsimp only;cases p Γ1 with
  |ok b=>
   cases b with
   |false=>rfl
   |true=>dsimp only;cases fe Γ1<;>rfl
  |err c=>rfl
  |bad=>rfl
def zD:∀(xs:List D),gh (E6 t p (mD fe) Γ0) xs=(bP (jQ t p fe Γ0) xs).bnd λ ds=> .ok (ds.map M.d):=by
 intro v_;induction v_ with
 |nil=>exact rfl
 |cons x xs lV=>
  simp only[gh,bP,lV,Li];cases jQ t p fe Γ0 x with
  |ok o=>
   simp only[Res.iF];cases bP (jQ t p fe Γ0) xs with
   |ok r=>cases o<;>rfl
   |err c=>rfl
   |bad=>rfl
  |err c=>rfl
  |bad=>rfl
def fC:Sg->Res Bool:=λ _=> .ok true
def TN(Γ:Sg):Prop:=∀(i:Nat) (m:M),Γ[i]?≠some (.own m)/\Γ[i]?≠some (.par m)
def uL(c:String)(fa:Sg->Res (List D)):Sg->Out:=λ Γ=>oE (fa Γ) Γ λ ds=>if ds.length<=1000 then .err c Γ else .bad
def XD(i:Nat):Out->Out
 | .nx Γ=> .nx (Γ.set i .no)
 | .bk Γ=> .bk (Γ.set i .no)
 | .ct Γ=> .ct (Γ.set i .no)
 | .err _ _=> .bad
 |o=>o
def kinds(mt:List (String×List String)):D->Option (List String)
 | .gY=>some ["NoneType"]
 | .bl _=>some ["bool","int"]
 | .int _=>some ["int"]
 | .str _=>some ["str"]
 | .tup _=>some ["tuple"]
 | .gt _=>some ["tuple"]
 | .lst _=>some ["list"]
 | .bor _ _=>some ["list"]
 | .obj c _ _=>mt.lookup c
 | .exc c=>mt.lookup c
 | .lJ _ _=>some ["dict"]
 | .lY _ _ _=>some ["dict"]
 | .rO _ _ _ _=>none
def rm(mt:List (String×List String))(cs:List String)(d:D):Res D:=match kinds mt d with
 |some ks=> .ok (.bl (cs.any λ c=>ks.contains c))
 |none=> .bad
def EM(mt:List (String×List String))(cs:List String)(f:Sg->Res D):Sg->Res D:=λ Γ=>(f Γ).bnd (rm mt cs)
def bools:List D->Option (List Bool)
 |[]=>some []
 | .bl b::r=>(bools r).map (b:: ·)
 |_::_=>none
def acf:List D->Res D
 |[x]=>match qe x with
  |some ds=>(match bools ds with
   |some bs=> .ok (.bl (bs.all id))
   |none=> .bad)
  |none=> .bad
 |_=> .bad
noncomputable def eqF:D->D->Bool
 | .gY,.gY=>true
 | .bl a,.bl b=>a==b
 | .bl a,.int b=>(if a then 1 else 0)==b
 | .int a,.bl b=>a==(if b then 1 else 0)
 | .int a,.int b=>a==b
 | .str a,.str b=>a==b
 |_,_=>false
def ZO(x:D)(xs:List D):Bool:=xs.any λ y=>eqF y x
noncomputable def F3:D->Option (List D)
 | .lst xs=>some xs
 | .bor _ xs=>some xs
 | .tup xs=>some xs
 | .gt xs=>some xs
 |_=>none
noncomputable def ZG:D->D->Option Bool
 | .tup (.int i::_),.tup (.int j::_)=>if i=j then none else some (decide (i<j))
 |_,_=>none
def Nx:List D->Res (List D)
 |[x]=>match qe x with
  |some []=> .ok []
  |some [a]=> .ok [a]
  |some [a,b]=>(match ZG b a with
   |some true=> .ok [b,a]
   |some false=> .ok [a,b]
   |none=> .bad)
  |_=> .bad
 |_=> .bad
noncomputable def yS:List D->Res D
 |[.int i,.int j]=> .ok (.int (if j<i then j else i))
 |_=> .bad
def yV:List D->Res (List D)
 |[x]=>match F3 x with
  |some xs=> .ok xs
  |none=> .bad
 |_=> .bad
def OV(r:List D->Res (List D))(fa:Sg->Res (List D)):Sg->Res (List D):=λ Γ=>(fa Γ).bnd r
noncomputable def AW:D->Option (Sum Int Str)
 | .int i=>some (.inl i)
 | .str x=>some (.inr x)
 |_=>none
def Wq:D->Option (List (Sum Int Str)×List D)
 | .lJ (.s ks) xs=>some (ks,xs)
 | .lY _ (.s ks) xs=>some (ks,xs)
 |_=>none
noncomputable def zj(ks:List (Sum Int Str))(xs:List D)(k:Sum Int Str):Option D:=((ks.zip xs).find? λ kv=>decide (kv.1=k)).map (·.2)
def getD(o y:D):Res D:=match Wq o with
 |some (ks,xs)=>(match AW y with
  |some k=>(match zj ks xs k with
   |some d=> .ok d
   |none=> .bad)
  |none=> .bad)
 |none=>bG o y
noncomputable def yf(ks:List (Sum Int Str))(k:Sum Int Str):List (Sum Int Str):=if (ks.any λ n=>decide (n=k))=true then ks else ks++[k]
noncomputable def BR(ks:List (Sum Int Str))(xs:List D)(k:Sum Int Str)(d:D):List D:=if (ks.any λ n=>decide (n=k))=true then (ks.zip xs).map (λ kv=>if kv.1=k then d else kv.2) else xs++[d]
def mQ(k:Sum Int Str)(d:D):M->Option M
 | .k (.s ks) xs=>if nt d=true/\ks.length<1000000 then some (.k (.s (yf ks k)) (BR ks xs k d)) else none
 |_=>none
def F4(i:Nat)(g:Sg->Res (List Nat))(fk f:Sg->Res D):Sg->Out:=λ Γ=>oE (f Γ) Γ λ d=>oE (g Γ) Γ λ ks=>oE (fk Γ) Γ λ z=>match AW z with
 |some k=>IZ (oQ i ks (mQ k d) Γ)
 |none=> .bad
def GP(o:Out)(G:Sg->Out):Out:=match o with
 | .nx Γ'=>G Γ'
 |o=>o
def aa2(i:Nat)(h:String->Option Bool)(o:Out)(G:Sg->Out):Out:=match o with
 | .err c Γ1=>(match h c with
  |some true=>XD i (G (Γ1.set i (.val (.exc c))))
  |_=> .bad)
 |o=>o
def OE(r:Res Bool)(F G:Sg->Out)(Γ:Sg):Out:=oE r Γ λ c=>if c=true then F Γ else G Γ
def NO(r:Res Bool)(q:Sg->Res Bool)(Γ:Sg):Res Bool:=r.bnd λ c=>if c=true then q Γ else .ok false
def Zr(r:Res Bool)(q:Sg->Res Bool)(Γ:Sg):Res Bool:=r.bnd λ c=>if c=true then .ok true else q Γ
def Nc(r:Res Bool)(q:Sg->Res D)(Γ:Sg):Res D:=r.bnd λ c=>if c=true then q Γ else .ok (.bl false)
section
variable(Γ:Sg)(f g:Sg->Res D)(p q:Sg->Res Bool)(F G:Sg->Out)(fa:Sg->Res (List D))
@[simp] theorem SJ:aZ F G Γ=GP (F Γ) G:=(rfl)
@[simp] theorem VU:GP (.nx Γ) G=G Γ:=(rfl)
@[simp] theorem VT(d:D):GP (.rt d) G= .rt d:=(rfl)
@[simp] theorem TF(d:M):GP (.zV d) G= .zV d:=(rfl)
@[simp] theorem TH(c:String):GP (.err c Γ) G= .err c Γ:=(rfl)
@[simp] theorem Rk:di Γ= .nx Γ:=(rfl)
@[simp] theorem VL:qB p F G Γ=OE (p Γ) F G Γ:=(rfl)
@[simp] theorem VV:OE (.ok true) F G Γ=F Γ:=(rfl)
@[simp] theorem VW:OE (.ok false) F G Γ=G Γ:=(rfl)
@[simp] theorem VP:NO (.ok true) q Γ=q Γ:=(rfl)
@[simp] theorem VR:NO (.ok false) q Γ= .ok false:=(rfl)
@[simp] theorem Xs:Zr (.ok false) q Γ=q Γ:=(rfl)
@[simp] theorem Vz:Nc (.ok true) f Γ=f Γ:=(rfl)
@[simp] theorem SK:eE f Γ=oE (f Γ) Γ λ d=> .rt d:=(rfl)
@[simp] theorem Rj(fm:Sg->Res M):tG fm Γ=oE (fm Γ) Γ λ m=>if kr m=true then .zV m else .bad:=(rfl)
@[simp] theorem SI(i:Nat):bR i f Γ=oE (f Γ) Γ λ d=> .nx (Γ.set i (.val d)):=(rfl)
@[simp] theorem Ri(i:Nat)(fm:Sg->Res M):iP i fm Γ=oE (fm Γ) Γ λ m=>if kr m=true then .nx (Γ.set i (.own m)) else .bad:=(rfl)
@[simp] theorem XY:mL fa Γ=(fa Γ).bnd λ ds=> .ok (.l ds):=(rfl)
@[simp] theorem RL(i:Nat):rH i Γ=match Γ[i]? with
 |some (.val d)=> .ok d
 |some (.own m)=> .ok (lend m)
 |some (.par m)=> .ok (lend m)
 |_=> .bad:=(rfl)
@[simp] theorem Wc(r:List D->Res (List D)):OV r fa Γ=(fa Γ).bnd r:=(rfl)
@[simp] theorem SM(i k:Nat):NF i k fa Γ=oE (fa Γ) Γ λ ds=>match ds with
 |[x,y]=> .nx ((Γ.set i (.val x)).set k (.val y))
 |_=> .bad:=(rfl)
@[simp] theorem ND(c:String):uL c fa Γ=oE (fa Γ) Γ λ ds=>if ds.length<=1000 then .err c Γ else .bad:=(rfl)
@[simp] theorem UO(i:Nat):aj i Γ=match Γ[i]? with
 |some (.val d)=> .ok d
 |_=> .bad:=(rfl)
@[simp] theorem YK(d:D):dC d Γ= .ok d:=(rfl)
@[simp] theorem Ws(r:D->D->Res D):aO r f g Γ=(f Γ).bnd λ x=>(g Γ).bnd λ y=>r x y:=(rfl)
@[simp] theorem Wb(r:D->D->Res (List D)):Ms r f g Γ=(f Γ).bnd λ x=>(g Γ).bnd λ y=>r x y:=(rfl)
@[simp] theorem YI:dT f Γ=(f Γ).bnd Nh:=(rfl)
@[simp] theorem W6(b:Bool):Nh (.bl b)= .ok b:=(rfl)
@[simp] theorem U4:Ip p q Γ=NO (p Γ) q Γ:=(rfl)
@[simp] theorem Wx:Lo p q Γ=Zr (p Γ) q Γ:=(rfl)
@[simp] theorem U3:Bj p Γ=(p Γ).bnd λ c=> .ok (!c):=(rfl)
@[simp] theorem UY:Lk f g Γ=Nc ((f Γ).bnd Nh) g Γ:=by cases h:f Γ<;>simp only[Lk,Nc,h,Res.iF,Res.vJ,Res.vK]
@[simp] theorem UQ:P8 f Γ=(f Γ).bnd λ x=>(Nh x).bnd λ c=> .ok (.bl (!c)):=(rfl)
@[simp] theorem US:aM Γ= .ok []:=(rfl)
@[simp] theorem RM:au f fa Γ=(f Γ).bnd λ x=>(fa Γ).bnd λ xs=> .ok (x::xs):=(rfl)
@[simp] theorem UP:ni fa Γ=(fa Γ).bnd λ xs=>if xs.length<=1000 then .ok (.tup xs) else .bad:=(rfl)
@[simp] theorem UT:om fa Γ=(fa Γ).bnd λ xs=>if xs.length<=1000 then .ok xs else .bad:=(rfl)
@[simp] theorem Wu:lX fa Γ=(fa Γ).bnd λ ds=> .ok (.lst ds):=(rfl)
@[simp] theorem Wr(r:D->Res D):Ib r f Γ=(f Γ).bnd r:=(rfl)
@[simp] theorem TQ(i:Int):pK (.int i)= .ok (.int (-i)):=(rfl)
@[simp] theorem Wv(r:List D->Res D):p6 r fa Γ=(fa Γ).bnd r:=(rfl)
@[simp] theorem RN(n:Nat)(K:List Slot->dN):bu n K fa Γ=(fa Γ).bnd λ ds=>if ds.length=n then lM (K (ds.map Slot.val)) else .bad:=(rfl)
@[simp] theorem Qc(n:Nat)(K:List Slot->dN):lK n K fa Γ=(fa Γ).bnd λ ds=>if ds.length=n/\eu ds=true then lM (K (ds.map Slot.val)) else .bad:=(rfl)
@[simp] theorem Qa(n:Nat)(K:List Slot->dN):oq n K fa Γ=(fa Γ).bnd λ ds=>if ds.length=n then lM (Kv (K ((lW ds).map Slot.val))) else .bad:=(rfl)
@[simp] theorem OQ(n:Nat)(K:List Slot->dN):lD n K fa Γ=(fa Γ).bnd λ ds=>if ds.length=n/\eu ds=true then ju (K (ds.map Slot.val)) else .bad:=(rfl)
@[simp] theorem UU(mt:List (String×List String))(cs:List String):EM mt cs f Γ=(f Γ).bnd (rm mt cs):=(rfl)
@[simp] theorem UR:Ic Γ= .ok none:=(rfl)
@[simp] theorem YJ:dP f Γ=(f Γ).bnd λ d=>match d with
 | .int i=> .ok (some i)
 |_=> .bad:=(rfl)
@[simp] theorem U1:fC Γ= .ok true:=(rfl)
@[simp] theorem Nj(i:Nat)(d:D):aG i d Γ=some (Γ.set i (.val d)):=(rfl)
@[simp] theorem Rb:cW [] Γ=some Γ:=(rfl)
@[simp] theorem Nk(t:Tg)(u:IQ)(d:D)(r:List D):aS t u (d::r) Γ=(t d Γ).bind λ Γ'=>u r Γ':=(rfl)
@[simp] theorem Ra(n:Nat)(t:IQ)(ds:List D):cL n t (.tup ds) Γ=if ds.length=n then t ds Γ else none:=(rfl)
end
@[simp] theorem Ww(d:D):lM (.ok d)= .ok d:=(rfl)
@[simp] theorem UW(m:M):lM (.new m)=vq m:=(rfl)
@[simp] theorem UX(c:String):lM (.err c)= .err c:=(rfl)
@[simp] theorem TZ(m:M):ju (.new m)= .ok m:=(rfl)
@[simp] theorem ZA(xs:List D):kr (.l xs)=eu xs:=by simp[kr]
@[simp] theorem XH(i:Int):nt (.int i)=true:=by simp[nt]
@[simp] theorem XG(xs:List D):nt (.lst xs)=eu xs:=by simp[nt]
@[simp] theorem VX:eu []=true:=by simp[eu]
@[simp] theorem TL(d:D)(ds:List D):eu (d::ds)=(nt d&&eu ds):=by simp[eu]
@[simp] theorem Tz(Γ:Sg):IZ (some Γ)= .nx Γ:=(rfl)
@[simp] theorem YQ(d:D):jx (.rt d)= .ok d:=(rfl)
@[simp] theorem WB(m:M):jx (.zV m)= .new m:=(rfl)
@[simp] theorem WC(c:String)(Γ:Sg):jx (.err c Γ)= .err c:=(rfl)
@[simp] theorem SA(i j:Int):fP (.int i) (.int j)= .ok (.int (i- j)):=(rfl)
@[simp] theorem V9(i j:Int):ltI (.int i) (.int j)= .ok (.bl (decide (i<j))):=(rfl)
def mW(i j:Int)(h:jM i j=true):cX (.int i) (.int j)= .ok (.int (i*j)):=by simp[cX,h]
def tX(i j:Int)(h:rG i j=true):cF (.int i) (.int j)= .ok (.int (i.fdiv j)):=by simp[cF,h]
def bO(i j:Int)(h:j≠0):dD (.int i) (.int j)= .ok (.int (i.fmod j)):=by simp[dD,h]
@[simp] theorem TU(a b c d:Int):lU (.tup [.int a,.int b]) (.tup [.int c,.int d])= .ok (.bl (!(decide (a=c)&&decide (b=d)))):=by simp[lU,cM,HZ,py,sD,PyData.eqv,PyData.eqvAll,vL]
def bits_le(h:i.natAbs<2^n):Builtin.Int.intBits i<=n:=by
 unfold Builtin.Int.intBits;split
 ·exact Nat.zero_le _
 ·rename_i hz;have:i.natAbs≠0:=by simpa using hz
  exact Nat.succ_le_of_lt ((Nat.log2_lt this).mpr h)
def yO(h:j.natAbs<2^64):jM i j=true:=by simp[jM,bits_le h]
def AN(h:i.natAbs<2^64):jM i j=true:=by simp[jM,bits_le h]
def qS(hi:i.natAbs<2^a)(hj:j.natAbs<2^b)(ha:a<=2^20)(hb:b<=2^20):jM i j=true:=by have h1:=Nat.le_trans (bits_le hi) ha;have h2:=Nat.le_trans (bits_le hj) hb;simp only[jM,Bool.or_eq_true,Bool.and_eq_true,decide_eq_true_eq];exact .inr ⟨h1,h2⟩
def zx(h0:j≠0)(h:j.natAbs<2^9000):rG i j=true:=by
 have:j.natAbs≠0:=by simpa using h0
 simp only[rG,Bool.and_eq_true,decide_eq_true_eq];exact ⟨h0,(Nat.log2_lt this).mpr h⟩
@[simp] theorem yP(i j:Int)(h:j.natAbs<18446744073709551616):cX (.int i) (.int j)= .ok (.int (i*j)):=mW i j (yO h)
@[simp] theorem El(i j:Int)(h:i.natAbs<18446744073709551616):cX (.int i) (.int j)= .ok (.int (i*j)):=mW i j (AN h)
section
variable(f:Sg->Res D)(r:Sg->Res (List D))(t:Tg)(B:Sg->Out)(Γ:Sg)(xs:List D)
end
@[simp] theorem Uz(t:Tg)(B:Sg->Out)(Γ:Sg):cS t B [] Γ= .nx Γ:=(rfl)
def gK(n:Nat)(h:n<2^62):uR [.int n]= .ok (gU 0 n):=by unfold uR;simp only;rw[if_pos ⟨by omega,by omega⟩];simp
section
variable(Γ:Sg)(f g h:Sg->Res D)(fa:Sg->Res (List D))(t:Tg)(B:Sg->Out)
def GQ(r:Res (List D))(t:Tg)(B:Sg->Out)(Γ:Sg):Out:=oE r Γ λ xs=>cS t B xs Γ
@[simp] theorem Rm:g5 fa t B Γ=GQ (fa Γ) t B Γ:=(rfl)
@[simp] theorem TJ(xs:List D):GQ (.ok xs) t B Γ=cS t B xs Γ:=(rfl)
@[simp] theorem Rp(c:String):GQ (.err c) t B Γ= .err c Γ:=(rfl)
@[simp] theorem Ry:jr fa Γ=(fa Γ).bnd uR:=(rfl)
@[simp] theorem Rx:ze fa Γ=(fa Γ).bnd uQ:=(rfl)
@[simp] theorem L5(i:Nat)(p:Sg->Res (List Nat)):jW i p f Γ=oE (p Γ) Γ λ ks=>if vm (jL i ks Γ)=true then oE (f Γ) Γ λ d=>IZ (oQ i ks (rR d) Γ) else .bad:=(rfl)
@[simp] theorem Rt(tm:Bool)(k:Nat)(caps:List Nat)(p:Sg->Res Bool):d8 tm fa k caps t p f Γ=(fa Γ).bnd λ xs=>if xs.length<1000000 then bP (jQ t p f (iK tm k caps Γ)) xs else .bad:=(rfl)
end
noncomputable def r9(b:Int)(g:Nat):Int:=if b<0 then -(g:Int) else (g:Int)
def r6(t b:Int):Int:=t.fdiv (r9 b (Int.gcd t b))
def xN(t b:Int):Int:=b.fdiv (r9 b (Int.gcd t b))
def Lb(h:b≠0):0<Int.gcd t b:=Int.gcd_pos_of_ne_zero_right t h
def HQ(h:b≠0):r9 b (Int.gcd t b)≠0:=by have:=Lb (t:=t) h;unfold r9;split<;>omega
def vB(t b:Int):r9 b (Int.gcd t b)∣t:=by
 unfold r9;split
 ·exact Int.neg_dvd.mpr (Int.gcd_dvd_left _ _)
 ·exact Int.gcd_dvd_left _ _
def pM{a d:Int}(h:d∣a):a.fdiv d*d=a:=by rw[Int.fdiv_eq_ediv_of_dvd h];exact Int.ediv_mul_cancel h
def CG(t b:Int):r6 t b*r9 b (Int.gcd t b)=t:=pM (vB t b)
def EI(h:b≠0)(hb:b.natAbs<2^n):(r9 b (Int.gcd t b)).natAbs<2^n:=by
 have e:(r9 b (Int.gcd t b)).natAbs=Int.gcd t b:=by unfold r9;split<;>simp
 rw[e];exact Nat.lt_of_le_of_lt (Nat.le_of_dvd (by omega) (Int.natAbs_dvd_natAbs.mpr (Int.gcd_dvd_right t b))) hb
def Px(h:b≠0):(r6 t b).natAbs<=t.natAbs:=by
 by_cases ht:t=0
 ·have:=CG t b;rw[ht] at this ⊢;rcases Int.mul_eq_zero.mp this with z|z
  ·rw[z];simp
  ·exact absurd z (by have:=HQ (t:=0) h;exact this)
 ·have:r6 t b∣t:=⟨r9 b (Int.gcd t b),(CG t b).symm⟩;exact Nat.le_of_dvd (by omega) (Int.natAbs_dvd_natAbs.mpr this)
def zk(l s:Nat)(h:s≠0):Nat.gcd l s=Nat.gcd s (l%s):=by rw[Nat.gcd_comm l s,Nat.gcd_rec,Nat.gcd_comm]
def zv(l s:Nat):Int.fmod (l:Int) (s:Int)=((l%s:Nat):Int):=by rw[Int.fmod_eq_emod_of_nonneg _ (by omega)];rfl
end L4
end
section
namespace L4
open PySem PySem.Spec PyProof.Rows L2
abbrev St:=L2.St
set_option genInjectivity false in
structure Cb where
 exc:String->Option Addr
 cls:String->Option (Addr×List Str)
 /-- all classes of instances -/
 ins:String->Option Addr
 /-- tables of code objects within which a OU is made -/
 xt:Hp
set_option genInjectivity false in
structure Cf where
 cb:Cb
 L:Hp
 io:Addr->Prop
 args:List V
set_option genInjectivity false in
structure Ct where
 f:Cf
 B:Hp
 tm:Bool
def Cf.z(c:Cf):Ct:=⟨c,λ _=>none,false⟩
def Cf.at'(c:Cf)(H:Hp):Ct:=⟨c,H,true⟩
noncomputable def pH(a C:Addr):Heap->Prop:=λ h=>∃o,h.get? a=some o/\o.cls= .ref C
def QC(K:W.Frag)(H:Hp)(a:Addr)(vs:List V):Prop:=(∃o,H a=some (.jP o (.lst vs)))\/∃(o:Obj) (its:Array Value) (n:Nat),K.lookup a=some o/\o.cls= .type "list"/\o.dict=none/\o.data= .seq its n/\its.size<=sizeLine/\Vals vs its.toList
def QC.sq{K:W.Frag}{H:Hp}{a:Addr}{vs:List V}(h:QC K H a vs):fZ K H a vs:=by
 rcases h with ⟨o,h⟩|h
 ·exact .inl (.inr ⟨o,h⟩)
 ·exact .inr h
def Ct.lo(ct:Ct)(t:Bool):Hp:=if t=true then ct.B else ct.f.L
def YU(K:W.Frag)(a:Addr)(xs:List V):Prop:=∃(o:Obj) (its:Array Value) (n:Nat),K.lookup a=some o/\o.cls= .type "tuple"/\o.data= .seq its n/\its.size<=sizeLine/\Vals xs its.toList
def YU.sq{K:W.Frag}{H:Hp}{a:Addr}{xs:List V}(h:YU K a xs):sR K H a xs:= .inr h
def kE{K:W.Frag}{H:Hp}{a:Addr}{xs:List V}(h:H a=some (.tup xs)):sR K H a xs:= .inl (.inl h)
def Ks.ho:Ks->List V->HO
 | .s ks,vs=> .dK (ks.zip vs)
 | .t ks,vs=> .dT (ks.zip vs)
mutual
def Tl(K:W.Frag)(ct:Ct)(H:Hp):D->V->Prop
 | .gY,v=>v= .gY
 | .bl b,v=>v= .bl b
 | .int i,v=>v= .int i
 | .str x,v=>v= .str x
 | .tup ds,v=>∃a vs,v= .ref a/\H a=some (.tup vs)/\aN K ct H ds vs
 | .gt ds,v=>∃a vs,v= .ref a/\YU K a vs/\aN K ct H ds vs
 | .lst ds,v=>∃a vs,v= .ref a/\QC K H a vs/\aN K ct H ds vs
 | .obj c ns ds,v=>∃a C dx vs,v= .ref a/\ct.f.cb.cls c=some (C,ns)/\H a=some (.ins C dx (ns.zip vs))/\ns.length=vs.length/\aN K ct H ds vs
 | .exc c,v=>∃a C,v= .ref a/\ct.f.cb.exc c=some C/\H a=some (.ext (pH a C))
 | .bor t ds,v=>∃a vs,v= .ref a/\ct.lo t a=some (.lst vs)/\aN K ct H ds vs
 | .lJ ks ds,v=>∃a vs,v= .ref a/\(∃o,H a=some (.jP o (ks.ho vs)))/\ks.len=vs.length/\aN K ct H ds vs
 | .lY t ks ds,v=>∃a vs,v= .ref a/\ct.lo t a=some (ks.ho vs)/\ks.len=vs.length/\aN K ct H ds vs
 | .rO t c ns ds,v=>∃a C dx vs,v= .ref a/\ct.f.cb.ins c=some C/\ct.lo t a=some (.ins C dx (ns.zip vs))/\ns.length=vs.length/\aN K ct H ds vs
def aN(K:W.Frag)(ct:Ct)(H:Hp):List D->List V->Prop
 |[],vs=>vs=[]
 |d::ds,vs=>∃v r,vs=v::r/\Tl K ct H d v/\aN K ct H ds r
end
def Qu(cb:Cb):HO->Prop
 | .tup _=>True
 | .jP _ _=>True
 | .ins C _ fs=>∃c ns,cb.cls c=some (C,ns)/\fs.map (·.1)=ns
 | .ext _=>True
 |_=>False
def aX(cb:Cb)(H H':Hp):Prop:=∀b o,H b=some o->Qu cb o->H' b=some o
def aB.keep(e:aB H H'):aX cb H H':=λ b o h _=>e b o h
def aX.refl(H:Hp):aX cb H H:=λ _ _ h _=>h
def aX.trans(a:aX cb H H1)(b:aX cb H1 H2):aX cb H H2:=λ c o h s=>b c o (a c o h s) s
theorem aX.lst(h:H a=some (.lst vs)):aX cb H (upd H a o):=λ b u hb st=>by
 have:b≠a:=by rintro rfl;rw[h] at hb;cases hb;exact st
 rw[aE this];exact hb
theorem aX.dK(h:H a=some (.dK kvs)):aX cb H (upd H a o):=λ b u hb st=>by
 have:b≠a:=by rintro rfl;rw[h] at hb;cases hb;exact st
 rw[aE this];exact hb
def Ks.mU{cb:Cb}{ks:Ks}{vs:List V}:¬Qu cb (ks.ho vs):=by cases ks<;>exact λ q=>q
def aX.VG{cb:Cb}{K:W.Frag}{H H':Hp}{a:Addr}{xs:List V}(e:aX cb H H')(h:sR K H a xs):sR K H' a xs:=by
 rcases h with (h|⟨o,h⟩)|h
 ·exact .inl (.inl (e _ _ h trivial))
 ·exact .inl (.inr ⟨o,e _ _ h trivial⟩)
 ·exact .inr h
def aX.HM{cb:Cb}{K:W.Frag}{H H':Hp}{a:Addr}{xs:List V}(e:aX cb H H')(h:QC K H a xs):QC K H' a xs:=by
 rcases h with ⟨o,h⟩|h
 ·exact .inl ⟨o,e _ _ h trivial⟩
 ·exact .inr h
theorem xQ:∀{ns:List α} {vs:List β},ns.length=vs.length->(ns.zip vs).map (·.1)=ns
 |[],_,_=>by simp
 |n::ns,[],h=>by simp at h
 |n::ns,v::vs,h=>by simp only[List.zip_cons_cons,List.map_cons,List.cons.injEq,true_and];exact xQ (by simpa using h)
mutual
theorem Tl.keep{K:W.Frag}{ct:Ct}{H H':Hp}(e:aX ct.f.cb H H'):∀{d:D} {v:V},Tl K ct H d v->Tl K ct H' d v
 | .gY,_,h=>by simpa[Tl] using h
 | .bl b,_,h=>by simpa[Tl] using h
 | .int i,_,h=>by simpa[Tl] using h
 | .str x,_,h=>by simpa[Tl] using h
 | .tup ds,v,h=>by simp only[Tl] at h ⊢;refine aq (λ a vs h1 h2 h3=>?_) h;exact ay a vs h1 (e _ _ h2 trivial) (aN.keep e h3)
 | .gt ds,v,h=>by simp only[Tl] at h ⊢;refine aq (λ a vs h1 h2 h3=>?_) h;exact ay a vs h1 h2 (aN.keep e h3)
 | .lst ds,v,h=>by simp only[Tl] at h ⊢;refine aq (λ a vs h1 h2 h3=>?_) h;exact ay a vs h1 (e.HM h2) (aN.keep e h3)
 | .obj c ns ds,v,h=>by simp only[Tl] at h ⊢;refine cI (λ a C dx vs h1 h2 h3 h4 h5=>?_) h;exact bV a C dx vs h1 h2 (e _ _ h3 (aQ c ns h2 (xQ h4))) h4 (aN.keep e h5)
 | .exc c,v,h=>by simp only[Tl] at h ⊢;refine aq (λ a C h1 h2 h3=>?_) h;exact ay a C h1 h2 (e _ _ h3 trivial)
 | .bor t ds,v,h=>by simp only[Tl] at h ⊢;refine aq (λ a vs h1 h2 h3=>?_) h;exact ay a vs h1 h2 (aN.keep e h3)
 | .lJ ks ds,v,h=>by
  simp only[Tl] at h ⊢
  revert h;refine aL λ a vs h1 z h3 h4=>?_;obtain ⟨o,h2⟩:=z
  exact bh a vs h1 ⟨o,e _ _ h2 trivial⟩ h3 (aN.keep e h4)
 | .lY t ks ds,v,h=>by simp only[Tl] at h ⊢;refine aL (λ a vs h1 h2 h3 h4=>?_) h;exact bh a vs h1 h2 h3 (aN.keep e h4)
 | .rO t c ns ds,v,h=>by simp only[Tl] at h ⊢;refine cI (λ a C dx vs h1 h2 h3 h4 h5=>?_) h;exact bV a C dx vs h1 h2 h3 h4 (aN.keep e h5)
theorem aN.keep{K:W.Frag}{ct:Ct}{H H':Hp}(e:aX ct.f.cb H H'):∀{ds:List D} {vs:List V},aN K ct H ds vs->aN K ct H' ds vs
 |[],_,h=>by simpa[aN] using h
 |d::ds,_,h=>by simp only[aN] at h ⊢;refine aq (λ v r h1 h2 h3=>?_) h;exact ay v r h1 (Tl.keep e h2) (aN.keep e h3)
end
structure IU(ct dj:Ct)(p:Bool->Bool)(g:Bool->Bool):Prop where
 cb:dj.f.cb=ct.f.cb
 at':∀t a o,p t=true->ct.lo t a=some o->dj.lo (g t) a=some o
mutual
noncomputable def sC(g:Bool->Bool):D->D
 | .tup xs=> .tup (ko g xs)
 | .gt xs=> .gt (ko g xs)
 | .lst xs=> .lst (ko g xs)
 | .obj c ns xs=> .obj c ns (ko g xs)
 | .lJ ks xs=> .lJ ks (ko g xs)
 | .bor t xs=> .bor (g t) (ko g xs)
 | .lY t ks xs=> .lY (g t) ks (ko g xs)
 | .rO t c ns xs=> .rO (g t) c ns (ko g xs)
 | .gY=> .gY
 | .bl b=> .bl b
 | .int i=> .int i
 | .str x=> .str x
 | .exc c=> .exc c
noncomputable def ko(g:Bool->Bool):List D->List D
 |[]=>[]
 |d::ds=>sC g d::ko g ds
end
mutual
noncomputable def tO(p:Bool->Bool):D->Bool
 | .tup xs=>jK p xs
 | .gt xs=>jK p xs
 | .lst xs=>jK p xs
 | .obj _ _ xs=>jK p xs
 | .lJ _ xs=>jK p xs
 | .bor t xs=>p t&&jK p xs
 | .lY t _ xs=>p t&&jK p xs
 | .rO t _ _ xs=>p t&&jK p xs
 |_=>true
noncomputable def jK(p:Bool->Bool):List D->Bool
 |[]=>true
 |d::ds=>tO p d&&jK p ds
end
mutual
theorem Tl.re{K:W.Frag}{ct dj:Ct}{H:Hp}{p g:Bool->Bool}(r:IU ct dj p g):∀{d:D} {v:V},tO p d=true->Tl K ct H d v->Tl K dj H (sC g d) v
 | .gY,_,_,h=>by simpa[Tl,sC] using h
 | .bl b,_,_,h=>by simpa[Tl,sC] using h
 | .int i,_,_,h=>by simpa[Tl,sC] using h
 | .str x,_,_,h=>by simpa[Tl,sC] using h
 | .exc c,v,_,h=>by simp only[Tl,sC] at h ⊢;rw[r.cb];exact h
 | .tup ds,v,q,h=>by simp only[Tl,sC,tO] at h q ⊢;refine aq (λ a vs h1 h2 h3=>?_) h;exact ay a vs h1 h2 (aN.re r q h3)
 | .gt ds,v,q,h=>by simp only[Tl,sC,tO] at h q ⊢;refine aq (λ a vs h1 h2 h3=>?_) h;exact ay a vs h1 h2 (aN.re r q h3)
 | .lst ds,v,q,h=>by simp only[Tl,sC,tO] at h q ⊢;refine aq (λ a vs h1 h2 h3=>?_) h;exact ay a vs h1 h2 (aN.re r q h3)
 | .obj c ns ds,v,q,h=>by simp only[Tl,sC,tO] at h q ⊢;refine cI (λ a C dx vs h1 h2 h3 h4 h5=>?_) h;exact bV a C dx vs h1 (by rw[r.cb];exact h2) h3 h4 (aN.re r q h5)
 | .bor t ds,v,q,h=>by simp only[Tl,sC,tO,Bool.and_eq_true] at h q ⊢;refine aq (λ a vs h1 h2 h3=>?_) h;exact ay a vs h1 (r.at' t a _ q.1 h2) (aN.re r q.2 h3)
 | .lJ ks ds,v,q,h=>by simp only[Tl,sC,tO] at h q ⊢;refine aL (λ a vs h1 h2 h3 h4=>?_) h;exact bh a vs h1 h2 h3 (aN.re r q h4)
 | .lY t ks ds,v,q,h=>by simp only[Tl,sC,tO,Bool.and_eq_true] at h q ⊢;refine aL (λ a vs h1 h2 h3 h4=>?_) h;exact bh a vs h1 (r.at' t a _ q.1 h2) h3 (aN.re r q.2 h4)
 | .rO t c ns ds,v,q,h=>by simp only[Tl,sC,tO,Bool.and_eq_true] at h q ⊢;refine cI (λ a C dx vs h1 h2 h3 h4 h5=>?_) h;exact bV a C dx vs h1 (by rw[r.cb];exact h2) (r.at' t a _ q.1 h3) h4 (aN.re r q.2 h5)
theorem aN.re{K:W.Frag}{ct dj:Ct}{H:Hp}{p g:Bool->Bool}(r:IU ct dj p g):∀{ds:List D} {vs:List V},jK p ds=true->aN K ct H ds vs->aN K dj H (ko g ds) vs
 |[],_,_,h=>by simpa[aN,ko] using h
 |d::ds,_,q,h=>by simp only[aN,ko,jK,Bool.and_eq_true] at h q ⊢;refine aq (λ v w h1 h2 h3=>?_) h;exact ay v w h1 (Tl.re r q.1 h2) (aN.re r q.2 h3)
end
mutual
theorem qC:∀(d:D),sC id d=d
 | .gY| .bl _| .int _| .str _| .exc _=>by simp[sC]
 | .tup ds| .gt ds| .lst ds| .obj _ _ ds| .lJ _ ds| .bor _ ds| .lY _ _ ds| .rO _ _ _ ds=>by simp[sC,jX ds]
theorem jX:∀(ds:List D),ko id ds=ds
 |[]=>rfl
 |d::ds=>by simp[ko,qC d,jX ds]
end
mutual
theorem NJ:∀(d:D),sC (λ _=>false) d=dn d
 | .gY| .bl _| .int _| .str _| .exc _=>by simp[sC,dn]
 | .tup ds| .gt ds| .lst ds| .obj _ _ ds| .lJ _ ds| .bor _ ds| .lY _ _ ds| .rO _ _ _ ds=>by simp[sC,dn,uS ds]
theorem uS:∀(ds:List D),ko (λ _=>false) ds=lW ds
 |[]=>rfl
 |d::ds=>by simp[ko,lW,NJ d,uS ds]
end
mutual
theorem vc:∀(d:D),tO (λ _=>true) d=true
 | .gY| .bl _| .int _| .str _| .exc _=>by simp[tO]
 | .tup ds| .gt ds| .lst ds| .obj _ _ ds| .lJ _ ds| .bor _ ds| .lY _ _ ds| .rO _ _ _ ds=>by simp[tO,jJ ds]
theorem jJ:∀(ds:List D),jK (λ _=>true) ds=true
 |[]=>rfl
 |d::ds=>by simp[jK,vc d,jJ ds]
end
mutual
theorem GL:∀(d:D),tO (λ t=>!t) d=nt d
 | .gY| .bl _| .int _| .str _| .exc _=>by simp[tO,nt]
 | .tup ds| .gt ds| .lst ds| .obj _ _ ds| .lJ _ ds| .bor _ ds| .lY _ _ ds| .rO _ _ _ ds=>by simp[tO,nt,uZ ds]
theorem uZ:∀(ds:List D),jK (λ t=>!t) ds=eu ds
 |[]=>rfl
 |d::ds=>by simp[jK,eu,GL d,uZ ds]
end
mutual
theorem GN:∀(d:D),tO (λ _=>false) d=nb d
 | .gY| .bl _| .int _| .str _| .exc _=>by simp[tO,nb]
 | .tup ds| .gt ds| .lst ds| .obj _ _ ds| .lJ _ ds=>by simp[tO,nb,u9 ds]
 | .bor _ ds| .lY _ _ ds| .rO _ _ _ ds=>by simp[tO,nb]
theorem u9:∀(ds:List D),jK (λ _=>false) ds=Ei ds
 |[]=>rfl
 |d::ds=>by simp[jK,Ei,GN d,u9 ds]
end
def Tl.lift{K:W.Frag}{c:Cf}{B H:Hp}{d:D}{v:V}(h:Tl K c.z H d v):Tl K (c.at' B) H d v:=by
 have:=Tl.re (ct:=c.z) (dj:=c.at' B) (p:=λ _=>true) (g:=id) ⟨rfl,λ t a o _ q=>by cases t with
  |true=>exact absurd q (by simp[Ct.lo,Cf.z])
  |false=>exact q⟩ (vc d) h
 rwa [qC] at this
def Tl.down{K:W.Frag}{c:Cf}{B H:Hp}{tm:Bool}{d:D}{v:V}(h:Tl K ⟨c,B,tm⟩ H d v)(n:nt d=true):Tl K c.z H d v:=by
 have:=Tl.re (ct:=⟨c,B,tm⟩) (dj:=c.z) (p:=λ t=>!t) (g:=id) ⟨rfl,λ t a o p q=>by cases t with
  |true=>cases p
  |false=>exact q⟩ (by rw[GL];exact n) h
 rwa [qC] at this
def Tl.bare{K:W.Frag}{ct dj:Ct}{H:Hp}{d:D}{v:V}(e:dj.f.cb=ct.f.cb)(h:Tl K ct H d v)(n:nb d=true):Tl K dj H d v:=by have:=Tl.re (ct:=ct) (dj:=dj) (p:=λ _=>false) (g:=id) ⟨e,λ t a o p q=>nomatch p⟩ (by rw[GN];exact n) h;rwa [qC] at this
def aN.bare{K:W.Frag}{ct dj:Ct}{H:Hp}{d:List D}{v:List V}(e:dj.f.cb=ct.f.cb)(h:aN K ct H d v)(n:Ei d=true):aN K dj H d v:=by have:=aN.re (ct:=ct) (dj:=dj) (p:=λ _=>false) (g:=id) ⟨e,λ t a o p q=>nomatch p⟩ (by rw[u9];exact n) h;rwa [jX] at this
def aN.lift{K:W.Frag}{c:Cf}{B H:Hp}{d:List D}{v:List V}(h:aN K c.z H d v):aN K (c.at' B) H d v:=by
 have:=aN.re (ct:=c.z) (dj:=c.at' B) (p:=λ _=>true) (g:=id) ⟨rfl,λ t a o _ q=>by cases t with
  |true=>exact absurd q (by simp[Ct.lo,Cf.z])
  |false=>exact q⟩ (jJ d) h
 rwa [jX] at this
def aN.down{K:W.Frag}{c:Cf}{B H:Hp}{tm:Bool}{d:List D}{v:List V}(h:aN K ⟨c,B,tm⟩ H d v)(n:eu d=true):aN K c.z H d v:=by
 have:=aN.re (ct:=⟨c,B,tm⟩) (dj:=c.z) (p:=λ t=>!t) (g:=id) ⟨rfl,λ t a o p q=>by cases t with
  |true=>cases p
  |false=>exact q⟩ (by rw[uZ];exact n) h
 rwa [jX] at this
def aN.lent{K:W.Frag}{ct:Ct}{c':Cf}{H:Hp}{d:List D}{v:List V}(e:c'.cb=ct.f.cb)(eL:c'.L=H)(l:aB ct.f.L H)(b:aB ct.B H)(h:aN K ct H d v):aN K c'.z H (lW d) v:=by
 have:=aN.re (ct:=ct) (dj:=c'.z) (p:=λ _=>true) (g:=λ _=>false) ⟨e,λ t a o _ q=>by
  show c'.L a=some o;rw[eL];cases t with
  |true=>exact b a o q
  |false=>exact l a o q⟩ (jJ d) h
 rwa [uS] at this
theorem aN.length{K:W.Frag}{ct:Ct}{H:Hp}:∀{ds:List D} {vs:List V},aN K ct H ds vs->ds.length=vs.length
 |[],_,h=>by simp only[aN] at h;rw[h];rfl
 |d::ds,_,h=>by
  simp only[aN] at h
  revert h;refine aq λ v r z _ h=>?_;subst z
  simp[aN.length h]
theorem aN.get{K:W.Frag}{ct:Ct}{H:Hp}:∀{ds:List D} {vs:List V} {i:Nat} {d:D},aN K ct H ds vs->ds[i]? =some d->∃v,vs[i]? =some v/\Tl K ct H d v
 |[],_,_,_,_,e=>by simp at e
 |d::ds,_,i,d',h,e=>by
  simp only[aN] at h
  revert h;refine aq λ v r z h1 h2=>?_;subst z
  cases i with
  |zero=>simp at e;subst e;exact af v rfl h1
  |succ i=>exact aN.get (i:=i) h2 (by simpa using e)
def aN.nil{K:W.Frag}{ct:Ct}{H:Hp}:aN K ct H [] []:=by simp[aN]
def aN.cons{K:W.Frag}{ct:Ct}{H:Hp}{d:D}{v:V}{ds:List D}{vs:List V}(h:Tl K ct H d v)(t:aN K ct H ds vs):aN K ct H (d::ds) (v::vs):=by simp only[aN];exact ay v vs rfl h t
theorem aN.append{K:W.Frag}{ct:Ct}{H:Hp}:∀{ds es:List D} {vs us:List V},aN K ct H ds vs->aN K ct H es us->aN K ct H (ds++es) (vs++us)
 |[],_,_,_,h,t=>by simp only[aN] at h;subst h;simpa using t
 |d::ds,_,_,_,h,t=>by
  simp only[aN] at h
  revert h;refine aq λ v r z h1 h2=>?_;subst z
  exact aN.cons h1 (aN.append h2 t)
theorem aN.take{K:W.Frag}{ct:Ct}{H:Hp}:∀{ds:List D} {vs:List V} (n:Nat),aN K ct H ds vs->aN K ct H (ds.take n) (vs.take n)
 |[],_,n,h=>by simp only[aN] at h;subst h;simp[aN]
 |d::ds,_,0,_=>by simp[aN]
 |d::ds,_,n+1,h=>by
  simp only[aN] at h
  revert h;refine aq λ v r z h1 h2=>?_;subst z
  exact aN.cons h1 (aN.take n h2)
theorem aN.drop{K:W.Frag}{ct:Ct}{H:Hp}:∀{ds:List D} {vs:List V} (n:Nat),aN K ct H ds vs->aN K ct H (ds.drop n) (vs.drop n)
 |[],_,n,h=>by simp only[aN] at h;subst h;simp[aN]
 |d::ds,_,0,h=>h
 |d::ds,_,n+1,h=>by
  simp only[aN] at h
  revert h;refine aq λ v r z h1 h2=>?_;subst z
  exact aN.drop n h2
theorem aN.set{K:W.Frag}{ct:Ct}{H:Hp}{d:D}{v:V}(q:Tl K ct H d v):∀{ds:List D} {vs:List V} (n:Nat),aN K ct H ds vs->aN K ct H (ds.set n d) (vs.set n v)
 |[],_,n,h=>by simp only[aN] at h;subst h;simp[aN]
 |_::ds,_,0,h=>by
  simp only[aN] at h
  revert h;refine aq λ w r z _ h2=>?_;subst z
  exact aN.cons q h2
 |_::ds,_,n+1,h=>by
  simp only[aN] at h
  revert h;refine aq λ w r z h1 h2=>?_;subst z
  exact aN.cons h1 (aN.set q n h2)
noncomputable abbrev Fp:=Addr->Prop
mutual
def Ow(K:W.Frag)(ct:Ct)(H:Hp):M->V->Fp->Prop
 | .d x,v,_=>Tl K ct H x v
 | .l xs,v,S=>∃a vs,v= .ref a/\S a/\H a=some (.lst vs)/\aN K ct H xs vs
 | .n ms,v,S=>∃a vs,v= .ref a/\S a/\H a=some (.lst vs)/\bK K ct H ms vs λ b=>S b/\b≠a
 | .t ms,v,S=>∃a vs,v= .ref a/\H a=some (.tup vs)/\bK K ct H ms vs S
 | .k ks xs,v,S=>∃a vs,v= .ref a/\S a/\H a=some (ks.ho vs)/\ks.len=vs.length/\aN K ct H xs vs
 | .o c ns xs,v,S=>∃a C dx vs,v= .ref a/\S a/\ct.f.cb.ins c=some C/\H a=some (.ins C dx (ns.zip vs))/\ns.length=vs.length/\aN K ct H xs vs
 | .q ks ms,v,S=>∃a vs,v= .ref a/\S a/\H a=some (ks.ho vs)/\ks.len=vs.length/\bK K ct H ms vs λ b=>S b/\b≠a
def bK(K:W.Frag)(ct:Ct)(H:Hp):List M->List V->Fp->Prop
 |[],vs,_=>vs=[]
 |m::ms,vs,S=>∃v r S1 S2,vs=v::r/\(∀b,S1 b->S b)/\(∀b,S2 b->S b)/\(∀b,S1 b->¬S2 b)/\Ow K ct H m v S1/\bK K ct H ms r S2
end
section
variable{K:W.Frag}{ct dj:Ct}{H H':Hp}
mutual
/-- a Zg place -/
theorem Ow.wide:∀{m:M} {v:V} {S T:Fp},(∀b,S b->T b)->Ow K ct H m v S->Ow K ct H m v T
 | .d x,v,S,T,_,h=>by simpa[Ow] using h
 | .l xs,v,S,T,k,h=>by simp only[Ow] at h ⊢;refine aq (λ a vs h1 h2 h3=>?_) h;exact ay a vs h1 (k _ h2) h3
 | .n ms,v,S,T,k,h=>by simp only[Ow] at h ⊢;refine aL (λ a vs h1 h2 h3 h4=>?_) h;exact bh a vs h1 (k _ h2) h3 (bK.wide (λ b z=>⟨k b z.1,z.2⟩) h4)
 | .t ms,v,S,T,k,h=>by simp only[Ow] at h ⊢;refine aq (λ a vs h1 h2 h3=>?_) h;exact ay a vs h1 h2 (bK.wide k h3)
 | .k ks xs,v,S,T,k,h=>by simp only[Ow] at h ⊢;refine aq (λ a vs h1 h2 h3=>?_) h;exact ay a vs h1 (k _ h2) h3
 | .o c ns xs,v,S,T,k,h=>by simp only[Ow] at h ⊢;obtain ⟨a,C,dx,vs,h1,h2,h3⟩:=h;exact ⟨a,C,dx,vs,h1,k _ h2,h3⟩
 | .q ks ms,v,S,T,k,h=>by simp only[Ow] at h ⊢;refine cR (λ a vs h1 h2 h3 h4 h5=>?_) h;exact bN a vs h1 (k _ h2) h3 h4 (bK.wide (λ b z=>⟨k b z.1,z.2⟩) h5)
theorem bK.wide:∀{ms:List M} {vs:List V} {S T:Fp},(∀b,S b->T b)->bK K ct H ms vs S->bK K ct H ms vs T
 |[],vs,S,T,_,h=>by simpa[bK] using h
 |m::ms,vs,S,T,k,h=>by simp only[bK] at h ⊢;refine cA (λ v r S1 S2 h1 h2 h3 h4 h5 h6=>?_) h;exact dz v r S1 S2 h1 (λ b z=>k b (h2 b z)) (λ b z=>k b (h3 b z)) h4 h5 h6
end
mutual
/-- its places are untouched,Ag data are kept -/
theorem Ow.frame(e:aX ct.f.cb H H'):∀{m:M} {v:V} {S:Fp},(∀b o,S b->H b=some o->H' b=some o)->Ow K ct H m v S->Ow K ct H' m v S
 | .d x,v,S,_,h=>by simp only[Ow] at h ⊢;exact h.keep e
 | .l xs,v,S,k,h=>by simp only[Ow] at h ⊢;refine aL (λ a vs h1 h2 h3 h4=>?_) h;exact bh a vs h1 h2 (k _ _ h2 h3) (h4.keep e)
 | .n ms,v,S,k,h=>by simp only[Ow] at h ⊢;refine aL (λ a vs h1 h2 h3 h4=>?_) h;exact bh a vs h1 h2 (k _ _ h2 h3) (bK.frame e (λ b o z=>k b o z.1) h4)
 | .t ms,v,S,k,h=>by simp only[Ow] at h ⊢;refine aq (λ a vs h1 h2 h3=>?_) h;exact ay a vs h1 (e _ _ h2 trivial) (bK.frame e k h3)
 | .k ks xs,v,S,k,h=>by simp only[Ow] at h ⊢;refine cR (λ a vs h1 h2 h3 h4 h5=>?_) h;exact bN a vs h1 h2 (k _ _ h2 h3) h4 (h5.keep e)
 | .o c ns xs,v,S,k,h=>by simp only[Ow] at h ⊢;refine cA (λ a C dx vs h1 h2 h3 h4 h5 h6=>?_) h;exact dz a C dx vs h1 h2 h3 (k _ _ h2 h4) h5 (h6.keep e)
 | .q ks ms,v,S,k,h=>by simp only[Ow] at h ⊢;refine cR (λ a vs h1 h2 h3 h4 h5=>?_) h;exact bN a vs h1 h2 (k _ _ h2 h3) h4 (bK.frame e (λ b o z=>k b o z.1) h5)
theorem bK.frame(e:aX ct.f.cb H H'):∀{ms:List M} {vs:List V} {S:Fp},(∀b o,S b->H b=some o->H' b=some o)->bK K ct H ms vs S->bK K ct H' ms vs S
 |[],vs,S,_,h=>by simpa[bK] using h
 |m::ms,vs,S,k,h=>by simp only[bK] at h ⊢;refine cA (λ v r S1 S2 h1 h2 h3 h4 h5 h6=>?_) h;exact dz v r S1 S2 h1 h2 h3 h4 (Ow.frame e (λ b o z=>k b o (h2 b z)) h5) (bK.frame e (λ b o z=>k b o (h3 b z)) h6)
end
mutual
/-- lent for an expression -/
theorem Ow.lend:∀{m:M} {v:V} {S:Fp},(∀b,S b->ct.B b=H b)->Ow K ct H m v S->Tl K ct H (lend m) v
 | .d x,v,S,_,h=>by simpa only[Ow,L4.lend] using h
 | .l xs,v,S,k,h=>by simp only[Ow,L4.lend,Tl] at h ⊢;refine aL (λ a vs h1 h2 h3 h4=>?_) h;exact ay a vs h1 ((k a h2).trans h3) h4
 | .n ms,v,S,k,h=>by simp only[Ow,L4.lend,Tl] at h ⊢;refine aL (λ a vs h1 h2 h3 h4=>?_) h;exact ay a vs h1 ((k a h2).trans h3) (bK.lend (λ b z=>k b z.1) h4)
 | .t ms,v,S,k,h=>by simp only[Ow,L4.lend,Tl] at h ⊢;refine aq (λ a vs h1 h2 h3=>?_) h;exact ay a vs h1 h2 (bK.lend k h3)
 | .k ks xs,v,S,k,h=>by simp only[Ow,L4.lend,Tl] at h ⊢;refine cR (λ a vs h1 h2 h3 h4 h5=>?_) h;exact bh a vs h1 ((k a h2).trans h3) h4 h5
 | .o c ns xs,v,S,k,h=>by simp only[Ow,L4.lend,Tl] at h ⊢;refine cA (λ a C dx vs h1 h2 h3 h4 h5 h6=>?_) h;exact bV a C dx vs h1 h3 ((k a h2).trans h4) h5 h6
 | .q ks ms,v,S,k,h=>by simp only[Ow,L4.lend,Tl] at h ⊢;refine cR (λ a vs h1 h2 h3 h4 h5=>?_) h;exact bh a vs h1 ((k a h2).trans h3) h4 (bK.lend (λ b z=>k b z.1) h5)
theorem bK.lend:∀{ms:List M} {vs:List V} {S:Fp},(∀b,S b->ct.B b=H b)->bK K ct H ms vs S->aN K ct H (o8 ms) vs
 |[],vs,S,_,h=>by simpa[bK,L4.o8,aN] using h
 |m::ms,vs,S,k,h=>by simp only[bK,L4.o8,aN] at h ⊢;refine cA (λ v r S1 S2 h1 h2 h3 h4 h5 h6=>?_) h;exact ay v r h1 (Ow.lend (λ b z=>k b (h2 b z)) h5) (bK.lend (λ b z=>k b (h3 b z)) h6)
end
mutual
/-- Ag data in it told otherwise -/
theorem Ow.map{p:D->Bool}(ec:dj.f.cb=ct.f.cb)(g:∀d v,p d=true->Tl K ct H d v->Tl K dj H d v){q:List D->Bool}(gs:∀d v,q d=true->aN K ct H d v->aN K dj H d v){pm:M->Bool}{zW:List M->Bool} (e1:∀x,pm (.d x)=true->p x=true) (e2:∀x,pm (.l x)=true->q x=true) (e3:∀x,pm (.n x)=true->zW x=true) (e4:∀x,pm (.t x)=true->zW x=true) (e5:∀k x,pm (.k k x)=true->q x=true) (e7:∀c k x,pm (.o c k x)=true->q x=true) (e8:∀k x,pm (.q k x)=true->zW x=true) (e6:∀m ms,zW (m::ms)=true->pm m=true/\zW ms=true):∀{m:M} {v:V} {S:Fp},pm m=true->Ow K ct H m v S->Ow K dj H m v S
 | .d x,v,S,z,h=>by simp only[Ow] at h ⊢;exact g _ _ (e1 _ z) h
 | .l xs,v,S,z,h=>by simp only[Ow] at h ⊢;refine aL (λ a vs h1 h2 h3 h4=>?_) h;exact bh a vs h1 h2 h3 (gs _ _ (e2 _ z) h4)
 | .n ms,v,S,z,h=>by simp only[Ow] at h ⊢;refine aL (λ a vs h1 h2 h3 h4=>?_) h;exact bh a vs h1 h2 h3 (bK.map ec g gs e1 e2 e3 e4 e5 e7 e8 e6 (e3 _ z) h4)
 | .t ms,v,S,z,h=>by simp only[Ow] at h ⊢;refine aq (λ a vs h1 h2 h3=>?_) h;exact ay a vs h1 h2 (bK.map ec g gs e1 e2 e3 e4 e5 e7 e8 e6 (e4 _ z) h3)
 | .k ks xs,v,S,z,h=>by simp only[Ow] at h ⊢;refine cR (λ a vs h1 h2 h3 h4 h5=>?_) h;exact bN a vs h1 h2 h3 h4 (gs _ _ (e5 _ _ z) h5)
 | .o c ns xs,v,S,z,h=>by simp only[Ow] at h ⊢;refine cA (λ a C dx vs h1 h2 h3 h4 h5 h6=>?_) h;exact dz a C dx vs h1 h2 (by rw[ec];exact h3) h4 h5 (gs _ _ (e7 _ _ _ z) h6)
 | .q ks ms,v,S,z,h=>by simp only[Ow] at h ⊢;refine cR (λ a vs h1 h2 h3 h4 h5=>?_) h;exact bN a vs h1 h2 h3 h4 (bK.map ec g gs e1 e2 e3 e4 e5 e7 e8 e6 (e8 _ _ z) h5)
theorem bK.map{p:D->Bool}(ec:dj.f.cb=ct.f.cb)(g:∀d v,p d=true->Tl K ct H d v->Tl K dj H d v){q:List D->Bool}(gs:∀d v,q d=true->aN K ct H d v->aN K dj H d v){pm:M->Bool}{zW:List M->Bool} (e1:∀x,pm (.d x)=true->p x=true) (e2:∀x,pm (.l x)=true->q x=true) (e3:∀x,pm (.n x)=true->zW x=true) (e4:∀x,pm (.t x)=true->zW x=true) (e5:∀k x,pm (.k k x)=true->q x=true) (e7:∀c k x,pm (.o c k x)=true->q x=true) (e8:∀k x,pm (.q k x)=true->zW x=true) (e6:∀m ms,zW (m::ms)=true->pm m=true/\zW ms=true):∀{ms:List M} {vs:List V} {S:Fp},zW ms=true->bK K ct H ms vs S->bK K dj H ms vs S
 |[],vs,S,_,h=>by simpa[bK] using h
 |m::ms,vs,S,z,h=>by simp only[bK] at h ⊢;refine cA (λ v r S1 S2 h1 h2 h3 h4 h5 h6=>?_) h;exact dz v r S1 S2 h1 h2 h3 h4 (Ow.map ec g gs e1 e2 e3 e4 e5 e7 e8 e6 (e6 _ _ z).1 h5) (bK.map ec g gs e1 e2 e3 e4 e5 e7 e8 e6 (e6 _ _ z).2 h6)
end
end
section
variable{K:W.Frag}{c:Cf}{B H:Hp}{m:M}{v:V}{S:Fp}
theorem Ow.lift(h:Ow K c.z H m v S):Ow K (c.at' B) H m v S:=Ow.map (ct:=c.z) (dj:=c.at' B) (p:=λ _=>true) rfl (λ _ _ _=>Tl.lift) (q:=λ _=>true) (λ _ _ _=>aN.lift) (pm:=λ _=>true) (zW:=λ _=>true) (λ _ _=>rfl) (λ _ _=>rfl) (λ _ _=>rfl) (λ _ _=>rfl) (λ _ _ _=>rfl) (λ _ _ _ _=>rfl) (λ _ _ _=>rfl) (λ _ _ _=>⟨rfl,rfl⟩) rfl h
theorem Ow.down{tm:Bool}(h:Ow K ⟨c,B,tm⟩ H m v S)(n:kr m=true):Ow K c.z H m v S:=Ow.map (ct:=⟨c,B,tm⟩) (dj:=c.z) (p:=nt) rfl (λ _ _ n h=>h.down n) (q:=eu) (λ _ _ n h=>h.down n) (pm:=kr) (zW:=yK) (λ _ z=>by simpa[kr] using z) (λ _ z=>by simpa[kr] using z) (λ _ z=>by simpa[kr] using z) (λ _ z=>by simpa[kr] using z) (λ _ _ z=>by simpa[kr] using z) (λ _ _ _ z=>by simpa[kr] using z) (λ _ _ z=>by simpa[kr] using z)
  (λ _ _ z=>by simpa[yK] using z) n h
theorem Ow.bare{ct dj:Ct}(e:dj.f.cb=ct.f.cb)(h:Ow K ct H m v S)(n:AJ m=true):Ow K dj H m v S:=Ow.map (p:=nb) e (λ _ _ n h=>h.bare e n) (q:=Ei) (λ _ _ n h=>h.bare e n) (pm:=AJ) (zW:=Ej) (λ _ z=>by simpa[AJ] using z) (λ _ z=>by simpa[AJ] using z) (λ _ z=>by simpa[AJ] using z) (λ _ z=>by simpa[AJ] using z) (λ _ _ z=>by simpa[AJ] using z) (λ _ _ _ z=>by simpa[AJ] using z) (λ _ _ z=>by simpa[AJ] using z)
  (λ _ _ z=>by simpa[Ej] using z) n h
end
structure IT(ct:Ct)(H₀ H:Hp)(S:Fp):Prop where
 new:∀b,S b->H₀ b=none\/ct.f.io b
 here:∀b,S b->H b≠none
 AI:∀b,S b->ct.f.L b=none
 lent:∀b,S b->ct.tm=true->ct.B b=H b
def iJ(K:W.Frag)(ct:Ct)(H₀ H:Hp)(i:Nat)(S:Fp):Slot->Option V->Prop
 | .no,_=>∀b,¬S b
 | .val d,ov=>(∃v,ov=some v/\Tl K ct H d v)/\∀b,¬S b
 | .own m,ov=>∃v,ov=some v/\Ow K ct H m v S/\IT ct H₀ H S/\∀b,S b->H₀ b=none
 | .par m,ov=>∃v,ov=some v/\Ow K ct H m v S/\IT ct H₀ H S/\ct.f.args[i]? =some v
structure J(K:W.Frag)(ct:Ct)(H₀:Hp)(Γ:Sg)(σ:St)(H:Hp):Prop where
 same:∀b o,H₀ b=some o->¬ct.f.io b->H b=some o
 free:∀b,H b=none->H₀ b=none
 lL:aB ct.f.L H
 lB:aB ct.B H
 xt:aB ct.f.cb.xt ct.f.L
 len:Γ.length=σ.length
 sl:∃S:Nat->Fp,(∀i sl ov,Γ[i]? =some sl->σ[i]? =some ov->iJ K ct H₀ H i (S i) sl ov)/\(∀i j b,i≠j->S i b->¬S j b)/\∀i b,S i b->H b≠none
section
variable{K:W.Frag}{ct:Ct}{H₀ H H':Hp}{Γ:Sg}{σ:St}{i:Nat}{S:Fp}{sl:Slot}{ov:Option V}
def IT.same(h:IT ct H₀ H S)(e:aB H H'):IT ct H₀ H' S:=⟨h.new,λ b z q=>h.here b z (by
  cases w:H b with
  |none=>rfl
  |some o=>rw[e b o w] at q;cases q),h.AI,λ b z t=>by
 rw[h.lent b z t];cases w:H b with
 |none=>exact absurd w (h.here b z)
 |some o=>exact (e b o w).symm⟩
theorem iJ.same(h:iJ K ct H₀ H i S sl ov)(e:aB H H'):iJ K ct H₀ H' i S sl ov:=by
 cases sl with
 |no=>exact h
 |val d=>obtain ⟨⟨v,h1,h2⟩,h3⟩:=h;exact ⟨af v h1 (h2.keep (aB.keep e)),h3⟩
 |own m=>refine dw (λ v h1 h2 h3 h4=>?_) h;exact bW v h1 (h2.frame (aB.keep e) (λ b o _ q=>e b o q)) (h3.same e) h4
 |par m=>refine dw (λ v h1 h2 h3 h4=>?_) h;exact bW v h1 (h2.frame (aB.keep e) (λ b o _ q=>e b o q)) (h3.same e) h4
def J.mono(j:J K ct H₀ Γ σ H)(e:aB H H'):J K ct H₀ Γ σ H':=by refine aH (λ S h1 h2 h3=>?_) j.sl;exact ⟨λ b o q n=>e b o (j.same b o q n),λ b q=>j.free b (e.free q),j.lL.trans e,j.lB.trans e,j.xt,j.len,S,λ i sl ov g1 g2=>(h1 i sl ov g1 g2).same e,h2,λ i b w q=>h3 i b w (e.free q)⟩
def J.get(j:J K ct H₀ Γ σ H)(h:Γ[i]? =some sl):∃ov S,σ[i]? =some ov/\iJ K ct H₀ H i S sl ov:=by
 have hi:i<σ.length:=by rw[<-j.len];exact (List.getElem?_eq_some_iff.mp h).1
 refine ah (λ S h1 h2=>?_) j.sl;exact aQ (σ[i]) (S i) (List.getElem?_eq_getElem hi) (h1 i sl _ h (List.getElem?_eq_getElem hi))
theorem J.val{d:D}(j:J K ct H₀ Γ σ H)(h:Γ[i]? =some (.val d)):∃v,σ[i]? =some (some v)/\Tl K ct H d v:=by refine aq (λ ov S h1 z _=>?_) (j.get h);revert z;refine ah λ v h2 h3=>?_;exact af v (by rw[h1,h2]) h3
theorem J.own{m:M}(j:J K ct H₀ Γ σ H)(h:Γ[i]? =some (.own m)):∃v S,σ[i]? =some (some v)/\Ow K ct H m v S/\IT ct H₀ H S/\∀b,S b->H₀ b=none:=by refine aW (λ ov S h1=>ah λ v h2 h3=>?_) (j.get h);exact aQ v S (by rw[h1,h2]) h3
theorem J.par{m:M}(j:J K ct H₀ Γ σ H)(h:Γ[i]? =some (.par m)):∃v S,σ[i]? =some (some v)/\Ow K ct H m v S/\IT ct H₀ H S/\ct.f.args[i]? =some v:=by refine aW (λ ov S h1=>ah λ v h2 h3=>?_) (j.get h);exact aQ v S (by rw[h1,h2]) h3
theorem J.lift{c:Cf}(j:J K c.z H₀ Γ σ H):J K (c.at' H) H₀ Γ σ H:=by
 refine ah (λ S h1 h2=>?_) j.sl;refine ⟨j.same,j.free,j.lL,aB.refl H,j.xt,j.len,S,λ i sl ov g1 g2=>?_,h2⟩;have h:=h1 i sl ov g1 g2;cases sl with
 |no=>exact h
 |val d=>obtain ⟨⟨v,h1,h2⟩,h3⟩:=h;exact ⟨af v h1 h2.lift,h3⟩
 |own m=>revert h;refine dw λ v h1 h2 h3 h4=>?_;exact bW v h1 h2.lift ⟨h3.new,h3.here,h3.AI,λ _ _ _=>rfl⟩ h4
 |par m=>revert h;refine dw λ v h1 h2 h3 h4=>?_;exact bW v h1 h2.lift ⟨h3.new,h3.here,h3.AI,λ _ _ _=>rfl⟩ h4
def J.chg(j:J K ct H₀ Γ σ H)(i:Nat):∃S:Fp,(∀sl ov,Γ[i]? =some sl->σ[i]? =some ov->iJ K ct H₀ H i S sl ov)/\∀(H':Hp) (sl:Slot) (ov:Option V) (S':Fp),aX ct.f.cb H H'->(∀b o,H b=some o->¬S b->H' b=some o)->(∀b,H' b=none->H b=none)->aB ct.B H'->iJ K ct H₀ H' i S' sl ov->(∀b,S' b->S b\/H b=none)->J K ct H₀ (Γ.set i sl) (σ.set i ov) H':=by
 refine aH (λ S h1 h2 h3=>?_) j.sl;by_cases hi:i<Γ.length
 ·refine af (S i) (λ sl ov g1 g2=>h1 i sl ov g1 g2) (λ H' sl ov S' kp hs hf hB new hS'=>?_);have Uu:i<σ.length:=by rw[<-j.len];exact hi
  -- Ag places of i,if it has some
  have q:=h1 i Γ[i] σ[i] (List.getElem?_eq_getElem hi) (List.getElem?_eq_getElem Uu);have so:(∀b,S i b->H₀ b=none\/ct.f.io b)/\∀b,S i b->ct.f.L b=none:=by
   generalize Γ[i]=sl0 at q;cases sl0 with
   |no=>exact ⟨λ b z=>absurd z (q b),λ b z=>absurd z (q b)⟩
   |val d=>exact ⟨λ b z=>absurd z (q.2 b),λ b z=>absurd z (q.2 b)⟩
   |own m=>revert q;refine dw λ v _ _ h3 _=>?_;exact ⟨h3.new,h3.AI⟩
   |par m=>revert q;refine dw λ v _ _ h3 _=>?_;exact ⟨h3.new,h3.AI⟩
  refine ⟨λ b o e n=>?_,λ b e=>j.free b (hf b e),λ b o e=>?_,λ b o e=>?_,j.xt,by simp[j.len],λ k=>if k=i then S' else S k,λ k E3 ov' g1 g2=>?_,λ k l b ZP=>?_,λ k b w=>?_⟩
  ·have:=j.same b o e n;refine hs b o this λ z=>?_;rcases so.1 b z with w|w
   ·rw[w] at e;cases e
   ·exact n w
  ·exact hs b o (j.lL b o e) λ z=>by rw[so.2 b z] at e;cases e
  ·exact hB b o e
  ·by_cases e:i=k
   ·subst e;rw[List.getElem?_set_self hi] at g1;rw[List.getElem?_set_self Uu] at g2;cases g1;cases g2;simpa using new
   ·rw[List.getElem?_set_ne e] at g1 g2;have ek:¬k=i:=λ z=>e z.symm;simp only[ek,if_false];have z:=h1 k E3 ov' g1 g2;have un:∀b o,S k b->H b=some o->H' b=some o:=λ b o w q=>hs b o q λ w'=>h2 k i b ek w w';have SD:IT ct H₀ H (S k)->IT ct H₀ H' (S k):=λ s=>⟨s.new,λ b w q=>s.here b w (hf b q),s.AI,λ b w t=>by
     rw[s.lent b w t];cases x:H b with
     |none=>exact absurd x (s.here b w)
     |some o=>exact (un b o w x).symm⟩
    cases E3 with
    |no=>exact z
    |val d=>obtain ⟨⟨v,z1,z2⟩,z3⟩:=z;exact ⟨af v z1 (z2.keep kp),z3⟩
    |own m=>revert z;refine dw λ v z1 z2 z3 z4=>?_;exact bW v z1 (z2.frame kp un) (SD z3) z4
    |par m=>revert z;refine dw λ v z1 z2 z3 z4=>?_;exact bW v z1 (z2.frame kp un) (SD z3) z4
  ·-- apart
   have Z4:∀l b,¬l=i->S' b->¬S l b:=λ l b hl w w'=>by
    rcases hS' b w with u|u
    ·exact h2 l i b hl w' u
    ·exact h3 l b w' u
   by_cases e1:k=i
   ·subst e1;have e2:¬l=k:=λ z=>ZP z.symm;simp only[if_true,e2,if_false];exact Z4 l b e2
   ·by_cases e2:l=i
    ·subst e2;simp only[e1,if_false,if_true];exact λ w w'=>Z4 k b e1 w' w
    ·simp only[e1,e2,if_false];exact h2 k l b ZP
  ·by_cases e:k=i
   ·subst e;simp only[if_true] at w;cases sl with
    |no=>exact absurd w (new b)
    |val d=>exact absurd w (new.2 b)
    |own m=>revert new;refine dw λ v _ _ z _=>?_;exact z.here b w
    |par m=>revert new;refine dw λ v _ _ z _=>?_;exact z.here b w
   ·simp only[e,if_false] at w;exact λ q=>h3 k b w (hf b q)
 ·refine af (λ _=>False) (λ sl ov g1 g2=>?_) (λ H' sl ov S' kp hs hf hB new hS'=>?_)
  ·rw[List.getElem?_eq_none (Nat.le_of_not_lt hi)] at g1;cases g1
  ·rw[List.set_eq_of_length_le (Nat.le_of_not_lt hi),List.set_eq_of_length_le (by rw[<-j.len];exact Nat.le_of_not_lt hi)];exact j.mono λ b o q=>hs b o q λ z=>z
theorem J.set{d:D}{v:V}(j:J K ct H₀ Γ σ H)(h:Tl K ct H d v):J K ct H₀ (Γ.set i (.val d)) (σ.set i (some v)) H:=by refine ah (λ S _ h2=>?_) (j.chg i);exact h2 H _ _ (λ _=>False) (aX.refl H) (λ _ _ q _=>q) (λ _ q=>q) j.lB ⟨af v rfl h,λ _ z=>z⟩ λ _ z=>z.elim
def J.setM{v:V}(j:J K ct H₀ Γ σ H)(e:aB H H')(tm:ct.tm=false)(h:Ow K ct H' m v S')(new:∀b,S' b->H b=none)(here:∀b,S' b->H' b≠none):J K ct H₀ (Γ.set i (.own m)) (σ.set i (some v)) H':=by
 refine ah (λ S _ h2=>?_) (j.chg i);refine h2 H' _ _ S' (aB.keep e) (λ b o q _=>e b o q) (λ b q=>e.free q) (j.lB.trans e) (bW v rfl h ⟨λ b z=> .inl (j.free b (new b z)),here,λ b z=>?_,λ b z t=>by rw[tm] at t;cases t⟩ (λ b z=>j.free b (new b z))) λ b z=> .inr (new b z);cases w:ct.f.L b with
 |none=>rfl
 |some o=>have:=j.lL b o w;rw[new b z] at this;cases this
def J.weak(j:J K ct H₀ Γ1 σ H)(hl:Γ1.length=Γ.length)(h:∀i:Nat,Γ[i]? =some .no\/Γ[i]? =Γ1[i]?):J K ct H₀ Γ σ H:=by
 refine aH (λ S h1 h2 h3=>?_) j.sl;refine ⟨j.same,j.free,j.lL,j.lB,j.xt,by rw[<-hl];exact j.len,λ i b=>S i b/\Γ[i]? =Γ1[i]?/\Γ[i]?≠some .no,λ i sl ov g1 g2=>?_,λ i k b e w w'=>h2 i k b e w.1 w'.1,λ i b w=>h3 i b w.1⟩;by_cases e:sl= .no
 ·subst e;exact λ b w=>w.2.2 g1
 ·have e1:Γ[i]? =Γ1[i]? :=by
   rcases h i with z|z
   ·rw[z] at g1;cases g1;exact absurd rfl e
   ·exact z
  have q:=h1 i sl ov (e1▸g1) g2;have eS:(λ b=>S i b/\Γ[i]? =Γ1[i]?/\Γ[i]?≠some .no)=S i:=funext λ b=>propext ⟨λ w=>w.1,λ w=>aV w e1 (by rw[g1];exact λ z=>e (Option.some.inj z))⟩;show iJ K ct H₀ H i (λ b=>S i b/\Γ[i]? =Γ1[i]?/\Γ[i]?≠some .no) sl ov;rw[eS];exact q
def J.Si(j:J K ct H₀ Γ σ H)(n:TN Γ)(k:aX ct.f.cb H H')(s:∀b o,H₀ b=some o->¬ct.f.io b->H' b=some o)(f:∀b,H' b=none->H₀ b=none)(l:aB ct.f.L H')(b:aB ct.B H'):J K ct H₀ Γ σ H':=by
 refine aH (λ S h1 h2 h3=>?_) j.sl;refine ⟨s,f,l,b,j.xt,j.len,λ _ _=>False,λ i sl ov g1 g2=>?_,λ _ _ _ _ z=>z.elim,λ _ _ z=>z.elim⟩;have q:=h1 i sl ov g1 g2;cases sl with
 |no=>exact λ _ z=>z
 |val d=>obtain ⟨⟨v,q1,q2⟩,_⟩:=q;exact ⟨af v q1 (q2.keep k),λ _ z=>z⟩
 |own m=>exact absurd g1 (n i m).1
 |par m=>exact absurd g1 (n i m).2
def Tl.fX{d:D}{v:V}(l:aB ct.f.L H)(b:aB ct.B H)(h:Tl K ct H d v)(e:qe d=some ds):∃a vs,v= .ref a/\fZ K H a vs/\aN K ct H ds vs:=by
 cases d with
 |lst xs=>
  cases e;simp only[Tl] at h
  revert h;refine aq λ a vs h1 h2 h3=>?_
  exact ay a vs h1 h2.sq h3
 |bor t xs=>
  cases e;simp only[Tl] at h
  revert h;refine aq λ a vs h1 h2 h3=>?_
  refine ay a vs h1 (.inl (.inl ?_)) h3;cases t with
  |true=>exact b a _ h2
  |false=>exact l a _ h2
 |_=>cases e
end
def Bw(P:Program)(w:World):LQ:=λ outer H s E e s'=>∃(a C:Addr) (H':Hp) (B:Heap) (a0:Value),e= .ref a/\E (.ref C) none H'/\s'.os=s.os/\AllBare s'.gens/\Heap.FlyingW B outer a (.ref C) a0 s'.heap/\H' a=none/\s.heap.get? a=none/\∀h':Heap,B.StaysIn h'->s'.heap.UpToSlots h'->Un (frs outer) [] H H' s.heap h'/\kC P w H' h'
def fU(X:Cx)(cb:Cb)(σ:St)(H:Hp)(c:String)(e:Value)(s':Shared):Prop:=∃(pins:List (Addr×Obj)) (H1:Hp) (s1:Shared) (C:Addr),Inv X pins σ H1 s1/\aB H H1/\cb.exc c=some C/\((∃(a:Addr) (args:List Value) (h':Heap),e= .ref a/\s'={s1 with heap:=h'}/\Heap.MadeExcOf s1.heap h' a (.ref C) args)\/Bw X.prog X.w X.stack H1 s1 (λ cls od H'=>cls= .ref C/\od=none/\aB H1 H') e s')
def fU.mono{X:Cx}{cb:Cb}{σ:St}{H H2:Hp}{c:String}{e:Value}{s':Shared}(s:aB H H2)(h:fU X cb σ H2 c e s'):fU X cb σ H c e s':=by obtain ⟨pins,H1,s1,C,h1,h2,h3⟩:=h;exact ⟨pins,H1,s1,C,h1,s.trans h2,h3⟩
def Ok{α:Type}(X:Cx)(ct:Ct)(σ:St)(H:Hp)(r:Res α)(W:α->Prop):Prop:=match r with
 | .ok d=>W d
 | .err c=>∀e s',fU X ct.f.cb σ H c e s'->X.xe e s'
 | .bad=>False
theorem Ok.mono{α:Type}{X:Cx}{ct:Ct}{σ:St}{H H2:Hp}{r:Res α}{W W':α->Prop}(s:aB H H2)(h:Ok X ct σ H r W)(k:∀d,W d->W' d):Ok X ct σ H2 r W':=by
 cases r with
 |ok d=>exact k d h
 |err c=>exact λ e s' q=>h e s' (q.mono s)
 |bad=>exact h
theorem Ok.bnd{α β:Type}{X:Cx}{ct:Ct}{σ:St}{H:Hp}{r:Res α}{f:α->Res β}{W:β->Prop}{W':α->Prop}(h:Ok X ct σ H (r.bnd f) W)(k:∀d,r= .ok d->Ok X ct σ H (f d) W->W' d):Ok X ct σ H r W':=by
 cases r with
 |ok d=>exact k d rfl h
 |err c=>exact h
 |bad=>exact h
def Wd(X:Cx)(ct:Ct)(H:Hp)(Q:VK)(d:D):Prop:=∀v H',aB H H'->Tl X.K ct H' d v->Q v H'
def Wl(X:Cx)(ct:Ct)(H:Hp)(Q:VK)(ds:List D):Prop:=∀a vs H',aB H H'->H a=none->H' a=some (.lst vs)->aN X.K ct H' ds vs->Q (.ref a) H'
def Wm(X:Cx)(ct:Ct)(H:Hp)(Q:VK)(m:M):Prop:=∀v H' S,aB H H'->Ow X.K ct H' m v S->(∀b,S b->H b=none)->(∀b,S b->H' b≠none)->Q v H'
def Wt(H:Hp)(Q:Bool->Hp->Prop)(b:Bool):Prop:=∀H',aB H H'->Q b H'
def Wa(X:Cx)(ct:Ct)(H:Hp)(Q:List V->Hp->Prop)(ds:List D):Prop:=∀vs H',aB H H'->aN X.K ct H' ds vs->Q vs H'
abbrev Jx(X:Cx)(ct:Ct)(Γ:Sg)(σ:St)(H:Hp):Prop:=J X.K ct X.H₀ Γ σ H
def oi(X:Cx)(ct:Ct)(f:Sg->Res D):TE:=λ σ H Q=>∃Γ,Jx X ct Γ σ H/\Ok X ct σ H (f Γ) (Wd X ct H Q)
def ZH(X:Cx)(ct:Ct)(f:Sg->Res (List D)):TE:=λ σ H Q=>∃Γ,Jx X ct Γ σ H/\Ok X ct σ H (f Γ) (Wl X ct H Q)
def XW(X:Cx)(ct:Ct)(f:Sg->Res M):TE:=λ σ H Q=>∃Γ,Jx X ct Γ σ H/\Ok X ct σ H (f Γ) (Wm X ct H Q)
def Io(X:Cx)(ct:Ct)(f:Sg->Res Bool):TT:=λ σ H Q=>∃Γ,Jx X ct Γ σ H/\Ok X ct σ H (f Γ) (Wt H Q)
def EZ(X:Cx)(ct:Ct)(f:Sg->Res (List D)):TA:=λ σ H Q=>∃Γ,Jx X ct Γ σ H/\Ok X ct σ H (f Γ) (Wa X ct H Q)
abbrev PD(X:Cx)(ct:Ct)(e:Expr)(f:Sg->Res D):Prop:=PE X e (oi X ct f)
abbrev PL(X:Cx)(ct:Ct)(e:Expr)(f:Sg->Res (List D)):Prop:=PE X e (ZH X ct f)
abbrev PM(X:Cx)(ct:Ct)(e:Expr)(f:Sg->Res M):Prop:=PE X e (XW X ct f)
abbrev PDT(X:Cx)(ct:Ct)(e:Expr)(f:Sg->Res Bool):Prop:=PT X e (Io X ct f)
abbrev PDW(X:Cx)(ct:Ct)(e:Expr)(f:Sg->Res Bool):Prop:=PW X e (Io X ct f)
abbrev Qv(X:Cx)(ct:Ct)(es:List Expr)(f:Sg->Res (List D)):Prop:=PA X es (EZ X ct f)
structure Bk(X:Cx)(c:Cf)(H':Hp):Prop where
 same:∀b o,X.H₀ b=some o->¬c.io b->H' b=some o
 free:∀b,H' b=none->X.H₀ b=none
def J.bk{ct:Ct}(j:Jx X ct Γ σ H):Bk X ct.f H:=⟨j.same,j.free⟩
def Fn(X:Cx)(c:Cf)(H:Hp)(o:Out)(E:Ends):Prop:=match o with
 | .nx Γ=>∀σ' H',aX c.cb H H'->Jx X c.z Γ σ' H'->E.nx σ' H'
 | .bk Γ=>∀σ' H',aX c.cb H H'->Jx X c.z Γ σ' H'->E.bk σ' H'
 | .ct Γ=>∀σ' H',aX c.cb H H'->Jx X c.z Γ σ' H'->E.ct σ' H'
 | .rt d=>∀v H',Bk X c H'->Tl X.K c.z H' d v->E.rt v H'
 | .zV m=>∀v H' S,Bk X c H'->Ow X.K c.z H' m v S->(∀b,S b->X.H₀ b=none)->(∀b,S b->H' b≠none)->E.rt v H'
 | .L7 d Γ=>∀v σ' H',Jx X c.z Γ σ' H'->Tl X.K c.z H' d v->E.rt v H'
 | .yo m Γ=>∀σ' H' (i:Nat) v,Jx X c.z Γ σ' H'->Γ[i]? =some (Slot.par m)->σ'[i]? =some (some v)->E.rt v H'
 | .err x Γ=>∀σ' H' e s',aX c.cb H H'->Jx X c.z Γ σ' H'->fU X c.cb σ' H' x e s'->X.xe e s'
 | .bad=>False
def Fn.mono{X:Cx}{c:Cf}{H H2:Hp}{o:Out}{E:Ends}(k:aX c.cb H H2)(h:Fn X c H o E):Fn X c H2 o E:=by
 cases o with
 |nx Γ=>exact λ σ' H' e=>h σ' H' (k.trans e)
 |bk Γ=>exact λ σ' H' e=>h σ' H' (k.trans e)
 |ct Γ=>exact λ σ' H' e=>h σ' H' (k.trans e)
 |rt d=>exact h
 |zV m=>exact h
 |L7 d Γ=>exact h
 |yo m Γ=>exact h
 |err x Γ=>exact λ σ' H' e s' q=>h σ' H' e s' (k.trans q)
 |bad=>exact h
def VJ(X:Cx)(c:Cf)(F:Sg->Out):TS:=λ E σ H=>∃Γ,Jx X c.z Γ σ H/\Fn X c H (F Γ) E
abbrev YV(X:Cx)(c:Cf)(st:Stmt)(F:Sg->Out):Prop:=PS X st (VJ X c F)
abbrev Vm(X:Cx)(c:Cf)(sts:List Stmt)(F:Sg->Out):Prop:=zZ X sts (VJ X c F)
structure WE(X:Cx)(e:Expr)(t:TE):Prop where
 out:PE X e t
structure WT(X:Cx)(e:Expr)(t:TT):Prop where
 out:PT X e t
structure WW(X:Cx)(e:Expr)(t:TT):Prop where
 out:PW X e t
structure WA(X:Cx)(es:List Expr)(t:TA):Prop where
 out:PA X es t
structure WS(X:Cx)(st:Stmt)(t:TS):Prop where
 out:PS X st t
structure WSs(X:Cx)(st:List Stmt)(t:TS):Prop where
 out:zZ X st t
abbrev WD(X:Cx)(ct:Ct)(e:Expr)(f:Sg->Res D):Prop:=WE X e (oi X ct f)
abbrev WL(X:Cx)(ct:Ct)(e:Expr)(f:Sg->Res (List D)):Prop:=WE X e (ZH X ct f)
abbrev WM(X:Cx)(ct:Ct)(e:Expr)(f:Sg->Res M):Prop:=WE X e (XW X ct f)
abbrev zY(X:Cx)(ct:Ct)(e:Expr)(f:Sg->Res Bool):Prop:=WT X e (Io X ct f)
abbrev Qp(X:Cx)(ct:Ct)(e:Expr)(f:Sg->Res Bool):Prop:=WW X e (Io X ct f)
abbrev pN(X:Cx)(ct:Ct)(es:List Expr)(f:Sg->Res (List D)):Prop:=WA X es (EZ X ct f)
abbrev sQ(X:Cx)(c:Cf)(st:Stmt)(F:Sg->Out):Prop:=WS X st (VJ X c F)
abbrev oF(X:Cx)(c:Cf)(sts:List Stmt)(F:Sg->Out):Prop:=WSs X sts (VJ X c F)
section
variable{X:Cx}{ct:Ct}{a b e:Expr}{f g:Sg->Res D}{H:Hp}{Γ:Sg}{σ:St}{pos:Pos}
def PE.imp{t u:TE}(h:PE X e t)(k:∀σ H Q,u σ H Q->t σ H Q):PE X e u:=λ pins s σ H Q I q=>h pins s σ H Q I (k σ H Q q)
def PT.imp{t u:TT}(h:PT X e t)(k:∀σ H Q,u σ H Q->t σ H Q):PT X e u:=λ pins s σ H Q I q=>h pins s σ H Q I (k σ H Q q)
def PW.imp{t u:TT}(h:PW X e t)(k:∀σ H Q,u σ H Q->t σ H Q):PW X e u:=λ wh pins s σ H Q I q=>h wh pins s σ H Q I (k σ H Q q)
def PA.imp{es:List Expr}{t u:TA}(h:PA X es t)(k:∀σ H Q,u σ H Q->t σ H Q):PA X es u:=λ pos pins s σ H Q I q=>h pos pins s σ H Q I (k σ H Q q)
def PS.imp{st:Stmt}{t u:TS}(h:PS X st t)(k:∀E σ H,u E σ H->t E σ H):PS X st u:=λ pins s σ H E I q=>h pins s σ H E I (k E σ H q)
def zZ.imp{st:List Stmt}{t u:TS}(h:zZ X st t)(k:∀E σ H,u E σ H->t E σ H):zZ X st u:=λ pins s σ H E I q=>h pins s σ H E I (k E σ H q)
theorem oi.bnd{β:Type}{r:D->Res β}{W:β->Prop}{Q:VK}(j:Jx X ct Γ σ H)(h:Ok X ct σ H ((f Γ).bnd r) W) (k:∀d v H',aB H H'->Tl X.K ct H' d v->Jx X ct Γ σ H'->Ok X ct σ H (r d) W->Q v H'):oi X ct f σ H Q:=af Γ j (h.bnd λ d _ q v H' s t=>k d v H' s t (j.mono s) q)
theorem EZ.bnd{fa:Sg->Res (List D)}{β:Type}{r:List D->Res β}{W:β->Prop}{Q:List V->Hp->Prop}(j:Jx X ct Γ σ H)(h:Ok X ct σ H ((fa Γ).bnd r) W) (k:∀d v H',aB H H'->aN X.K ct H' d v->Jx X ct Γ σ H'->Ok X ct σ H (r d) W->Q v H'):EZ X ct fa σ H Q:=af Γ j (h.bnd λ d _ q v H' s t=>k d v H' s t (j.mono s) q)
theorem Io.bnd{fa:Sg->Res Bool}{β:Type}{r:Bool->Res β}{W:β->Prop}{Q:Bool->Hp->Prop}(j:Jx X ct Γ σ H)(h:Ok X ct σ H ((fa Γ).bnd r) W) (k:∀d H',aB H H'->Jx X ct Γ σ H'->Ok X ct σ H (r d) W->Q d H'):Io X ct fa σ H Q:=af Γ j (h.bnd λ d _ q H' s=>k d H' s (j.mono s) q)
def Wd.mono{H2:Hp}{Q:VK}{d:D}(s:aB H H2)(h:Wd X ct H Q d):Wd X ct H2 Q d:=λ v H' e t=>h v H' (s.trans e) t
def Wt.mono{H2:Hp}{Q:Bool->Hp->Prop}{d:Bool}(s:aB H H2)(h:Wt H Q d):Wt H2 Q d:=λ H' e=>h H' (s.trans e)
def aa(i:Nat)(hN:X.N[i]? =some x:=by rfl)(hv:IP X.env.scope x:=by first|exact Or.inl rfl|exact Or.inr (Or.inl rfl)|exact Or.inr (Or.inr rfl))(hd:(x==("__debug__":Str))=false:=by decide)(hcd:(x==("__classdict__":Str))=false:=by decide):WD X ct (.Name x pos) (aj i):=by
 refine ⟨?_⟩;refine PE.imp (uW hN hv hd hcd) ?_;refine λ σ H Q=>ah λ Γ j h=>?_;unfold aj at h;split at h
 ·rename_i d hd';refine ah (λ v h1 h2=>?_) (j.val hd');exact af v h1 (h v H (aB.refl H) h2)
 ·exact h.elim
def pP(i:Nat)(tm:ct.tm=true:=by rfl)(hN:X.N[i]? =some x:=by rfl)(hv:IP X.env.scope x:=by first|exact Or.inl rfl|exact Or.inr (Or.inl rfl)|exact Or.inr (Or.inr rfl))(hd:(x==("__debug__":Str))=false:=by decide)(hcd:(x==("__classdict__":Str))=false:=by decide):WD X ct (.Name x pos) (rH i):=by
 refine ⟨?_⟩;refine PE.imp (uW hN hv hd hcd) ?_;refine λ σ H Q=>ah λ Γ j h=>?_;unfold rH at h;split at h
 ·rename_i d hd';refine ah (λ v h1 h2=>?_) (j.val hd');exact af v h1 (h v H (aB.refl H) h2)
 ·rename_i m hm;refine aL (λ v S h1 h2 h3 _=>?_) (j.own hm);exact af v h1 (h v H (aB.refl H) (h2.lend λ b z=>h3.lent b z tm))
 ·rename_i m hm;refine aL (λ v S h1 h2 h3 _=>?_) (j.par hm);exact af v h1 (h v H (aB.refl H) (h2.lend λ b z=>h3.lent b z tm))
 ·exact h.elim
def aD{i k pos}:WD X ct (.Constant (.int i) k pos) (dC (.int i)):=by exact ⟨PE.imp Oc λ σ H Q z_=>zX z_ λ Γ j h=>h _ H (aB.refl H) (by simp[Tl])⟩
def qj{b k pos}:WD X ct (.Constant (.bool b) k pos) (dC (.bl b)):=by exact ⟨PE.imp Tn λ σ H Q z_=>zX z_ λ Γ j h=>h _ H (aB.refl H) (by simp[Tl])⟩
def Ft{x k pos}:WD X ct (.Constant (.str x) k pos) (dC (.str x)):=by exact ⟨PE.imp N8 λ σ H Q z_=>zX z_ λ Γ j h=>h _ H (aB.refl H) (by simp[Tl])⟩
def Kh{d:D}{v:V}(hg:Gl X x)(hm:X.mg x=some u)(r:RelV v u)(t:∀H,Tl X.K ct H d v)(hd:(x==("__debug__":Str))=false:=by decide):PD X ct (.Name x pos) (dC d):=PE.imp (B9 hg hm r hd) λ σ H Q z_=>zX z_ λ Γ j h=>h _ H (aB.refl H) (t H)
def Qw(X:Cx)(ct:Ct)(r2:R2)(r:D->D->Res D):Prop:=∀(σ:St) (H:Hp) (x y:V) (d1 d2:D) (Q:VK),aB ct.f.L H->aB ct.B H->Tl X.K ct H d1 x->Tl X.K ct H d2 y->Ok X ct σ H (r d1 d2) (Wd X ct H Q)->r2 x y H Q
def AE{r2:R2}{r:D->D->Res D}(ho:Qw X ct r2 r):∀σ H Q,oi X ct (aO r f g) σ H Q->VD r2 (oi X ct f) (oi X ct g) σ H Q:=by refine λ σ H Q=>ah λ Γ j h=>?_;refine oi.bnd j h λ d1 v H1 s1 t1 j1 h1=>?_;refine oi.bnd (W:=Wd X ct H Q) j1 (Ok.mono s1 h1 λ _ z=>z) λ d2 u H2 s2 t2 j2 h2=>?_;exact ho σ H2 v u d1 d2 Q j2.lL j2.lB (t1.keep (aB.keep s2)) t2 (Ok.mono s2 h2 λ d q=>q.mono (s1.trans s2))
def tL{r:D->D->Res D}(hr:oG X (binaryOp op) r2)(ho:Qw X ct r2 r)(ha:PD X ct a f)(hb:PD X ct b g):PD X ct (.BinOp a op b pos) (aO r f g):=PE.imp (Gq hr ha hb) (AE ho)
def FQ{t:TE}(k:∀σ H Q,oi X ct f σ H Q->t σ H Q):∀σ H Q,Io X ct (dT f) σ H Q->LW t σ H Q:=by
 refine λ σ H Q=>ah λ Γ j h=>?_;refine k σ H _ (oi.bnd j h λ d v H' s t j' h'=>?_);cases d with
 |bl b=>simp only[Tl] at t;exact af b t (h' H' s)
 |_=>exact h'.elim
def pV{r:D->D->Res D}(hr:oG X (compareOp op) r2)(ho:Qw X ct r2 r)(ha:PD X ct a f)(hb:PD X ct b g)(hm:behindInMarks op b=false):PDT X ct (.Compare a [op] [b] pos) (dT (aO r f g)):=PT.imp (J0 hr ha hb hm) (FQ (AE ho))
def lZ(ha:WD X ct e f)(he:∀whole,isTrue e X.env whole=(do let v <-whole;standAt e.pos;holding [v] (truthy v)):=by intro _;rfl):zY X ct e (dT f):=by
 have ha:=ha.out
 exact ⟨PT.imp (NT ha he) (FQ λ _ _ _ z=>z)⟩
variable{p q:Sg->Res Bool}{rest:List Expr}
def xR(ha:zY X ct a p):Qp X ct (.BoolOp .And [a] pos) p:=by have ha:=ha.out;exact ⟨JX ha⟩
def pO(ha:zY X ct a p):Qp X ct (.BoolOp .Or [a] pos) p:=by have ha:=ha.out;exact ⟨NR ha⟩
def uv(ha:zY X ct a p)(hb:Qp X ct (.BoolOp .And (b::rest) pos) q):Qp X ct (.BoolOp .And (a::b::rest) pos) (Ip p q):=by
 have ha:=ha.out;have hb:=hb.out;refine ⟨?_⟩;refine PW.imp (NS ha hb) ?_;refine λ σ H Q=>ah λ Γ j h=>?_;refine Io.bnd j h λ c H' s j' h'=>?_;cases c with
 |true=>exact Ex (af Γ j' (Ok.mono s h' λ d z=>z.mono s))
 |false=>exact Ey (h' H' s)
def kW(ha:zY X ct a p)(hb:Qp X ct (.BoolOp .Or (b::rest) pos) q):Qp X ct (.BoolOp .Or (a::b::rest) pos) (Lo p q):=by
 have ha:=ha.out;have hb:=hb.out;refine ⟨?_⟩;refine PW.imp (Th ha hb) ?_;refine λ σ H Q=>ah λ Γ j h=>?_;refine Io.bnd j h λ c H' s j' h'=>?_;cases c with
 |true=>exact Ex (h' H' s)
 |false=>exact Ey (af Γ j' (Ok.mono s h' λ d z=>z.mono s))
def sU{e:Expr}(h:Qp X ct e p):zY X ct e p:=by have h:=h.out;exact ⟨h.pt⟩
def mh(ha:zY X ct a p):zY X ct (.UnaryOp .Not a pos) (Bj p):=by have ha:=ha.out;refine ⟨?_⟩;refine PT.imp (NU ha) ?_;refine λ σ H Q=>ah λ Γ j h=>?_;exact Io.bnd j h λ c H' s j' h'=>h' H' s
def M7{op}(h:WD X ct a f):WD X ct (.BoolOp op [a] pos) f:=by have h:=h.out;exact ⟨N9 h⟩
def Na(ha:WD X ct a f)(hb:WD X ct (.BoolOp .And (b::rest) pos) g):WD X ct (.BoolOp .And (a::b::rest) pos) (Lk f g):=by
 have ha:=ha.out;have hb:=hb.out;refine ⟨?_⟩;refine PE.imp (Of ha hb) ?_;refine λ σ H Q=>ah λ Γ j h=>?_;refine oi.bnd j h λ d v H' s t j' h'=>?_;cases d with
 |bl c=>
  simp only[Tl] at t;refine af c t ?_;cases c with
  |true=>exact Ex (af Γ j' (Ok.mono s h' λ d z=>z.mono s))
  |false=>exact Ey (h' _ H' s (by simp[Tl]))
 |_=>exact h'.elim
def M8(ha:WD X ct a f):WD X ct (.UnaryOp .Not a pos) (P8 f):=by
 have ha:=ha.out;refine ⟨?_⟩;refine PE.imp (Oa ha) ?_;refine λ σ H Q=>ah λ Γ j h=>?_;refine oi.bnd j h λ d v H' s t j' h'=>?_;cases d with
 |bl c=>simp only[Tl] at t;exact af c t (h' _ H' s (by simp[Tl]))
 |_=>exact h'.elim
def aA:pN X ct [] aM:=by exact ⟨PA.imp AB λ σ H Q z_=>zX z_ λ Γ j h=>h [] H (aB.refl H) aN.nil⟩
def ai{r:Sg->Res (List D)}(ha:WD X ct e f)(hr:pN X ct es r)(hs:starEach (e::es) X.env=(false,eval e X.env)::starEach es X.env:=by rfl):pN X ct (e::es) (au f r):=by have ha:=ha.out;have hr:=hr.out;refine ⟨?_⟩;refine PA.imp (pW ha hr hs) ?_;refine λ σ H Q=>ah λ Γ j h=>?_;refine oi.bnd j h λ d v H1 s1 t1 j1 h1=>?_;refine EZ.bnd (W:=Wa X ct H Q) j1 (Ok.mono s1 h1 λ _ z=>z) λ ds vs H2 s2 t2 j2 h2=>?_;exact h2 _ H2 (s1.trans s2) (aN.cons (t1.keep (aB.keep s2)) t2)
def bC{H:Hp}{p:Addr}(h:H p=none)(o:HO):aB H (upd H p o):=λ b u q=>by rw[aE (bX q h)];exact q
def iZ{r:Sg->Res (List D)}{x1}(h:pN X ct es r):WD X ct (.Tuple es x1 pos) (ni r):=by
 have h:=h.out;refine ⟨?_⟩;refine PE.imp (N7 h) ?_;refine λ σ H Q=>ah λ Γ j h=>?_;refine EZ.bnd j h λ ds vs H1 s1 t1 j1 h1=>?_;split at h1
 ·rename_i hl;refine ⟨Nat.le_of_lt (nQ (by rw[<-t1.length];exact hl)),λ p hp=>?_⟩;have s2:=bC hp (.tup vs);refine h1 _ _ (s1.trans s2) ?_;simp only[Tl];exact ay p vs rfl aJ (t1.keep (aB.keep s2))
 ·exact h1.elim
def iX{r:Sg->Res (List D)}(h:pN X ct es r):WL X ct (.List es pos) (om r):=by
 have h:=h.out;refine ⟨?_⟩;refine PE.imp (Ob h) ?_;refine λ σ H Q=>ah λ Γ j h=>?_;refine EZ.bnd j h λ ds vs H1 s1 t1 j1 h1=>?_;split at h1
 ·rename_i hl;refine ⟨Nat.le_of_lt (nQ (by rw[<-t1.length];exact hl)),λ p hp=>?_⟩;have s2:=bC hp (.lst vs);exact h1 p vs _ (s1.trans s2) (s1.free hp) aJ (t1.keep (aB.keep s2))
 ·exact h1.elim
end
section
variable{P:Program}{w:World}
def oY(x:bS P w H h a o):∃ob,h.get? a=some ob:=by
 cases o with
 |lst xs=>refine cC (λ _=>aW λ _ _ _ e=>?_) x;exact ⟨_,e⟩
 |tup xs=>refine cC (λ _=>ah λ _ _=>ah λ ob e _=>?_) x;exact ⟨_,e⟩
 |dK kvs=>refine bg (λ _ _=>ah λ _ _=>bT λ o _ _ e _=>?_) x;exact ⟨_,e⟩
 |dT kvs=>refine bg (λ _ _=>ah λ _ _=>bT λ o _ _ e _=>?_) x;exact ⟨_,e⟩
 |set S n=>refine Aq (λ o _ _ _ e _=>?_) x;exact ⟨_,e⟩
 |ins C dx fs=>refine jD (λ _ _ _ e _=>?_) x;exact ⟨_,e⟩
 |own y=>obtain ⟨_,e⟩:=x;exact ⟨_,e⟩
 |xd fs=>revert x;refine ah λ _ z _=>?_;revert z;refine bT λ _ _ _ e _=>?_;exact ⟨_,e⟩
 |VN lo hi=>refine uT (λ _ _ _ e=>?_) x;exact ⟨_,e⟩
 |jP ob u=>obtain ⟨e,_⟩:=x;exact ⟨_,e⟩
 |JB ps=>exact ⟨_,(show h.get? a=some _ from x)⟩
 |met f y=>exact ⟨_,(show h.get? a=some _ from x)⟩
 |ext φ=>revert x;refine bg λ _ z _=>?_;obtain ⟨_,e⟩:=z;exact ⟨_,e⟩
 |EO p q=>obtain ⟨_,e,_⟩:=x;exact ⟨_,e⟩
end
section
variable{X:Cx}{ct:Ct}{pins:List (Addr×Obj)}{σ:St}{H:Hp}{s:Shared}{a:Addr}{o o':HO}{vs:List V}
def Inv.F7(I:Inv X pins σ H s)(ha:H a=some o)(h0:X.H₀ a=none)(nt:∀xs,o≠.tup xs)(no:∀y,o≠.own y)(nz:∀ob y,o≠.jP ob (.own y))(new:bS X.prog X.w (upd H a o') s.heap a o'):Inv X pins σ (upd H a o') s:=by
 have ne:∀b,H b=none->b≠a:=λ b hb z=>by subst z;rw[ha] at hb;cases hb
 have XN:∀b u,X.H₀ b=some u->b≠a:=λ b u hb z=>by subst z;rw[h0] at hb;cases hb
 refine ⟨I.ok,I.os,I.bare,⟨I.base.keep,I.base.slot,λ b u q n hx=>?_,I.base.there,λ b xs q=>?_,λ b u v q=>?_,λ b ps q=>?_⟩,I.loc,I.cell,?_,λ x c h=>?_,λ p hp=>?_,λ b u e=>?_,I.len⟩
 ·have:=I.base.free b u q n hx;rw[aE (ne b this)];exact this
 ·rw[aE (XN b _ q)];exact I.base.tups b xs q
 ·rw[aE (XN b _ q)];exact I.base.n9 b u v q
 ·rw[aE (XN b _ q)];exact I.base.pJ b ps q
 ·rw[aE (ne _ I.free)];exact I.free
 ·rw[aE (ne _ (I.g8 x c h))];exact I.g8 x c h
 ·refine jD (λ h1 h2 h3 h4 h5=>?_) (I.pin p hp);exact nV h1 (by rw[aE (ne _ h2)];exact h2) h3 h4 h5
 ·by_cases hb:b=a
  ·subst hb;rw[aJ] at e;cases e;exact new
  ·rw[aE hb] at e;refine (I.hok b u e).stay (λ c v _ q=>q) (λ c q=>?_) (λ c xs q=>?_) (λ c ob y q=>?_)
   ·have:c≠a:=by rintro rfl;rw[ha] at q;exact no _ (Option.some.inj q)
    rw[aE this];exact q
   ·have:c≠a:=by rintro rfl;rw[ha] at q;exact nt _ (Option.some.inj q)
    rw[aE this];exact q
   ·have:c≠a:=by rintro rfl;rw[ha] at q;exact nz _ _ (Option.some.inj q)
    rw[aE this];exact q
def Inv.freeze(I:Inv X pins σ H s)(ha:H a=some (.lst vs))(h0:X.H₀ a=none):∃ob,Inv X pins σ (upd H a (.jP ob (.lst vs))) s:=by refine cC (λ z=>aW λ its n r e=>?_) (I.hok a _ ha);refine ⟨_,Inv.F7 I ha h0 (λ _ q=>nomatch q) (λ _ q=>nomatch q) (λ _ _ q=>nomatch q) (aV e z (aQ its n r e))⟩
def Inv.vz{ks:Ks}{us:List V}(I:Inv X pins σ H s)(ha:H a=some (ks.ho us))(h0:X.H₀ a=none):∃ob,Inv X pins σ (upd H a (.jP ob (ks.ho us))) s:=by
 have q:=I.hok a _ ha;obtain ⟨ob,e⟩:=oY q;refine ⟨ob,Inv.F7 I ha h0 (λ _ q=>by cases ks<;>cases q) (λ _ q=>by cases ks<;>cases q) (λ _ _ q=>by cases ks<;>cases q) ⟨e,?_⟩⟩;refine q.stay (λ c v _ z=>z) (λ c z=>?_) (λ c xs z=>?_) (λ c ob2 y z=>?_)
 ·have:c≠a:=λ y=>by subst y;rw[ha] at z;cases ks<;>cases z
  rw[aE this];exact z
 ·have:c≠a:=λ y=>by subst y;rw[ha] at z;cases ks<;>cases z
  rw[aE this];exact z
 ·have:c≠a:=λ y=>by subst y;rw[ha] at z;cases ks<;>cases z
  rw[aE this];exact z
structure Fz(X:Cx)(ct:Ct)(pins:List (Addr×Obj))(σ:St)(s:Shared)(S:Fp)(H H':Hp):Prop where
 inv:Inv X pins σ H' s
 un:∀b o,H b=some o->¬S b->H' b=some o
 keep:aX ct.f.cb H H'
 free:∀b,H' b=none->H b=none
def Fz.step(z:Fz X ct pins σ s S H H1)(ha:H1 a=some o)(hs:S a)(no:¬Qu ct.f.cb o)(I:Inv X pins σ (upd H1 a o') s):Fz X ct pins σ s S H (upd H1 a o'):=by
 refine ⟨I,λ b u q n=>?_,z.keep.trans λ b u hb st=>?_,λ b q=>?_⟩
 ·have:b≠a:=by rintro rfl;exact n hs
  rw[aE this];exact z.un b u q n
 ·have:b≠a:=by rintro rfl;rw[ha] at hb;cases hb;exact no st
  rw[aE this];exact hb
 ·by_cases e:b=a
  ·subst e;rw[aJ] at q;cases q
  ·rw[aE e] at q;exact z.free b q
mutual
theorem Inv.zm:∀{m:M} {v:V} {S:Fp} {H:Hp},rE m=true->Inv X pins σ H s->Ow X.K ct H m v S->(∀b,S b->X.H₀ b=none)->∃H',Fz X ct pins σ s S H H'/\Tl X.K ct H' (L4.zm m) v
 | .d x,v,S,H,fo,I,h,_=>by simp only[Ow] at h;exact af H ⟨I,λ _ _ q _=>q,aX.refl H,λ _ q=>q⟩ (by simpa only[L4.zm] using h)
 | .l xs,v,S,H,fo,I,h,n=>by
  simp only[Ow] at h
  revert h;refine aL λ a vs y h2 h3 h4=>?_;subst y
  obtain ⟨ob,I2⟩:=Inv.freeze I h3 (n a h2);have z:Fz X ct pins σ s S H H:=⟨I,λ _ _ q _=>q,aX.refl H,λ _ q=>q⟩;have z2:=z.step h3 h2 (λ q=>q) I2;refine af _ z2 ?_;simp only[L4.zm,Tl];exact ay a vs rfl (.inl ⟨ob,aJ⟩) (h4.keep z2.keep)
 | .n ms,v,S,H,fo,I,h,n=>by
  simp only[Ow] at h
  revert h;refine aL λ a vs y h2 h3 h4=>?_;subst y
  refine ah (λ H1 z1 t1=>?_) (Inv.m6 (by simpa[rE] using fo) I h4 λ b w=>n b w.1);have h3':=z1.un a _ h3 λ w=>w.2 rfl;obtain ⟨ob,I2⟩:=Inv.freeze z1.inv h3' (n a h2);have z2:Fz X ct pins σ s S H H1:=⟨z1.inv,λ b o q w=>z1.un b o q λ u=>w u.1,z1.keep,z1.free⟩;have z3:=z2.step h3' h2 (λ q=>q) I2;refine af _ z3 ?_;simp only[L4.zm,Tl];exact ay a vs rfl (.inl ⟨ob,aJ⟩) (t1.keep (aX.lst h3'))
 | .t ms,v,S,H,fo,I,h,n=>by
  simp only[Ow] at h
  revert h;refine aq λ a vs y h2 h3=>?_;subst y
  refine ah (λ H1 z1 t1=>?_) (Inv.m6 (by simpa[rE] using fo) I h3 n);refine af H1 z1 ?_;simp only[L4.zm,Tl];exact ay a vs rfl (z1.keep _ _ h2 trivial) t1
 | .k ks xs,v,S,H,fo,I,h,n=>by
  simp only[Ow] at h
  revert h;refine cR λ a vs y h2 h3 h4 h5=>?_;subst y
  obtain ⟨ob,I2⟩:=Inv.vz I h3 (n a h2);have z:Fz X ct pins σ s S H H:=⟨I,λ _ _ q _=>q,aX.refl H,λ _ q=>q⟩;have z2:=z.step h3 h2 Ks.mU I2;refine af _ z2 ?_;simp only[L4.zm,Tl];exact bh a vs rfl ⟨ob,aJ⟩ h4 (h5.keep z2.keep)
 | .o c ns xs,v,S,H,fo,I,h,n=>by simp[rE] at fo
 | .q ks ms,v,S,H,fo,I,h,n=>by
  simp only[Ow] at h
  revert h;refine cR λ a vs y h2 h3 h4 h5=>?_;subst y
  refine ah (λ H1 z1 t1=>?_) (Inv.m6 (by simpa[rE] using fo) I h5 λ b w=>n b w.1);have h3':=z1.un a _ h3 λ w=>w.2 rfl;obtain ⟨ob,I2⟩:=Inv.vz z1.inv h3' (n a h2);have z2:Fz X ct pins σ s S H H1:=⟨z1.inv,λ b o q w=>z1.un b o q λ u=>w u.1,z1.keep,z1.free⟩;have z3:=z2.step h3' h2 Ks.mU I2;refine af _ z3 ?_;simp only[L4.zm,Tl];exact bh a vs rfl ⟨ob,aJ⟩ h4 (t1.keep (λ b u hb st=>by
   have:b≠a:=by rintro rfl;rw[h3'] at hb;cases hb;exact Ks.mU st
   rw[aE this];exact hb))
theorem Inv.m6:∀{ms:List M} {vs:List V} {S:Fp} {H:Hp},mZ ms=true->Inv X pins σ H s->bK X.K ct H ms vs S->(∀b,S b->X.H₀ b=none)->∃H',Fz X ct pins σ s S H H'/\aN X.K ct H' (L4.m6 ms) vs
 |[],vs,S,H,fo,I,h,_=>by simp only[bK] at h;exact af H ⟨I,λ _ _ q _=>q,aX.refl H,λ _ q=>q⟩ (by simpa only[L4.m6,aN] using h)
 |m::ms,vs,S,H,fo,I,h,n=>by
  simp only[bK] at h
  revert h;refine cA λ v r S1 S2 z h2 h3 h4 h5 h6=>?_;subst z
  refine ah (λ H1 z1 t1=>?_) (Inv.zm (Bool.and_eq_true_iff.mp (by simpa[mZ] using fo)).1 I h5 λ b w=>n b (h2 b w));have Yv:=h6.frame z1.keep λ b o w q=>z1.un b o q λ u=>h4 b u w;refine ah (λ H2 z2 t2=>?_) (Inv.m6 (Bool.and_eq_true_iff.mp (by simpa[mZ] using fo)).2 z1.inv Yv λ b w=>n b (h3 b w));refine af H2 ⟨z2.inv,λ b o q w=>z2.un b o (z1.un b o q λ u=>w (h2 b u)) λ u=>w (h3 b u),z1.keep.trans z2.keep,λ b q=>z1.free b (z2.free b q)⟩ ?_;simp only[L4.m6,aN];exact ay v r rfl (t1.keep z2.keep) t2
end
def yt{e:Expr}(h:PL X ct e f):PM X ct e (mL f):=by
 refine PE.imp h λ σ H Q z_=>zX z_ λ Γ j q=>af Γ j (q.bnd λ ds _ w a vs H' s n k t=>?_);refine w (.ref a) H' (λ b=>b=a) s ?_ (λ b z=>z▸n) λ b z q=>by subst z;rw[k] at q;cases q
 simp only[Ow];exact bh a vs rfl rfl k t
def dF{e:Expr}(h:WL X ct e f):WM X ct e (mL f):=⟨yt (h:=h.out)⟩
def yu{e:Expr}(h:PD X ct e f):PM X ct e (mD f):=by refine PE.imp h λ σ H Q z_=>zX z_ λ Γ j q=>af Γ j (q.bnd λ d _ w v H' s t=>?_);exact w v H' (λ _=>False) s (by simpa only[Ow] using t) (λ _ z=>z.elim) λ _ z=>z.elim
def mS{e:Expr}(h:PM X ct e f):PD X ct e (zA f):=by
 refine λ pins s σ H Q I=>ah λ Γ j q=>?_;have t:XW X ct f σ H (λ v H'=>∃m S,aB H H'/\Ow X.K ct H' m v S/\(∀b,S b->H b=none)/\rE m=true/\Wd X ct H Q (zm m)):=
  af Γ j (q.bnd λ m _ w v H' S s o n k=>by
   unfold vq at w;split at w
   ·rename_i fo;exact bN m S s o n fo w
   ·exact w.elim)
 refine dm (h pins s σ H _ I t) ?_;refine λ v s1=>aq λ x H1 I1 r1=>cR λ m S e1 o n fo w=>?_;refine ah (λ H2 z t2=>?_) (Inv.zm fo I1 o λ b u=>j.free b (n b u));exact ay x H2 z.inv r1 (w x H2 (λ b u q=>z.un b u (e1 b u q) λ y=>by rw[n b y] at q;cases q) t2)
def bM{e:Expr}(h:WL X ct e f):WD X ct e (lX f):=by
 have h:=h.out;refine ⟨?_⟩;have e':lX f=zA (mL f):=funext λ Γ=>by simp only[lX,zA,mL];cases f Γ<;>rfl
 rw[e'];exact mS (yt h)
end
section
variable{X:Cx}{c:Cf}{st:Stmt}{rest:List Stmt}{F G:Sg->Out}{e:Expr}{f:Sg->Res D}{fl:Sg->Res M}{p:Sg->Res Bool}{pos:Pos}{H:Hp}{Γ:Sg}{σ:St}
theorem Fn.ok{α:Type}{B:Hp}{tm:Bool}{r:Res α}{k:α->Out}{E:Ends}{W:α->Prop}(j:Jx X c.z Γ σ H)(h:Fn X c H (oE r Γ k) E)(w:∀d,r= .ok d->Fn X c H (k d) E->W d):Ok X ⟨c,B,tm⟩ σ H r W:=by
 cases r with
 |ok d=>exact w d rfl h
 |err x=>exact λ e s' q=>h σ H e s' (aX.refl H) j q
 |bad=>exact h.elim
def bA:oF X c [] di:=by exact ⟨zZ.imp J3 λ E σ H z_=>zX z_ λ Γ j h=>h σ H (aX.refl H) j⟩
def ak(h1:sQ X c st F)(h2:oF X c rest G):oF X c (st::rest) (aZ F G):=by
 have h1:=h1.out;have h2:=h2.out;refine ⟨?_⟩;refine zZ.imp (F8 h1 h2) λ E σ H z_=>zX z_ λ Γ j h=>af Γ j ?_;unfold aZ at h;cases q:F Γ with
 |nx Γ'=>rw[q] at h;exact λ σ' H' k j'=>af Γ' j' (h.mono k)
 |bk Γ'=>rw[q] at h;exact h
 |ct Γ'=>rw[q] at h;exact h
 |rt d=>rw[q] at h;exact h
 |zV ds=>rw[q] at h;exact h
 |L7 d Γ'=>rw[q] at h;exact h
 |yo d Γ'=>rw[q] at h;exact h
 |err x Γ'=>rw[q] at h;exact h
 |bad=>rw[q] at h;exact h
def aF(h1:sQ X c st F):oF X c [st] F:=by have h1:=h1.out;exact ⟨J1 h1⟩
def bq(he:WD X c.z e f):sQ X c (.Return (some e) pos) (eE f):=by have he:=he.out;exact ⟨PS.imp (Ax he) λ E σ H z_=>zX z_ λ Γ j h=>af Γ j (Fn.ok j h λ d _ q v H' s t=>q v H' (j.mono s).bk t)⟩
def mq(he:∀B,WM X (c.at' B) e fl):sQ X c (.Return (some e) pos) (tG fl):=by
 have he:=λ B=>(he B).out;refine ⟨?_⟩;refine λ pins s σ H E I=>ah λ Γ j h=>?_;refine Ax (he H) pins s σ H E I (af Γ j.lift (Fn.ok j h λ m _ q v H' S s o n k=>?_));split at q
 ·rename_i nn;exact q v H' S (j.mono s).bk (o.down nn) (λ b z=>j.free b (n b z)) k
 ·exact q.elim
def jz(i:Nat)(hN:X.N[i]? =some x:=by rfl)(hv:IP X.env.scope x:=by first|exact Or.inl rfl|exact Or.inr (Or.inl rfl)|exact Or.inr (Or.inr rfl))(hd:(x==("__debug__":Str))=false:=by decide)(hcd:(x==("__classdict__":Str))=false:=by decide):sQ X c (.Return (some (.Name x pos')) pos) (jn i):=by
 refine ⟨?_⟩;refine PS.imp (Ax (uW hN hv hd hcd)) ?_;refine λ E σ H=>ah λ Γ j h=>?_;unfold jn at h;split at h
 ·rename_i m hi;refine aL (λ v S h1 h2 h3 h4=>?_) (j.own hi);exact af _ h1 (h v H S j.bk h2 h4 h3.here)
 ·rename_i d hi;refine ah (λ v h1 h2=>?_) (j.val hi);exact af _ h1 (h v H j.bk h2)
 ·exact h.elim
def Fo(hc:∀B,zY X (c.at' B) ce p)(ha:oF X c a F)(hb:oF X c b G):sQ X c (.If ce a b pos) (qB p F G):=by
 have hc:=λ B=>(hc B).out;have ha:=ha.out;have hb:=hb.out;refine ⟨?_⟩;refine λ pins s σ H E I=>ah λ Γ j h=>?_;refine Ma (hc H) ha hb pins s σ H E I (af Γ j.lift (Fn.ok j h λ x _ q H' s=>?_));cases x with
 |true=>exact Ex (af Γ (j.mono s) (Fn.mono (aB.keep s) q))
 |false=>exact Ey (af Γ (j.mono s) (Fn.mono (aB.keep s) q))
def aR(i:Nat)(hN:X.N.Nodup)(he:WD X c.z e f)(hi:X.N[i]? =some x:=by rfl)(hx:Loc X.env.scope x:=by first|exact Or.inl rfl|exact Or.inr rfl)(hs:swapsWith e (some (.Name x pos')) pos.line X.env=pure false:=by rfl)(hf:X.fn x=true\/X.env.scope.names.lookup x=some .local:=by first|exact .inl rfl|exact .inr rfl):sQ X c (.Assign [.Name x pos'] e pos) (bR i f):=by have he:=he.out;exact ⟨PS.imp (Ga hN hi hx he hs hf) λ E σ H z_=>zX z_ λ Γ j h=>af Γ j (Fn.ok j h λ d _ q v H' s t=>q _ H' (aB.keep s) ((j.mono s).set t))⟩
def fO(i:Nat)(hN:X.N.Nodup)(he:∀B,WM X (c.at' B) e fl)(hi:X.N[i]? =some x:=by rfl)(hx:Loc X.env.scope x:=by first|exact Or.inl rfl|exact Or.inr rfl)(hs:swapsWith e (some (.Name x pos')) pos.line X.env=pure false:=by rfl)(hf:X.fn x=true\/X.env.scope.names.lookup x=some .local:=by first|exact .inl rfl|exact .inr rfl):sQ X c (.Assign [.Name x pos'] e pos) (iP i fl):=by
 have he:=λ B=>(he B).out;refine ⟨?_⟩;refine λ pins s σ H E I=>ah λ Γ j h=>?_;refine Ga hN hi hx (he H) hs hf pins s σ H E I (af Γ j.lift (Fn.ok j h λ m _ q v H' S s o n k=>?_));split at q
 ·rename_i nn;exact q _ H' (aB.keep s) (j.setM s rfl (o.down nn) n k)
 ·exact q.elim
end
section
variable{X:Cx}{ct:Ct}{tg:Expr}{H:Hp}{Γ:Sg}{σ:St}{pos:Pos}
def Z2(X:Cx)(ct:Ct)(t:Tg):TG:=λ v σ H Q=>∃Γ d Γ',Jx X ct Γ σ H/\Tl X.K ct H d v/\t d Γ=some Γ'/\∀σ',Jx X ct Γ' σ' H->Q σ' H
def Uw(X:Cx)(ct:Ct)(t:IQ):LD:=λ vs σ H Q=>∃Γ ds Γ',Jx X ct Γ σ H/\aN X.K ct H ds vs/\t ds Γ=some Γ'/\∀σ',Jx X ct Γ' σ' H->Q σ' H
def PG.imp{t u:TG}(h:PG X tg t)(k:∀v σ H Q,u v σ H Q->t v σ H Q):PG X tg u:=λ pins s σ H v w Q I r q=>h pins s σ H v w Q I r (k v σ H Q q)
def IV.imp{es:List Expr}{t u:LD}(h:IV X es t)(k:∀v σ H Q,u v σ H Q->t v σ H Q):IV X es u:=λ pins s σ H v w Q I r q=>h pins s σ H v w Q I r (k v σ H Q q)
abbrev WK(X:Cx)(ct:Ct)(tg:Expr)(t:Tg):Prop:=PG X tg (Z2 X ct t)
abbrev ack(X:Cx)(ct:Ct)(tg:List Expr)(t:IQ):Prop:=IV X tg (Uw X ct t)
structure WG(X:Cx)(tg:Expr)(t:TG):Prop where
 out:PG X tg t
structure WGs(X:Cx)(tg:List Expr)(t:LD):Prop where
 out:IV X tg t
abbrev Qo(X:Cx)(ct:Ct)(tg:Expr)(t:Tg):Prop:=WG X tg (Z2 X ct t)
abbrev LB(X:Cx)(ct:Ct)(tg:List Expr)(t:IQ):Prop:=WGs X tg (Uw X ct t)
def aP(i:Nat)(hN:X.N.Nodup)(hi:X.N[i]? =some x:=by rfl)(hx:Loc X.env.scope x:=by first|exact Or.inl rfl|exact Or.inr rfl)(hf:X.fn x=true\/X.env.scope.names.lookup x=some .local:=by first|exact .inl rfl|exact .inr rfl):Qo X ct (.Name x pos) (aG i):=by refine ⟨?_⟩;refine PG.imp (Kc hN hi hx hf) ?_;refine λ v σ H Q=>nT λ Γ d Γ' j t e q=>?_;cases e;exact q _ (j.set t)
def eB:LB X ct [] cW:=by
 refine ⟨?_⟩;refine IV.imp Ka ?_;refine λ vs σ H Q=>nT λ Γ ds Γ' j t e q=>?_;cases ds with
 |nil=>simp only[aN] at t;cases e;exact ⟨t,q _ j⟩
 |cons d r=>cases e
def bw{e:Expr}(h1:Qo X ct e t)(h2:LB X ct es u)(hs:(assignEach (e::es) X.env).map (·.2)=assign e X.env::(assignEach es X.env).map (·.2):=by rfl):LB X ct (e::es) (aS t u):=by
 have h1:=h1.out;have h2:=h2.out;refine ⟨?_⟩;refine IV.imp (Gn h1 h2 hs) ?_;refine λ vs σ H Q=>nT λ Γ ds Γ' j tl e q=>?_;cases ds with
 |nil=>cases e
 |cons d r=>
  simp only[aN] at tl
  revert tl;refine aq λ v vr z t1 t2=>?_;subst z
  simp only[aS,Option.bind_eq_some_iff] at e
  revert e;refine ah λ Γ1 e1 e2=>?_
  exact aQ v vr rfl (iC Γ d Γ1 j t1 e1 (λ σ' j'=>iC Γ1 r Γ' j' t2 e2 q))
def gm(hc:X.calm=true)(h:LB X ct es t)(hn:(assignEach es X.env).length=n:=by rfl)(hst:(assignEach es X.env).findIdx? (·.1)=none:=by rfl):Qo X ct (.Tuple es k pos) (cL n t):=by
 have h:=h.out;refine ⟨?_⟩;refine PG.imp (N5 hc h hn hst) ?_;refine λ v σ H Q=>nT λ Γ d Γ' j tl e q=>?_;cases d with
 |tup ds=>
  simp only[Tl] at tl
  revert tl;refine aq λ a vs z h1 h2=>?_;subst z
  simp only[cL] at e;split at e
  ·rename_i hl;exact bh a vs rfl (kE h1) (by rw[<-h2.length];exact hl) (iC Γ ds Γ' j h2 e q)
  ·cases e
 |_=>cases e
def Jr{c:Cf}(i j:Nat){x y:Str}{a b:Expr}{r:Sg->Res (List D)}{px py pt:Pos}{kt k2 NV}(hc:X.calm=true)(hN:X.N.Nodup)(ha:pN X c.z [a,b] r)(hi:X.N[i]? =some x:=by rfl)(hj:X.N[j]? =some y:=by rfl)(hij:i≠j:=by decide)(hx:X.env.scope.names.lookup x=some .local:=by rfl)(hy:X.env.scope.names.lookup y=some .local:=by rfl)(hw:swappedStores [.Tuple [.Name x px,.Name y py] kt pt] (.Tuple [a,b] k2 NV) X.env=pure (some [x,y]):=by rfl)(hs:swapsWithSole [.Tuple [.Name x px,.Name y py] kt pt] (.Tuple [a,b] k2 NV) pos.line X.env=pure false:=by rfl):sQ X c (.Assign [.Tuple [.Name x px,.Name y py] kt pt] (.Tuple [a,b] k2 NV) pos) (NF i j r):=by
 have ha:=ha.out;refine ⟨?_⟩;refine PS.imp (NW hc hN hi hj hij hx hy ha hw hs) λ E σ H z_=>zX z_ λ Γ j h=>af Γ j (Fn.ok j h λ ds _ q vs H' s tl=>?_);match ds,q,tl with
 |[d1,d2],q,tl=>
  simp only[aN] at tl
  revert tl;refine aq λ v1 r1 z t1=>aq λ v2 r2 w t2 u=>?_;subst z;subst w;subst u
  exact aQ v1 v2 rfl (q _ H' (aB.keep s) (((j.mono s).set t1).set t2))
 |[],q,_=>exact q.elim
 |[_],q,_=>exact q.elim
 |_::_::_::_,q,_=>exact q.elim
end
structure Good(X:Cx):Prop where
 po:PassesOwn (model X.prog X.w) X.A X.env X.xe
 calm:X.calm=true
 nd:X.N.Nodup
 own:X.stack=X.env::X.outer/\X.env.frame=some X.env.locals
section
variable{X:Cx}{c:Cf}{tg iter:Expr}{f:Sg->Res D}{t:Tg}{B:Sg->Out}{body:List Stmt}{pos:Pos}
def Jz{d:D}(k1:aX c.cb H' H1)(e1:t d Γ1=some Γ2)(hx:cS t B (d::xs) Γ1=o)(h:Fn X c H' o E)(hn:∀Γ3 σ3 H3,aX c.cb H' H3->Jx X c.z Γ3 σ3 H3->cS t B xs Γ3=o->Pn σ3 H3):Fn X c H1 (B Γ2) {E with nx:=Pn,ct:=Pn,bk:=E.nx}:=by
 simp only[cS,e1] at hx;cases q:B Γ2 with
 |nx Γ3=>rw[q] at hx;exact λ σ3 H3 k3 j3=>hn Γ3 σ3 H3 (k1.trans k3) j3 hx
 |ct Γ3=>rw[q] at hx;exact λ σ3 H3 k3 j3=>hn Γ3 σ3 H3 (k1.trans k3) j3 hx
 |bk Γ3=>rw[q] at hx;subst hx;exact λ σ3 H3 k3 j3=>h σ3 H3 (k1.trans k3) j3
 |rt d=>rw[q] at hx;subst hx;exact h
 |zV d=>rw[q] at hx;subst hx;exact h
 |L7 d Γ3=>rw[q] at hx;subst hx;exact h
 |yo d Γ3=>rw[q] at hx;subst hx;exact h
 |err x Γ3=>rw[q] at hx;subst hx;exact λ σ3 H3 e s' k3 j3 r=>h σ3 H3 e s' (k1.trans k3) j3 r
 |bad=>rw[q] at hx;subst hx;exact h
def Kr{d:D}(e:t d Γ1=none)(hx:cS t B (d::xs) Γ1=o)(h:Fn X c H' o E):False:=by simp only[cS,e] at hx;subst hx;exact h
end
section
variable{X:Cx}{c:Cf}{e:Expr}{f:Sg->Res D}{fm:Sg->Res M}{p:Sg->Res Bool}
end
def Xn(K:W.Frag)(cb:Cb)(n:Nat)(F:List Slot->dN):Sp:=λ vs H Q E=>vs.length=n/\∃(c:Cf) (as:List Slot),c.cb=cb/\c.args=vs/\J K c.z H as (vs.map some) H/\match F as with
 | .ok d=>∀v H',(∀b o,H b=some o->¬c.io b->H' b=some o)->(∀b,H' b=none->H b=none)->Tl K c.z H' d v->Q v H'
 | .new m=>∀v H' S,(∀b o,H b=some o->¬c.io b->H' b=some o)->(∀b,H' b=none->H b=none)->Ow K c.z H' m v S->(∀b,S b->H b=none)->(∀b,S b->H' b≠none)->Q v H'
 | .Tv d os=>∀v Γ' σ' H',J K c.z H Γ' σ' H'->nW 0 Γ'=os->Tl K c.z H' d v->Q v H'
 | .GU m os=>∀Γ' σ' H' (i:Nat) v,J K c.z H Γ' σ' H'->nW 0 Γ'=os->Γ'[i]? =some (Slot.par m)->σ'[i]? =some (some v)->Q v H'
 | .err x=>∀C H',cb.exc x=some C->(∀b o,H b=some o->¬c.io b->H' b=some o)->E (.ref C) none H'
 | .bad=>False
abbrev jj(P:Program)(w:World)(K:W.Frag)(mg:Str->Option Value)(base:Heap)(cb:Cb)(k:Nat)(f:Addr)(fd:FuncData)(ps:List Str)(F:List Slot->dN):Prop:=QD P w K mg base (Bw P w) k f fd ps (Xn K cb ps.length F)
abbrev gw(cb:Cb)(L:Hp)(vs:List V):Cf:=⟨cb,L,λ _=>False,vs⟩
def HA{K:W.Frag}{cb:Cb}{L H:Hp}{ds:List D}{vs:List V}(l:aB L H)(lx:aB cb.xt L)(t:aN K (gw cb L vs).z H ds vs):J K (gw cb L vs).z H (ds.map Slot.val) (vs.map some) H:=by
 refine ⟨λ _ _ q _=>q,λ _ q=>q,l,λ _ _ q=>(nomatch q),lx,by simp[t.length],λ _ _=>False,λ i sl ov h1 h2=>?_,λ _ _ _ _ z=>z.elim,λ _ _ z=>z.elim⟩;rw[List.getElem?_map] at h1 h2;cases q:ds[i]? with
 |none=>rw[q] at h1;cases h1
 |some d=>refine ah (λ v e1 e2=>?_) (t.get q);rw[q] at h1;rw[e1] at h2;cases h1;cases h2;exact ⟨af v rfl e2,λ _ z=>z⟩
section
variable{X:Cx}{cb:Cb}{k:Nat}{f C:Addr}{fd:FuncData}{ps:List Str}{F:List Slot->dN}{x:Str}{p pos apos:Pos}{e o:Expr}{es:List Expr}{fa:Sg->Res (List D)}
def M3(X:Cx)(c:Cf)(σ:St)(H:Hp)(a:dN)(Q:VK):Prop:=match a with
 | .ok d=>∀v H',aB H H'->Tl X.K c.z H' d v->Q v H'
 | .new m=>∀v H' S,aB H H'->Ow X.K c.z H' m v S->(∀b,S b->H b=none)->(∀b,S b->H' b≠none)->Q v H'
 | .err x=>∀e s',fU X c.cb σ H x e s'->X.xe e s'
 |_=>False
def JL{s:Shared}{Q:VK}(G:jj X.prog X.w X.K X.mg X.base cb k f fd ps F)(hr:dH k X.A)(hb:Binds X.K fd ps [])(I:Inv X pins σ H s)(r:Vals vs us)(l:aB L H)(lx:aB cb.xt L)(t:aN X.K (gw cb L vs).z H ds vs)(hn:vs.length=ps.length)(h:M3 X (gw cb L vs) σ H (F (ds.map .val)) Q):wpAny (model X.prog X.w) X.A (call (.ref f) us) (EP X pins σ Q) X.xe s:=by
 have hl:us.length=ps.length:=by rw[<-r.length];exact hn
 have hb':=hb s us I.Hz (by rw[List.append_nil];exact hl);rw[List.append_nil] at hb';let E:XK:=λ cls od H'=>∃x C,F (ds.map .val)= .err x/\cb.exc x=some C/\cls= .ref C/\od=none/\aB H H'
 have E4:Xn X.K cb ps.length F vs H Q E:=by
  refine ⟨hn,bh (gw cb L vs) (ds.map .val) rfl rfl (HA l lx t) ?_⟩;cases q:F (ds.map .val) with
  |ok d=>rw[q] at h;exact λ v H' s _ t=>h v H' (λ b o z=>s b o z λ w=>w) t
  |new m=>rw[q] at h;exact λ v H' S s _ o n k=>h v H' S (λ b o z=>s b o z λ w=>w) o n k
  |Tv d os=>rw[q] at h;exact h.elim
  |GU d os=>rw[q] at h;exact h.elim
  |err x=>exact λ C H' e s=>bN x C q e rfl rfl (λ b o z=>s b o z λ w=>w)
  |bad=>rw[q] at h;exact h
 refine wpAny_call (codeAny_mono (G.run X.A X.stack s H ⟨us,[]⟩ us vs Q E hr I.YH hb' r E4) λ r s' hq=>?_);cases r with
 |error e=>obtain ⟨a,C,H',B,a0,h1,⟨x,C',q1,q2,q3,q4,q5⟩,h3,h4,h5,h6,Yv,h7⟩:=hq;rw[q1] at h;cases q3;exact h e s' (Au pins H s C I (aB.refl H) q2 (.inr (As a C H' B a0 h1 (aV rfl rfl q5) h3 h4 h5 h6 Yv h7)))
 |ok fl=>
  cases fl with
  |ret u=>exact I.after hq
  |next=>exact False.elim hq
  |brk=>exact False.elim hq
  |cont=>exact False.elim hq
structure DL(ct:Ct)(md:List D->Option (List D))(bk:D->Bool)(Bl:M->Bool):Prop where
 go:∀K H ds vs ds',aB ct.f.L H->aB ct.B H->aN K ct H ds vs->md ds=some ds'->∃L,aB L H/\aB ct.f.L L/\aN K (gw ct.f.cb L vs).z H ds' vs/\
  (∀H' d v,bk d=true->Tl K (gw ct.f.cb L vs).z H' d v->Tl K ct H' d v)/\∀H' m v S,Bl m=true->Ow K (gw ct.f.cb L vs).z H' m v S->Ow K ct H' m v S
def uG{K:W.Frag}{ct dj:Ct}{H:Hp}(e:dj.f.cb=ct.f.cb)(l:∀t a o,ct.lo t a=some o->dj.lo t a=some o){d:D}{v:V}(h:Tl K ct H d v):Tl K dj H d v:=by have:=Tl.re (ct:=ct) (dj:=dj) (p:=λ _=>true) (g:=id) ⟨e,λ t a o _ q=>l t a o q⟩ (vc d) h;rwa [qC] at this
def qt{K:W.Frag}{ct dj:Ct}{H:Hp}(e:dj.f.cb=ct.f.cb)(l:∀t a o,ct.lo t a=some o->dj.lo t a=some o){d:List D}{v:List V}(h:aN K ct H d v):aN K dj H d v:=by have:=aN.re (ct:=ct) (dj:=dj) (p:=λ _=>true) (g:=id) ⟨e,λ t a o _ q=>l t a o q⟩ (jJ d) h;rwa [jX] at this
def Cc{K:W.Frag}{ct dj:Ct}{H:Hp}(e:dj.f.cb=ct.f.cb)(l:∀t a o,ct.lo t a=some o->dj.lo t a=some o){m:M}{v:V}{S:Fp}(h:Ow K ct H m v S):Ow K dj H m v S:=Ow.map (p:=λ _=>true) e (λ _ _ _=>uG e l) (q:=λ _=>true) (λ _ _ _=>qt e l) (pm:=λ _=>true) (zW:=λ _=>true) (λ _ _=>rfl) (λ _ _=>rfl) (λ _ _=>rfl) (λ _ _=>rfl) (λ _ _ _=>rfl) (λ _ _ _ _=>rfl) (λ _ _ _=>rfl) (λ _ _ _=>⟨rfl,rfl⟩) rfl h
def yW(c:Cf):DL c.z some (λ _=>true) (λ _=>true):=⟨λ K H ds vs ds' l b t e=>by
 cases e;have q:∀t a o,c.z.lo t a=some o->(gw c.cb c.L vs).z.lo t a=some o:=λ t a o z=>by cases t<;>exact z
 have q':∀t a o,(gw c.cb c.L vs).z.lo t a=some o->c.z.lo t a=some o:=λ t a o z=>by cases t<;>exact z
 exact Av c.L l (aB.refl _) (qt (ct:=c.z) (dj:=(gw c.cb c.L vs).z) rfl q t) (λ H' d v _ t=>uG (ct:=(gw c.cb c.L vs).z) (dj:=c.z) rfl q' t) (λ H' m v S _ t=>Cc (ct:=(gw c.cb c.L vs).z) (dj:=c.z) rfl q' t)⟩
def Cn(ct:Ct):DL ct (λ ds=>if eu ds=true then some ds else none) (λ _=>true) (λ _=>true):=⟨λ K H ds vs ds' l b t e=>by
 split at e
 ·rename_i n;cases e;have q:∀t a o,ct.f.z.lo t a=some o->(gw ct.f.cb ct.f.L vs).z.lo t a=some o:=λ t a o z=>by cases t<;>exact z
  have q':∀t a o,(gw ct.f.cb ct.f.L vs).z.lo t a=some o->ct.lo t a=some o:=λ t a o z=>by
   cases t with
   |true=>cases z
   |false=>exact z
  obtain ⟨cf,B,tm⟩:=ct;exact Av cf.L l (aB.refl _) (qt (ct:=cf.z) (dj:=(gw cf.cb cf.L vs).z) rfl q (aN.down t n)) (λ H' d v _ t=>uG (ct:=(gw cf.cb cf.L vs).z) (dj:=⟨cf,B,tm⟩) rfl q' t) (λ H' m v S _ t=>Cc (ct:=(gw cf.cb cf.L vs).z) (dj:=⟨cf,B,tm⟩) rfl q' t)
 ·cases e⟩
def KD(ct:Ct):DL ct (λ ds=>some (lW ds)) nb AJ:=⟨λ K H ds vs ds' l b t e=>by cases e;exact Av H (aB.refl H) l (t.lent rfl rfl l b) (λ H' d v n t=>Tl.bare (ct:=(gw ct.f.cb H vs).z) (dj:=ct) rfl t n) (λ H' m v S n t=>Ow.bare (ct:=(gw ct.f.cb H vs).z) (dj:=ct) rfl t n)⟩
def QH(X:Cx)(ct:Ct)(bk:D->Bool)(Bl:M->Bool)(σ:St)(H:Hp)(a:dN)(Q:VK):Prop:=match a with
 | .ok d=>bk d=true/\Wd X ct H Q d
 | .new m=>Bl m=true/\Wm X ct H Q m
 | .err x=>∀e s',fU X ct.f.cb σ H x e s'->X.xe e s'
 |_=>False
def Mt(X:Cx)(ct:Ct)(md:List D->Option (List D))(bk:D->Bool)(Bl:M->Bool)(n:Nat)(F:List Slot->dN)(fa:Sg->Res (List D)):TE:=λ σ H Q=>∃Γ,Jx X ct Γ σ H/\Ok X ct σ H (fa Γ) λ ds=>ds.length=n/\∃ds',md ds=some ds'/\∀H',aB H H'->QH X ct bk Bl σ H' (F (ds'.map .val)) Q
variable{ct:Ct}{md:List D->Option (List D)}{bk:D->Bool}{Bl:M->Bool}
def Lv{Q:VK}(h:QH X ct bk Bl σ H a Q)(q1:∀H' d v,bk d=true->Tl X.K (gw ct.f.cb L vs).z H' d v->Tl X.K ct H' d v)(q2:∀H' m v S,Bl m=true->Ow X.K (gw ct.f.cb L vs).z H' m v S->Ow X.K ct H' m v S):
  M3 X (gw ct.f.cb L vs) σ H a Q:=by
 cases a with
 |ok d=>exact λ v H' s t=>h.2 v H' s (q1 H' d v h.1 t)
 |new m=>exact λ v H' S s o n k=>h.2 v H' S s (q2 H' m v S h.1 o) n k
 |err x=>exact h
 |Tv d os=>exact h
 |GU d os=>exact h
 |bad=>exact h
def mR(Z:DL ct md bk Bl)(G:jj X.prog X.w X.K X.mg X.base ct.f.cb k f fd ps F)(hr:dH k X.A)(hm:X.mg x=some (.ref f))(hk:W.keepIn X.K (.ref f)=true)(hb:Binds X.K fd ps [])(ha:Qv X ct (e::es) fa)(hg:Gl X x:=by rfl) (hdb:(x==("__debug__":Str))=false:=by decide) (he:starEach (e::es) X.env=(false,eval e X.env)::starEach es X.env:=by rfl) (hpl:(backTo pos (starEach es X.env)).any (·.1)=false:=by rfl):
  PE X (.Call (.Name x p) (e::es) [] pos) (Mt X ct md bk Bl ps.length F fa):=by
 refine λ pins s σ H Q I=>ah λ Γ j h=>?_;refine wpAny_Call_Name_kw (vh I hg hm ?_ hdb);have h':EZ X ct fa σ H (λ vs H1=>∃ds ds',aB H H1/\aN X.K ct H1 ds vs/\ds.length=ps.length/\md ds=some ds'/\QH X ct bk Bl σ H1 (F (ds'.map .val)) Q):=
  af Γ j (Ok.mono (aB.refl H) h λ ds ⟨q1,ds',q2,q3⟩ vs H1 s1 t1=>bN ds ds' s1 t1 q1 q2 (q3 H1 s1))
 refine W.callWith_K (h₀:=X.base) I.ok.mod.Ru hk (dm (ha pos pins s σ H _ I h') ?_) he hpl;refine λ us s1=>aq λ vs H1 I1 r=>cR λ ds ds' sm t1 hl hd q=>?_;refine ⟨I1.Hz,?_⟩;have j1:=j.mono sm;refine NP (λ L l lx t2 q1 q2=>?_) (Z.go X.K H1 ds vs ds' j1.lL j1.lB t1 hd);exact JL G hr hb I1 r l (j.xt.trans lx) t2 (by rw[<-t1.length];exact hl) (Lv q q1 q2)
def Wm.mono{Q:VK}(s:aB H H2)(h:Wm X ct H Q m):Wm X ct H2 Q m:=λ v H' S e o n k=>h v H' S (s.trans e) o (λ b z=>s.free (n b z)) k
def Wm.data{Q:VK}{d:D}(h:Wm X ct H Q (.d d)):Wd X ct H Q d:=λ v H' e t=>h v H' (λ _=>False) e (by simpa only[Ow] using t) (λ _ z=>z.elim) λ _ z=>z.elim
def uU(h:PE X e (Mt X ct md bk Bl n F fa))(hg:∀Γ,g Γ=(fa Γ).bnd λ ds=>if ds.length=n then (match md ds with
   |some ds'=>(match F (ds'.map .val) with
    | .ok d=>if bk d=true then .ok (.d d) else .bad
    | .new m=>if Bl m=true then .ok m else .bad
    | .err x=> .err x
    |_=> .bad)
   |none=> .bad) else .bad):PM X ct e g:=by
 refine PE.imp h λ σ H Q z_=>zX z_ λ Γ j q=>af Γ j ?_;rw[hg] at q;refine q.bnd λ ds _ q=>?_;split at q
 ·rename_i hl;split at q
  ·rename_i ds' hd;refine ⟨hl,af ds' hd (λ H' s=>?_)⟩;cases z:F (ds'.map .val) with
   |ok d=>
    rw[z] at q;dsimp only at q;split at q
    ·rename_i hb;exact ⟨hb,(Wm.data q).mono s⟩
    ·exact q.elim
   |new m=>
    rw[z] at q;dsimp only at q;split at q
    ·rename_i hb;exact ⟨hb,Wm.mono s q⟩
    ·exact q.elim
   |err x=>rw[z] at q;exact λ e s' r=>q e s' (r.mono s)
   |Tv d os=>rw[z] at q;exact q.elim
   |GU d os=>rw[z] at q;exact q.elim
   |bad=>rw[z] at q;exact q.elim
  ·exact q.elim
 ·exact q.elim
section
variable{n:Nat}
def Gf{c:Cf}(h:PE X e (Mt X c.z some (λ _=>true) (λ _=>true) n F fa)):PM X c.z e (G7 n F fa):=uU h λ Γ=>by
 unfold G7;cases fa Γ with
 |ok ds=>
  simp only[Res.iF];by_cases hl:ds.length=n
  ·simp only[hl,if_true];cases F (ds.map .val)<;>simp[ju]
  ·simp[hl]
 |err x=>rfl
 |bad=>rfl
def yx(h:PE X e (Mt X ct (λ ds=>if eu ds=true then some ds else none) (λ _=>true) (λ _=>true) n F fa)):PM X ct e (lD n F fa):=uU h λ Γ=>by
 unfold lD;congr 1;funext ds;by_cases hl:ds.length=n
 ·by_cases hn:eu ds=true
  ·simp only[hl,hn,and_self,if_true];cases F (ds.map .val)<;>simp[ju]
  ·simp[hl,hn]
 ·simp[hl]
def Gg(h:PE X e (Mt X ct (λ ds=>some (lW ds)) nb AJ n F fa)):PM X ct e (AR n F fa):=uU h λ Γ=>by
 unfold AR;congr 1;funext ds;split
 ·dsimp only;cases F ((lW ds).map .val) with
  |ok d=>by_cases h:nb d=true<;>simp[Kv,ju,h]
  |new m=>by_cases h:AJ m=true<;>simp[Kv,ju,h]
  |_=>simp[Kv,ju]
 ·rfl
def Pw(a:dN):lM a=(ju a).bnd vq:=by cases a<;>simp[lM,ju,vq,rE,zm]
def rJ(f:Sg->Res (List D))(g:List D->dN)(P:List D->Prop) [DecidablePred P]:(λ Γ=>(f Γ).bnd λ ds=>if P ds then lM (g ds) else .bad)=zA (λ Γ=>(f Γ).bnd λ ds=>if P ds then ju (g ds) else .bad):=by
 funext Γ;unfold zA;dsimp only;cases f Γ with
 |ok ds=>
  simp only[Res.iF];by_cases h:P ds
  ·simp only[h,if_true];exact Pw _
  ·simp[h]
 |err x=>rfl
 |bad=>rfl
def GB{c:Cf}(h:PE X e (Mt X c.z some (λ _=>true) (λ _=>true) n F fa)):PD X c.z e (bu n F fa):=by have:=mS (Gf h);rwa [show zA (G7 n F fa)=bu n F fa from (rJ fa (λ ds=>F (ds.map .val)) λ ds=>ds.length=n).symm] at this
def GD(h:PE X e (Mt X ct (λ ds=>if eu ds=true then some ds else none) (λ _=>true) (λ _=>true) n F fa)):PD X ct e (lK n F fa):=by have:=mS (yx h);rwa [show zA (lD n F fa)=lK n F fa from (rJ fa (λ ds=>F (ds.map .val)) λ ds=>ds.length=n/\eu ds=true).symm] at this
def GC(h:PE X e (Mt X ct (λ ds=>some (lW ds)) nb AJ n F fa)):PD X ct e (oq n F fa):=by have:=mS (Gg h);rwa [show zA (AR n F fa)=oq n F fa from (rJ fa (λ ds=>Kv (F ((lW ds).map .val))) λ ds=>ds.length=n).symm] at this
end
end
section
variable{P:Program}{w:World}{K:W.Frag}{mg:Str->Option Value}{base:Heap}{cb:Cb}
def yY{s:Shared}{e:Value}(r:fU (jc (Bw P w) P w K mg base N qual scope f cd A outer s H E) cb σ' H' c e s')(he:∀C H2,cb.exc c=some C->aB H' H2->E (.ref C) none H2):
  (jc (Bw P w) P w K mg base N qual scope f cd A outer s H E).xe e s':=by
 revert r;refine Ao λ pins H1 s1 C I1 sm hc r=>?_
 have hfr:=I1.ok.frames;have back:∀a,s1.heap.get? a=none->s.heap.get? a=none:=λ a q=>by
  cases z:s.heap.get? a with
  |none=>rfl
  |some o=>obtain ⟨o',w'⟩:=I1.base.there a o z (by simp[jc]);rw[q] at w';cases w'
 rcases r with ⟨a,args,h',rfl,rfl,hx⟩|⟨a,C',H2,B,a0,rfl,⟨q1,q2,q3⟩,q4,q5,fl,na,nw,cl⟩
 ·-- made here
  let X:=jc (Bw P w) P w K mg base N qual scope f cd A outer s H E
  have hst:s1.heap.FunFrames X.base X.stack:=I1.stack;have hin:∀env∈X.stack,∀b,env.frame=some b->b∈frs X.stack:=λ env he b hb=>List.mem_filterMap.mpr (af env he hb);have hkb:(W.hideAll s1.heap (frs X.stack)).StaysIn s1.heap:=λ b o q=>W.of_hideAll _ q;refine wpAny_leaves_madeW (s:={s1 with heap:=h'}) (L:=s.heap.objs.size) hfr rfl hkb (W.funFrames_hide hst hin) hx λ h2 t fl tu tn up=>?_;have na:H1 a=none:=by
   cases z:H1 a with
   |none=>rfl
   |some o=>obtain ⟨ob,hb⟩:=oY (I1.hok a o z);rw[hx.new] at hb;cases hb
  refine As a C H1 (W.hideAll s1.heap (frs X.stack)) (.ref t) rfl (he C H1 hc sm) I1.os I1.bare fl na (back a hx.new) (λ h3 st3 W3=>?_);have keep:∀b o,s1.heap.get? b=some o->b∉frs X.stack->h3.get? b=some o:=λ b o q nb=>st3 b o (W.hideAll_get _ q nb);have slot:∀b o,s1.heap.get? b=some o->b∈frs X.stack->∃sl,h3.get? b=some {o with slots:=sl}:=λ b o q hb=>by refine cC (λ _=>ah λ o' ho' hd=>?_) (hst.mem hb);rw[q] at ho';cases ho';exact (up.trans W3) b o (hx.keeps b o q) hd
  have un:Un (frs X.stack) [] H1 H1 s1.heap h3:=⟨λ b o q n nb _=>keep b o q nb,λ b o q n hb _=>slot b o q hb,λ b o q n _=>n,λ b o q _=>by
   by_cases hb:b∈frs X.stack
   ·obtain ⟨sl,z⟩:=slot b o q hb;exact ⟨_,z⟩
   ·exact ⟨o,keep b o q hb⟩,λ b xs q=>q,λ b o u q=>q,λ b ps q=>⟨#[],by rw[q];simp⟩⟩
  have hok:kC P w H1 h3:=λ b o q=>(I1.hok b o q).stay (λ b' u hb' e'=>by
   have tr:H1 b'≠none:=by
    rcases hb' with rfl|hb'
    ·rw[q];exact λ z=>nomatch z
    ·rw[hb'];exact λ z=>nomatch z
   exact keep b' u e' λ z=>tr (I1.pR b' z)) (λ _ q=>q) (λ _ _ q=>q) λ _ _ _ q=>q
  have I3:=I1.Im (s':={s1 with heap:=h3}) (ch:=[]) rfl un hok I1.bare (λ b z=>absurd z (by simp));exact ⟨I3.base,hok⟩
 ·-- out of a call
  cases q1;refine wpAny_leaves_onW (L:=s.heap.objs.size) hfr rfl fl λ h2 fl2 up=>?_;refine As a C H2 B a0 rfl (he C H2 hc (sm.trans q3)) (q4.trans I1.os) q5 fl2 na (back a nw) (λ h3 st3 W3=>?_);obtain ⟨un,hok⟩:=cl h3 st3 (up.trans W3);have I3:=I1.Im (s':={s' with heap:=h3}) (ch:=[]) q4 un hok q5 (λ b z=>absurd z (by simp));exact ⟨I3.base,hok⟩
def Cs{N:List Str}{as:List Slot}{vs:List V}{H:Hp}{c:Cf}(j:J K c.z H as (vs.map some) H):J K c.z H (cT N as) (L2.start N vs) H:=by
 have hl:as.length=vs.length:=by have:=j.len;simpa using this
 refine aH (λ S h1 h2 h3=>?_) j.sl;refine ⟨j.same,j.free,j.lL,j.lB,j.xt,by simp[cT,L2.start,hl],λ i b=>S i b/\i<as.length,λ i sl ov g1 g2=>?_,λ i k b e z z'=>h2 i k b e z.1 z'.1,λ i b z=>h3 i b z.1⟩;by_cases hi:i<as.length
 ·rw[cT,List.getElem?_append_left hi] at g1;rw[L2.start,List.getElem?_append_left (by simpa[<-hl] using hi)] at g2;have eS:(λ b=>S i b/\i<as.length)=S i:=funext λ b=>propext ⟨λ z=>z.1,λ z=>⟨z,hi⟩⟩;show iJ K c.z H H i (λ b=>S i b/\i<as.length) sl ov;rw[eS];exact h1 i sl ov g1 g2
 ·rw[cT,List.getElem?_append_right (Nat.le_of_not_lt hi),List.getElem?_replicate] at g1;split at g1
  ·cases g1;exact λ b z=>hi z.2
  ·cases g1
def PC{x qual:Str}{st:Stmt}{f:Addr}{fd:FuncData}{N ps:List Str}{k:Nat}{F:List Slot->dN}{B:Nat->Sg->Out}(Jh:E0 K x qual st f fd)(S:ji N ps (aU st)) (hbody:∀(c:Cf) (cdv:Value) (A:Around) (outer:List Env) (s:Shared) (H:Hp) (E:XK),c.cb=cb->dH k (A.deeper (envOfC qual (aU st) s.heap.objs.size f cdv))->Good (jc (Bw P w) P w K mg base N qual (aU st) f cdv A outer s H E)->∀n,Vm (jc (Bw P w) P w K mg base N qual (aU st) f cdv A outer s H E) c (c9 st) (B n)) (hF:∀as,as.length=ps.length->F as≠.bad->∃n,jx (B n (cT N as))=F as):jj P w K mg base cb (k+1) f fd ps F:=by
 obtain ⟨oc,od,kV,doc,pm,an,cdv,dj,osl,rfl,lk,hcd⟩:=Jh.ex;refine My lk hcd S (λ vs H Q E h=>h.1) λ A outer s H vs Q E hr E4=>?_
 revert E4;refine cC λ hn=>aL λ c as UI UJ j h=>?_
 have hl:as.length=vs.length:=by have:=j.len;simpa using this
 have hb:F as≠.bad:=λ z=>by rw[z] at h;exact h
 obtain ⟨n,hF⟩:=hF as (by rw[hl];exact hn) hb;refine af _ (hbody c cdv A outer s H E UI hr ⟨PassesOwn.leaving,rfl,S.nd,rfl,rfl⟩ n) ⟨cT N as,Cs j,?_⟩;rw[<-hF] at h;cases q:B n (cT N as) with
 |nx Γ=>rw[q] at h;exact λ σ' H' _ j=>h .gY H' j.same j.free (by simp[Tl])
 |bk Γ=>rw[q] at h;exact h.elim
 |ct Γ=>rw[q] at h;exact h.elim
 |rt d=>rw[q] at h;exact λ v H' b t=>h v H' b.same b.free t
 |zV m=>rw[q] at h;exact λ v H' S b o n k=>h v H' S b.same b.free o n k
 |L7 d Γ=>rw[q] at h;exact λ v σ' H' j t=>h v Γ σ' H' j rfl t
 |yo d Γ=>rw[q] at h;exact λ σ' H' i v j g1 g2=>h Γ σ' H' i v j rfl g1 g2
 |err x Γ=>rw[q] at h;exact λ σ' H' e s' _ j r=>yY (UI▸r) λ C H2 hc s=>h C H2 hc λ b o z n=>s b o (j.same b o z n)
 |bad=>rw[q] at h;exact h.elim
def Jq{x qual:Str}{st:Stmt}{f:Addr}{fd:FuncData}{N ps:List Str}{k:Nat}{F:List Slot->dN}{B:Nat->Sg->Out}(Jh:E0 K x qual st f fd)(S:ji N ps (aU st))(hbody:∀(c:Cf) (cdv:Value) (A:Around) (outer:List Env) (s:Shared) (H:Hp) (E:XK),c.cb=cb->dH k (A.deeper (envOfC qual (aU st) s.heap.objs.size f cdv))->Good (jc (Bw P w) P w K mg base N qual (aU st) f cdv A outer s H E)->∀n,oF (jc (Bw P w) P w K mg base N qual (aU st) f cdv A outer s H E) c (c9 st) (B n)) (hF:∀as,as.length=ps.length->F as≠.bad->∃n,jx (B n (cT N as))=F as):jj P w K mg base cb (k+1) f fd ps F:=PC (Jh:=Jh) (S:=S) (hbody:=(λ c cdv A outer s H E h_1 h_2 h_3 n=>(hbody c cdv A outer s H E h_1 h_2 h_3 n).out)) (hF:=hF)
end
section
variable{X:Cx}{ct:Ct}{a b e:Expr}{f g:Sg->Res D}{pos:Pos}
def i8{gv:Int->Int->V}(hc:∀i j,C i j=true->C' i j)(ht:∀i j K ct H,Tl K ct H (gd i j) (gv i j)):Qw X ct (rI C' gv) (intD C gd):=by
 intro σ H x y d1 d2 Q lL lB t1 t2 h;cases d1 with
 |int i=>
  cases d2 with
  |int j=>
   simp only[Tl] at t1 t2;subst t1 t2;rw[rA] at h;split at h
   ·rename_i hij;exact bh i j rfl rfl (hc i j hij) (h _ H (aB.refl H) (ht i j _ _ _))
   ·exact h.elim
  |_=>exact h.elim
 |_=>cases d2<;>exact h.elim
def GJ{F:Value->Value->Sem Value}{gv:Int->Int->V}(h:oG X F (NK gv)):oG X F (rI (λ _ _=>True) gv):=λ pins s σ H x y v u Q I rx ry ⟨i,j,h1,h2,_,q⟩=>h pins s σ H x y v u Q I rx ry (ay i j h1 h2 q)
def G0(h:jM i j=true):IntMulOk i j:=by
 simp only[jM,Bool.or_eq_true,Bool.and_eq_true,decide_eq_true_eq] at h;rcases h with (h|h)|h
 ·exact .of_left h
 ·exact .of_right h
 ·exact .of_bits h.1 h.2
def Kl:oG X (binaryOp .Mult) (rI (λ i j=>jM i j=true) λ i j=> .int (i*j)):=VS λ _ _ _ _ _ _ _ hc q=>mul_int q (G0 hc)
def GI:oG X (binaryOp .FloorDiv) (rI (λ i j=>rG i j=true) λ i j=> .int (i.fdiv j)):=VS λ _ _ _ _ _ _ _ hc q=>by simp only[rG,Bool.and_eq_true,decide_eq_true_eq] at hc;exact floordiv_int hc.1 q (.inl (PyProof.noPylong_of_log2 hc.2))
def jA(ha:WD X ct a f)(hb:WD X ct b g):WD X ct (.BinOp a .Sub b pos) (aO fP f g):=by have ha:=ha.out;have hb:=hb.out;exact ⟨tL (GJ Oh) (i8 (λ _ _ _=>trivial) λ _ _ _ _ _=>by simp[Tl]) ha hb⟩
def cH(ha:WD X ct a f)(hb:WD X ct b g):WD X ct (.BinOp a .Mult b pos) (aO cX f g):=by have ha:=ha.out;have hb:=hb.out;exact ⟨tL Kl (i8 (λ _ _ h=>h) λ _ _ _ _ _=>by simp[Tl]) ha hb⟩
def bZ(ha:WD X ct a f)(hb:WD X ct b g):WD X ct (.BinOp a .FloorDiv b pos) (aO cF f g):=by have ha:=ha.out;have hb:=hb.out;exact ⟨tL GI (i8 (λ _ _ h=>h) λ _ _ _ _ _=>by simp[Tl]) ha hb⟩
def dX(ha:WD X ct a f)(hb:WD X ct b g):WD X ct (.BinOp a .Mod b pos) (aO dD f g):=by have ha:=ha.out;have hb:=hb.out;exact ⟨tL Km (i8 (λ _ _ h=>of_decide_eq_true h) λ _ _ _ _ _=>by simp[Tl]) ha hb⟩
def Fv(ha:WD X ct a f)(hb:WD X ct b g):WD X ct (.BinOp a .Pow b pos) (aO Gb f g):=by
 have ha:=ha.out;have hb:=hb.out;exact ⟨tL Oj (i8 (λ _ _ h=>by
 simp only[Mb,Bool.and_eq_true,decide_eq_true_eq] at h;exact aV h.1.1 h.1.2 h.2) λ _ _ _ _ _=>by simp[Tl]) ha hb⟩
def uw(ha:WD X ct a f)(hb:WD X ct b g):zY X ct (.Compare a [.Lt] [b] pos) (dT (aO ltI f g)):=by have ha:=ha.out;have hb:=hb.out;exact ⟨pV (GJ To) (i8 (λ _ _ _=>trivial) λ _ _ _ _ _=>by simp[Tl]) ha hb (vf _)⟩
def z7(ha:WD X ct a f)(hb:WD X ct b g):zY X ct (.Compare a [.Gt] [b] pos) (dT (aO Jb f g)):=by have ha:=ha.out;have hb:=hb.out;exact ⟨pV (GJ Tq) (i8 (λ _ _ _=>trivial) λ _ _ _ _ _=>by simp[Tl]) ha hb (vf _)⟩
def z8(ha:WD X ct a f):WD X ct (.UnaryOp .USub a pos) (Ib pK f):=by
 have ha:=ha.out;refine ⟨?_⟩;refine PE.imp (Ti Nf ha) ?_;refine λ σ H Q=>ah λ Γ j h=>?_;refine oi.bnd j h λ d v H' s t j' h'=>?_;cases d with
 |int i=>simp only[Tl] at t;exact af i t (h' _ H' s (by simp[Tl]))
 |_=>exact h'.elim
def CW{r:List D->Res D}{fa:Sg->Res (List D)}(k:∀(σ:St) (H:Hp) (vs:List V) (ds:List D) (Q:VK),aB ct.f.L H->aB ct.B H->aN X.K ct H ds vs->Ok X ct σ H (r ds) (Wd X ct H Q)->r2 vs H Q):
  ∀σ H Q,oi X ct (p6 r fa) σ H Q->VE r2 (EZ X ct fa) σ H Q:=by
 refine λ σ H Q=>ah λ Γ j h=>?_;exact EZ.bnd j h λ ds vs H' s t j' h'=>k σ H' vs ds Q j'.lL j'.lB t (Ok.mono s h' λ d q=>q.mono s)
def mF{K:W.Frag}{H:Hp}{d:D}{vs:List V}(h:aN K ct H [d] vs):∃v,vs=[v]/\Tl K ct H d v:=by
 simp only[aN] at h
 revert h;refine aq λ v r z t y=>?_;subst z;subst y
 exact af v rfl t
def W8{K:W.Frag}{H:Hp}{d d':D}{vs:List V}(h:aN K ct H [d,d'] vs):∃v v',vs=[v,v']/\Tl K ct H d v/\Tl K ct H d' v':=by
 simp only[aN] at h
 revert h;refine aq λ v r z t=>aq λ v' r' y t' w=>?_;subst z;subst y;subst w
 exact ay v v' rfl t t'
def FD{fa:Sg->Res (List D)}(hm:X.mg "abs"=none)(ha:pN X ct (e::es) fa)(hg:Gl X "abs":=by rfl)(he:starEach (e::es) X.env=(false,eval e X.env)::starEach es X.env:=by rfl)(hpl:(backTo pos (starEach es X.env)).any (·.1)=false:=by rfl):WD X ct (.Call (.Name "abs" p) (e::es) [] pos) (p6 IA fa):=by
 have ha:=ha.out;refine ⟨?_⟩;refine PE.imp (jG Il hg hm PyProof.Rows.boot_abs ha (by decide) (by decide) he hpl) (CW λ σ H vs ds Q lL lB t h=>?_);unfold IA at h;split at h
 ·rename_i i;refine ah (λ v z tv=>?_) (mF t);subst z;simp only[Tl] at tv;subst tv;exact af i rfl (h _ H (aB.refl H) (by simp[Tl]))
 ·exact h.elim
def gH{fa:Sg->Res (List D)}(hm:X.mg "len"=none)(ha:pN X ct (e::es) fa)(hg:Gl X "len":=by rfl)(he:starEach (e::es) X.env=(false,eval e X.env)::starEach es X.env:=by rfl)(hpl:(backTo pos (starEach es X.env)).any (·.1)=false:=by rfl):WD X ct (.Call (.Name "len" p) (e::es) [] pos) (p6 c8 fa):=by
 have ha:=ha.out;refine ⟨?_⟩;refine PE.imp (jG Ij hg hm PySem.boot_len ha (by decide) (by decide) he hpl) (CW λ σ H vs ds Q lL lB t h=>?_);unfold c8 at h;split at h
 ·rename_i es;refine ah (λ v z tv=>?_) (mF t);subst z;simp only[Tl] at tv
  revert tv;refine aq λ a us z h1 h2=>?_;subst z
  refine ay _ us.length rfl ?_ (h _ H (aB.refl H) (by rw[h2.length];simp[Tl]));exact .inl (af us h1.sq rfl)
 ·rename_i es;refine ah (λ v z tv=>?_) (mF t);subst z;simp only[Tl] at tv
  revert tv;refine aq λ a us z h1 h2=>?_;subst z
  refine ay _ us.length rfl ?_ (h _ H (aB.refl H) (by rw[h2.length];simp[Tl]));exact .inr (af us (kE h1) rfl)
 ·rename_i es;refine ah (λ v z tv=>?_) (mF t);subst z;simp only[Tl] at tv
  revert tv;refine aq λ a us z h1 h2=>?_;subst z
  refine ay _ us.length rfl ?_ (h _ H (aB.refl H) (by rw[h2.length];simp[Tl]));exact .inr (af us h1.sq rfl)
 ·rename_i tm es;refine ah (λ v z tv=>?_) (mF t);subst z;refine aq (λ a us z h1 h2=>?_) (tv.fX lL lB rfl);subst z;refine ay _ us.length rfl ?_ (h _ H (aB.refl H) (by rw[h2.length];simp[Tl]));exact .inl (af us h1 rfl)
 ·rename_i x;split at h
  ·rename_i hx;refine ah (λ v z tv=>?_) (mF t);subst z;simp only[Tl] at tv;subst tv;exact ay _ x.length rfl ⟨hx,rfl⟩ (h _ H (aB.refl H) (by simp[Tl]))
  ·exact h.elim
 ·exact h.elim
end
def fM:∀(ds:List D),(∀d∈ds,(py d).canLay0=true)->PyData.canLayAll0 (sD ds)=true:=by
 intro v_;induction v_ with
 |nil=>
  rintro _
  simp[sD,PyData.canLayAll0]
 |cons d ds lV=>
  rintro h
  simp only[sD,PyData.canLayAll0,Bool.and_eq_true];exact ⟨h d (.head _),lV λ x hx=>h x (.tail _ hx)⟩
def gu:∀(ds:List D),(∀d∈ds,(py d).depth<=n)->PyData.depthAll (sD ds)<=n:=by
 intro v_;induction v_ with
 |nil=>
  rintro _
  simp[sD,PyData.depthAll]
 |cons d ds lV=>
  rintro h
  simp only[sD,PyData.depthAll];exact Nat.max_le.mpr ⟨h d (.head _),lV λ x hx=>h x (.tail _ hx)⟩
theorem gn:∀(n:Nat) (d:D),cM n d=true->(py d).canLay0=true/\(py d).depth<=n
 |n,.gY,_=>by simp[py,PyData.canLay0,PyData.depth]
 |n,.bl b,_=>by simp[py,PyData.canLay0,PyData.depth]
 |n,.int b,_=>by simp[py,PyData.canLay0,PyData.depth]
 |n,.str b,h=>by cases n<;>simp_all[py,PyData.canLay0,PyData.depth,cM]
 |0,.tup ds,h=>by simp[cM] at h
 |0,.gt ds,h=>by simp[cM] at h
 |0,.lst ds,h=>by simp[cM] at h
 |0,.bor _ ds,h=>by simp[cM] at h
 |n+1,.bor _ ds,h=>by simp only[cM,List.all_eq_true] at h;simp only[py,PyData.canLay0,PyData.depth];exact ⟨fM ds λ d hd=>(gn n d (h d hd)).1,Nat.succ_le_succ (gu ds λ d hd=>(gn n d (h d hd)).2)⟩
 |n+1,.tup ds,h=>by simp only[cM,List.all_eq_true] at h;simp only[py,PyData.canLay0,PyData.depth];exact ⟨fM ds λ d hd=>(gn n d (h d hd)).1,Nat.succ_le_succ (gu ds λ d hd=>(gn n d (h d hd)).2)⟩
 |n+1,.gt ds,h=>by simp only[cM,List.all_eq_true] at h;simp only[py,PyData.canLay0,PyData.depth];exact ⟨fM ds λ d hd=>(gn n d (h d hd)).1,Nat.succ_le_succ (gu ds λ d hd=>(gn n d (h d hd)).2)⟩
 |n+1,.lst ds,h=>by simp only[cM,List.all_eq_true] at h;simp only[py,PyData.canLay0,PyData.depth];exact ⟨fM ds λ d hd=>(gn n d (h d hd)).1,Nat.succ_le_succ (gu ds λ d hd=>(gn n d (h d hd)).2)⟩
 |0,.obj _ _ _,h=>by simp[cM] at h
 |0,.exc _,h=>by simp[cM] at h
 |n+1,.obj _ _ _,h=>by simp[cM] at h
 |n+1,.exc _,h=>by simp[cM] at h
 |0,.lJ _ _,h=>by simp[cM] at h
 |0,.lY _ _ _,h=>by simp[cM] at h
 |n+1,.lJ _ _,h=>by simp[cM] at h
 |n+1,.lY _ _ _,h=>by simp[cM] at h
 |0,.rO _ _ _ _,h=>by simp[cM] at h
 |n+1,.rO _ _ _ _,h=>by simp[cM] at h
def i9{d:D}(h:cM 12 d=true):SeqAt.shaped (py d)=true:=by obtain ⟨h1,h2⟩:=gn 12 d h;unfold SeqAt.shaped;rw[h1,Bool.true_and];exact decide_eq_true (Nat.le_trans h2 (by decide))
section
variable{X:Cx}{ct:Ct}{pins:List (Addr×Obj)}{σ:St}{H:Hp}{s:Shared}
def g6{f:D->Prop}(hf:∀d v u,f d->Tl X.K ct H d v->RelV v u->∃as,Reads s.heap u (py d) as):∀(ds:List D) (vs:List V) (us:List Value),(∀d∈ds,f d)->aN X.K ct H ds vs->Vals vs us->∃as,ReadsAll s.heap us (sD ds) as:=by
 intro v_;induction v_ with
 |nil=>
  rintro vs us _ h r
  simp only[aN] at h;subst h;cases r;exact ⟨[],.nil⟩
 |cons d ds lV=>
  rintro vs us hd h r
  simp only[aN] at h
  revert h;refine aq λ v w z t1 t2=>?_;subst z
  cases r with
  |cons r1 r2=>obtain ⟨as,h1⟩:=hf d v _ (hd d (.head _)) t1 r1;obtain ⟨bs,h2⟩:=lV w _ (λ x hx=>hd x (.tail _ hx)) t2 r2;exact ⟨as++bs,.cons h1 h2⟩
theorem fQ(I:Inv X pins σ H s)(lL:aB ct.f.L H)(lB:aB ct.B H):∀(n:Nat) (d:D) (v:V) (u:Value),cM n d=true->Tl X.K ct H d v->RelV v u->∃as,Reads s.heap u (py d) as
 |n,.gY,v,u,_,t,r=>by simp only[Tl] at t;subst t;cases r;exact ⟨[],.none⟩
 |n,.bl b,v,u,_,t,r=>by simp only[Tl] at t;subst t;cases r;exact ⟨[],.bool b⟩
 |n,.int i,v,u,_,t,r=>by simp only[Tl] at t;subst t;obtain ⟨k,rfl⟩:=r;exact ⟨[],.int i k⟩
 |n,.str x,v,u,_,t,r=>by simp only[Tl] at t;subst t;obtain ⟨k,rfl⟩:=r;exact ⟨[],.str x k⟩
 |0,.tup ds,v,u,h,_,_=>by simp[cM] at h
 |0,.gt ds,v,u,h,_,_=>by simp[cM] at h
 |0,.lst ds,v,u,h,_,_=>by simp[cM] at h
 |0,.bor _ ds,v,u,h,_,_=>by simp[cM] at h
 |n+1,.bor tm ds,v,u,h,t,r=>by refine aq (λ a vs z t1 t2=>?_) (t.fX lL lB rfl);subst z;cases r;simp only[cM,List.all_eq_true] at h;refine aH (λ its rv z _=>?_) (I.list t1);revert z;refine aL λ o m h1 h2 _ h3=>?_;obtain ⟨as,q⟩:=g6 (f:=λ d=>cM n d=true) (λ d v u h t r=>fQ I lL lB n d v u h t r) ds vs its h t2 rv;exact ⟨a::as,reads_list_at h1 h2 h3 (by simpa using q)⟩
 |n+1,.tup ds,v,u,h,t,r=>by
  simp only[Tl] at t
  revert t;refine aq λ a vs z t1 t2=>?_;subst z
  cases r;simp only[cM,List.all_eq_true] at h;refine aH (λ its rv z _=>?_) (I.tuple (kE t1));revert z;refine aH λ o h1 h2 y=>?_;obtain ⟨m,h3⟩:=y;obtain ⟨as,q⟩:=g6 (f:=λ d=>cM n d=true) (λ d v u h t r=>fQ I lL lB n d v u h t r) ds vs its h t2 rv;exact ⟨as,reads_tuple_at h1 h2 h3 (by simpa using q)⟩
 |n+1,.gt ds,v,u,h,t,r=>by
  simp only[Tl] at t
  revert t;refine aq λ a vs z t1 t2=>?_;subst z
  cases r;simp only[cM,List.all_eq_true] at h;refine aH (λ its rv z _=>?_) (I.tuple t1.sq);revert z;refine aH λ o h1 h2 y=>?_;obtain ⟨m,h3⟩:=y;obtain ⟨as,q⟩:=g6 (f:=λ d=>cM n d=true) (λ d v u h t r=>fQ I lL lB n d v u h t r) ds vs its h t2 rv;exact ⟨as,reads_tuple_at h1 h2 h3 (by simpa using q)⟩
 |n+1,.lst ds,v,u,h,t,r=>by
  simp only[Tl] at t
  revert t;refine aq λ a vs z t1 t2=>?_;subst z
  cases r;simp only[cM,List.all_eq_true] at h;refine aH (λ its rv z _=>?_) (I.list t1.sq);revert z;refine aL λ o m h1 h2 _ h3=>?_;obtain ⟨as,q⟩:=g6 (f:=λ d=>cM n d=true) (λ d v u h t r=>fQ I lL lB n d v u h t r) ds vs its h t2 rv;exact ⟨a::as,reads_list_at h1 h2 h3 (by simpa using q)⟩
 |0,.obj _ _ _,v,u,h,_,_=>by simp[cM] at h
 |0,.exc _,v,u,h,_,_=>by simp[cM] at h
 |n+1,.obj _ _ _,v,u,h,_,_=>by simp[cM] at h
 |n+1,.exc _,v,u,h,_,_=>by simp[cM] at h
 |0,.lJ _ _,v,u,h,_,_=>by simp[cM] at h
 |0,.lY _ _ _,v,u,h,_,_=>by simp[cM] at h
 |n+1,.lJ _ _,v,u,h,_,_=>by simp[cM] at h
 |n+1,.lY _ _ _,v,u,h,_,_=>by simp[cM] at h
 |0,.rO _ _ _ _,v,u,h,_,_=>by simp[cM] at h
 |n+1,.rO _ _ _ _,v,u,h,_,_=>by simp[cM] at h
end
section
variable{X:Cx}{ct:Ct}{a b e:Expr}{f g:Sg->Res D}{pos:Pos}
def JV(K:W.Frag)(ct:Ct)(neg:Bool):R2:=λ x y H Q=>aB ct.f.L H/\aB ct.B H/\∃d1 d2,Tl K ct H d1 x/\Tl K ct H d2 y/\cM 12 d1=true/\cM 12 d2=true/\Q (.bl (if neg then !HZ d1 d2 else HZ d1 d2)) H
def Om(hu:X.A.units+64<cLine):oG X (compareOp .Eq) (JV X.K ct false):=by refine λ pins s σ H x y v u Q I rx ry=>bg λ lL lB=>cR λ d1 d2 t1 t2 o1 o2 q=>?_;obtain ⟨as,r1⟩:=fQ I lL lB 12 d1 x v o1 t1 rx;obtain ⟨bs,r2⟩:=fQ I lL lB 12 d2 y u o2 t2 ry;exact eq_dataH r1 r2 (i9 o1) (i9 o2) hu (ay (.bl _) H I rfl q)
def Ol(hu:X.A.units+64<cLine):oG X (compareOp .NotEq) (JV X.K ct true):=by refine λ pins s σ H x y v u Q I rx ry=>bg λ lL lB=>cR λ d1 d2 t1 t2 o1 o2 q=>?_;obtain ⟨as,r1⟩:=fQ I lL lB 12 d1 x v o1 t1 rx;obtain ⟨bs,r2⟩:=fQ I lL lB 12 d2 y u o2 t2 ry;exact ne_dataH r1 r2 (i9 o1) (i9 o2) hu (ay (.bl _) H I rfl q)
def Ou:Qw X ct (JV X.K ct false) vE:=by
 intro σ H x y d1 d2 Q lL lB t1 t2 h;unfold vE at h;split at h
 ·rename_i ho;exact aV lL lB (bN d1 d2 t1 t2 ho.1 ho.2 (h _ H (aB.refl H) (by simp[Tl])))
 ·exact h.elim
def Oq:Qw X ct (JV X.K ct true) lU:=by
 intro σ H x y d1 d2 Q lL lB t1 t2 h;unfold lU at h;split at h
 ·rename_i ho;exact aV lL lB (bN d1 d2 t1 t2 ho.1 ho.2 (h _ H (aB.refl H) (by simp[Tl])))
 ·exact h.elim
def gG(hu:X.A.units+64<cLine)(ha:WD X ct a f)(hb:WD X ct b g):zY X ct (.Compare a [.Eq] [b] pos) (dT (aO vE f g)):=by have ha:=ha.out;have hb:=hb.out;exact ⟨pV (Om hu) Ou ha hb (vf _)⟩
def fW(hu:X.A.units+64<cLine)(ha:WD X ct a f)(hb:WD X ct b g):zY X ct (.Compare a [.NotEq] [b] pos) (dT (aO lU f g)):=by have ha:=ha.out;have hb:=hb.out;exact ⟨pV (Ol hu) Oq ha hb (vf _)⟩
def p8{K:W.Frag}{H:Hp}{ds:List D}{vs:List V}{i:Int}{d:D}(t:aN K ct H ds vs)(h:um ds i=some d):∃v,um vs i=some v/\Tl K ct H d v:=by
 unfold um at h ⊢;rw[<-t.length];cases q:mY ds.length i with
 |none=>rw[q] at h;cases h
 |some k=>rw[q] at h;exact t.get h
def Ot:Qw X ct (Zs X.K) bG:=by
 intro σ H x y d1 d2 Q lL lB t1 t2 h;unfold bG at h;split at h
 ·rename_i ds i;split at h
  ·rename_i d hd;simp only[Tl] at t1 t2
   revert t1;refine aq λ a vs w h1 h2=>?_;subst w
   subst t2;refine ah (λ v hv tv=>?_) (p8 h2 hd);exact .inl (bV a vs i v rfl rfl h1.sq hv (h v H (aB.refl H) tv))
  ·exact h.elim
 ·rename_i tm ds i;split at h
  ·rename_i d hd;refine aq (λ a vs w h1 h2=>?_) (t1.fX lL lB rfl);subst w;simp only[Tl] at t2;subst t2;refine ah (λ v hv tv=>?_) (p8 h2 hd);exact .inl (bV a vs i v rfl rfl h1 hv (h v H (aB.refl H) tv))
  ·exact h.elim
 ·rename_i ds i;split at h
  ·rename_i d hd;simp only[Tl] at t1 t2
   revert t1;refine aq λ a vs w h1 h2=>?_;subst w
   subst t2;refine ah (λ v hv tv=>?_) (p8 h2 hd);exact .inr (.inl (bV a vs i v rfl rfl (kE h1) hv (h v H (aB.refl H) tv)))
  ·exact h.elim
 ·rename_i ds i;split at h
  ·rename_i d hd;simp only[Tl] at t1 t2
   revert t1;refine aq λ a vs w h1 h2=>?_;subst w
   subst t2;refine ah (λ v hv tv=>?_) (p8 h2 hd);exact .inr (.inl (bV a vs i v rfl rfl h1.sq hv (h v H (aB.refl H) tv)))
  ·exact h.elim
 ·rename_i z i;split at h
  ·rename_i hz;split at h
   ·rename_i c hc;simp only[Tl] at t1 t2;subst t1 t2;exact .inr (.inr (k9 z i c rfl rfl hz hc (h _ H (aB.refl H) (by simp[Tl]))))
   ·exact h.elim
  ·exact h.elim
 ·exact h.elim
def Gz(ha:PD X ct a f)(hb:PD X ct b g)(hs:nE b:=by exact λ _ _=>rfl):PD X ct (.Subscript a b pos) (aO bG f g):=PE.imp (Me HC ha hb hs) (AE Ot)
def aT(ha:WD X ct a f)(hb:WD X ct b g)(hs:nE b:=by exact λ _ _=>rfl):WD X ct (.Subscript a b pos) (aO bG f g):=⟨Gz (ha:=ha.out) (hb:=hb.out) (hs:=hs)⟩
def i6(ha:WD X ct a f)(hb:WD X ct b g):WD X ct (.BinOp a .Add b pos) (aO eU f g):=by
 have ha:=ha.out;have hb:=hb.out;refine ⟨?_⟩;refine tL (oG.or Oo AD) (λ σ H x y d1 d2 Q lL lB t1 t2 h=>?_) ha hb;unfold eU at h;split at h
 ·simp only[Tl] at t1 t2;subst t1 t2;exact .inl (ay _ _ rfl rfl (h _ H (aB.refl H) (by simp[Tl])))
 ·split at h
  ·rename_i hl;simp only[Tl] at t1 t2;subst t1 t2;exact .inr (bh _ _ rfl rfl hl (h _ H (aB.refl H) (by simp[Tl])))
  ·exact h.elim
 ·exact h.elim
def Te(K:W.Frag):R2:=λ x y H Q=>∃l b xs zs,x= .ref l/\y= .ref b/\fZ K H l xs/\fZ K H b zs/\xs.length+zs.length<=sizeLine/\∀p,H p=none->Q (.ref p) (upd H p (.lst (xs++zs)))
def Kn:oG X (binaryOp .Add) (Te X.K):=by
 intro pins s σ H x y v u Q I rx ry h
 revert h;refine cA λ l b xs zs z w hH hB hz q=>?_;subst z;subst w
 cases rx;cases ry;obtain ⟨its,r,⟨⟨oc,od,odt,osl⟩,n,e,hc,_,hd⟩,_⟩:=I.list hH;obtain ⟨its2,r2,⟨⟨oc2,od2,aaZ,XA⟩,n2,e2,hc2,_,hd2⟩,_⟩:=I.list hB;simp only at hc hd hc2 hd2;subst hc hd hc2 hd2;have hl:=r.length;have hl2:=r2.length;have ea:its.toArray++its2.toArray=(its++its2).toArray:=by simp
 refine concat_meets (af _ e rfl) (af _ e2 rfl) noFill_list_add seq_list_add PySem.F.slot_list_add PySem.F.entry_list_add
  (PySem.F.args_list_add_2 _ _) (list_addW l b its.toArray its2.toArray n n2 od od2 osl XA (by simp only[List.size_toArray];omega)) (aV e e2 ?_)
 rw[ea];exact ay (.ref _) _ (I.Ua (t':=s.toks) (r.append r2) (by rw[List.length_append];omega)) rfl (q _ I.fresh)
def M6(ha:WD X ct a f)(hb:WD X ct b g):WL X ct (.BinOp a .Add b pos) (Ms Ii f g):=by
 have ha:=ha.out;have hb:=hb.out;refine ⟨?_⟩;refine PE.imp (Gq Kn ha hb) ?_;refine λ σ H Q=>ah λ Γ j h=>?_;refine oi.bnd j h λ d1 v H1 s1 t1 j1 h1=>?_;refine oi.bnd (W:=Wl X ct H Q) j1 (Ok.mono s1 h1 λ _ z=>z) λ d2 u H2 s2 t2 j2 h2=>?_;have t1:=t1.keep (aB.keep s2);unfold Ii at h2;split at h2
 ·rename_i e1 e2;split at h2
  ·rename_i hl;refine aq (λ a vs y q1 q2=>?_) (t1.fX j2.lL j2.lB e1);subst y;refine aq (λ b us y q3 q4=>?_) (t2.fX j2.lL j2.lB e2);subst y;refine dz a b vs us rfl rfl q1 q3 (by rw[<-q2.length, <-q4.length];exact hl) (λ p hp=>?_);have s3:=bC hp (.lst (vs++us));exact h2 p _ _ ((s1.trans s2).trans s3) ((s1.trans s2).free hp) aJ ((q2.append q4).keep (aB.keep s3))
  ·exact h2.elim
 ·exact h2.elim
def Zy(X:Cx)(ct:Ct)(f:Sg->Res (Option Int)):TO:=λ σ H Q=>∃Γ,Jx X ct Γ σ H/\Ok X ct σ H (f Γ) λ i=>∀H',aB H H'->Q i H'
abbrev PDO(X:Cx)(ct:Ct)(e:Option Expr)(f:Sg->Res (Option Int)):Prop:=PO X e (Zy X ct f)
structure WO(X:Cx)(e:Option Expr)(t:TO):Prop where
 out:PO X e t
abbrev WJ(X:Cx)(ct:Ct)(e:Option Expr)(f:Sg->Res (Option Int)):Prop:=WO X e (Zy X ct f)
def PO.imp{e:Option Expr}{t u:TO}(h:PO X e t)(k:∀σ H Q,u σ H Q->t σ H Q):PO X e u:=λ pins s σ H Q I q=>h pins s σ H Q I (k σ H Q q)
def xT:WJ X ct none Ic:=by exact ⟨PO.imp J6 λ σ H Q z_=>zX z_ λ Γ j h=>h H (aB.refl H)⟩
def xS(he:WD X ct e f):WJ X ct (some e) (dP f):=by
 have he:=he.out;refine ⟨?_⟩;refine PO.imp (J5 he) ?_;refine λ σ H Q=>ah λ Γ j h=>?_;refine oi.bnd j h λ d v H' s t j' h'=>?_;cases d with
 |int i=>simp only[Tl] at t;exact af i t (h' H' s)
 |_=>exact h'.elim
def Ig{K:W.Frag}{H:Hp}{ds:List D}{vs:List V}(t:aN K ct H ds vs)(lo hi:Option Int):aN K ct H (Ll ds lo hi) (Bb vs lo hi):=by unfold Ll Bb;rw[t.length];exact (t.drop _).take _
def Fi{lo hi:Option Expr}{l u:Sg->Res (Option Int)}{p2:Pos}(he:WD X ct e f)(hl:WJ X ct lo l)(hu:WJ X ct hi u):WL X ct (.Subscript e (.Slice lo hi none p2) pos) (Hu f l u):=by
 have he:=he.out;have hl:=hl.out;have hu:=hu.out;refine ⟨?_⟩;refine PE.imp (Gp JF he hl hu) ?_;refine λ σ H Q=>ah λ Γ j h=>?_;refine oi.bnd j h λ d v H1 s1 t1 j1 h1=>?_;refine af Γ j1 ((Ok.mono s1 h1 λ _ z=>z).bnd (W:=Wl X ct H Q) λ lo _ h2 H2 s2=>?_);refine af Γ (j1.mono s2) ((Ok.mono s2 h2 λ _ z=>z).bnd (W:=Wl X ct H Q) λ hi _ h3 H3 s3=>?_);have t3:=t1.keep (aB.keep (s2.trans s3));cases q:qe d with
 |some xs=>rw[q] at h3;have j3:=j1.mono (s2.trans s3);refine aq (λ a vs y fz tl=>?_) (t3.fX j3.lL j3.lB q);subst y;refine ay a vs rfl fz (λ p hp=>?_);have s4:=bC hp (.lst (Bb vs lo hi));exact h3 p _ _ (((s1.trans s2).trans s3).trans s4) (((s1.trans s2).trans s3).free hp) aJ ((Ig tl lo hi).keep (aB.keep s4))
 |none=>rw[q] at h3;exact h3.elim
end
section
variable{K:W.Frag}{ct:Ct}{H H':Hp}
def Walk(H:Hp):M->V->List Nat->V->Prop
 |_,v,[],v'=>v'=v
 | .n ms,v,k::ks,v'=>∃a vs v1 m1,v= .ref a/\H a=some (.lst vs)/\vs[k]? =some v1/\ms[k]? =some m1/\Walk H m1 v1 ks v'
 | .t ms,v,k::ks,v'=>∃a vs v1 m1,v= .ref a/\H a=some (.tup vs)/\vs[k]? =some v1/\ms[k]? =some m1/\Walk H m1 v1 ks v'
 | .q kq ms,v,k::ks,v'=>∃a vs v1 m1,v= .ref a/\H a=some (kq.ho vs)/\kq.len=vs.length/\vs[k]? =some v1/\ms[k]? =some m1/\Walk H m1 v1 ks v'
 |_,_,_::_,_=>False
theorem Walk.same(e:aB H H'):∀{ks:List Nat} {m:M} {v v':V},Walk H m v ks v'->Walk H' m v ks v'
 |[],m,v,v',h=>by cases m<;>simpa only[Walk] using h
 |k::ks,.n ms,v,v',h=>by simp only[Walk] at h ⊢;refine cI (λ a vs v1 m1 h1 h2 h3 h4 h5=>?_) h;exact bV a vs v1 m1 h1 (e _ _ h2) h3 h4 (Walk.same e h5)
 |k::ks,.t ms,v,v',h=>by simp only[Walk] at h ⊢;refine cI (λ a vs v1 m1 h1 h2 h3 h4 h5=>?_) h;exact bV a vs v1 m1 h1 (e _ _ h2) h3 h4 (Walk.same e h5)
 |k::ks,.q kq ms,v,v',h=>by simp only[Walk] at h ⊢;refine cA (λ a vs v1 m1 h1 h2 h0 h3 h4 h5=>?_) h;exact dz a vs v1 m1 h1 (e _ _ h2) h0 h3 h4 (Walk.same e h5)
 |k::ks,.d x,v,v',h=>by simp only[Walk] at h
 |k::ks,.l x,v,v',h=>by simp only[Walk] at h
 |k::ks,.k x y,v,v',h=>by simp only[Walk] at h
 |k::ks,.o x y z,v,v',h=>by simp only[Walk] at h
theorem Walk.snoc:∀{ks:List Nat} {m m':M} {v v':V},Walk H m v ks v'->gi m ks=some m'->Walk H m' v' [k] v1->Walk H m v (ks++[k]) v1
 |[],m,m',v,v',h,e,w=>by simp only[Walk] at h;simp only[gi,Option.some.injEq] at e;subst h e;exact w
 |j::ks,.n ms,m',v,v',h,e,w=>by simp only[Walk] at h;refine cI (λ a vs v2 m2 h1 h2 h3 h4 h5=>?_) h;simp only[gi,h4,Option.bind_some] at e;show Walk H (.n ms) v (j::(ks++[k])) v1;simp only[Walk];exact bV a vs v2 m2 h1 h2 h3 h4 (Walk.snoc h5 e w)
 |j::ks,.t ms,m',v,v',h,e,w=>by simp only[Walk] at h;refine cI (λ a vs v2 m2 h1 h2 h3 h4 h5=>?_) h;simp only[gi,h4,Option.bind_some] at e;show Walk H (.t ms) v (j::(ks++[k])) v1;simp only[Walk];exact bV a vs v2 m2 h1 h2 h3 h4 (Walk.snoc h5 e w)
 |j::ks,.q kq ms,m',v,v',h,e,w=>by simp only[Walk] at h;refine cA (λ a vs v2 m2 h1 h2 h0 h3 h4 h5=>?_) h;simp only[gi,h4,Option.bind_some] at e;show Walk H (.q kq ms) v (j::(ks++[k])) v1;simp only[Walk];exact dz a vs v2 m2 h1 h2 h0 h3 h4 (Walk.snoc h5 e w)
 |j::ks,.d x,m',v,v',h,e,w=>by simp only[Walk] at h
 |j::ks,.l x,m',v,v',h,e,w=>by simp only[Walk] at h
 |j::ks,.k x y,m',v,v',h,e,w=>by simp only[Walk] at h
 |j::ks,.o x y z,m',v,v',h,e,w=>by simp only[Walk] at h
theorem zip_inj{α β:Type}:∀{ks:List α} {vs us:List β},ks.length=vs.length->ks.length=us.length->ks.zip vs=ks.zip us->vs=us
 |[],[],[],_,_,_=>rfl
 |k::ks,v::vs,u::us,h1,h2,e=>by simp only[List.zip_cons_cons,List.cons.injEq,Prod.mk.injEq,true_and] at e;rw[e.1,zip_inj (by simpa using h1) (by simpa using h2) e.2]
def Pf{kq:Ks}{vs us:List V}(h1:kq.len=vs.length)(h2:kq.len=us.length)(e:kq.ho vs=kq.ho us):vs=us:=by
 cases kq with
 |s ks=>simp only[Ks.ho,HO.dK.injEq] at e;exact zip_inj h1 h2 e
 |t ks=>simp only[Ks.ho,HO.dT.injEq] at e;exact zip_inj h1 h2 e
theorem bK.length:∀{ms:List M} {vs:List V} {S:Fp},bK K ct H ms vs S->ms.length=vs.length
 |[],vs,S,h=>by simp only[bK] at h;subst h;rfl
 |m::ms,vs,S,h=>by
  simp only[bK] at h
  revert h;refine cA λ v r S1 S2 z _ _ _ _ h6=>?_;subst z
  simp[bK.length h6]
theorem bK.CH:∀{ms:List M} {vs:List V} {S:Fp} {k:Nat} {m1:M},bK K ct H ms vs S->ms[k]? =some m1->∃v1 S1,vs[k]? =some v1/\Ow K ct H m1 v1 S1/\(∀b,S1 b->S b)/\∀H' dZ xD,aX ct.f.cb H H'->(∀b o,S b->¬S1 b->H b=some o->H' b=some o)->Ow K ct H' dZ v1 xD->(∀b,xD b->S b->S1 b)->bK K ct H' (ms.set k dZ) vs (λ b=>(S b/\¬S1 b)\/xD b)
 |[],vs,S,k,m1,h,e=>by simp at e
 |m::ms,vs,S,0,m1,h,e=>by
  simp only[bK] at h
  revert h;refine cA λ v r S1 S2 y h2 h3 h4 h5 h6=>?_;subst y
  simp only[List.getElem?_cons_zero,Option.some.injEq] at e;subst e;refine bh v S1 rfl h5 h2 (λ H' dZ xD kp un o fr=>?_);simp only[List.set_cons_zero,bK];refine dz v r xD S2 rfl (λ b z=> .inr z) (λ b z=> .inl ⟨h3 b z,λ w=>h4 b w z⟩) (λ b z w=>h4 b (fr b z (h3 b w)) w) o (h6.frame kp λ b o z=>un b o (h3 b z) λ w=>h4 b w z)
 |m::ms,vs,S,k+1,m1,h,e=>by
  simp only[bK] at h
  revert h;refine cA λ v r S1 S2 y h2 h3 h4 h5 h6=>?_;subst y
  simp only[List.getElem?_cons_succ] at e;refine aL (λ v1 T1 g1 g2 g3 g4=>?_) (bK.CH h6 e);refine bh v1 T1 (by simpa using g1) g2 (λ b z=>h3 b (g3 b z)) (λ H' dZ xD kp un o fr=>?_);have q:=g4 H' dZ xD kp (λ b o z w=>un b o (h3 b z) w) o λ b z w=>fr b z (h3 b w);simp only[List.set_cons_succ,bK];refine dz v r S1 (λ b=>(S2 b/\¬T1 b)\/xD b) rfl (λ b z=> .inl ⟨h2 b z,λ w=>h4 b z (g3 b w)⟩) (λ b z=>?_) (λ b z w=>?_) (h5.frame kp λ b o z=>un b o (h2 b z) λ w=>h4 b z (g3 b w)) q
  ·rcases z with z|z
   ·exact .inl ⟨h3 b z.1,z.2⟩
   ·exact .inr z
  ·rcases w with w|w
   ·exact h4 b z w.1
   ·exact h4 b z (g3 b (fr b w (h2 b z)))
theorem Ow.CH:∀{ks:List Nat} {m m':M} {v v':V} {S:Fp},Ow K ct H m v S->Walk H m v ks v'->gi m ks=some m'->∃S',Ow K ct H m' v' S'/\(∀b,S' b->S b)/\∀H' dZ xD,aX ct.f.cb H H'->(∀b o,S b->¬S' b->H b=some o->H' b=some o)->Ow K ct H' dZ v' xD->(∀b,xD b->S b->S' b)->Ow K ct H' (eG m ks dZ) v (λ b=>(S b/\¬S' b)\/xD b)
 |[],m,m',v,v',S,o,w,e=>by
  simp only[Walk] at w;simp only[gi,Option.some.injEq] at e;subst w e;refine aY S o (λ _ z=>z) (λ H' dZ xD kp un o' fr=>?_);have:eG m [] dZ=dZ:=by cases m<;>rfl
  rw[this];exact o'.wide λ b z=> .inr z
 |k::ks,.n ms,m',v,v',S,o,w,e=>by
  simp only[Walk] at w
  revert w;refine cI λ a vs v1 m1 u w2 w3 w4 w5=>?_;subst u
  simp only[gi,w4,Option.bind_some] at e;simp only[Ow] at o
  revert o;refine aL λ a' us e1 o2 o3 o4=>?_
  cases e1;rw[w2] at o3;cases o3;refine aL (λ u1 T1 g1 g2 g3 g4=>?_) (bK.CH o4 w4);rw[w3] at g1;cases g1;refine aH (λ S' q1 q2 q3=>?_) (Ow.CH g2 w5 e);refine aY S' q1 (λ b z=>(g3 b (q2 b z)).1) (λ H' dZ xD kp un o' fr=>?_);have na:¬S' a:=λ z=>(g3 a (q2 a z)).2 rfl;have r1:=q3 H' dZ xD kp (λ b o z=>un b o (g3 b z).1) o' λ b z z'=>fr b z (g3 b z').1;have r2:=g4 H' (eG m1 ks dZ) _ kp (λ b o z z'=>un b o z.1 λ y=>z' (q2 b y)) r1 λ b z z'=>by
   rcases z with z|z
   ·exact z.1
   ·exact q2 b (fr b z z'.1)
  simp only[eG,w4,Ow];refine bh a vs rfl (.inl ⟨o2,na⟩) (un a _ o2 na w2) (r2.wide λ b z=>?_);rcases z with z|z|z
  ·exact ⟨.inl ⟨z.1.1,λ y=>z.2 (q2 b y)⟩,z.1.2⟩
  ·exact ⟨.inl ⟨(g3 b z.1).1,z.2⟩,(g3 b z.1).2⟩
  ·refine ⟨.inr z,?_⟩
   rintro rfl
   exact na (fr b z o2)
 |k::ks,.t ms,m',v,v',S,o,w,e=>by
  simp only[Walk] at w
  revert w;refine cI λ a vs v1 m1 u w2 w3 w4 w5=>?_;subst u
  simp only[gi,w4,Option.bind_some] at e;simp only[Ow] at o
  revert o;refine aq λ a' us e1 o3 o4=>?_
  cases e1;rw[w2] at o3;cases o3;refine aL (λ u1 T1 g1 g2 g3 g4=>?_) (bK.CH o4 w4);rw[w3] at g1;cases g1;refine aH (λ S' q1 q2 q3=>?_) (Ow.CH g2 w5 e);refine aY S' q1 (λ b z=>g3 b (q2 b z)) (λ H' dZ xD kp un o' fr=>?_);have r1:=q3 H' dZ xD kp (λ b o z=>un b o (g3 b z)) o' λ b z z'=>fr b z (g3 b z');have r2:=g4 H' (eG m1 ks dZ) _ kp (λ b o z z'=>un b o z λ y=>z' (q2 b y)) r1 λ b z z'=>by
   rcases z with z|z
   ·exact z.1
   ·exact q2 b (fr b z z')
  simp only[eG,w4,Ow];refine ay a vs rfl (kp _ _ w2 trivial) (r2.wide λ b z=>?_);rcases z with z|z|z
  ·exact .inl ⟨z.1,λ y=>z.2 (q2 b y)⟩
  ·exact .inl ⟨g3 b z.1,z.2⟩
  ·exact .inr z
 |k::ks,.q kq ms,m',v,v',S,o,w,e=>by
  simp only[Walk] at w
  revert w;refine cA λ a vs v1 m1 u w2 w0 w3 w4 w5=>?_;subst u
  simp only[gi,w4,Option.bind_some] at e;simp only[Ow] at o
  revert o;refine cR λ a' us e1 o2 o3 o0 o4=>?_
  cases e1;rw[w2] at o3;cases Pf w0 o0 (Option.some.inj o3);refine aL (λ u1 T1 g1 g2 g3 g4=>?_) (bK.CH o4 w4);rw[w3] at g1;cases g1;refine aH (λ S' q1 q2 q3=>?_) (Ow.CH g2 w5 e);refine aY S' q1 (λ b z=>(g3 b (q2 b z)).1) (λ H' dZ xD kp un o' fr=>?_);have na:¬S' a:=λ z=>(g3 a (q2 a z)).2 rfl;have r1:=q3 H' dZ xD kp (λ b o z=>un b o (g3 b z).1) o' λ b z z'=>fr b z (g3 b z').1;have r2:=g4 H' (eG m1 ks dZ) _ kp (λ b o z z'=>un b o z.1 λ y=>z' (q2 b y)) r1 λ b z z'=>by
   rcases z with z|z
   ·exact z.1
   ·exact q2 b (fr b z z'.1)
  simp only[eG,w4,Ow];refine bN a vs rfl (.inl ⟨o2,na⟩) (un a _ o2 na w2) w0 (r2.wide λ b z=>?_);rcases z with z|z|z
  ·exact ⟨.inl ⟨z.1.1,λ y=>z.2 (q2 b y)⟩,z.1.2⟩
  ·exact ⟨.inl ⟨(g3 b z.1).1,z.2⟩,(g3 b z.1).2⟩
  ·refine ⟨.inr z,?_⟩
   rintro rfl
   exact na (fr b z o2)
 |k::ks,.d x,m',v,v',S,o,w,e=>by simp only[Walk] at w
 |k::ks,.l x,m',v,v',S,o,w,e=>by simp only[Walk] at w
 |k::ks,.k x y,m',v,v',S,o,w,e=>by simp only[Walk] at w
 |k::ks,.o x y z,m',v,v',S,o,w,e=>by simp only[Walk] at w
def J.up{c:Cf}{H₀:Hp}{Γ:Sg}{σ:St}{i:Nat}{s:Slot}{m m' dZ:M}{v0:V}{a:Addr}{ks:List Nat}{o':HO}(j:J K c.z H₀ Γ σ H)(hi:Γ[i]? =some s)(hm:sZ s=some m)(hσ:σ[i]? =some (some v0))(w:Walk H m v0 ks (.ref a))(e:gi m ks=some m') (kp:aX c.cb H (upd H a o')) (new:∀S',Ow K c.z H m' (.ref a) S'->S' a/\Ow K c.z (upd H a o') dZ (.ref a) S'):J K c.z H₀ (Γ.set i (An s (eG m ks dZ))) σ (upd H a o'):=by
 refine ah (λ S h1 h2=>?_) (j.chg i);have sl:=h1 s _ hi hσ;have key:∀(v:V) (o:Ow K c.z H m v S) (hv:v=v0),∃S2:Fp,Ow K c.z (upd H a o') (eG m ks dZ) v0 S2/\(∀b,S2 b->S b)/\S a:=λ v o hv=>by
  subst hv;refine aH (λ S' q1 q2 q3=>?_) (o.CH w e);obtain ⟨n1,n2⟩:=new S' q1;refine aY _ (q3 _ dZ S' kp (λ b u z z' q=>by rw[aE (by rintro rfl;exact z' n1)];exact q) n2 λ b z _=>z) (λ b z=>?_) (q2 a n1);rcases z with z|z
  ·exact z.1
  ·exact q2 b z
 have fin:∀(E3:Slot) (S2:Fp),S a->(∀b,S2 b->S b)->iJ K c.z H₀ (upd H a o') i S2 E3 (some v0)->J K c.z H₀ (Γ.set i E3) σ (upd H a o'):=λ E3 S2 sa sub ok=>by
  have q:=h2 (upd H a o') E3 (some v0) S2 kp (λ b u z z'=>by rw[aE (by rintro rfl;exact z' sa)];exact z) (λ b z=>by
   by_cases eb:b=a
   ·subst eb;rw[aJ] at z;cases z
   ·rwa [aE eb] at z) (λ b u z=>nomatch z) ok λ b z=> .inl (sub b z)
  have hil:i<σ.length:=(List.getElem?_eq_some_iff.mp hσ).1;have:σ.set i (some v0)=σ:=by have e2:=(List.getElem?_eq_some_iff.mp hσ).2;rw[<-e2,List.set_getElem_self]
  rwa [this] at q
 have SD:∀S2:Fp,(∀b,S2 b->S b)->IT c.z H₀ H S->IT c.z H₀ (upd H a o') S2:=λ S2 sub so=>⟨λ b z=>so.new b (sub b z),λ b z q=>so.here b (sub b z) (by
   by_cases eb:b=a
   ·subst eb;rw[aJ] at q;cases q
   ·rwa [aE eb] at q),λ b z=>so.AI b (sub b z),λ b z t=>nomatch t⟩
 cases s with
 |no=>cases hm
 |val d=>cases hm
 |own m0=>
  cases hm
  revert sl;refine dw λ v e1 o so n=>?_
  refine aH (λ S2 o2 sub sa=>?_) (key v o (by cases e1;rfl));exact fin (.own (eG m ks dZ)) S2 sa sub (bW v0 rfl o2 (SD S2 sub so) (λ b z=>n b (sub b z)))
 |par m0=>
  cases hm
  revert sl;refine dw λ v e1 o so n=>?_
  refine aH (λ S2 o2 sub sa=>?_) (key v o (by cases e1;rfl));exact fin (.par (eG m ks dZ)) S2 sa sub (bW v0 rfl o2 (SD S2 sub so) (by cases e1;exact n))
end
section
variable{X:Cx}{ct:Ct}{c:Cf}{r ix e:Expr}{i:Nat}{g:Sg->Res (List Nat)}{f fk:Sg->Res D}{pos:Pos}{Γ:Sg}{σ:St}{H:Hp}
def lR(Γ:Sg)(σ:St)(H:Hp)(i:Nat)(ks:List Nat)(v:V):Prop:=∃s m v0 m',Γ[i]? =some s/\sZ s=some m/\σ[i]? =some (some v0)/\Walk H m v0 ks v/\gi m ks=some m'
theorem lR.same{H':Hp}{ks:List Nat}{v:V}(e:aB H H')(h:lR Γ σ H i ks v):lR Γ σ H' i ks v:=by refine cI (λ s m v0 m' h1 h2 h3 h4 h5=>?_) h;exact bV s m v0 m' h1 h2 h3 (h4.same e) h5
def Zw(X:Cx)(ct:Ct)(i:Nat)(g:Sg->Res (List Nat)):TE:=λ σ H Q=>∃Γ,Jx X ct Γ σ H/\Ok X ct σ H (g Γ) λ ks=>∀v H',aB H H'->lR Γ σ H' i ks v->Q v H'
abbrev PP(X:Cx)(ct:Ct)(e:Expr)(i:Nat)(g:Sg->Res (List Nat)):Prop:=PE X e (Zw X ct i g)
abbrev WP(X:Cx)(ct:Ct)(e:Expr)(i:Nat)(g:Sg->Res (List Nat)):Prop:=WE X e (Zw X ct i g)
def J.ofM{K:W.Frag}{H₀:Hp}{s:Slot}{m:M}(j:J K ct H₀ Γ σ H)(h:Γ[i]? =some s)(hm:sZ s=some m):∃v S,σ[i]? =some (some v)/\Ow K ct H m v S:=by
 cases s with
 |no=>cases hm
 |val d=>cases hm
 |own m'=>cases hm;refine aq (λ v S h1 h2 _=>?_) (j.own h);exact aQ v S h1 h2
 |par m'=>cases hm;refine aq (λ v S h1 h2 _=>?_) (j.par h);exact aQ v S h1 h2
def gk(i:Nat)(hN:X.N[i]? =some x:=by rfl)(hv:IP X.env.scope x:=by first|exact Or.inl rfl|exact Or.inr (Or.inl rfl)|exact Or.inr (Or.inr rfl))(hd:(x==("__debug__":Str))=false:=by decide)(hcd:(x==("__classdict__":Str))=false:=by decide):WP X ct (.Name x pos) i (fR i):=by
 refine ⟨?_⟩;refine PE.imp (uW hN hv hd hcd) ?_;refine λ σ H Q=>ah λ Γ j h=>?_;unfold fR at h;split at h
 ·rename_i m hm;refine ah (λ s h1 h2=>?_) (Option.bind_eq_some_iff.mp hm);refine aW (λ v S h3 h4=>?_) (j.ofM h1 h2);refine af v h3 (h v H (aB.refl H) (bV s m v m h1 h2 h3 ?_ ?_))
  ·cases m<;>rfl
  ·cases m<;>rfl
 ·exact h.elim
theorem nB{k:Nat}{m1:M}:∀{ks:List Nat} {m m':M},gi m ks=some m'->gi m' [k]=some m1->gi m (ks++[k])=some m1
 |[],m,m',h,w=>by simp only[gi,Option.some.injEq] at h;subst h;exact w
 |q::ks,.n l,m',h,w=>by simp only[gi] at h;refine ah (λ m2 y1 y2=>?_) (Option.bind_eq_some_iff.mp h);show gi (.n l) (q::(ks++[k]))=_;simp only[gi,y1,Option.bind_some];exact nB y2 w
 |q::ks,.t l,m',h,w=>by simp only[gi] at h;refine ah (λ m2 y1 y2=>?_) (Option.bind_eq_some_iff.mp h);show gi (.t l) (q::(ks++[k]))=_;simp only[gi,y1,Option.bind_some];exact nB y2 w
 |q::ks,.q kq l,m',h,w=>by simp only[gi] at h;refine ah (λ m2 y1 y2=>?_) (Option.bind_eq_some_iff.mp h);show gi (.q kq l) (q::(ks++[k]))=_;simp only[gi,y1,Option.bind_some];exact nB y2 w
 |q::ks,.d x,m',h,w=>by simp[gi] at h
 |q::ks,.l x,m',h,w=>by simp[gi] at h
 |q::ks,.k x y,m',h,w=>by simp[gi] at h
 |q::ks,.o x y z,m',h,w=>by simp[gi] at h
def R7(hr:WP X ct r i g)(hk:WD X ct ix fk)(hs:nE ix:=by exact λ _ _=>rfl):WP X ct (.Subscript r ix pos) i (Ro i g fk):=by
 have hr:=hr.out;have hk:=hk.out;refine ⟨?_⟩;refine PE.imp (Me HC hr hk hs) ?_;refine λ σ H Q=>ah λ Γ j h=>?_;refine af Γ j (h.bnd λ ks _ q v H1 s1 pa=>?_);refine oi.bnd (f:=fk) (j.mono s1) (Ok.mono s1 q λ _ z=>z) λ d u H2 s2 t2 j2 h2=>?_;refine cI (λ s m v0 m' p1 p2 p3 p4 p5=>?_) (pa.same s2);have e1:((Γ[i]?).bind sZ).bind (λ m=>(gi m ks).bind yX)=yX m':=by rw[p1,Option.bind_some,p2,Option.bind_some,p5,Option.bind_some]
 rw[e1] at h2;refine aW (λ vv S g1 o=>?_) (j2.ofM p1 p2);rw[p3] at g1;cases g1;refine ah (λ S' o' _=>?_) (o.CH p4 p5);cases d with
 |int z=>
  simp only[Tl] at t2;subst t2;cases ml:yX m' with
  |none=>rw[ml] at h2;exact h2.elim
  |some n=>
   rw[ml] at h2;dsimp only at h2;cases hx:L4.mY n z with
   |none=>rw[hx] at h2;exact h2.elim
   |some k=>
    rw[hx] at h2;have fin:∀(ms:List M) (a:Addr) (vs:List V) (T:Fp),bK X.K ct H2 ms vs T->n=ms.length->(∀v1 m1,vs[k]? =some v1->ms[k]? =some m1->Walk H2 m' v [k] v1/\gi m' [k]=some m1)->∃v1,L2.um vs z=some v1/\Q v1 H2:=λ ms a vs T os en w=>by
     have hk:k<ms.length:=by
      subst en;unfold L4.mY at hx;split at hx
      ·split at hx
       ·cases hx;omega
       ·cases hx
      ·split at hx
       ·cases hx;omega
       ·cases hx
     refine aq (λ v1 T1 g1 g2 _=>?_) (os.CH (List.getElem?_eq_getElem hk));obtain ⟨w1,w2⟩:=w v1 _ g1 (List.getElem?_eq_getElem hk);refine af v1 ?_ (h2 v1 H2 (s1.trans s2) (bV s m v0 (ms[k]) p1 p2 p3 (p4.snoc p5 w1) ?_))
     ·unfold L2.um;have:L2.mY vs.length z=some k:=by rw[<-os.length, <-en];exact hx
      rw[this];exact g1
     ·exact nB p5 w2
    cases m' with
    |n ms=>
     simp only[Ow] at o'
     revert o';refine aL λ a vs z1 o2 o3 o4=>?_;subst z1
     simp only[yX,Option.some.injEq] at ml;refine ah (λ v1 a1 a2=>?_) (fin ms a vs _ o4 ml.symm λ v1 m1 y1 y2=>⟨by simp only[Walk];exact bV a vs v1 m1 rfl o3 y1 y2 rfl,by simp[gi,y2]⟩);exact .inl (bV a vs z v1 rfl rfl (.inl (.inl o3)) a1 a2)
    |t ms=>
     simp only[Ow] at o'
     revert o';refine aq λ a vs z1 o3 o4=>?_;subst z1
     simp only[yX,Option.some.injEq] at ml;refine ah (λ v1 a1 a2=>?_) (fin ms a vs _ o4 ml.symm λ v1 m1 y1 y2=>⟨by simp only[Walk];exact bV a vs v1 m1 rfl o3 y1 y2 rfl,by simp[gi,y2]⟩);exact .inr (.inl (bV a vs z v1 rfl rfl (.inl (.inl o3)) a1 a2))
    |d x=>cases ml
    |l x=>cases ml
    |k x y=>cases ml
    |o x y z=>cases ml
    |q x y=>cases ml
 |_=>cases yX m'<;>exact h2.elim
end
section
variable{X:Cx}{c:Cf}{r ix e:Expr}{i:Nat}{g:Sg->Res (List Nat)}{f fk:Sg->Res D}{pos:Pos}{Γ:Sg}{σ:St}{H:Hp}
def i7:1000000<sizeLine:=by rw[sizeLine_eq];decide
theorem bK.snoc{K:W.Frag}{ct:Ct}{d:D}{y:V}:∀{ms:List M} {vs:List V} {S:Fp},bK K ct H ms vs S->Tl K ct H d y->bK K ct H (ms++[.d d]) (vs++[y]) S
 |[],vs,S,h,t=>by simp only[bK] at h;subst h;simp only[List.nil_append,bK,Ow];exact dz y [] (λ _=>False) (λ _=>False) rfl (λ _ z=>z.elim) (λ _ z=>z.elim) (λ _ z=>z.elim) t rfl
 |m::ms,vs,S,h,t=>by
  simp only[bK] at h
  revert h;refine cA λ v r S1 S2 w h2 h3 h4 h5 h6=>?_;subst w
  simp only[List.cons_append,bK];exact dz v (r++[y]) S1 S2 rfl h2 h3 h4 h5 (bK.snoc h6 t)
theorem bK.SG{K:W.Frag}{ct:Ct}{d:D}{y:V}:∀{ms:List M} {vs:List V} {S:Fp} (k:Nat),bK K ct H ms vs S->Tl K ct H d y->bK K ct H (ms.set k (.d d)) (vs.set k y) S
 |[],vs,S,k,h,t=>by simp only[bK] at h;subst h;simp[bK]
 |m::ms,vs,S,0,h,t=>by
  simp only[bK] at h
  revert h;refine cA λ v r S1 S2 w h2 h3 h4 h5 h6=>?_;subst w
  simp only[List.set_cons_zero,bK,Ow];exact dz y r (λ _=>False) S2 rfl (λ _ z=>z.elim) h3 (λ _ z=>z.elim) t h6
 |m::ms,vs,S,k+1,h,t=>by
  simp only[bK] at h
  revert h;refine cA λ v r S1 S2 w h2 h3 h4 h5 h6=>?_;subst w
  simp only[List.set_cons_succ,bK];exact dz v (r.set k y) S1 S2 rfl h2 h3 h4 h5 (bK.SG k h6 t)
def Eh{ks:List Nat}{v:V}(j:Jx X c.z Γ σ H)(pa:lR Γ σ H i ks v)(hl:vm (jL i ks Γ)=true):∃a vs,v= .ref a/\H a=some (.lst vs):=by
 revert pa;refine cI λ s m v0 m' p1 p2 p3 p4 p5=>?_
 have e1:jL i ks Γ=some m':=by unfold jL;rw[p1,Option.bind_some,p2,Option.bind_some,p5]
 rw[e1] at hl;refine aW (λ vv S g1 o=>?_) (j.ofM p1 p2);rw[p3] at g1;cases g1;refine ah (λ S' o' _=>?_) (o.CH p4 p5);cases m' with
 |l xs=>simp only[Ow] at o';revert o';refine aL λ a vs h1 _ h2 _=>?_;exact aQ a vs h1 h2
 |n xs=>simp only[Ow] at o';revert o';refine aL λ a vs h1 _ h2 _=>?_;exact aQ a vs h1 h2
 |_=>cases hl
def uB{F:M->Option M}(j:Jx X c.z Γ σ H)(k0:aX c.cb H0 H)(pa:lR Γ σ H i ks (.ref a))(ha:H a=some (.lst vs))(q:Fn X c H0 (IZ (oQ i ks F Γ)) E)(hF:∀m' dZ S',F m'=some dZ->Ow X.K c.z H m' (.ref a) S'->S' a/\Ow X.K c.z (upd H a (.lst vs')) dZ (.ref a) S'):E.nx σ (upd H a (.lst vs')):=by
 revert pa;refine cI λ s m v0 m' p1 p2 p3 p4 p5=>?_
 have e1:oQ i ks F Γ=(F m').map λ dZ=>Γ.set i (An s (eG m ks dZ)):=by unfold oQ;rw[p1,Option.bind_some,p2,Option.bind_some,p5,Option.bind_some]
 rw[e1] at q;cases z:F m' with
 |none=>rw[z] at q;exact q.elim
 |some dZ=>rw[z] at q;have kp:aX c.cb H (upd H a (.lst vs')):=aX.lst ha;exact q σ _ (k0.trans kp) (j.up p1 p2 p3 p4 p5 kp λ S' o=>hF m' dZ S' z o)
def uA{ks:List Nat}{v:V}{F:M->Option M}{E:Ends}{H0:Hp}(j:Jx X c.z Γ σ H)(pa:lR Γ σ H i ks v)(q:Fn X c H0 (IZ (oQ i ks F Γ)) E):∃m' dZ S',F m'=some dZ/\Ow X.K c.z H m' v S':=by
 revert pa;refine cI λ s m v0 m' p1 p2 p3 p4 p5=>?_
 have e1:oQ i ks F Γ=(F m').map λ dZ=>Γ.set i (An s (eG m ks dZ)):=by unfold oQ;rw[p1,Option.bind_some,p2,Option.bind_some,p5,Option.bind_some]
 rw[e1] at q;refine aW (λ vv S g1 o=>?_) (j.ofM p1 p2);rw[p3] at g1;cases g1;refine ah (λ S' o' _=>?_) (o.CH p4 p5);cases z:F m' with
 |none=>rw[z] at q;exact q.elim
 |some dZ=>exact iD m' dZ S' z o'
def Iz{K:W.Frag}{d:D}{y:V}{a:Addr}{vs:List V}{B:Hp}{m' dZ:M}{S':Fp}(t:Tl K (c.at' B) H d y)(ha:H a=some (.lst vs))(e:rR d m'=some dZ)(o:Ow K c.z H m' (.ref a) S'):
  vs.length<1000000/\S' a/\Ow K c.z (upd H a (.lst (vs++[y]))) dZ (.ref a) S':=by
 have kp:aX c.cb H (upd H a (.lst (vs++[y]))):=aX.lst ha;cases m' with
 |l xs=>
  simp only[rR] at e;split at e
  ·rename_i hc;cases e;simp only[Ow] at o ⊢
   revert o;refine aL λ a' us e1 o2 o3 o4=>?_
   cases e1;rw[ha] at o3;cases o3;exact aV (by rw[<-o4.length];exact hc.1) o2 (bh a _ rfl o2 aJ ((o4.append (aN.cons (Tl.down (B:=B) (tm:=true) t hc.2) aN.nil)).keep kp))
  ·cases e
 |n ms=>
  simp only[rR] at e;split at e
  ·rename_i hc;cases e;simp only[Ow] at o ⊢
   revert o;refine aL λ a' us e1 o2 o3 o4=>?_
   cases e1;rw[ha] at o3;cases o3;refine aV (by rw[<-o4.length];exact hc.1) o2 (bh a _ rfl o2 aJ ((o4.snoc (Tl.down (B:=B) (tm:=true) t hc.2)).frame kp λ b o z q=>?_));rw[aE z.2];exact q
  ·cases e
 |_=>cases e
def iY{ap cp:Pos}(hr:∀B,WP X (c.at' B) r i g)(he:∀B,WD X (c.at' B) e f)(hbase:attributeBase r "append" X.env (eval r X.env)=eval r X.env:=by rfl)(hfew:((backTo cp (starEach [e] X.env)).all (λ x=>!x.1)&&(backToKw cp (keywordEach [] X.env)).all (λ x=>x.1.isSome)
   &&decide ([e].length+([]:List Keyword).length+(if ([]:List Keyword).isEmpty then 0 else 1)<30))=true:=by rfl) (hline:(ap.endLine==cp.line)=true:=by rfl) (hs:starEach [e] X.env=(false,eval e X.env)::starEach [] X.env:=by rfl) (hplain:(backTo cp (starEach [] X.env)).any (·.1)=false:=by rfl) (hw:swapsWith (.Call (.Attribute r "append" ap) [e] [] cp) none pos.line X.env=pure false:=by rfl):sQ X c (.Expr (.Call (.Attribute r "append" ap) [e] [] cp) pos) (jW i g f):=by
 have hr:=λ B=>(hr B).out;have he:=λ B=>(he B).out;refine ⟨?_⟩;refine λ pins s σ H E I=>ah λ Γ j h=>?_;refine B6 (Tj PySem.F.plainAttrs_list PySem.F.slot_list_append PySem.F.type_list_append tQ (hr H) (pW (he H) AB hs) hbase hfew hline hs hplain) hw pins s σ H E I ?_;refine af Γ j.lift (Fn.ok j h λ ks _ q v H1 s1 pa=>?_);split at q
 ·rename_i hl;have j1:=j.mono s1;refine aW (λ a vs w ha=>?_) (Eh j1 pa hl);subst w;refine ⟨.inl ⟨rfl,vs,fZ.of ha⟩,af Γ (j.lift.mono s1) (Ok.mono (H:=H) s1 (Fn.ok (tm:=true) (B:=H) j q λ d _ q y H2 s2 t=>?_) λ _ z=>z)⟩;have j2:=j1.mono s2;have Zv:=pa.same s2;have ha2:=s2 _ _ ha;refine bT (λ m' dZ S' e1 o1=>?_) (uA j2 Zv q);refine k9 a vs y rfl rfl ha2 (Nat.lt_trans (Iz t ha2 e1 o1).1 i7) ?_;exact uB j2 (aB.keep (s1.trans s2)) Zv ha2 q λ m' dZ S' e o=>(Iz t ha2 e o).2
 ·exact q.elim
def Qg{K:W.Frag}{a:Addr}{vs:List V}{m' dZ:M}{S':Fp}(ha:H a=some (.lst vs))(e:Qh m'=some dZ)(o:Ow K c.z H m' (.ref a) S'):S' a/\Ow K c.z (upd H a (.lst [])) dZ (.ref a) S':=by
 cases m' with
 |l xs=>
  cases e;simp only[Ow] at o ⊢
  revert o;refine aL λ a' us e1 o2 o3 o4=>?_
  cases e1;exact ⟨o2,bh a _ rfl o2 aJ aN.nil⟩
 |n ms=>
  cases e;simp only[Ow] at o ⊢
  revert o;refine aL λ a' us e1 o2 o3 o4=>?_
  cases e1;exact ⟨o2,bh a _ rfl o2 aJ (by simp only[bK])⟩
 |_=>cases e
def DS{ap cp:Pos}(hr:∀B,WP X (c.at' B) r i g)(hbase:attributeBase r "clear" X.env (eval r X.env)=eval r X.env:=by rfl)(hline:(ap.endLine==cp.line)=true:=by rfl)(hw:swapsWith (.Call (.Attribute r "clear" ap) [] [] cp) none pos.line X.env=pure false:=by rfl):sQ X c (.Expr (.Call (.Attribute r "clear" ap) [] [] cp) pos) (Al i g):=by
 have hr:=λ B=>(hr B).out;refine ⟨?_⟩;refine λ pins s σ H E I=>ah λ Γ j h=>?_;refine B6 (Oe PySem.F.plainAttrs_list PySem.F.slot_list_clear PySem.F.type_list_clear G3 (hr H) hbase hline) hw pins s σ H E I ?_;refine af Γ j.lift (Fn.ok j h λ ks _ q v H1 s1 pa=>?_);have j1:=j.mono s1;refine bT (λ m' dZ S' e1 o1=>?_) (uA j1 pa q);have hv:∃a vs,v= .ref a/\H1 a=some (.lst vs):=by
  cases m' with
  |l xs=>simp only[Ow] at o1;revert o1;refine aL λ a vs h1 _ h2 _=>?_;exact aQ a vs h1 h2
  |n xs=>simp only[Ow] at o1;revert o1;refine aL λ a vs h1 _ h2 _=>?_;exact aQ a vs h1 h2
  |_=>cases e1
 revert hv;refine aW λ a vs z ha=>?_;subst z
 exact ⟨.inl ⟨rfl,vs,fZ.of ha⟩,bh a vs rfl rfl ha (uB j1 (aB.keep s1) pa ha q λ m' dZ S' e o=>Qg ha e o)⟩
def Yc(n:Nat)(z:Int):L4.mY n z=L2.mY n z:=rfl
def F2{K:W.Frag}{d:D}{y:V}{z:Int}{a:Addr}{vs:List V}{B:Hp}{m' dZ:M}{S':Fp}(t:Tl K (c.at' B) H d y)(ha:H a=some (.lst vs))(e:setM z d m'=some dZ)(o:Ow K c.z H m' (.ref a) S'):
  ∃k,L2.mY vs.length z=some k/\S' a/\Ow K c.z (upd H a (.lst (vs.set k y))) dZ (.ref a) S':=by
 cases m' with
 |l xs=>
  simp only[setM] at e;split at e
  ·rename_i hc;simp only[Option.map_eq_some_iff] at e
   revert e;refine ah λ k hk w=>?_;subst w
   simp only[Ow] at o ⊢
   revert o;refine aL λ a' us e1 o2 o3 o4=>?_
   cases e1;rw[ha] at o3;cases o3;refine aY k (by rw[<-o4.length];exact hk) o2 (bh a _ rfl o2 aJ ((aN.set (Tl.down (B:=B) (tm:=true) t hc) k o4).keep (aX.lst ha)))
  ·cases e
 |n ms=>
  simp only[setM] at e;split at e
  ·rename_i hc;simp only[Option.map_eq_some_iff] at e
   revert e;refine ah λ k hk w=>?_;subst w
   simp only[Ow] at o ⊢
   revert o;refine aL λ a' us e1 o2 o3 o4=>?_
   cases e1;rw[ha] at o3;cases o3;refine aY k (by rw[<-o4.length];exact hk) o2 (bh a _ rfl o2 aJ ((bK.SG k o4 (Tl.down (B:=B) (tm:=true) t hc)).frame (aX.lst ha) λ b o z q=>?_));rw[aE z.2];exact q
  ·cases e
 |_=>cases e
def nM{pt:Pos}(hr:∀B,WP X (c.at' B) r i g)(hk:∀B,WD X (c.at' B) ix fk)(he:∀B,WD X (c.at' B) e f)(hs:swapsWithSole [.Subscript r ix pt] e pos.line X.env=pure false:=by rfl)(hw:swappedStores [.Subscript r ix pt] e X.env=pure none:=by rfl)(h1:(assignEach [.Subscript r ix pt] X.env).map (·.2)=[assign (.Subscript r ix pt) X.env]:=by rfl)(ha:∀v,assign (.Subscript r ix pt) X.env v=(do
   let ov <-holding [v] (eval r X.env)
   let iv <-holding [v,ov] (eval ix X.env)
   standAt pt
   holding [v,ov,iv] (setItem ov iv v)
   release [v,ov,iv] []):=by intro _;rfl):sQ X c (.Assign [.Subscript r ix pt] e pos) (iB i g fk f):=by
 have hr:=λ B=>(hr B).out
 have hk:=λ B=>(hk B).out
 have he:=λ B=>(he B).out
 refine ⟨?_⟩
 refine λ pins s σ H E I=>ah λ Γ j h=>?_
 refine NY (he H) (N6 (hr H) (hk H) set_list ha) hs hw h1 pins s σ H E I ?_
 refine af Γ j.lift (Fn.ok j h λ d _ q y H1 s1 t=>?_)
 refine af Γ (j.lift.mono s1) (Ok.mono (H:=H) s1 (Fn.ok (tm:=true) (B:=H) j q λ ks _ q v H2 s2 pa=>?_) λ _ z=>z)
 refine af Γ ((j.lift.mono s1).mono s2) (Ok.mono (H:=H) (s1.trans s2) (Fn.ok (tm:=true) (B:=H) j q λ z _ q u H3 s3 t3=>?_) λ _ z=>z)
 cases z with
 |int z=>
  simp only[Tl] at t3
  subst t3
  have sm:=(s1.trans s2).trans s3
  have j3:=j.mono sm
  have Zu:=pa.same s3
  have ty:=t.keep (aB.keep (s2.trans s3))
  refine bT (λ m' dZ S' e1 o1=>?_) (uA j3 Zu q)
  have hv:∃a vs,v= .ref a/\H3 a=some (.lst vs):=by
   cases m' with
   |l xs=>simp only[Ow] at o1;revert o1;refine aL λ a vs h1 _ h2 _=>?_;exact aQ a vs h1 h2
   |n xs=>simp only[Ow] at o1;revert o1;refine aL λ a vs h1 _ h2 _=>?_;exact aQ a vs h1 h2
   |_=>cases e1
  revert hv;refine aW λ a vs w ha=>?_;subst w
  refine ah (λ k hk _=>?_) (F2 ty ha e1 o1)
  refine bV a vs z k rfl rfl ha hk ?_
  exact uB j3 (aB.keep sm) Zu ha q λ m' dZ S' e o=>by
   refine ah (λ k' hk' q'=>?_) (F2 ty ha e o)
   rw[hk] at hk';cases hk'
   exact q'
 |_=>exact q.elim
end
def xP(K:W.Frag)(ct:Ct)(J:It)(xs:List D)(H:Hp):Prop:=∃P:Hp->Prop,P H/\(∀H1 H2,P H1->aX ct.f.cb H1 H2->aB ct.f.L H2->aB ct.B H2->P H2)/\(∀i d H1,P H1->xs[i]? =some d->J.go i H1/\∀x H2,J.RY i H1 x H2->aB H1 H2/\Tl K ct H2 d x)/\∀i H1,P H1->xs.length<=i->J.stop i H1
section
variable{X:Cx}{ct:Ct}{tg iter e:Expr}{f:Sg->Res D}{pos:Pos}
def HE{K:W.Frag}{H:Hp}{a:Addr}{vs:List V}{xs:List D}(fz:QC K H a vs)(t:aN K ct H xs vs):xP K ct (WN K a) xs H:=by refine bW (λ H1=>aX ct.f.cb H H1) (aX.refl H) (λ H1 H2 k1 k2 _ _=>k1.trans k2) (λ i d H1 k1 hd=>?_) (λ i H1 k1 hi=>af vs ((k1.HM fz).sq) (by rw[<-t.length];exact hi));refine ah (λ v hv tv=>?_) (t.get hd);refine ⟨aQ vs v ((k1.HM fz).sq) hv,λ x H2 ⟨e,y⟩=>⟨by rw[e];exact aB.refl _,?_⟩⟩;subst e;have:=y vs (k1.HM fz).sq;rw[hv] at this;cases this;exact tv.keep k1
def KR{K:W.Frag}{H:Hp}{tm:Bool}{v:V}{xs:List D}(l:aB ct.f.L H)(b:aB ct.B H)(t:Tl K ct H (.bor tm xs) v):∃a,v= .ref a/\(∃vs,fZ K H a vs)/\xP K ct (WN K a) xs H:=by
 simp only[Tl] at t
 revert t;refine aq λ a vs z h2 t=>?_;subst z
 have sq:∀H1,aB ct.f.L H1->aB ct.B H1->fZ K H1 a vs:=λ H1 l b=>by
  cases tm with
  |true=>exact .inl (.inl (b a _ h2))
  |false=>exact .inl (.inl (l a _ h2))
 refine aY a rfl ⟨vs,sq H l b⟩ (bW (λ H1=>aX ct.f.cb H H1/\aB ct.f.L H1/\aB ct.B H1) (aV (aX.refl H) l b) (λ H1 H2 k1 k2 l2 b2=>aV (k1.1.trans k2) l2 b2) (λ i d H1 k1 hd=>?_) (λ i H1 k1 hi=>af vs (sq H1 k1.2.1 k1.2.2) (by rw[<-t.length];exact hi)));refine ah (λ v hv tv=>?_) (t.get hd);refine ⟨aQ vs v (sq H1 k1.2.1 k1.2.2) hv,λ x H2 ⟨e,y⟩=>⟨by rw[e];exact aB.refl _,?_⟩⟩;subst e;have:=y vs (sq _ k1.2.1 k1.2.2);rw[hv] at this;cases this;exact tv.keep k1.1
def Cv{K:W.Frag}{H:Hp}{a:Addr}{vs:List V}{xs:List D}(fz:sR K H a vs)(t:aN K ct H xs vs):xP K ct (YZ K a) xs H:=by refine bW (λ H1=>aX ct.f.cb H H1) (aX.refl H) (λ H1 H2 k1 k2 _ _=>k1.trans k2) (λ i d H1 k1 hd=>?_) (λ i H1 k1 hi=>af vs (k1.VG fz) (by rw[<-t.length];exact hi));refine ah (λ v hv tv=>?_) (t.get hd);refine ⟨aQ vs v (k1.VG fz) hv,λ x H2 ⟨e,y⟩=>⟨by rw[e];exact aB.refl _,?_⟩⟩;subst e;have:=y vs (k1.VG fz);rw[hv] at this;cases this;exact tv.keep k1
def Cw{K:W.Frag}{H:Hp}{lo:Int}{n:Nat}:xP K ct (Vs lo n) (gU lo n) H:=by
 refine bW (λ _=>True) trivial (λ _ _ _ _ _ _=>trivial) (λ i d H1 _ hd=>?_) (λ i H1 _ hi=>by rw[jY] at hi;exact hi);have hi:i<n:=by have:=(List.getElem?_eq_some_iff.mp hd).1;rwa [jY] at this
 rw[ED hi] at hd;cases hd;exact ⟨hi,λ x H2 ⟨e,y⟩=>⟨by rw[e];exact aB.refl _,by simp[Tl,y]⟩⟩
def Yi(X:Cx)(ct:Ct)(f:Sg->Res (List D)):TI:=λ σ H R=>∃Γ,Jx X ct Γ σ H/\Ok X ct σ H (f Γ) λ xs=>∀J H',aB H H'->xP X.K ct J xs H'->R J H'
abbrev RS(X:Cx)(ct:Ct)(tg iter:Expr)(f:Sg->Res (List D)):Prop:=PI X tg iter (Yi X ct f)
structure WI(X:Cx)(tg iter:Expr)(wi:TI):Prop where
 out:PI X tg iter wi
abbrev IM(X:Cx)(ct:Ct)(tg iter:Expr)(f:Sg->Res (List D)):Prop:=WI X tg iter (Yi X ct f)
def gF{r:Sg->Res (List D)}(hm:X.mg "range"=none)(ha:pN X ct [a] r)(AZ:Gl X "range":=by rfl)(hs:starEach [a] X.env=[(false,eval a X.env)]:=by rfl):IM X ct tg (.Call (.Name "range" p) [a] [] pos') (jr r):=by
 have ha:=ha.out;refine ⟨?_⟩;refine λ pins s σ H R I=>ah λ Γ j h=>?_;refine D7 AZ hm ha hs pins s σ H R I (af Γ j (h.bnd λ ds _ q vs H' s tl=>?_));cases ex:uR ds with
 |bad=>rw[ex] at q;exact q.elim
 |err c=>exact (JT ds c ex).elim
 |ok xs=>
  rw[ex] at q;refine dw (λ i z h1 h2 y=>?_) (JS ex);subst z;subst y;simp only[aN,Tl] at tl
  revert tl;refine aq λ v r z y w=>?_;subst z;subst y;subst w
  exact bW i rfl h1 h2 (q _ H' s Cw)
def Fj{r:Sg->Res (List D)}(hm:X.mg "range"=none)(ha:pN X ct [a,b] r)(AZ:Gl X "range":=by rfl)(hs:starEach [a,b] X.env=[(false,eval a X.env),(false,eval b X.env)]:=by rfl)(hs2:starEach [b] X.env=[(false,eval b X.env)]:=by rfl):IM X ct tg (.Call (.Name "range" p) [a,b] [] pos') (ze r):=by
 have ha:=ha.out;refine ⟨?_⟩;refine λ pins s σ H R I=>ah λ Γ j h=>?_;refine D6 AZ hm ha hs hs2 pins s σ H R I (af Γ j (h.bnd λ ds _ q vs H' s tl=>?_));cases ex:uQ ds with
 |bad=>rw[ex] at q;exact q.elim
 |err c=>exact (JR ds c ex).elim
 |ok xs=>
  rw[ex] at q;refine aq (λ i i2 z h1 y=>?_) (JQ ex);subst z;subst y;simp only[aN,Tl] at tl
  revert tl;refine aq λ v r z y=>aq λ v2 r2 w x u=>?_;subst z;subst y;subst w;subst x;subst u
  exact ay i i2 rfl h1 (q _ H' s Cw)
end
def jw(cells:List (Str×Addr)):List (Str×NameKind)->List (Str×Addr)->Option (List (Str×Addr))
 |[],acc=>some acc
 |(n,k)::r,acc=>if k== .free then (match cells.lookup n with
   |some c=>jw cells r ((n,c)::acc)
   |none=>none) else jw cells r acc
def zG:∀{names:List (Str×NameKind)} {acc cl:List (Str×Addr)},jw cells names acc=some cl->(∀y c,acc.lookup y=some c->cells.lookup y=some c)->∀y c,cl.lookup y=some c->cells.lookup y=some c:=by
 intro v_;induction v_ with
 |nil=>
  rintro acc cl h ha
  cases h;exact ha
 |cons e_ r lV=>
  obtain ⟨n,k⟩:=e_
  rintro acc cl h ha
  unfold jw at h;split at h
  ·split at h
   ·rename_i c hc;refine lV h λ y c' hy=>?_;rw[List.lookup_cons] at hy;split at hy
    ·rename_i e;cases hy;rw[eq_of_beq e];exact hc
    ·exact ha y c' hy
   ·cases h
  ·exact lV h ha
def je{cl:List (Str×Addr)}(h:jw env.cells scope.names []=some cl):closureFor scope env=pure cl:=by
 unfold closureFor;generalize scope.names=names at h ⊢;generalize ([]:List (Str×Addr))=acc at h ⊢;dsimp only;induction names generalizing acc with
 |nil=>cases h;rfl
 |cons p r ih=>
  obtain ⟨n,k⟩:=p;unfold jw at h;rw[List.forIn_cons];by_cases hk:(k==NameKind.free)=true
  ·rw[if_pos hk] at h;split at h
   ·rename_i c hc;have e:cellOf env n=pure c:=by unfold cellOf;rw[hc]
    simp only[hk,if_true,e,pure_bind];exact ih _ h
   ·cases h
  ·rw[if_neg hk] at h;simp only[hk,Bool.false_eq_true,if_false,pure_bind];exact ih _ h
def xO(X:Cx)(scope:Scope)(cl:List (Str×Addr))(C:Addr)(s₀:Shared)(H₀:Hp)(ex:List Addr)(N':List Str):Cx where
 prog:=X.prog
 w:=X.w
 K:=X.K
 mg:=X.mg
 base:=X.base
 A:=X.A
 N:=N'
 s₀:=s₀
 H₀:=H₀
 env:=compEnvC scope cl C X.env
 outer:=X.stack
 stack:=X.stack
 ex:=ex
 fn:=λ _=>false
 calm:=X.calm
 pn:=[]
 xe:=λ _ _=>False
def zK(k:Nat)(caps:List Nat)(σ:St):St:=List.replicate k none++caps.map λ i=>(σ[i]?).join
def Ul{ct:Ct}{tm:Bool}(j:Jx X ct Γ σ H)(ht:tm=true->ct.tm=true):J X.K ct H (iK tm k caps Γ) (zK k caps σ) H:=by
 refine ⟨λ _ _ q _=>q,λ _ q=>q,j.lL,j.lB,j.xt,by simp[iK,zK],λ _ _=>False,λ i sl ov h1 h2=>?_,λ _ _ _ _ z=>z.elim,λ _ _ z=>z.elim⟩;rcases CZ h1 with rfl|⟨c,sc,hc,hk,hd,rfl⟩
 ·exact λ _ z=>z
 ·have at2:∀v,σ[c]? =some (some v)->ov=some v:=λ v g1=>by unfold zK at h2;rw[List.getElem?_append_right (by simpa using hk),List.length_replicate,List.getElem?_map,hc] at h2;simp only[Option.map_some,Option.some.injEq] at h2;rw[g1] at h2;exact h2.symm
  cases sc with
  |no=>exact λ _ z=>z
  |val d=>refine ah (λ v g1 g2=>?_) (j.val hd);exact ⟨af v (at2 v g1) g2,λ _ z=>z⟩
  |own m=>
   cases tm with
   |false=>exact λ _ z=>z
   |true=>refine aL (λ v S g1 g2 g3 _=>?_) (j.own hd);exact ⟨af v (at2 v g1) (g2.lend λ b z=>g3.lent b z (ht rfl)),λ _ z=>z⟩
  |par m=>
   cases tm with
   |false=>exact λ _ z=>z
   |true=>refine aL (λ v S g1 g2 g3 _=>?_) (j.par hd);exact ⟨af v (at2 v g1) (g2.lend λ b z=>g3.lent b z (ht rfl)),λ _ z=>z⟩
def EN:∀{names:List (Str×NameKind)} {acc cl:List (Str×Addr)},jw cells names acc=some cl->∀y,(acc.lookup y).isSome=true->(cl.lookup y).isSome=true:=by
 intro v_;induction v_ with
 |nil=>
  rintro acc cl h
  cases h;exact λ _ z=>z
 |cons e_ r lV=>
  obtain ⟨n,k⟩:=e_
  rintro acc cl h
  unfold jw at h;split at h
  ·split at h
   ·rename_i c hc;intro y hy;refine lV h y ?_;rw[List.lookup_cons];split
    ·rfl
    ·exact hy
   ·cases h
  ·exact lV h
def nv:∀{names:List (Str×NameKind)} {acc cl:List (Str×Addr)},jw cells names acc=some cl->∀y,(y,NameKind.free)∈names->(cl.lookup y).isSome=true:=by
 intro v_;induction v_ with
 |nil=>
  rintro acc cl h
  exact λ y hy=>by cases hy
 |cons e_ r lV=>
  obtain ⟨n,k⟩:=e_
  rintro acc cl h
  unfold jw at h;intro y hy;split at h
  ·split at h
   ·rename_i c hc;rcases List.mem_cons.mp hy with e|hy
    ·cases e;exact EN h _ (by simp[List.lookup_cons])
    ·exact lV h y hy
   ·cases h
  ·rename_i hk;rcases List.mem_cons.mp hy with e|hy
   ·cases e;exact absurd rfl hk
   ·exact lV h y hy
theorem mO{env:Env}:∀{names:List (Str×NameKind)} {y:Str},(∀z∈names,z.2≠.cell)->((names.map λ(n,k)=>if (k==NameKind.free&&env.scope.kind== .function&&env.kindOf n==some .cell) then (n,NameKind.cell) else (n,k)).lookup y=some .cell\/(names.map λ(n,k)=>if (k==NameKind.free&&env.scope.kind== .function&&env.kindOf n==some .cell) then (n,NameKind.cell) else (n,k)).lookup y=some .free)->(y,NameKind.free)∈names
 |[],y,_,h=>by simp at h
 |(n,k)::r,y,hc,h=>by
  have ih:= @mO env r y λ z hz=>hc z (.tail _ hz);have hk:k≠.cell:=hc (n,k) (.head _);have e1:(((n,k)::r).map λ(n,k)=>if (k==NameKind.free&&env.scope.kind== .function&&env.kindOf n==some .cell) then (n,NameKind.cell) else (n,k))=
   (if (k==NameKind.free&&env.scope.kind== .function&&env.kindOf n==some .cell)=true then (n,NameKind.cell) else (n,k))::(r.map λ(n,k)=>if (k==NameKind.free&&env.scope.kind== .function&&env.kindOf n==some .cell) then (n,NameKind.cell) else (n,k)):=rfl
  rw[e1] at h;by_cases vo:(k==NameKind.free&&env.scope.kind== .function&&env.kindOf n==some .cell)=true
  ·rw[if_pos vo] at h;have hkf:k= .free:=by have:=(Bool.and_eq_true_iff.mp (Bool.and_eq_true_iff.mp vo).1).1;exact eq_of_beq this
   simp only[List.lookup_cons] at h;split at h
   ·rename_i e;rw[eq_of_beq e,hkf];exact .head _
   ·exact .tail _ (ih h)
  ·rw[if_neg vo] at h;simp only[List.lookup_cons] at h;split at h
   ·rename_i e;rcases h with h|h
    ·exact absurd (Option.some.inj h) hk
    ·rw[eq_of_beq e,Option.some.inj h];exact .head _
   ·exact .tail _ (ih h)
def vF{s:Shared}(I:Nat->Shared->Prop)(turn:∀n s,I n s->wpAny (model prog w) A (pyNext it) (λ r s₁=>match r with
   |none=>R (.ok .next) s₁
   |some v=>wpAny (model prog w) A (letOwnedTupleGo target it v) (λ _ s₁'=>wpAny (model prog w) A (assign target env v) (λ _ s₂=>
     wpAny (model prog w) A (forIn ifs true λ c r=>if r=true then do let ok <-isTrue c env (eval c env);pure (ForInStep.yield ok) else pure (ForInStep.yield r)) (λ ok s₃=>
      if ok=true then wpAny (model prog w) A (eval elt env) (λ x s₄=>
       wpAny (model prog w) A (call (.builtin "list.append") [acc,x]) (λ _ s₅=>∃m,m<n/\I m s₅) (λ _ _=>False) s₄) (λ _ _=>False) s₃
      else ∃m,m<n/\I m s₃) (λ _ _=>False) s₂) (λ _ _=>False) s₁') (λ _ _=>False) s₁) (λ _ _=>False) s) (n:Nat) (h:I n s):
  codeAny (model prog w) A (.compLoop (.ListComp elt [⟨target,iter,ifs,0⟩] scope pos) 0 it acc env) R s:=by
 refine codeAny_loop rfl I (λ n s hI=>?_) n h
 show wpAny _ A ((compTurn (.ListComp elt [⟨target,iter,ifs,0⟩] scope pos) 0 it acc env).onRaise (λ x=>do noteFrame x env;theTreesLotGoes x)) _ _ s
 refine wpAny_noted ?_
 rw[compTurn_list]
 refine wpAny_bind (wpAny_standAt (wpAny_bind (wpAny_mono (turn n s hI) (λ r s₁ h₁=>?_) λ _ _ h'=>h'.elim)))
 cases r with
 |none=>exact wpAny_pure h₁
 |some v=>
  refine wpAny_bind (wpAny_mono h₁ (λ _ s₁' h₁'=>?_) λ _ _ h'=>h'.elim)
  refine wpAny_bind (wpAny_mono h₁' (λ _ s₂ h₂=>wpAny_bind (wpAny_mono h₂ (λ ok s₃ h₃=>?_) λ _ _ h'=>h'.elim)) λ _ _ h'=>h'.elim)
  cases ok with
  |false=>exact wpAny_pure ⟨rfl,h₃⟩
  |true=>
   exact wpAny_bind (wpAny_bind (wpAny_mono h₃ (λ x s₄ h₄=>wpAny_bind (wpAny_mono h₄ (λ _ s₅ h₅=>wpAny_pure (wpAny_pure ⟨rfl,h₅⟩)) λ _ _ h'=>h'.elim)) λ _ _ h'=>h'.elim))
def Vk(X:Cx)(ct:Ct)(ifs:List Expr)(p:Sg->Res Bool):Prop:=
 ∀(pins:List (Addr×Obj)) (s:Shared) (σ:St) (H:Hp) (Q:Bool->Hp->Prop),Inv X pins σ H s->Io X ct p σ H Q->
  wpAny (model X.prog X.w) X.A (forIn ifs true λ c r=>if r=true then do let ok <-isTrue c X.env (eval c X.env);pure (ForInStep.yield ok) else pure (ForInStep.yield r)) (TP X pins σ Q) X.xe s
structure Vi(X:Cx)(ct:Ct)(ifs:List Expr)(p:Sg->Res Bool):Prop where
 out:Vk X ct ifs p
def fJ{ct:Ct}:Vi X ct [] fC:=by exact ⟨λ pins s σ H Q I z_=>zX z_ λ Γ j h=>wpAny_tests_nil (af H I (h H (aB.refl H)))⟩
def BB{ct:Ct}(h:zY X ct c p):Vi X ct [c] p:=by have h:=h.out;exact ⟨λ pins s σ H Q I q=>wpAny_tests_one (h pins s σ H Q I q)⟩
def Iu{tm:Bool}:TN (iK tm k caps Γ):=λ i m=>by
 refine ⟨λ h=>?_,λ h=>?_⟩<;>
 ·rcases CZ h with e|⟨c,sc,_,_,_,e⟩
  ·cases e
  ·cases sc<;>cases tm<;>cases e
theorem bK.LX{K:W.Frag}{ct:Ct}{H:Hp}{m:M}{y:V}{T:Fp}:∀{ms:List M} {vs:List V} {S:Fp},bK K ct H ms vs S->Ow K ct H m y T->(∀b,S b->¬T b)->bK K ct H (ms++[m]) (vs++[y]) (λ b=>S b\/T b)
 |[],vs,S,h,t,_=>by simp only[bK] at h;subst h;simp only[List.nil_append,bK];exact dz y [] T (λ _=>False) rfl (λ _ z=> .inr z) (λ _ z=>z.elim) (λ _ _ z=>z) t rfl
 |m'::ms,vs,S,h,t,n=>by
  simp only[bK] at h
  revert h;refine cA λ v r S1 S2 x h2 h3 h4 h5 h6=>?_;subst x
  simp only[List.cons_append,bK];refine dz v (r++[y]) S1 (λ b=>S2 b\/T b) rfl (λ b z=> .inl (h2 b z)) (λ b z=>z.elim (λ z=> .inl (h3 b z)) .inr) (λ b z w=>?_) h5 (bK.LX h6 t λ b z=>n b (h3 b z));rcases w with w|w
  ·exact h4 b z w
  ·exact n b (h2 b z) w
theorem bK.Ia{K:W.Frag}{ct:Ct}{H:Hp}:∀{ds:List D} {vs:List V} {S:Fp},bK K ct H (ds.map M.d) vs S->aN K ct H ds vs
 |[],vs,S,h=>by simpa[bK,aN] using h
 |d::ds,vs,S,h=>by
  simp only[List.map_cons,bK,Ow] at h
  revert h;refine cA λ v r S1 S2 z _ _ _ h5 h6=>?_;subst z
  exact aN.cons h5 (bK.Ia h6)
structure lT(X:Cx)(scope:Scope)(cl:List (Str×Addr))(k:Nat)(caps:List Nat)(N':List Str):Prop where
 clos:jw X.env.cells scope.names []=some cl
 cell:∀y∈scope.names,y.2≠.cell
 kind:scope.kind= .function
 names:∀y∈scope.names,y.2= .local->scope.names.lookup y.1=some .local
 len:N'.length=k+caps.length
 cap:∀(i c:Nat) (y:Str),caps[i]? =some c->N'[k+i]? =some y->X.N[c]? =some y/\IP X.env.scope y/\X.env.kindOf y≠some .local/\(y,NameKind.free)∈scope.names
theorem mP{env:Env}:∀{names:List (Str×NameKind)} {y:Str},(∀z∈names,z.1=y->z.2= .free)->(y,NameKind.free)∈names->((names.map λ(n,k)=>if (k==NameKind.free&&env.scope.kind== .function&&env.kindOf n==some .cell) then (n,NameKind.cell) else (n,k)).lookup y=some .cell\/(names.map λ(n,k)=>if (k==NameKind.free&&env.scope.kind== .function&&env.kindOf n==some .cell) then (n,NameKind.cell) else (n,k)).lookup y=some .free)
 |[],y,_,h=>by cases h
 |(n,k)::r,y,hu,h=>by
  have e1:(((n,k)::r).map λ(n,k)=>if (k==NameKind.free&&env.scope.kind== .function&&env.kindOf n==some .cell) then (n,NameKind.cell) else (n,k))=(if (k==NameKind.free&&env.scope.kind== .function&&env.kindOf n==some .cell)=true then (n,NameKind.cell) else (n,k))::(r.map λ(n,k)=>if (k==NameKind.free&&env.scope.kind== .function&&env.kindOf n==some .cell) then (n,NameKind.cell) else (n,k)):=rfl;rw[e1];by_cases hy:y=n
  ·subst hy;have hk:k= .free:=hu (y,k) (.head _) rfl;subst hk;by_cases vo:(NameKind.free==NameKind.free&&env.scope.kind== .function&&env.kindOf y==some .cell)=true
   ·rw[if_pos vo];left;simp[List.lookup_cons]
   ·rw[if_neg vo];right;simp[List.lookup_cons]
  ·have hb:(y==n)=false:=by simpa using hy
   have hm:(y,NameKind.free)∈r:=by
    rcases List.mem_cons.mp h with e|h
    ·cases e;exact absurd rfl hy
    ·exact h
   have ih:= @mP env r y (λ z hz=>hu z (.tail _ hz)) hm;by_cases vo:(k==NameKind.free&&env.scope.kind== .function&&env.kindOf n==some .cell)=true
   ·rw[if_pos vo];simp only[List.lookup_cons,hb];exact ih
   ·rw[if_neg vo];simp only[List.lookup_cons,hb];exact ih
section
variable{X:Cx}{ct:Ct}{elt iter tg:Expr}{ifs:List Expr}{scope:Scope}{cl:List (Str×Addr)}{pos:Pos}{k:Nat}{caps:List Nat}{N':List Str}{fi:Sg->Res (List D)}{t:Tg}{p:Sg->Res Bool}{fe:Sg->Res M}{tm:Bool}
def KZ{pins:List (Addr×Obj)}{σ:St}{H:Hp}{s:Shared}{fp:List Addr}{h₁:Heap}{tk:Nat}(I:Inv X pins σ H s)(co:lT X scope cl k caps N')(hfr:∀z∈scope.names,∀y,(y,NameKind.free)∈scope.names->z.1=y->z.2= .free) (hfp:∀b∈fp,f9 X pins H b) (hfo:∀b∈fp,∃o,s.heap.get? b=some o) (hns:h₁.Ns (s.heap.objs.size+1) (λ x=>(([]:List (Str×Value)).reverse).lookup x)) (hk:∀b o,s.heap.get? b=some o->h₁.get? b=some o) (hD:h₁.get? s.heap.objs.size=some {cls:= .type "list",data:= .seq #[]}):
  Inv (xO X scope cl (s.heap.objs.size+1) s H fp N') [] (zK k caps σ) (upd H s.heap.objs.size (.lst [])) {s with heap:=h₁,toks:=tk}:=by
 have hsub:=zG co.clos (by simp);have hfree:H s.heap.objs.size=none:=I.hok.fresh (Nat.le_refl _);have U0:∀x c,cl.lookup x=some c->c<s.heap.objs.size:=λ x c e=>by refine aW (λ v o ho _=>?_) (I.cell x c (hsub x c e));exact Heap.lt_size ho
 refine ⟨⟨I.ok.mod,co.kind,I.ok.glob,I.ok.blt,Nat.le_succ _,λ x y c e1 e2=>I.ok.inj x y c (hsub x c e1) (hsub y c e2),λ x hx=>?_,λ x c hf=>absurd hf (by exact Bool.false_ne_true),I.ok.hd,I.ok.frames,.inl rfl,λ b hb=>?_,I.bs,Nat.le_trans I.ok.RP I.sz,λ b o e hb=>?_,λ b hb hs=>?_,I.stack,I.pR⟩,rfl,I.bare,Un.laid hk (Nat.le_refl _) hfree,af _ hns (λ i y v h1 h2 h3=>?_),λ x c e=>?_,?_,λ x c e=>?_,λ p hp=>absurd (show p∈([]:List (Addr×Obj))++[] from hp) (by simp),I.hok.laid hk (Nat.le_refl _) (⟨Nat.zero_le _,aQ [] 0 .nil hD⟩),?_⟩
 ·exact Option.isSome_iff_exists.mp (nv co.clos x (mO co.cell hx))
 ·obtain ⟨o,ho⟩:=hfo b hb;refine ⟨Nat.ne_of_lt (Nat.lt_succ_of_lt (Heap.lt_size ho)),λ x c e=>(hfp b hb).2.2.2.2.1 x c (hsub x c e)⟩
 ·rcases (hfp b hb).2.2.2.1 with z|z
  ·exact I.ok.OH b o e z
  ·exact absurd (Heap.lt_size (I.ok.bs b o e).1) (Nat.not_lt.mpr z)
 ·rcases List.mem_cons.mp (I.Ah b hs) with z|z
  ·exact (hfp b hb).2.1 z
  ·exact (hfp b hb).2.2.1 z
 ·-- what it sees
  by_cases hi:i<k
  ·unfold zK at h2;rw[List.getElem?_append_left (by simpa using hi),List.getElem?_replicate,if_pos hi] at h2;cases h2
  ·unfold zK at h2;rw[List.getElem?_append_right (by simpa using hi),List.length_replicate,List.getElem?_map] at h2;cases q:caps[i- k]? with
   |none=>rw[q] at h2;cases h2
   |some c=>
    rw[q] at h2;simp only[Option.map_some,Option.some.injEq] at h2;refine jE (λ g1 g2 g3 g4=>?_) (co.cap (i- k) c y q (by rw[Nat.add_sub_cancel' (Nat.le_of_not_lt hi)];exact h1));refine ah (λ m hn hl=>?_) I.loc;have hσ:σ[c]? =some (some v):=by
     cases z:σ[c]? with
     |none=>rw[z] at h2;cases h2
     |some w=>rw[z] at h2;simp only[Option.join_some] at h2;rw[h2]
    refine ah (λ u r lk=>?_) (hl c y v g1 hσ g2);refine af u r (.inr ⟨mP (λ z hz e=>hfr z hz y g4 e) g4,?_⟩);rcases lk with ⟨z,_⟩|⟨_,c',e,hc⟩
    ·exact absurd z g3
    ·obtain ⟨c2,e2⟩:=Option.isSome_iff_exists.mp (nv co.clos y g4);have:c2=c':=by have:=hsub y c2 e2;rw[e] at this;exact (Option.some.inj this).symm
     subst this;refine ah (λ o ho hd=>?_) hc;exact af c2 e2 (af o (hk _ _ ho) hd)
 ·refine aW (λ v o ho hd=>?_) (I.cell x c (hsub x c e));exact aQ v o (hk _ _ ho) hd
 ·show upd H s.heap.objs.size (.lst []) (s.heap.objs.size+1)=none;rw[aE (Nat.succ_ne_self _)];exact I.hok.fresh (Nat.le_succ _)
 ·rw[aE (Nat.ne_of_lt (U0 x c e))];exact I.g8 x c (hsub x c e)
 ·simp[zK,xO,co.len]
def MC(X:Cx)(scope:Scope)(cl:List (Str×Addr))(fn:Str->Bool)(C:Addr)(s₀:Shared)(H₀:Hp)(ex:List Addr)(N':List Str):Cx:={xO X scope cl C s₀ H₀ ex N' with fn:=fn}
def IX(X:Cx)(scope:Scope)(cl:List (Str×Addr))(cf:Addr->List (Str×Addr))(fn:Str->Bool)(k:Nat)(caps:List Nat)(N':List Str):Prop:=∀(pins:List (Addr×Obj)) (σ:St) (H:Hp) (s:Shared) (fp:List Addr) (Q:Env->Shared->Prop) (E:Value->Shared->Prop),Inv X pins σ H s->(∀b∈fp,f9 X pins H b)->(∀b∈fp,∃o,s.heap.get? b=some o)->(∀(cenv:Env) (h₁:Heap) (tk:Nat),cenv.locals=s.heap.objs.size+1->{cenv with scope:=relabel scope X.env}=compEnvC scope (cf (s.heap.objs.size+1)) (s.heap.objs.size+1) X.env->(∀b o,s.heap.get? b=some o->h₁.get? b=some o)->Inv (MC X scope (cf (s.heap.objs.size+1)) fn (s.heap.objs.size+1) s H fp N') [] (zK k caps σ) (upd H s.heap.objs.size (.lst [])) {s with heap:=h₁,toks:=tk}->Q cenv {s with heap:=h₁,toks:=tk})->wpAny (model X.prog X.w) X.A (newFunctionEnv scope X.env.globals cl [] X.env.qual none .none (some X.env)) Q E {s with heap:=s.heap.push {cls:= .type "list",dict:=none,data:= .seq ([]:List Value).toArray}}
def Iv(co:lT X scope cl k caps N')(hfr:∀z∈scope.names,∀y,(y,NameKind.free)∈scope.names->z.1=y->z.2= .free):IX X scope cl (λ _=>cl) (λ _=>false) k caps N':=by intro pins σ H s fp Q E I Mx hfo hQ;refine wpAny_newFunctionEnv co.cell (by intro y hy;simp at hy) (λ h₁ Pj K6=>?_) co.kind;dsimp only at Pj K6 ⊢;have hC:(s.heap.push {cls:= .type "list",dict:=none,data:= .seq ([]:List Value).toArray}).objs.size=s.heap.objs.size+1:=Heap.size_push ..;rw[hC] at Pj K6 ⊢;have hk:∀b o,s.heap.get? b=some o->h₁.get? b=some o:=λ b o e=>K6.extBut b o (Nat.ne_of_lt (Nat.lt_succ_of_lt (Heap.lt_size e))) (Heap.get?_push_of_some _ (Heap.get?_push_of_some _ e));have hD:h₁.get? s.heap.objs.size=some {cls:= .type "list",data:= .seq #[]}:=K6.extBut _ _ (Nat.ne_of_lt (Nat.lt_succ_self _)) (Heap.get?_push_of_some _ (Heap.get?_push_size _ rfl));exact hQ _ h₁ _ rfl rfl hk (KZ I co hfr Mx hfo Pj hk hD)
def ue{pins:List (Addr×Obj)}{σ:St}{H:Hp}{s:Shared}{Γ:Sg}{cp:Pos}{use:Option (Value->Sem Unit)}{Q':Value->Shared->Prop}{Wk:List M->Prop}{cf:Addr->List (Str×Addr)}{fn:Str->Bool}(ht:tm=true->ct.tm=true)(hc:X.calm=true)(hi:RS X ct tg iter fi)(hcl:closureFor scope X.env=pure cl)(hkd:scope.kind= .function)(hnm:∀y∈scope.names,y.2= .local->scope.names.lookup y.1=some .local)(mk:IX X scope cl cf fn k caps N') (hg:∀C s₀ H₀ ex,WK (MC X scope (cf C) fn C s₀ H₀ ex N') ct tg t) (hp:∀C s₀ H₀ ex,Vk (MC X scope (cf C) fn C s₀ H₀ ex N') ct ifs p) (he:∀C s₀ H₀ ex,PM (MC X scope (cf C) fn C s₀ H₀ ex N') ct elt fe) (hf:∀Γ x Γ1 σ H H₀,t x (iK tm k caps Γ)=some Γ1->J X.K ct H₀ Γ1 σ H->J X.K ct H₀ (iK tm k caps Γ) σ H) (hs:∀x,foldedSetIterable iter X.env x=pure x) (I:Inv X pins σ H s) (j:Jx X ct Γ σ H) (h:Ok X ct σ H (jo tm fi k caps t p fe Γ) Wk) (fin:∀(acc C:Addr) (av:List V) (ys:List M) (T:Fp) (H1:Hp) (s4:Shared) (m:Str->Option Value),Inv X pins σ H1 s4->aB H H1->H acc=none->H1 acc=some (.lst av)->bK X.K ct H1 ys av T->(∀b,T b->H b=none/\b≠acc/\H1 b≠none)->Wk ys->s4.heap.Ns C m->H1 C=none->C≠X.env.locals->X.s₀.heap.objs.size<=C->(∀x c,X.env.cells.lookup x=some c->c≠C)->(∀p∈X.pn++pins,p.1≠C)->compPost (model X.prog X.w) X.A X.xe use Q' (.ref acc) C (.ok .next) s4):
  wpAny (model X.prog X.w) X.A (comprehension (.ListComp elt [⟨tg,iter,ifs,0⟩] scope pos) scope X.env cp (newList []) false (eval iter X.env) use) Q' X.xe s:=by
 refine wpAny_comprehension_free (use:=use) rfl hs hcl hkd hnm ?_;have hw:Yi X ct fi σ H (λ J H2=>∃xs ys,aB H H2/\xP X.K ct J xs H2/\xs.length<1000000/\gh (E6 t p fe (iK tm k caps Γ)) xs= .ok ys/\Wk ys):=by
  refine af Γ j (h.bnd λ xs _ q J H2 s2 it=>?_);split at q
  ·rename_i hl;cases z:gh (E6 t p fe (iK tm k caps Γ)) xs with
   |ok ys=>rw[z] at q;exact bN xs ys s2 it hl z q
   |err c=>exact (Ih (λ _ _=>P5) xs c z).elim
   |bad=>rw[z] at q;exact q.elim
  ·exact q.elim
 refine wpAny_mono (hi pins s σ H _ I hw) (λ v s1 h1=>wpAny_mono h1 (λ itv s2 h2=>?_) λ _ _ e=>e) λ _ _ e=>e;obtain ⟨it,fp,tn,J,H2,rfl,I2,T,st,Mx,xs,ys,sm,⟨Pd,pd0,pdk,Xy,Xx⟩,hlx,hys,W⟩:=h2;have hfo:∀b∈fp,∃o,s2.heap.get? b=some o:=λ b hb=>let ⟨o,ho,_⟩:=T.obj 0 _ st b hb;⟨o,ho⟩
 refine wpAny_newObj_type (mk pins σ H2 s2 fp _ _ I2 Mx hfo λ cenv h₁ tk hcl hce hk I4=>?_);rw[hce,hcl];have j2:=j.mono sm;let Xb:=MC X scope (cf (s2.heap.objs.size+1)) fn (s2.heap.objs.size+1) s2 H2 fp N'
 have A3:H2 s2.heap.objs.size=none:=I2.hok.fresh (Nat.le_refl _);have Hx:aB H2 (upd H2 s2.heap.objs.size (.lst [])):=bC A3 _;have Zm:∀{σ1:St} {Ha Hb:Hp},L4.J X.K ct H2 (iK tm k caps Γ) σ1 Ha->aX ct.f.cb Ha Hb->aB H2 Hb->L4.J X.K ct H2 (iK tm k caps Γ) σ1 Hb:=λ j kp sm=>j.Si Iu kp (λ b o q _=>sm b o q) (λ b q=>sm.free q) (j2.lL.trans sm) (j2.lB.trans sm);have Zn:tn 0 h₁:=T.keep 0 _ _ st λ b hb o e=>hk b o e;have YB:∀b∈fp,b≠s2.heap.objs.size:=λ b hb=>let ⟨o,ho⟩:=hfo b hb;Nat.ne_of_lt (Heap.lt_size ho)
 have YC:∀{H':Hp},(∀b∈fp,H' b=none)->∀b∈fp,f9 Xb [] H' b:=λ hn b hb=>by obtain ⟨o,ho⟩:=hfo b hb;refine Aw (hn b hb) (Nat.ne_of_lt (Nat.lt_succ_of_lt (Heap.lt_size ho))) (I4.ok.PU b hb) (.inl hb) (λ x c e=>(I4.ok.exf b hb).2 x c e) (λ p hp=>absurd (show p∈([]:List (Addr×Obj))++[] from hp) (by simp))
 have loop:codeAny (model X.prog X.w) X.A (.compLoop (.ListComp elt [⟨tg,iter,ifs,0⟩] scope pos) 0 (.ref it) (.ref s2.heap.objs.size) (compEnvC scope (cf (s2.heap.objs.size+1)) (s2.heap.objs.size+1) X.env))
   (compPost (model X.prog X.w) X.A X.xe use Q' (.ref s2.heap.objs.size) (s2.heap.objs.size+1)) {s2 with heap:=h₁,toks:=tk}:=by
  refine vF (λ n s'=>∃(i:Nat) (σ1:St) (H1:Hp) (av:List V) (ad rest:List M) (T:Fp),n=xs.length- i/\i<=xs.length/\Inv Xb [] σ1 H1 s'/\L4.J X.K ct H2 (iK tm k caps Γ) σ1 H1/\tn i s'.heap/\(∀b∈fp,H1 b=none)/\aB H2 H1/\H1 s2.heap.objs.size=some (.lst av)/\bK X.K ct H1 ad av T/\(∀b,T b->H2 b=none/\b≠s2.heap.objs.size/\H1 b≠none)/\av.length<=i/\gh (E6 t p fe (iK tm k caps Γ)) (xs.drop i)= .ok rest/\ad++rest=ys) ?_ xs.length ⟨0,_,_,[],[],ys,λ _=>False,rfl,Nat.zero_le _,I4,Zm (Ul j2 ht) (aB.keep Hx) Hx,Zn,λ b hb=>by rw[aE (YB b hb)];exact (Mx b hb).1,Hx,aJ,by simp only[bK],λ _ z=>z.elim,Nat.le_refl _,hys,rfl⟩
  rintro n s3 ⟨i,σ1,H1,av,ad,rest,Tf,hn,hil,I3,j3,st3,Uy,k3,hacc,FZ,hT,hal,hrest,hall⟩
  have Zt:=pdk _ _ pd0 (aB.keep k3) j3.lL j3.lB;by_cases hlt:i<xs.length
  ·-- one more item
   have hd:xs[i]? =some xs[i]:=List.getElem?_eq_getElem hlt;obtain ⟨go,RY⟩:=Xy i _ H1 Zt hd;rw[drop_one hd] at hrest;refine aq (λ o rest' ho hr' Us=>?_) (Bf hrest);refine wpAny_mono (T.item Xb rfl rfl rfl hc i [] s3 σ1 H1 (λ _ _=>False) I3 (YC Uy) st3 go) (?_) λ _ _ e=>e;refine λ r s4=>ah λ u hr h4=>?_;subst hr;refine wpAny_mono h4 (?_) λ _ _ e=>e;refine λ _ s5=>cR λ x H5 I5 r5 y5 Nt YA=>?_;obtain ⟨Rf,tx⟩:=RY x H5 y5;replace j3:=j3.mono Rf;replace hacc:=Rf _ _ hacc;replace FZ:=FZ.frame (aB.keep Rf) (λ b o _ q=>Rf b o q);replace hT:∀b,Tf b->H2 b=none/\b≠s2.heap.objs.size/\H5 b≠none:=λ b z=>aV ((hT b z).1) ((hT b z).2.1) (λ q=>(hT b z).2.2 (Rf.free q));replace k3:=k3.trans Rf;have Y0:=I5.pinned (YC YA) (T.obj _ _ Nt);unfold E6 at ho;cases e1:t xs[i] (iK tm k caps Γ) with
   |none=>rw[e1] at ho;cases ho
   |some Γ1=>
    rw[e1] at ho;dsimp only at ho;refine wpAny_mono (hg _ s2 H2 fp _ s5 σ1 H5 x u (λ σ2 H'=>H'=H5/\L4.J X.K ct H2 Γ1 σ2 H5) Y0 r5 (iC _ _ Γ1 j3 tx e1 (λ σ2 j6=>⟨rfl,j6⟩))) (?_) λ _ _ e=>e;refine λ _ s6=>aq λ σ2 H6 I6 e6 j6=>?_;subst e6;have Zk:∀{σ7:St} {H7:Hp} {s7:Shared},Inv Xb ([]++qI fp s5.heap) σ7 H7 s7->tn (i+1) s7.heap/\∀b∈fp,H7 b=none:=λ{σ7 H7 s7} I7=>by refine ⟨T.keep _ _ _ Nt λ b hb o e=>(I7.pin (b,o) (List.mem_append_right _ (List.mem_append_right _ (ja hb e)))).1,λ b hb=>?_⟩;refine ah (λ o e d=>?_) (T.obj _ _ Nt b hb);exact (I7.pin (b,o) (List.mem_append_right _ (List.mem_append_right _ (ja hb e)))).2.1
    cases ep:p Γ1 with
    |bad=>rw[ep] at ho;cases ho
    |err c=>rw[ep] at ho;cases ho
    |ok c=>
     refine wpAny_mono (hp _ s2 H2 fp _ s6 σ2 H6 (λ b H'=>b=c/\aB H6 H') I6 (af Γ1 j6 (by rw[ep];exact λ H' s=>⟨rfl,s⟩))) ?_ λ _ _ e=>e;refine λ b s7=>aH λ H7 I7 eb BW=>?_;subst eb;have j7:=j6.mono BW;cases b with
     |false=>rw[ep] at ho;dsimp only at ho;cases ho;have Yn:rest=rest':=Us;rw[Yn] at hall;obtain ⟨tn7,fr7⟩:=Zk I7;rw[if_neg Bool.false_ne_true];exact af (xs.length-(i+1)) (by omega) ⟨i+1,σ2,H7,av,ad,rest',Tf,rfl,hlt,I7.jB,hf Γ _ Γ1 σ2 H7 H2 e1 j7,tn7,fr7,k3.trans BW,BW _ _ hacc,FZ.frame (aB.keep BW) (λ b o _ q=>BW b o q),λ b z=>aV ((hT b z).1) ((hT b z).2.1) (λ q=>(hT b z).2.2 (BW.free q)),Nat.le_succ_of_le hal,hr',hall⟩
     |true=>
      rw[ep] at ho;dsimp only at ho;rw[if_pos rfl];cases ee:fe Γ1 with
      |bad=>rw[ee] at ho;cases ho
      |err c=>rw[ee] at ho;cases ho
      |ok d=>
       rw[ee] at ho;dsimp only at ho;cases ho;subst Us;refine wpAny_mono (he _ s2 H2 fp _ s7 σ2 H7 (λ v H'=>∃S,aB H7 H'/\Ow X.K ct H' d v S/\(∀b,S b->H7 b=none)/\∀b,S b->H' b≠none) I7 (af Γ1 j7 (by rw[ee];exact λ v H' S s t n k=>bW S s t n k))) ?_ λ _ _ e=>e;refine λ yv s8=>aq λ y H8 I8 r8=>dw λ S8 Rn t8 n8 h8=>?_;have Mu:H8 s2.heap.objs.size=some (.lst av):=Rn _ _ (BW _ _ hacc);refine wpAny_mono (tQ (X:=Xb) _ s8 σ2 H8 (.ref s2.heap.objs.size) [y] (.ref s2.heap.objs.size) [yv] (λ _ H'=>H'=upd H8 s2.heap.objs.size (.lst (av++[y]))) I8 rfl (.cons r8 .nil) (k9 _ av y rfl rfl Mu (Nat.lt_trans (by omega) i7) rfl)) (?_) λ _ _ e=>e;refine λ _ s9=>aq λ _ H9 I9 _ e9=>?_;subst e9;obtain ⟨tn9,fr9⟩:=Zk I9;have kp:aX ct.f.cb H8 (upd H8 s2.heap.objs.size (.lst (av++[y]))):=aX.lst Mu;have k8:aB H2 H8:=(k3.trans BW).trans Rn;have j8:=hf Γ _ Γ1 σ2 H8 H2 e1 (j7.mono Rn);have Zp:aB H2 (upd H8 s2.heap.objs.size (.lst (av++[y]))):=λ b o hb=>by have:b≠s2.heap.objs.size:=bX hb A3;rw[aE this];exact k8 b o hb
       have Xo:∀b,S8 b->b≠s2.heap.objs.size:=λ b z=>by
        rintro rfl
        have:=n8 _ z;rw[BW _ _ hacc] at this;cases this
       have T8:∀b,Tf b->H8 b≠none:=λ b z q=>(hT b z).2.2 (BW.free (Rn.free q));have dis:∀b,Tf b->¬S8 b:=λ b z w=>(hT b z).2.2 (BW.free (n8 b w));have W2:∀b,b≠s2.heap.objs.size->upd H8 s2.heap.objs.size (.lst (av++[y])) b=H8 b:=λ b z=>aE z;refine af (xs.length-(i+1)) (by omega) ⟨i+1,σ2,_,av++[y],ad++[d],rest',λ b=>Tf b\/S8 b,rfl,hlt,I9.jB,Zm j8 kp Zp,tn9,fr9,Zp,aJ,?_,λ b z=>?_,?_,hr',?_⟩
       ·have o1:=FZ.frame (aB.keep (BW.trans Rn)) (λ b o _ q=>(BW.trans Rn) b o q);exact (o1.LX t8 dis).frame kp λ b o z q=>by rw[W2 b (z.elim (λ z=>(hT b z).2.1) (Xo b))];exact q
       ·rcases z with z|z
        ·exact aV ((hT b z).1) ((hT b z).2.1) (by rw[W2 b (hT b z).2.1];exact T8 b z)
        ·exact aV (k3.free (BW.free (n8 b z))) (Xo b z) (by rw[W2 b (Xo b z)];exact h8 b z)
       ·rw[List.length_append,List.length_singleton];omega
       ·rw[<-hall];simp
  ·-- through
   have ZQ:xs.length<=i:=Nat.le_of_not_lt hlt;refine wpAny_mono (T.done Xb rfl rfl rfl hc i [] s3 σ1 H1 (λ _ _=>False) I3 (YC Uy) st3 (Xx i H1 Zt ZQ)) (?_) λ _ _ e=>e
   rintro r s4 ⟨hr,RU⟩
   subst hr;rw[List.drop_eq_nil_of_le ZQ] at hrest;cases hrest;rw[List.append_nil] at hall;subst hall;refine ah (λ m hm _=>?_) RU.loc;have nC:H1 (s2.heap.objs.size+1)=none:=RU.free;have un:Un (frs X.stack) fp H2 H1 s2.heap s4.heap:=by have u:=RU.base;exact ⟨u.keep,u.slot,u.free,u.there,u.tups,u.n9,u.pJ⟩
   have IE:Inv X pins σ H1 s4:=I2.Im (s':=s4) (ch:=fp) RU.os un RU.hok RU.bare λ b hb=>iE ((Mx b hb).2.2.2.1) ((Mx b hb).2.1) ((Mx b hb).2.2.2.2.1) ((Mx b hb).2.2.2.2.2);have old:∀{b:Addr} {o:Obj},s2.heap.get? b=some o->b≠s2.heap.objs.size+1:=λ e=>Nat.ne_of_lt (Nat.lt_succ_of_lt (Heap.lt_size e));refine fin _ _ av _ Tf H1 s4 m IE (sm.trans k3) (sm.free A3) hacc FZ (λ b z=>aV (sm.free (hT b z).1) ((hT b z).2.1) ((hT b z).2.2)) W hm nC (Ne.symm (Nat.ne_of_lt (Nat.lt_succ_of_lt I2.lt))) (Nat.le_succ_of_le I2.sz) (λ x c e=>?_) λ p hp=>old (I2.pin p hp).1;refine aW (λ v o ho _=>?_) (I2.cell x c e);exact old ho
 exact codeAny_compStart_list loop (T.self _ 0 _ _ _ Zn loop)
def Qm{H H1:Hp}{acc:Addr}{av:List V}{ys:List M}{T:Fp}(ha:H1 acc=some (.lst av))(ta:bK X.K ct H1 ys av T)(hT:∀b,T b->H b=none/\b≠acc/\H1 b≠none):Ow X.K ct H1 (.n ys) (.ref acc) (λ b=>T b\/b=acc):=by simp only[Ow];exact bh acc av rfl (.inr rfl) ha (ta.wide λ b z=>⟨.inl z,(hT b z).2.1⟩)
variable{fd:Sg->Res D}
def Co(Γ:Sg):jo tm fi k caps t p (mD fd) Γ=(d8 tm fi k caps t p fd Γ).bnd λ ds=> .ok (ds.map M.d):=by
 unfold jo d8;cases fi Γ with
 |ok xs=>
  simp only[Res.iF];split
  ·exact zD xs
  ·rfl
 |err x=>rfl
 |bad=>rfl
def Gj{cf:Addr->List (Str×Addr)}{fn:Str->Bool}(ht:tm=true->ct.tm=true)(hc:X.calm=true)(hi:RS X ct tg iter fi)(hcl:closureFor scope X.env=pure cl)(hkd:scope.kind= .function)(hnm:∀y∈scope.names,y.2= .local->scope.names.lookup y.1=some .local)(mk:IX X scope cl cf fn k caps N') (hg:∀C s₀ H₀ ex,WK (MC X scope (cf C) fn C s₀ H₀ ex N') ct tg t) (hp:∀C s₀ H₀ ex,Vk (MC X scope (cf C) fn C s₀ H₀ ex N') ct ifs p) (he:∀C s₀ H₀ ex,PD (MC X scope (cf C) fn C s₀ H₀ ex N') ct elt fd) (hf:∀Γ x Γ1 σ H H₀,t x (iK tm k caps Γ)=some Γ1->J X.K ct H₀ Γ1 σ H->J X.K ct H₀ (iK tm k caps Γ) σ H) (hs:∀x,foldedSetIterable iter X.env x=pure x):PL X ct (.ListComp elt [⟨tg,iter,ifs,0⟩] scope pos) (d8 tm fi k caps t p fd):=by
 refine λ pins s σ H Q I=>ah λ Γ j h=>?_;rw[eval_ListComp];have h':Ok X ct σ H (jo tm fi k caps t p (mD fd) Γ) λ ms=>∃ds:List D,ms=ds.map M.d/\Wl X ct H Q ds:=by
  rw[Co];cases z:d8 tm fi k caps t p fd Γ with
  |ok ms=>rw[z] at h;exact af ms rfl h
  |err x=>rw[z] at h;exact h
  |bad=>rw[z] at h;exact h
 refine ue ht hc hi hcl hkd hnm mk hg hp (λ C s₀ H₀ ex=>yu (he C s₀ H₀ ex)) hf hs I j h' λ acc C av ys T H1 s4 m IE sm na ha ta hT W hm nC nl hz V5 XI=>?_
 revert W;refine ah λ ds w W=>?_;subst w
 refine af m hm (λ h' Rz=>?_);have I5:Inv X pins σ H1 {s4 with heap:=h',toks:=s4.toks}:=IE.turned (h':=h') (t':=s4.toks) (it:=C) (λ b o hb e=>(Rz.2 b hb).trans e) nC nl (.inr hz) V5 XI;exact ay (.ref acc) H1 I5 rfl (W acc av H1 sm na ha ta.Ia)
def J8(ht:tm=true->ct.tm=true)(hc:X.calm=true)(hi:RS X ct tg iter fi)(co:lT X scope cl k caps N')(hfr:∀z∈scope.names,∀y,(y,NameKind.free)∈scope.names->z.1=y->z.2= .free) (hg:∀C s₀ H₀ ex,WK (xO X scope cl C s₀ H₀ ex N') ct tg t) (hp:∀C s₀ H₀ ex,Vk (xO X scope cl C s₀ H₀ ex N') ct ifs p) (he:∀C s₀ H₀ ex,PD (xO X scope cl C s₀ H₀ ex N') ct elt fd) (hf:∀Γ x Γ1 σ H H₀,t x (iK tm k caps Γ)=some Γ1->J X.K ct H₀ Γ1 σ H->J X.K ct H₀ (iK tm k caps Γ) σ H) (hs:∀x,foldedSetIterable iter X.env x=pure x:=by intro _;rfl):PL X ct (.ListComp elt [⟨tg,iter,ifs,0⟩] scope pos) (d8 tm fi k caps t p fd):=Gj ht hc hi (je co.clos) co.kind co.names (Iv co hfr) hg hp he hf hs
end
section
variable{X:Cx}{ct:Ct}{c:Cf}{elt iter tg:Expr}{ifs:List Expr}{scope:Scope}{cl:List (Str×Addr)}{pos:Pos}{k:Nat}{caps:List Nat}{N':List Str}{fi:Sg->Res (List D)}{t:Tg}{p:Sg->Res Bool}{fe:Sg->Res M}{fd:Sg->Res D}{tm:Bool}
def uc(i:Nat){s:Shared}(ht:tm=true->ct.tm=true)(hN:X.N.Nodup)(hc:X.calm=true)(hi:RS X ct tg iter fi)(co:lT X scope cl k caps N')(hfr:∀z∈scope.names,∀y,(y,NameKind.free)∈scope.names->z.1=y->z.2= .free)(hg:∀C s₀ H₀ ex,WK (xO X scope cl C s₀ H₀ ex N') ct tg t)(hp:∀C s₀ H₀ ex,Vk (xO X scope cl C s₀ H₀ ex N') ct ifs p)(he:∀C s₀ H₀ ex,PM (xO X scope cl C s₀ H₀ ex N') ct elt fe)(hf:∀Γ x Γ1 σ H H₀,t x (iK tm k caps Γ)=some Γ1->J X.K ct H₀ Γ1 σ H->J X.K ct H₀ (iK tm k caps Γ) σ H)(hs:∀x,foldedSetIterable iter X.env x=pure x)(hsw:swapsWith (.ListComp elt [⟨tg,iter,ifs,0⟩] scope pos) (some (.Name x px)) ps.line X.env=pure true)(hx:X.N[i]? =some x)(hl:X.env.scope.names.lookup x=some .local)(I:Inv X pins σ H s)(j:Jx X ct Γ σ H)(h:Ok X ct σ H (jo tm fi k caps t p fe Γ) Wk)(fin:∀(acc:Addr) (ys:List M) (av:List V) (T S:Fp) (H1:Hp) (s':Shared),Inv X pins (σ.set i (some (.ref acc))) H1 s'->aB H H1->H1 acc=some (.lst av)->bK X.K ct H1 ys av T->Ow X.K ct H1 (.n ys) (.ref acc) S->H acc=none->(∀b,S b->H b=none)->(∀b,S b->H1 b≠none)->Wk ys->SP X pins E .next s'):
  wpAny (model X.prog X.w) X.A (exec (.Assign [.Name x px] (.ListComp elt [⟨tg,iter,ifs,0⟩] scope pos) ps) X.env) (SP X pins E) X.xe s:=by
 rw[exec_Assign_Name_used _ _ _ _ hsw]
 refine wpAny_bind (wpAny_standAt (wpAny_bind ?_))
 show wpAny _ X.A (do let _ <-comprehension (.ListComp elt [⟨tg,iter,ifs,0⟩] scope pos) scope X.env _ (newList []) false (eval iter X.env) (some (assign (.Name x px) X.env))) _ _ s
 refine wpAny_bind (wpAny_mono (ue (Q':=λ _ s'=>SP X pins E .next s') (Wk:=Wk) ht hc hi (je co.clos) co.kind co.names (Iv co hfr) hg hp he hf hs I j h
  λ acc C av ys T H1 s4 m IE sm na ha ta hT W hm nC nl hz V5 XI=>?_) (λ _ s' hq=>wpAny_pure (wpAny_pure hq)) λ _ _ e=>e)
 show wpAny _ X.A (assign (.Name x px) X.env (.ref acc)) _ _ _
 refine wpAny_assign_Name (sY IE hN hx (.inl hl) (v:= .ref acc) rfl (?_) (.inr hl))
 refine λ s5 I5=>ah λ a Rz hor=>?_
 have aC:C≠a:=by
  rcases hor with rfl|hor
  ·exact nl
  ·exact Ne.symm (V5 x a hor)
 refine af m (hm.sameBut Rz aC) (λ h' hs'=>?_)
 have I6:Inv X pins (σ.set i (some (.ref acc))) H1 {s5 with heap:=h',toks:=s5.toks}:=I5.turned (h':=h') (t':=s5.toks) (it:=C) (λ b o hb e=>(hs'.2 b hb).trans e) nC nl (.inr hz) V5 XI
 exact fin acc ys av T _ H1 _ I6 sm ha ta (Qm ha ta hT) na (λ b z=>z.elim (λ z=>(hT b z).1) λ z=>z▸na) (λ b z=>z.elim (λ z=>(hT b z).2.2) λ z q=>by subst z;rw[ha] at q;cases q) W
def Qq(k:Nat)(t:Tg):Prop:=∀x Γ Γ1,t x Γ=some Γ1->Γ1.length=Γ.length/\∀i,k<=i->Γ1[i]? =Γ[i]?
def LC(k:Nat)(t:IQ):Prop:=∀x Γ Γ1,t x Γ=some Γ1->Γ1.length=Γ.length/\∀i,k<=i->Γ1[i]? =Γ[i]?
def cg(h:i<k):Qq k (aG i):=λ x Γ Γ1 e=>by cases e;exact ⟨by simp,λ j hj=>by rw[List.getElem?_set_ne (by omega)]⟩
def uI:LC k cW:=λ x Γ Γ1 e=>by
 cases x with
 |nil=>cases e;exact ⟨rfl,λ _ _=>rfl⟩
 |cons a r=>cases e
def gZ(h1:Qq k t)(h2:LC k u):LC k (aS t u):=λ x Γ Γ1 e=>by
 cases x with
 |nil=>cases e
 |cons d r=>simp only[aS,Option.bind_eq_some_iff] at e;refine ah (λ Γ2 e1 e2=>?_) e;obtain ⟨a1,a2⟩:=h1 _ _ _ e1;obtain ⟨b1,b2⟩:=h2 _ _ _ e2;exact ⟨b1.trans a1,λ i hi=>(b2 i hi).trans (a2 i hi)⟩
def uH{k n:Nat}{t:IQ}(h:LC k t):Qq k (cL n t):=λ x Γ Γ1 e=>by
 cases x with
 |tup ds=>
  simp only[cL] at e;split at e
  ·exact h _ _ _ e
  ·cases e
 |_=>cases e
def nO{K:W.Frag}(hk:Qq k t):∀Γ x Γ1 σ H H₀,t x (iK tm k caps Γ)=some Γ1->J K ct H₀ Γ1 σ H->J K ct H₀ (iK tm k caps Γ) σ H:=λ Γ x Γ1 σ H H₀ e j=>by
 obtain ⟨h1,h2⟩:=hk _ _ _ e;refine j.weak h1 λ i=>?_;by_cases hik:i<k
 ·left;unfold iK;rw[List.getElem?_append_left (by simpa using hik),List.getElem?_replicate,if_pos hik]
 ·exact .inr (h2 i (Nat.le_of_not_lt hik)).symm
def vA(Pk:(scope.names.all λ z=>scope.names.all λ y=>!(y.2== .free&&z.1==y.1)||z.2== .free)=true):∀z∈scope.names,∀y,(y,NameKind.free)∈scope.names->z.1=y->z.2= .free:=λ z hz y hy e=>by have q:=List.all_eq_true.mp (List.all_eq_true.mp Pk z hz) _ hy;simp only[e,BEq.rfl,Bool.and_self,Bool.not_true,Bool.false_or] at q;exact eq_of_beq q
def gE(ht:tm=true->ct.tm=true)(hc:X.calm=true)(hi:IM X ct tg iter fi)(co:lT X scope cl k caps N')(Pk:(scope.names.all λ z=>scope.names.all λ y=>!(y.2== .free&&z.1==y.1)||z.2== .free)=true)(hg:∀C s₀ H₀ ex,Qo (xO X scope cl C s₀ H₀ ex N') ct tg t)(hp:∀C s₀ H₀ ex,Vi (xO X scope cl C s₀ H₀ ex N') ct ifs p)(he:∀C s₀ H₀ ex,WD (xO X scope cl C s₀ H₀ ex N') ct elt fd)(hk:Qq k t)(hs:∀x,foldedSetIterable iter X.env x=pure x:=by intro _;rfl):WL X ct (.ListComp elt [⟨tg,iter,ifs,0⟩] scope pos) (d8 tm fi k caps t p fd):=by have hi:=hi.out;have hg:=λ C s₀ H₀ ex=>(hg C s₀ H₀ ex).out;have hp:=λ C s₀ H₀ ex=>(hp C s₀ H₀ ex).out;have he:=λ C s₀ H₀ ex=>(he C s₀ H₀ ex).out;exact ⟨J8 ht hc hi co (vA Pk) hg hp he (nO hk) hs⟩
def DR(i:Nat)(hN:X.N.Nodup)(hc:X.calm=true)(hi:∀B,IM X (c.at' B) tg iter fi)(co:lT X scope cl k caps N')(Pk:(scope.names.all λ z=>scope.names.all λ y=>!(y.2== .free&&z.1==y.1)||z.2== .free)=true)(hg:∀B C s₀ H₀ ex,Qo (xO X scope cl C s₀ H₀ ex N') (c.at' B) tg t)(hp:∀B C s₀ H₀ ex,Vi (xO X scope cl C s₀ H₀ ex N') (c.at' B) ifs p)(he:∀B C s₀ H₀ ex,WM (xO X scope cl C s₀ H₀ ex N') (c.at' B) elt fe)(hk:Qq k t)(hs:∀x,foldedSetIterable iter X.env x=pure x:=by intro _;rfl)(hsw:swapsWith (.ListComp elt [⟨tg,iter,ifs,0⟩] scope pos) (some (.Name x px)) ps.line X.env=pure true:=by rfl)(hx:X.N[i]? =some x:=by rfl)(hl:X.env.scope.names.lookup x=some .local:=by rfl):sQ X c (.Assign [.Name x px] (.ListComp elt [⟨tg,iter,ifs,0⟩] scope pos) ps) (iP i (mN (jo tm fi k caps t p fe))):=by
 have hi:=λ B=>(hi B).out;have hg:=λ B C s₀ H₀ ex=>(hg B C s₀ H₀ ex).out;have hp:=λ B C s₀ H₀ ex=>(hp B C s₀ H₀ ex).out;have he:=λ B C s₀ H₀ ex=>(he B C s₀ H₀ ex).out;refine ⟨?_⟩;refine λ pins s σ H E I=>ah λ Γ j h=>?_;have h':Ok X (c.at' H) σ H (jo tm fi k caps t p fe Γ) λ ms=>kr (.n ms)=true/\Fn X c H (.nx (Γ.set i (.own (.n ms)))) E:=by
  unfold iP mN at h;cases z:jo tm fi k caps t p fe Γ with
  |ok ms=>
   rw[z] at h;simp only[Res.iF,Mi] at h;split at h
   ·rename_i n;exact ⟨n,h⟩
   ·exact h.elim
  |err x=>rw[z] at h;exact λ e s' r=>h σ H e s' (aX.refl H) j r
  |bad=>rw[z] at h;exact h.elim
 refine uc i (λ _=>rfl) hN hc (hi H) co (vA Pk) (hg H) (hp H) (he H) (nO hk) hs hsw hx hl I j.lift h' λ acc ys av T S H1 s' I' sm _ _ o na new here W=>?_;exact aQ _ H1 I' (W.2 _ H1 (aB.keep sm) (j.setM sm rfl (o.down W.1) new here))
def mj(i:Nat)(hN:X.N.Nodup)(hc:X.calm=true)(hi:IM X c.z tg iter fi)(co:lT X scope cl k caps N')(Pk:(scope.names.all λ z=>scope.names.all λ y=>!(y.2== .free&&z.1==y.1)||z.2== .free)=true)(hg:∀C s₀ H₀ ex,Qo (xO X scope cl C s₀ H₀ ex N') c.z tg t)(hp:∀C s₀ H₀ ex,Vi (xO X scope cl C s₀ H₀ ex N') c.z ifs p)(he:∀C s₀ H₀ ex,WD (xO X scope cl C s₀ H₀ ex N') c.z elt fd)(hk:Qq k t)(hs:∀x,foldedSetIterable iter X.env x=pure x:=by intro _;rfl)(hsw:swapsWith (.ListComp elt [⟨tg,iter,ifs,0⟩] scope pos) (some (.Name x px)) ps.line X.env=pure true:=by rfl)(hx:X.N[i]? =some x:=by rfl)(hl:X.env.scope.names.lookup x=some .local:=by rfl):sQ X c (.Assign [.Name x px] (.ListComp elt [⟨tg,iter,ifs,0⟩] scope pos) ps) (bR i (lX (d8 false fi k caps t p fd))):=by
 have hi:=hi.out;have hg:=λ C s₀ H₀ ex=>(hg C s₀ H₀ ex).out;have hp:=λ C s₀ H₀ ex=>(hp C s₀ H₀ ex).out;have he:=λ C s₀ H₀ ex=>(he C s₀ H₀ ex).out;refine ⟨?_⟩;refine λ pins s σ H E I=>ah λ Γ j h=>?_;have h':Ok X c.z σ H (jo false fi k caps t p (mD fd) Γ) λ ms=>∃ds:List D,ms=ds.map M.d/\Fn X c H (.nx (Γ.set i (.val (.lst ds)))) E:=by
  rw[Co];unfold bR lX at h;cases z:d8 false fi k caps t p fd Γ with
  |ok ms=>rw[z] at h;exact af ms rfl h
  |err x=>rw[z] at h;exact λ e s' r=>h σ H e s' (aX.refl H) j r
  |bad=>rw[z] at h;exact h.elim
 refine uc (tm:=false) i (λ z=>by cases z) hN hc hi co (vA Pk) hg hp (λ C s₀ H₀ ex=>yu (he C s₀ H₀ ex)) (nO hk) hs hsw hx hl I j h' ?_;refine λ acc ys av T S H1 s' I' sm ha ta _ na _ _=>ah λ ds e W=>?_;subst e;obtain ⟨ob,I7⟩:=Inv.freeze I' ha (j.free acc na);have s7:aB H (upd H1 acc (.jP ob (.lst av))):=λ b o hb=>by rw[aE (bX hb na)];exact sm b o hb
 refine aQ _ _ I7 (W _ _ (aB.keep s7) ((j.mono s7).set ?_));simp only[Tl];exact ay acc av rfl (.inl ⟨ob,aJ⟩) (ta.Ia.keep (aX.lst ha))
end
noncomputable abbrev Ir:List Value:=[.type "ValueError",.type "Exception",.type "BaseException",.type "object"]
structure XC(K:W.Frag)(mg:Str->Option Value)(cb:Cb)(x:Str)(n:String)(C:Addr):Prop where
 bnd:mg x=some (.ref C)
 exc:W.excIn K C Ir "ValueError.__new__"=true
 at':cb.exc n=some C
def PV{K:W.Frag}{h:Heap}{C:Addr}{newId:String}(X:K.In h)(q:W.excIn K C Ir newId=true):
  ∃bm N nm qn bs hdct sn sub ab col dd k0 k1 k2 k3 k5 mN,h.get? C=some (excClassObj nm qn C N bs bm hdct sn sub ab col dd k0 k1 k2 k3 k5 newId)/\h.Ns N mN/\mN "__init__"=none/\OwnTail h Ir bm:=by
 unfold W.excIn at q;split at q;case h_2=>cases q
 case h_1 dd cd sl lk=>
  split at q;case h_2=>cases q
  case h_1 C' bm k0 k1 k2 k3 n k5 em es=>simp only[Bool.and_eq_true,beq_iff_eq,Bool.not_eq_true'] at q;obtain ⟨⟨⟨⟨⟨e1,e2⟩,e3⟩,e4⟩,e5⟩,e6⟩:=q;subst e1 e2;obtain ⟨nm,bs,mr,ns,qn,hd,sn,sub,ab,col,dl⟩:=cd;simp only at em e3 e5 e6;subst em e3;obtain ⟨sl⟩:=sl;simp only at es;subst es;exact ⟨bm,ns,nm,qn,bs,hd,sn,sub,ab,col,dd,k0,k1,k2,k3,k5,_,X _ _ lk,.of_isNs (W.isNs_of_in X e5),W.nsMap_none_of_in X e5 e6,W.tail_of_in X e4⟩
section
variable{X:Cx}{cf:Cf}{e₀:Expr}{rest:List Expr}{fa:Sg->Res (List D)}{x:Str}{c:String}{C:Addr}{np cpos pos:Pos}
def sV(g:Good X)(M:XC X.K X.mg cf.cb x c C)(ha:pN X cf.z (e₀::rest) fa)(hg:Gl X x:=by rfl)(hd:(x==("__debug__":Str))=false:=by decide)(he:starEach (e₀::rest) X.env=(false,eval e₀ X.env)::starEach rest X.env:=by rfl)(hpl:(backTo cpos (starEach rest X.env)).any (·.1)=false:=by rfl):sQ X cf (.Raise (some (.Call (.Name x np) (e₀::rest) [] cpos)) none pos) (uL c fa):=by
 have ha:=ha.out;refine ⟨?_⟩;refine λ pins s σ H E I=>ah λ Γ j h=>?_;obtain ⟨tl,N,nm,q,bs,hdct,sn,sub,ab,col,dd,k0,k1,k2,k3,k5,mN,hC,hN,hni,T⟩:=PV I.ok.mod.Ru M.exc;refine wpAny_Raise_call_subT (C:=C) (nm:=nm) (q:=q) (N:=N) (bs:=bs) (bm:=tl) (hdct:=hdct) (sn:=sn) (sub:=sub) (ab:=ab) (col:=col) (dd:=dd) (k0:=k0) (k1:=k1) (k2:=k2) (k3:=k3) (k5:=k5)
  PySem.F.excBase_ValueError (mN:=mN) (T.hasType PySem.F.excBase_ValueError.hasBase) (I.ok.hd g.calm) (by rw[he];show (false||(backTo cpos (starEach rest X.env)).any (·.1))=false;rw[hpl];rfl) hni (vh I hg M.bnd ⟨rfl,?_⟩ hd)
 have h':EZ X cf.z fa σ H (λ vs H1=>aB H H1/\vs.length<=1000/\Fn X cf H (.err c Γ) E):=af Γ j (Fn.ok j h λ ds _ q vs H1 s1 t1=>by
   split at q
   ·rename_i hl;exact aV s1 (by rw[<-t1.length];exact hl) q
   ·exact q.elim)
 have hp:=ha cpos pins s σ H _ I h';rw[he] at hp ⊢;refine Calls.evalArgs_plain (wpAny_mono hp (λ us s1 ⟨vs,H1,I1,r,sm,hl,q⟩=>Aw rfl ?_ (I1.bk _ _ hC) (hN.keeps I1.bk) (T.keeps I1.bk) (λ h2 e hm=>?_)) λ _ _ y=>y)
 ·show us.length<=sizeLine;rw[<-r.length];exact Nat.le_of_lt (nQ hl)
 ·exact q σ H1 _ _ (aB.keep sm) (j.mono sm) (Au pins H1 s1 C I1 (aB.refl H1) M.at' (.inl (nU e us h2 rfl rfl hm)))
end
section
variable{X:Cx}{ct:Ct}{pins:List (Addr×Obj)}{σ:St}{H:Hp}{s:Shared}
end
section
variable{X:Cx}{cf:Cf}
variable{pins:List (Addr×Obj)}{σ:St}{H:Hp}{s:Shared}
end
section
variable{X:Cx}{cf:Cf}{body suite:List Stmt}{b₀:Stmt}{F G:Sg->Out}{t n:Str}{hit:String->Option Bool}{T:Value}{np hpos pos:Pos}
end
structure XT(K:W.Frag)(C:Addr):Prop where
 ga:W.findIn K (.ref C) "__getattribute__"=some (some (.builtin "BaseException.__getattribute__"))
 gt:W.findIn K (.ref C) "__getattr__"=some none
 ca:W.findIn K (.ref C) "__class__"=some (some (.builtin "object.__class__"))
 mo:W.mroIn K C (.type "object")=some true
 mb:W.subIn K (.ref C) (.type "BaseException")=some true
 cl:(W.clsIn K C).isSome=true
section
open PySem.W Builtin Builtin.ObjectAttr Builtin.Getset_descriptor
variable{prog:Program}{w:World}{A:Around}{E:Value->Shared->Prop}{h:Heap}{g:Array GenState}{d:Drawn}{t:Nat}{os:OsState}{a C:Addr}{K:Frag}
def BA{M:Model}(p:pH a C h):Looks M h (typeOf (.ref a)) (.ref C):=by refine ah (λ o h1 h2=>?_) p;exact h2▸(Looks.ld h1).andThen .now
def M5{R:Result->Shared->Prop}(X:K.In h)(T:XT K C)(p:pH a C h)(hq:R (.ok (.ret (.ref C))) ⟨h,g,d,t,os⟩):
  codeAny (model prog w) A (.call (.builtin "getset_descriptor.__get__") ⟨[.builtin "object.__class__",.ref a,.ref C],[]⟩) R ⟨h,g,d,t,os⟩:=by
 have la:=BA (M:=model prog w) p;have lb:=looks_mroIn (M:=model prog w) X T.mo;refine codeAny_call_builtin KF.slot_gs.plain KF.entry_gs
  (KF.slot_gs.check _ _ _ _ _ _ _ _ KF.type_class (KF.args_gs _ _ _) ?_)
 unfold Builtin.«getset_descriptor.__get__» descrGet;rw[dga_obj];refine wpAny_bind (wpAny_pure ?_);unfold descrGetter descrCheckInstance descrNameAndClass isInstance;simp only[KF.owner_class];repeat lk
 refine ⟨Code.quiet_builtin _ (by decide+kernel),codeAny_builtin KF.entry_class ?_⟩;unfold Builtin.«object.__class__» shownTypeOf;repeat lk
 exact hq
def Fb{tk:Tok}{Q:Fin->Shared->Prop}(X:K.In h)(T:XT K C)(p:pH a C h)(hq:Q (.done (.ret (.ref C))) ⟨h,g,d,t,os⟩):
  wpAny (model prog w) A (Builtin.«object.__getattribute__» ⟨[.ref a,.str "__class__" tk],[]⟩) Q E ⟨h,g,d,t,os⟩:=by
 have hT5:(⟨h,g,d,t,os⟩:Shared).TypeIs (.builtin "object.__class__") "getset_descriptor":=F.typeOf_object_class;have f5:=F.typeOf_object_class;have f6:=F.slot_gs_get.lookup;have f7:=F.slot_gs_set.lookup;have la:=BA (M:=model prog w) p;have lb:=looks_findIn (M:=model prog w) X T.ca
 revert p;refine ah λ o h1 h2=>?_
 repeat (any_goals (first|assumption|(with_reducible refine wpAny_loadPart_at h1 ?_;rw[h2])|with_reducible refine Looks.at lb ?_|wp_step))
 refine M5 X T (af o h1 h2) ?_;repeat (any_goals (first|assumption|wp_step))
def Fc{nameV:Value}{Q:Unit->Shared->Prop}(X:K.In h)(T:XT K C)(p:pH a C h)(hq:Q () ⟨h,g,d,t,os⟩):
  wpAny (model prog w) A (checkBuiltinCall "BaseException.__getattribute__" ⟨[.ref a,nameV],[]⟩) Q E ⟨h,g,d,t,os⟩:=by
 have hk:builtinKind "BaseException.__getattribute__"=some .slot:=by decide+kernel
 have E4:splitId "BaseException.__getattribute__"=some ("BaseException","__getattribute__"):=by decide+kernel
 have hargs:=F.args_bexc_ga (.ref a) nameV;have la:=BA (M:=model prog w) p;have lb:=looks_subIn (M:=model prog w) X T.mb;simp only[checkBuiltinCall,hk,E4];refine wpAny_bind ?_;unfold isInstance;refine ah (λ o h1 h2=>?_) p;repeat (first|(with_reducible refine wpAny_loadPart_at h1 ?_;rw[h2])|with_reducible refine Looks.at lb ?_|wp_step)
 exact hq
def Jk{tk:Tok}(X:K.In h)(T:XT K C)(p:pH a C h)(hq:R (.ok (.ret (.ref C))) ⟨h,g,d,t,os⟩):
  codeAny (model prog w) A (.call (.builtin "BaseException.__getattribute__") ⟨[.ref a,.str "__class__" tk],[]⟩) R ⟨h,g,d,t,os⟩:=
 codeAny_call_builtin F.attr_ValueError.ga.plain F.entry_bexc_ga (Fc X T p (Fb X T p hq))
def RZ{tk:Tok}{Q:Value->Shared->Prop}(X:K.In h)(T:XT K C)(p:pH a C h)(hq:Q (.ref C) ⟨h,g,d,t,os⟩):
  wpAny (model prog w) A (getAttrBy (.ref a) (.str "__class__" tk) false) Q E ⟨h,g,d,t,os⟩:=by
 have f3:=F.attr_ValueError.ga.bind (.ref a);have hx2:(Value.builtin "BaseException.__getattribute__"==Value.builtin "object.__getattribute__")=false:=by decide+kernel
 have hx1:(onTheHeap (Value.ref C)&&Value.builtin "BaseException.__getattribute__"==Value.builtin "object.__getattribute__")=false:=by rw[hx2];rfl
 have lb:=looks_findIn (M:=model prog w) X T.ga;have lc:=looks_findIn (M:=model prog w) X T.gt
 revert p;refine ah λ o h1 h2=>?_
 repeat (any_goals (first|assumption|(with_reducible refine wpAny_loadPart_at h1 ?_;rw[h2])|with_reducible refine Looks.at lb ?_|with_reducible refine Looks.at lc ?_|wp_step))
 refine Jk X T (af o h1 h2) ?_;repeat (any_goals (first|assumption|wp_step))
def Hw(T:XT K C):KitX K (.ref a) (.ref C) (pH a C) where
 ty:=λ _ _ _ p=>BA p
 it:=λ _ _ X _=>by
  have z:=T.cl
  unfold clsIn at z
  split at z
  ·rename_i c' d' cd' E3 ho
   intro A' Q' E' s' k q
   unfold isType loadHead
   exact wpAny_bind (wpAny_loadPart (k _ _ (X _ _ ho))
    (wpAny_pure q))
  ·cases z
 ne:=λ h tp dd its n sl X htp=>by
  have z:=T.cl
  refine Bool.eq_false_iff.mpr λ q=>?_
  have e:C=tp:=Value.ref.inj (beq_iff_eq.mp q)
  subst e
  unfold clsIn at z
  split at z
  ·rename_i ho
   have z:=(X _ _ ho).symm.trans htp
   cases z
  ·cases z
 ca:=λ{_ _ _ _ _ s} X p k=>by
  obtain ⟨h,g,d,t,os⟩:=s
  unfold getAttr? getAttrBy?
  repeat (any_goals (first|assumption|with_reducible apply RZ X T p|wp_step))
end
structure IC(K:W.Frag)(C:Addr):Prop where
 cl:Vv K C
 ha:W.findIn K (.ref C) "__class__"=some (some (.builtin "object.__class__"))
 hn:W.specialIn K (.builtin "object.__class__") "__get__"=some (some (.builtin "getset_descriptor.__get__"))
 tk:W.takesIn K (.builtin "object.__class__")=some true
 hm:W.mroIn K C (.type "object")=some true
structure WH(K:W.Frag)(cb:Cb)(mt:List (String×List String)):Prop where
 xt:∀c C,cb.exc c=some C->(mt.lookup c).isSome=true->XT K C
 ic:∀c C ns,cb.cls c=some (C,ns)->IC K C
structure LJ(K:W.Frag)(cb:Cb)(mt:List (String×List String))(cv:Value)(n:String):Prop where
 nn:W.kitOne K (.type "NoneType") cv=some (["NoneType"].contains n)
 bb:W.kitOne K (.type "bool") cv=some (["bool","int"].contains n)
 ii:W.kitOne K (.type "int") cv=some (["int"].contains n)
 ss:W.kitOne K (.type "str") cv=some (["str"].contains n)
 tt:W.kitOne K (.type "tuple") cv=some (["tuple"].contains n)
 ll:W.kitOne K (.type "list") cv=some (["list"].contains n)
 dd:W.kitOne K (.type "dict") cv=some (["dict"].contains n)
 own:∀c C ks,cb.exc c=some C->mt.lookup c=some ks->W.kitOne K (.ref C) cv=some (ks.contains n)
 ins:∀c C ns ks,cb.cls c=some (C,ns)->mt.lookup c=some ks->W.kitOne K (.ref C) cv=some (ks.contains n)
def Es{X:Cx}{ct:Ct}{mt:List (String×List String)}{pins:List (Addr×Obj)}{σ:St}{H:Hp}{s:Shared}{d:D}{v:V}{u:Value}{ks:List String}(I:Inv X pins σ H s)(lL:aB ct.f.L H)(lB:aB ct.B H)(t:Tl X.K ct H d v)(r:RelV v u)(hk:kinds mt d=some ks) (hx:WH X.K ct.f.cb mt):
  u≠.builtin "__main__.__loader__#opaque"/\∃(ty:Value) (P:Heap->Prop),W.KitX X.K u ty P/\P s.heap/\∀cv n,LJ X.K ct.f.cb mt cv n->W.kitOne X.K ty cv=some (ks.contains n):=by
 cases d with
 |gY=>simp only[Tl] at t;subst t;cases r;cases hk;exact ⟨(λ z=>nomatch z),ay _ _ W.kitx_none trivial (λ cv n k=>k.nn)⟩
 |bl b=>simp only[Tl] at t;subst t;cases r;cases hk;exact ⟨(λ z=>nomatch z),ay _ _ W.kitx_bool trivial (λ cv n k=>k.bb)⟩
 |int i=>simp only[Tl] at t;subst t;obtain ⟨tk,rfl⟩:=r;cases hk;exact ⟨(λ z=>nomatch z),ay _ _ W.kitx_int trivial (λ cv n k=>k.ii)⟩
 |str x=>simp only[Tl] at t;subst t;obtain ⟨tk,rfl⟩:=r;cases hk;exact ⟨(λ z=>nomatch z),ay _ _ W.kitx_str trivial (λ cv n k=>k.ss)⟩
 |tup ds=>
  simp only[Tl] at t
  revert t;refine aq λ a vs y t1 _=>?_;subst y
  cases r;cases hk;refine aH (λ its _ y _=>?_) (I.tuple (kE t1));revert y;refine aH λ o h1 h2 _=>?_;exact ⟨(λ z=>nomatch z),ay _ _ W.kitx_tuple (af o h1 h2) (λ cv n k=>k.tt)⟩
 |gt ds=>
  simp only[Tl] at t
  revert t;refine aq λ a vs y t1 _=>?_;subst y
  cases r;cases hk;refine aH (λ its _ y _=>?_) (I.tuple t1.sq);revert y;refine aH λ o h1 h2 _=>?_;exact ⟨(λ z=>nomatch z),ay _ _ W.kitx_tuple (af o h1 h2) (λ cv n k=>k.tt)⟩
 |lst ds=>
  simp only[Tl] at t
  revert t;refine aq λ a vs y t1 _=>?_;subst y
  cases r;cases hk;refine aH (λ its _ y _=>?_) (I.list t1.sq);revert y;refine aq λ o _ h1 h2 _=>?_;exact ⟨(λ z=>nomatch z),ay _ _ W.kitx_list (af o h1 h2) (λ cv n k=>k.ll)⟩
 |bor tm ds=>refine aq (λ a vs y t1 _=>?_) (t.fX lL lB rfl);subst y;cases r;cases hk;refine aH (λ its _ y _=>?_) (I.list t1);revert y;refine aq λ o _ h1 h2 _=>?_;exact ⟨(λ z=>nomatch z),ay _ _ W.kitx_list (af o h1 h2) (λ cv n k=>k.ll)⟩
 |lJ ks' xs=>
  simp only[Tl] at t
  revert t;refine aq λ a vs y w _=>?_;subst y;obtain ⟨o,t1⟩:=w
  cases r;cases hk;cases ks' with
  |s _=>refine jE (λ _ _ _=>ah λ vs' _=>eZ λ o' es ep h1 h2 _=>?_) (I.hok a _ t1);exact ⟨(λ z=>nomatch z),ay _ _ W.kitx_dict (af o' h1 h2.1) (λ cv n k=>k.dd)⟩
  |t _=>refine jE (λ _ _ _=>ah λ vs' _=>eZ λ o' es ep h1 h2 _=>?_) (I.hok a _ t1);exact ⟨(λ z=>nomatch z),ay _ _ W.kitx_dict (af o' h1 h2.1) (λ cv n k=>k.dd)⟩
 |lY tm ks' xs=>
  simp only[Tl] at t
  revert t;refine aq λ a vs y t1 _=>?_;subst y
  cases r;cases hk;have t2:H a=some (ks'.ho vs):=by
   cases tm with
   |true=>exact lB a _ t1
   |false=>exact lL a _ t1
  cases ks' with
  |s _=>refine bg (λ _ _=>ah λ vs' _=>eZ λ o' es ep h1 h2 _=>?_) (I.hok a _ t2);exact ⟨(λ z=>nomatch z),ay _ _ W.kitx_dict (af o' h1 h2.1) (λ cv n k=>k.dd)⟩
  |t _=>refine bg (λ _ _=>ah λ vs' _=>eZ λ o' es ep h1 h2 _=>?_) (I.hok a _ t2);exact ⟨(λ z=>nomatch z),ay _ _ W.kitx_dict (af o' h1 h2.1) (λ cv n k=>k.dd)⟩
 |rO tm c ns xs=>cases hk
 |obj c ns xs=>
  simp only[Tl] at t
  revert t;refine Ao λ a C dx vs y hc ha _=>?_;subst y
  cases r;have hk:mt.lookup c=some ks:=hk;refine ah (λ mA O _=>?_) (K0 I.hok ha);refine ah (λ od J _=>?_) O.look;have ic:=hx.ic c C ns hc;exact ⟨(λ z=>nomatch z),ay _ _ (W.kitx_own (ic.cl.get _) ic.cl.hd ic.ha ic.hn ic.tk ic.hm) J (λ cv n k=>k.ins c C ns ks hc hk)⟩
 |exc c=>
  simp only[Tl] at t
  revert t;refine aq λ a C y hc ha=>?_;subst y
  cases r;obtain ⟨p,_⟩:=I.hok a _ ha;have hk:mt.lookup c=some ks:=hk;exact ⟨(λ z=>nomatch z),ay _ _ (Hw (hx.xt c C hc (by rw[hk];rfl))) p (λ cv n k=>k.own c C ks hc hk)⟩
section
variable{X:Cx}{ct:Ct}{mt:List (String×List String)}{a b e:Expr}{f g:Sg->Res D}{c:Str}{n:String}{cv:Value}{p p2 pos:Pos}
structure QG(X:Cx)(c:Str)(v:V)(u:Value):Prop where
 rel:RelV v u
 one:∀u',RelV v u'->u'=u
 ld:(X.mg c=some u)\/(X.mg c=none/\bootBuiltins c=some u/\c≠"__name__")
def p7(h:X.mg c=none)(hv:bootBuiltins c=some (.type T))(hn:c≠"__name__"):QG X c (.ty T) (.type T):=⟨rfl,λ _ z=>z,.inr (aV h hv hn)⟩
def Od{v:V}(h:QG X c v u)(hg:Gl X c:=by rfl)(hd:(c==("__debug__":Str))=false:=by decide):PE X (.Name c pos) (tC v):=by
 rcases h.ld with q|⟨q1,q2,q3⟩
 ·exact B9 hg q h.rel hd
 ·exact Ke hg q1 q2 h.rel q3 hd
def Ik{y:V}(hx:WH X.K ct.f.cb mt)(hk:LJ X.K ct.f.cb mt cv n)(hy:∀u,RelV y u->u=cv):pI X (.builtin "isinstance") (λ xs H Q=>aB ct.f.L H/\aB ct.B H/\∃d v ks,xs=[v,y]/\Tl X.K ct H d v/\kinds mt d=some ks/\Q (.bl (ks.contains n)) H):=by
 refine λ pins s σ H xs us Q I r=>bg λ lL lB=>nT λ d v ks ex t hd q=>?_;subst ex;cases r with
 |cons r1 r2=>
  cases r2 with
  |cons r2 r3=>cases r3;refine cC (λ nb=>aq λ ty P Z pp k=>?_) (Es I lL lB t r1 hd hx);rw[hy _ r2];exact W.kia_one Z I.Hz pp (k cv n hk) nb λ tk=>ay (.bl _) H (I.tok tk) rfl q
def KS{cs:List String}{d x:D}(h:rm mt cs d= .ok x):∃ks,kinds mt d=some ks/\x= .bl (cs.any λ c=>ks.contains c):=by
 unfold rm at h;split at h
 ·rename_i ks hk;cases h;exact af ks hk rfl
 ·cases h
def KU{cs:List String}{d:D}{c:String}:rm mt cs d≠.err c:=by unfold rm;split<;>exact λ z=>nomatch z
def uz{y:V}(hm:X.mg "isinstance"=none)(hx:WH X.K ct.f.cb mt)(hk:LJ X.K ct.f.cb mt cv n)(hc:QG X c y cv)(he:WD X ct e f)(hg:Gl X "isinstance":=by rfl)(hgc:Gl X c:=by rfl)(hdc:(c==("__debug__":Str))=false:=by decide)(hs:starEach [e,.Name c p2] X.env=(false,eval e X.env)::starEach [.Name c p2] X.env:=by rfl)(hs2:starEach [.Name c p2] X.env=(false,eval (.Name c p2) X.env)::starEach [] X.env:=by rfl)(hpl:(backTo pos (starEach [.Name c p2] X.env)).any (·.1)=false:=by rfl):WD X ct (.Call (.Name "isinstance" p) [e,.Name c p2] [] pos) (EM mt [n] f):=by
 have he:=he.out;refine ⟨?_⟩;refine PE.imp (jG (Ik hx hk hc.one) hg hm PyProof.Rows.boot_isinstance (pW he (pW (Od hc hgc hdc) AB hs2) hs) (by decide) (by decide) hs hpl) ?_;refine λ σ H Q=>ah λ Γ j h=>?_;refine oi.bnd j h λ d v H' s t j' h'=>?_;cases q:rm mt [n] d with
 |bad=>rw[q] at h';exact h'.elim
 |err c=>exact (KU q).elim
 |ok x=>rw[q] at h';refine ah (λ ks hks z=>?_) (KS q);subst z;exact aV j'.lL j'.lB (iC d v ks rfl t hks (by simpa using h' (.bl _) H' s (by simp[Tl])))
end
def Qi:bootBuiltins "int"=some (.type "int"):=by decide+kernel
def Lq:bootBuiltins "bool"=some (.type "bool"):=by decide+kernel
def Iq:bootBuiltins "tuple"=some (.type "tuple"):=by decide+kernel
def Lp:bootBuiltins "list"=some (.type "list"):=by decide+kernel
section
variable{X:Cx}{ct:Ct}{c:Cf}{k n:Nat}{f:Addr}{fd:FuncData}{ps:List Str}{F:List Slot->dN}{x:Str}{p pos:Pos}{e:Expr}{es:List Expr}{fa:Sg->Res (List D)}
def R9(G:jj X.prog X.w X.K X.mg X.base c.z.f.cb k f fd ps F)(hr:dH k X.A)(hm:X.mg x=some (.ref f))(hk:W.keepIn X.K (.ref f)=true)(hb:Binds X.K fd ps [])(ha:pN X c.z (e::es) fa)(hn:ps.length=n:=by rfl)(hg:Gl X x:=by rfl)(hdb:(x==("__debug__":Str))=false:=by decide)(he:starEach (e::es) X.env=(false,eval e X.env)::starEach es X.env:=by rfl)(hpl:(backTo pos (starEach es X.env)).any (·.1)=false:=by rfl):WD X c.z (.Call (.Name x p) (e::es) [] pos) (bu n F fa):=by have ha:=ha.out;refine ⟨?_⟩;subst hn;exact GB (mR (yW c) G hr hm hk hb ha hg hdb he hpl)
def z9(G:jj X.prog X.w X.K X.mg X.base ct.f.cb k f fd ps F)(hr:dH k X.A)(hm:X.mg x=some (.ref f))(hk:W.keepIn X.K (.ref f)=true)(hb:Binds X.K fd ps [])(ha:pN X ct (e::es) fa)(hn:ps.length=n:=by rfl)(hg:Gl X x:=by rfl)(hdb:(x==("__debug__":Str))=false:=by decide)(he:starEach (e::es) X.env=(false,eval e X.env)::starEach es X.env:=by rfl)(hpl:(backTo pos (starEach es X.env)).any (·.1)=false:=by rfl):WD X ct (.Call (.Name x p) (e::es) [] pos) (lK n F fa):=by have ha:=ha.out;refine ⟨?_⟩;subst hn;exact GD (mR (Cn ct) G hr hm hk hb ha hg hdb he hpl)
def Fe(G:jj X.prog X.w X.K X.mg X.base ct.f.cb k f fd ps F)(hr:dH k X.A)(hm:X.mg x=some (.ref f))(hk:W.keepIn X.K (.ref f)=true)(hb:Binds X.K fd ps [])(ha:pN X ct (e::es) fa)(hn:ps.length=n:=by rfl)(hg:Gl X x:=by rfl)(hdb:(x==("__debug__":Str))=false:=by decide)(he:starEach (e::es) X.env=(false,eval e X.env)::starEach es X.env:=by rfl)(hpl:(backTo pos (starEach es X.env)).any (·.1)=false:=by rfl):WM X ct (.Call (.Name x p) (e::es) [] pos) (lD n F fa):=by have ha:=ha.out;refine ⟨?_⟩;subst hn;exact yx (mR (Cn ct) G hr hm hk hb ha hg hdb he hpl)
def Fw(G:jj X.prog X.w X.K X.mg X.base ct.f.cb k f fd ps F)(hr:dH k X.A)(hm:X.mg x=some (.ref f))(hk:W.keepIn X.K (.ref f)=true)(hb:Binds X.K fd ps [])(ha:pN X ct (e::es) fa)(hn:ps.length=n:=by rfl)(hg:Gl X x:=by rfl)(hdb:(x==("__debug__":Str))=false:=by decide)(he:starEach (e::es) X.env=(false,eval e X.env)::starEach es X.env:=by rfl)(hpl:(backTo pos (starEach es X.env)).any (·.1)=false:=by rfl):WD X ct (.Call (.Name x p) (e::es) [] pos) (oq n F fa):=by have ha:=ha.out;refine ⟨?_⟩;subst hn;exact GC (mR (KD ct) G hr hm hk hb ha hg hdb he hpl)
end
def FW{K:W.Frag}{ct:Ct}{H:Hp}:∀ns:List Int,aN K ct H (ns.map D.int) (ns.map V.int):=by
 intro v_;induction v_ with
 |nil=>simp[aN]
 |cons n ns lV=>exact aN.cons (by simp[Tl]) (lV)
section
variable{X:Cx}{ct:Ct}{c:Cf}{o e:Expr}{es:List Expr}{f m:Str}{fo g:Sg->Res D}{fa:Sg->Res (List D)}{pos apos:Pos}
variable{md:List D->Option (List D)}{bk:D->Bool}{Bl:M->Bool}{JB:List (String×(List Slot->dN))}{n:Nat}
noncomputable def Y3(cb:Cb)(ft:List (String×List Str)):Prop:=∀c C full,cb.ins c=some C->ft.lookup c=some full->∀c' ns',cb.cls c'=some (C,ns')->ns'=full
end
section
variable{X:Cx}{ct:Ct}{c:Cf}{o e:Expr}{es:List Expr}{x:Str}{fa:Sg->Res (List D)}{p pos:Pos}{md:List D->Option (List D)}{bk:D->Bool}{Bl:M->Bool}{n k:Nat}{F:List Slot->dN}{cn:String}{ns:List Str}{C f:Addr}{fd:FuncData}{ps:List Str}
end
section
variable{P:Program}{w:World}{K:W.Frag}{mg:Str->Option Value}{base:Heap}{cb:Cb}
end
section
variable{K:W.Frag}{ct:Ct}{H:Hp}
end
section
variable{X:Cx}{c:Cf}{x:Str}{e:Expr}{es:List Expr}{i q n k:Nat}{f:Sg->Res D}{r fa:Sg->Res (List D)}{p pos:Pos}{F:List Slot->dN}{fn:Addr}{fd:FuncData}{ps:List Str}
variable{g:Sg->Res (D×Sg)}{Γ:Sg}{σ:St}{H:Hp}
end
section
variable{X:Cx}{ct:Ct}{a b e:Expr}{f g:Sg->Res D}{fa:Sg->Res (List D)}{p pos:Pos}
theorem Tl.F3{K:W.Frag}{H:Hp}{d:D}{v:V}{ds:List D}(l:aB ct.f.L H)(b:aB ct.B H)(h:Tl K ct H d v)(e:L4.F3 d=some ds):∃a vs,v= .ref a/\(fZ K H a vs\/sR K H a vs)/\aN K ct H ds vs:=by
 cases d with
 |lst xs=>cases e;refine aq (λ a vs h1 h2 h3=>?_) (h.fX l b rfl);exact ay a vs h1 (.inl h2) h3
 |bor t xs=>cases e;refine aq (λ a vs h1 h2 h3=>?_) (h.fX l b rfl);exact ay a vs h1 (.inl h2) h3
 |tup xs=>cases e;simp only[Tl] at h;revert h;refine aq λ a vs h1 h2 h3=>?_;exact ay a vs h1 (.inr (kE h2)) h3
 |gt xs=>cases e;simp only[Tl] at h;revert h;refine aq λ a vs h1 h2 h3=>?_;exact ay a vs h1 (.inr h2.sq) h3
 |_=>cases e
variable{cc:Expr}{h:Sg->Res D}
variable{es:List Expr}
def Ju(Uv:X.calm=true)(hm:X.mg "min"=none)(ha:pN X ct (e::es) fa)(hg:Gl X "min":=by rfl)(he:starEach (e::es) X.env=(false,eval e X.env)::starEach es X.env:=by rfl)(hpl:(backTo pos (starEach es X.env)).any (·.1)=false:=by rfl):WD X ct (.Call (.Name "min" p) (e::es) [] pos) (p6 yS fa):=by
 have ha:=ha.out;refine ⟨?_⟩;refine PE.imp (jG (ET Uv) hg hm (by decide+kernel) ha (by decide) (by decide) he hpl) (CW λ σ H vs ds Q lL lB t h=>?_);unfold yS at h;split at h
 ·rename_i i j;refine aq (λ v v' z t1 t2=>?_) (W8 t);subst z;simp only[Tl] at t1 t2;subst t1 t2;exact aQ i j rfl (h _ H (aB.refl H) (by simp[Tl]))
 ·exact h.elim
def Jm(hm:X.mg "list"=none)(ha:pN X ct (e::es) fa)(hg:Gl X "list":=by rfl)(he:starEach (e::es) X.env=(false,eval e X.env)::starEach es X.env:=by rfl)(hpl:(backTo pos (starEach es X.env)).any (·.1)=false:=by rfl):WL X ct (.Call (.Name "list" p) (e::es) [] pos) (OV yV fa):=by
 have ha:=ha.out;refine ⟨?_⟩;refine PE.imp (D8 vI hg hm (by decide+kernel) ha (by decide) (by decide) he hpl) ?_;refine λ σ H Q=>ah λ Γ j h=>?_;refine EZ.bnd j h λ ds vs H' s t j' h'=>?_;unfold yV at h';split at h'
 ·rename_i x;split at h'
  ·rename_i xs hs;refine ah (λ v z t1=>?_) (mF t);subst z;refine aq (λ a us z q1 q2=>?_) (t1.F3 j'.lL j'.lB hs);subst z;refine ay a us rfl q1 (λ l hl=>?_);have s2:=bC hl (.lst us);exact h' l us _ (s.trans s2) (s.free hl) aJ (q2.keep (aB.keep s2))
  ·exact h'.elim
 ·exact h'.elim
end
section
variable{X:Cx}{ct:Ct}{a b e:Expr}{f g:Sg->Res D}{pos:Pos}
def Cq{K:W.Frag}{H:Hp}{d:D}{v:V}{k:Key}(h:Tl K ct H d v)(e:AW d=some k):v=kV k:=by
 cases d with
 |int i=>cases e;simp only[Tl] at h;exact h
 |str x=>cases e;simp only[Tl] at h;exact h
 |_=>cases e
theorem CF{K:W.Frag}{H:Hp}{k:Key}:∀{ks:List Key} {xs:List D} {vs:List V} {d:D},aN K ct H xs vs->zj ks xs k=some d->∃v,mw (ks.zip vs) k=some v/\Tl K ct H d v
 |[],xs,vs,d,t,h=>by simp[zj] at h
 |n::ks,[],vs,d,t,h=>by simp[zj] at h
 |n::ks,x::xs,vs,d,t,h=>by
  simp only[aN] at t
  revert t;refine aq λ v r z t1 t2=>?_;subst z
  by_cases q:n=k
  ·subst q;simp only[zj,List.zip_cons_cons,List.find?_cons,decide_true,Option.map_some,Option.some.injEq] at h;subst h;exact af v (by simp[mw,List.find?_cons]) t1
  ·simp only[zj,List.zip_cons_cons,List.find?_cons,q,decide_false] at h;refine ah (λ v' g1 g2=>?_) (CF t2 h);exact af v' (by simpa[mw,List.find?_cons,q] using g1) g2
def Tl.dict{K:W.Frag}{H:Hp}{d:D}{v:V}{ks:List Key}{xs:List D}(l:aB ct.f.L H)(b:aB ct.B H)(h:Tl K ct H d v)(e:Wq d=some (ks,xs)):∃a vs,v= .ref a/\Rd H a (.dK (ks.zip vs))/\ks.length=vs.length/\aN K ct H xs vs:=by
 cases d with
 |lJ ks' xs'=>
  cases ks' with
  |t _=>cases e
  |s ks'=>
  cases e;simp only[Tl] at h
  revert h;refine aL λ a vs h1 z h3 h4=>?_;obtain ⟨o,h2⟩:=z
  exact bh a vs h1 (.inr ⟨o,h2⟩) h3 h4
 |lY t ks' xs'=>
  cases ks' with
  |t _=>cases e
  |s ks'=>
  cases e;simp only[Tl] at h
  revert h;refine aL λ a vs h1 h2 h3 h4=>?_
  refine bh a vs h1 (.inl ?_) h3 h4;cases t with
  |true=>exact b a _ h2
  |false=>exact l a _ h2
 |_=>cases e
def M9(hu:X.A.units+1<cLine)(ha:WD X ct a f)(hb:WD X ct b g)(hs:nE b:=by exact λ _ _=>rfl)(hn:Qy b:=by exact λ _ _=>rfl):WD X ct (.Subscript a b pos) (aO getD f g):=by
 have ha:=ha.out;have hb:=hb.out;refine ⟨?_⟩;refine λ pins s σ H Q I=>ah λ Γ j h=>?_;cases z:f Γ with
 |bad=>simp only[aO,z,Res.vK] at h;exact h.elim
 |err x=>refine Gz ha hb hs pins s σ H Q I (af Γ j ?_);simp only[aO,z,Res.vJ] at h ⊢;exact h
 |ok o=>
  cases zd:Wq o with
  |none=>
   refine Gz ha hb hs pins s σ H Q I (af Γ j ?_);have e1:aO getD f g Γ=aO bG f g Γ:=by simp only[aO,z,Res.iF,getD,zd]
   rw[<-e1];exact h
  |some p=>
   obtain ⟨ks,xs⟩:=p;refine Kd hu ha hb hn pins s σ H Q I ?_;refine af Γ j ?_;rw[z];intro v H1 s1 t1;simp only[aO,z,Res.iF] at h;refine oi.bnd (f:=g) (r:=λ y=>getD o y) (W:=Wd X ct H Q) (j.mono s1) (Ok.mono s1 h λ _ z=>z) λ y u H2 s2 t2 j2 h2=>?_;simp only[getD,zd] at h2;refine aL (λ a vs z1 q1 q2 q3=>?_) ((t1.keep (aB.keep s2)).dict j2.lL j2.lB zd);subst z1;split at h2
   ·rename_i k hk;split at h2
    ·rename_i d hd;refine ah (λ w w1 w2=>?_) (CF q3 hd);exact ay a w rfl (.inl (ay _ k q1 (Cq t2 hk) w1.symm)) (h2 w H2 (s1.trans s2) w2)
    ·exact h2.elim
   ·exact h2.elim
def Ji{ks:List Key}{vs:List V}{k:Key}(h:ks.length=vs.length):((ks.zip vs).any λ kv=>decide (kv.1=k))=ks.any λ n=>decide (n=k):=by
 induction ks generalizing vs with
 |nil=>simp
 |cons n ks ih=>
  cases vs with
  |nil=>simp at h
  |cons v vs=>simp only[List.zip_cons_cons,List.any_cons];rw[ih (by simpa using h)]
def JY{K:W.Frag}{H:Hp}{ks:List Key}{xs:List D}{vs:List V}{k:Key}{d:D}{v:V}(h:ks.length=vs.length)(t:aN K ct H xs vs)(td:Tl K ct H d v):
  ∃us,putK (ks.zip vs) k v=(yf ks k).zip us/\(yf ks k).length=us.length/\aN K ct H (BR ks xs k d) us:=by
 unfold putK yf BR;rw[Ji h];by_cases q:(ks.any λ n=>decide (n=k))=true
 ·simp only[q,if_true];clear q;induction ks generalizing xs vs with
  |nil=>
   cases vs with
   |nil=>exact aY [] (by simp) rfl (by simp[aN])
   |cons v vs=>simp at h
  |cons n ks ih=>
   cases vs with
   |nil=>simp at h
   |cons w vs=>
    cases xs with
    |nil=>simp only[aN] at t;cases t
    |cons x xs=>
     simp only[aN] at t
     revert t;refine aq λ w' r e t1 t2=>?_
     cases e;refine aH (λ us u1 u2 u3=>?_) (ih (by simpa using h) t2);simp only[List.zip_cons_cons,List.map_cons];by_cases q:n=k
     ·subst q;exact aY (v::us) (by simp[u1]) (by simp[u2]) (by simpa using aN.cons td u3)
     ·exact aY (w::us) (by simp[q,u1]) (by simp[u2]) (by simpa[q] using aN.cons t1 u3)
 ·simp only[q,if_false,Bool.false_eq_true];exact aY (vs++[v]) (by rw[List.zip_append h];simp) (by simp[h]) (t.append (aN.cons td aN.nil))
end
section
variable{X:Cx}{c:Cf}{r ix e:Expr}{i:Nat}{g:Sg->Res (List Nat)}{f fk:Sg->Res D}{pos:Pos}{Γ:Sg}{σ:St}{H:Hp}
def B5{K:W.Frag}{d:D}{y:V}{k:Key}{v:V}{B:Hp}{m' dZ:M}{S':Fp}(t:Tl K (c.at' B) H d y)(e:mQ k d m'=some dZ)(o:Ow K c.z H m' v S'):
  ∃a kvs,v= .ref a/\H a=some (.dK kvs)/\kvs.length<1000000/\S' a/\Ow K c.z (upd H a (.dK (putK kvs k y))) dZ (.ref a) S':=by
 cases m' with
 |k ks xs=>
  cases ks with
  |t _=>cases e
  |s ks=>
  simp only[mQ] at e;split at e
  ·rename_i hc;cases e;simp only[Ow] at o ⊢
   revert o;refine cR λ a vs z o2 o3 o4 o5=>?_;subst z
   refine aH (λ us u1 u2 u3=>?_) (JY (k:=k) o4 o5 (Tl.down (B:=B) (tm:=true) t hc.1));refine bN a _ rfl o3 (by rw[List.length_zip];omega) o2 (bN a us rfl o2 ?_ u2 (u3.keep (aX.dK o3)));rw[aJ,u1];rfl
  ·cases e
 |_=>cases e
end
section
variable{X:Cx}{ct:Ct}{pos:Pos}{e:Expr}{f:Sg->Res D}{fa:Sg->Res (List D)}{keys:List (Option Expr)}{values:List Expr}{ks:List Key}
end
section
variable{X:Cx}{c:Cf}{tg iter:Expr}{fi:Sg->Res (List D)}{t:Tg}{B:Sg->Out}{body:List Stmt}{pos:Pos}
def cK(g:Good X)(hi:IM X c.z tg iter fi)(hg:Qo X c.z tg t)(hb:oF X c body B)(hs:∀x,foldedSetIterable iter X.env x=pure x:=by intro _;rfl):sQ X c (.For tg iter body [] pos) (g5 fi t B):=by
 have hi:=hi.out;have hg:=hg.out;have hb:=hb.out;refine ⟨?_⟩;refine PS.imp (NX g.po g.calm hi hg hb hs) λ E σ H z_=>zX z_ λ Γ j h=>af Γ j (Fn.ok j h λ xs _ q J H' s it=>?_)
 revert it;refine dw λ P p0 pk pg pst=>?_
 have h':Fn X c H' (cS t B xs Γ) E:=q.mono (aB.keep s);refine af (λ i m σ1 H1=>i+m=xs.length/\P H1/\∃Γ1,Jx X c.z Γ1 σ1 H1/\aX c.cb H' H1/\cS t B (xs.drop i) Γ1=cS t B xs Γ) (aY xs.length (by simp) p0 (aY Γ (j.mono s) (aX.refl H') rfl)) ?_;refine λ i m σ1 H1=>bg λ hm p1=>aH λ Γ1 j1 k1 e1=>?_;cases hd:xs[i]? with
 |none=>
  have hl:xs.length<=i:=by simpa using hd
  refine .inl ⟨pst i H1 p1 hl,?_⟩;rw[List.drop_eq_nil_of_le hl] at e1;rw[<-e1] at h';exact h' σ1 H1 k1 j1
 |some d=>
  obtain ⟨g1,g2⟩:=pg i d H1 p1 hd;have hl:i<xs.length:=(List.getElem?_eq_some_iff.mp hd).1;refine .inr (⟨g1,af (λ σ3 H3=>P H3/\∃Γ3,Jx X c.z Γ3 σ3 H3/\aX c.cb H' H3/\cS t B (xs.drop (i+1)) Γ3=cS t B xs Γ) (λ σ3 H3 ⟨p3,z⟩=>bW (m- 1) (by omega) (by omega) p3 z) (λ x H2 y=>?_)⟩);obtain ⟨uJ,td⟩:=g2 x H2 y;have k2:aX c.cb H' H2:=k1.trans (aB.keep uJ);rw[drop_one hd] at e1;cases e2:t d Γ1 with
  |none=>exact (Kr e2 e1 h').elim
  |some Γ2=>exact iC Γ1 d Γ2 (j1.mono uJ) td e2 (λ σ2 j2=>af Γ2 j2 (Jz k2 e2 e1 h' λ Γ3 σ3 H3 k3 j3 e3=>⟨pk H' H3 p0 k3 j3.lL j3.lB,aY Γ3 j3 k3 e3⟩))
end
section
variable{X:Cx}{ct:Ct}{a b e:Expr}{f g:Sg->Res D}{fa:Sg->Res (List D)}{p pos:Pos}
end
section
variable{X:Cx}{ct:Ct}{x:Str}{p pos:Pos}{C a:Addr}{cn:String}
def FY{K:W.Frag}{H:Hp}{ds:List D}{vs:List V}{o:Obj}{its:Array Value}{n:Nat}(hl:K.lookup a=some o)(hc:o.cls= .type "tuple")(hd:o.data= .seq its n)(hz:its.size<=sizeLine)(r:Vals vs its.toList)(t:aN K ct H ds vs):Tl K ct H (.gt ds) (.ref a):=by simp only[Tl];exact ay a vs rfl (k9 o its n hl hc hd hz r) t
def Vt(K:W.Frag)(u:Value)(d:D):Prop:=∃v:V,RelV v u/\∀(ct:Ct) (H:Hp),Tl K ct H d v
def xU{d:D}(hm:X.mg x=some u)(ht:Vt X.K u d)(hg:Gl X x:=by rfl)(hd:(x==("__debug__":Str))=false:=by decide):WD X ct (.Name x pos) (dC d):=by refine ⟨?_⟩;refine ah (λ v r t=>?_) ht;exact Kh (v:=v) hg hm r (λ H=>t ct H) hd
def pZ{K:W.Frag}{i:Int}{t:Tok}:Vt K (.int i t) (.int i):=af (.int i) ⟨t,rfl⟩ (λ _ _=>by simp[Tl])
def LK(K:W.Frag)(us:List Value)(ds:List D):Prop:=∃vs:List V,Vals vs us/\∀(ct:Ct) (H:Hp),aN K ct H ds vs
def zh{K:W.Frag}:LK K [] []:=af [] .nil (λ _ _=>aN.nil)
def jZ{K:W.Frag}{u:Value}{us:List Value}{d:D}{ds:List D}(h:Vt K u d)(t:LK K us ds):LK K (u::us) (d::ds):=by refine ah (λ v r q=>?_) h;refine ah (λ vs rs qs=>?_) t;exact af (v::vs) (.cons r rs) (λ ct H=>aN.cons (q ct H) (qs ct H))
def CC{K:W.Frag}{us:List Value}{ds:List D}{od:Option Addr}{sl:Array (Option Value)}{n:Nat}(hl:K.lookup a=some ⟨.type "tuple",od,.seq us.toArray n,sl⟩)(hz:us.length<=1000)(h:LK K us ds):Vt K (.ref a) (.gt ds):=by
 revert h;refine ah λ vs rs qs=>?_
 exact af (.ref a) rfl (λ ct H=>FY hl rfl rfl (by rw[sizeLine_eq];simp;omega) (by simpa using rs) (qs ct H))
structure Mk0(K:W.Frag)(C:Addr):Prop where
 makes:W.makesIn K C=true
 init:W.findIn K (.ref C) "__init__"=some (some (.builtin "object.__init__"))
 kp:W.keepIn K (.ref C)=true
end
section
variable{X:Cx}{c:Cf}{e:Expr}{f:Sg->Res D}{p:Sg->Res Bool}{F G B:Sg->Out}{pos:Pos}{body:List Stmt}
def bQ(hc:zY X c.z ce p)(ha:oF X c a F)(hb:oF X c b G):sQ X c (.If ce a b pos) (qB p F G):=by
 have hc:=hc.out;have ha:=ha.out;have hb:=hb.out;refine ⟨?_⟩;refine λ pins s σ H E I=>ah λ Γ j h=>?_;refine Ma hc ha hb pins s σ H E I (af Γ j (Fn.ok j h λ x _ q H' s=>?_));cases x with
 |true=>exact Ex (af Γ (j.mono s) (Fn.mono (aB.keep s) q))
 |false=>exact Ey (af Γ (j.mono s) (Fn.mono (aB.keep s) q))
def kX(n:Nat)(g:Good X)(hc:zY X c.z ce p)(hb:oF X c body B):sQ X c (.While ce body [] pos) (bD p B n):=by
 have hc:=hc.out;have hb:=hb.out;refine ⟨?_⟩;refine PS.imp (F9 g.po hc hb) ?_;refine λ E σ H=>ah λ Γ j h=>?_;refine af (λ m σ1 H1=>∃Γ1,Jx X c.z Γ1 σ1 H1/\aX c.cb H H1/\bD p B m Γ1=bD p B n Γ) (ay n Γ j (aX.refl H) rfl) ?_;refine λ m σ1 H1=>aH λ Γ1 j1 k1 e1=>?_;cases m with
 |zero=>rw[<-e1] at h;exact h.elim
 |succ m=>
  refine af Γ1 j1 ?_;rw[<-e1] at h;have h2:=h.mono k1;simp only[bD] at h2;refine Fn.ok j1 h2 λ x ec q H2 s2=>?_;cases x with
  |false=>exact Ey (q σ1 H2 (aB.keep s2) (j1.mono s2))
  |true=>
   refine Ex (af (λ σ3 H3=>∃Γ3,Jx X c.z Γ3 σ3 H3/\aX c.cb H H3/\bD p B m Γ3=bD p B n Γ) (λ σ3 H3 z=>af m (Nat.lt_succ_self m) z) (af Γ1 (j1.mono s2) ?_));simp only[if_true] at q;simp only[bD,ec,Mi,if_true] at e1;have k2:aX c.cb H H2:=k1.trans (aB.keep s2);cases eb:B Γ1 with
   |nx Γ3=>rw[eb] at e1;exact λ σ3 H3 k3 j3=>aY Γ3 j3 (k2.trans k3) e1
   |ct Γ3=>rw[eb] at e1;exact λ σ3 H3 k3 j3=>aY Γ3 j3 (k2.trans k3) e1
   |bk Γ3=>rw[eb] at q;exact λ σ3 H3 k3 j3=>q σ3 H3 ((aB.keep s2).trans k3) j3
   |rt d=>rw[eb] at q;exact q
   |zV d=>rw[eb] at q;exact q
   |L7 d Γ3=>rw[eb] at q;exact q
   |yo d Γ3=>rw[eb] at q;exact q
   |err x Γ3=>rw[eb] at q;exact λ σ3 H3 e s' k3 j3 r=>q σ3 H3 e s' ((aB.keep s2).trans k3) j3 r
   |bad=>rw[eb] at q;exact q
end
section
variable{X:Cx}{ct:Ct}
end
def Af{α:Type}{a c:String}{A C:α}{r:List (String×α)}(h:((a,A)::r).lookup c=some C):(c=a/\C=A)\/r.lookup c=some C:=by
 rw[List.lookup_cons] at h;by_cases q:(c==a)=true
 ·rw[q] at h;exact .inl ⟨by simpa using q,(Option.some.inj h).symm⟩
 ·rw[Bool.not_eq_true] at q;rw[q] at h;exact .inr h
def nN{α:Type}{c:String}{C:α}:∀{r:List (String×α)},r.lookup c=some C->(c,C)∈r:=by
 intro v_;induction v_ with
 |nil=>
  rintro h
  cases h
 |cons e_ r lV=>
  obtain ⟨a,A⟩:=e_
  rintro h
  rcases Af h with ⟨rfl,rfl⟩|h
  ·exact List.mem_cons_self ..
  ·exact List.mem_cons_of_mem _ (lV h)
noncomputable abbrev rY:=List (String×(Addr×List Str))
abbrev Ln(E:List (String×Addr))(T:rY)(Z:Hp:=λ _=>none):Cb:=⟨λ c=>E.lookup c,λ c=>T.lookup c,λ c=>(T.lookup c).map (·.1),Z⟩
def fY{α:Type}{p:α->Prop}:∀e∈([]:List α),p e:=λ e h=>nomatch h
def cz{α:Type}{p:α->Prop}{a:α}{r:List α}(h:p a)(t:∀e∈r,p e):∀e∈a::r,p e:=λ e he=>by
 rcases List.mem_cons.mp he with rfl|he
 ·exact h
 ·exact t e he
def PX{E:List (String×Addr)}{P:String->Addr->Prop}(h:∀e∈E,P e.1 e.2){c:String}{C:Addr}(hc:E.lookup c=some C):P c C:=h _ (nN hc)
def len0(h:us.length=0):us=[]:=List.eq_nil_of_length_eq_zero h
def Ue(h:us.length=1):∃u0,us=[u0]:=by
 cases us with
 |nil=>cases h
 |cons a r=>obtain rfl:=len0 (us:=r) (Nat.succ.inj h);exact ⟨a,rfl⟩
def Ud(h:us.length=2):∃u0 u1,us=[u0,u1]:=by
 cases us with
 |nil=>cases h
 |cons a r=>obtain ⟨v0,rfl⟩:=Ue (us:=r) (Nat.succ.inj h);exact lq a v0 rfl
def X6(h:us.length=3):∃u0 u1 u2,us=[u0,u1,u2]:=by
 cases us with
 |nil=>cases h
 |cons a r=>refine Ar (λ v0 v1 z=>?_) (Ud (us:=r) (Nat.succ.inj h));subst z;exact ⟨a,v0,v1,rfl⟩
end L4
end
section
namespace L4
open PySem PySem.Spec PyProof.Rows L2 PySem.W
noncomputable def Hz{α:Type}(n:Nat):KasT α->Prop
 | .ret _=>True
 | .ask i j k=>i<n/\j<n/\i≠j/\∀b,Hz n (k b)
section
variable{prog:Program}{w:World}{A:Around}{E:Value->Shared->Prop}{s:Shared}
end
section
variable{X:Cx}{ct:Ct}{e:Expr}{es:List Expr}{fa:Sg->Res (List D)}{p pos:Pos}
end
end L4
end
section
namespace L4
open PySem
noncomputable abbrev zP:=Sum Int Str
end L4
end
section
namespace L4
open PySem PySem.Spec PyProof.Rows L2
open AutoSeq1 (wpAny_loadPart')
section
variable{prog:Program}{w:World}{A:Around}{E:Value->Shared->Prop}{s:Shared}
end
section
variable{X:Cx}{pins:List (Addr×Obj)}{σ:St}{H:Hp}{s:Shared}
def BG{t':Nat}{h':Heap}{ch:List Addr}(I:Inv X pins σ H s)(k:∀b o,b∉ch->s.heap.get? b=some o->h'.get? b=some o)(hf:∀b∈ch,f9 X pins H b):Inv X pins σ H {s with heap:=h',toks:=t'}:=by
 have Mn:∀b u,H b=some u->b∉ch:=λ b u e z=>by rw[(hf b z).1] at e;cases e
 have hL:X.env.locals∉ch:=λ z=>(hf _ z).2.1 rfl;refine I.step (g':=s.gens) (d':=s.drawn) (ch:=ch) (λ b hb=>?_) (λ b o _ _ hc e _=>k b o hc e) (λ b o _ _ hc e _=>⟨o.slots,k b o hc e⟩) (λ _ _ _ _ n=>n)
  (λ b o hc e=>⟨o,k b o hc e⟩) (λ _ _ e=>e) (λ _ _ _ e=>e) (λ b ps e=>⟨#[],by rw[e];simp⟩) (λ m hm=>?_) (λ b u e=>?_) I.bare
 ·refine fh (λ _ f1 _ f3 f4 f5=>?_) (hf b hb);exact iE f3 f1 f4 f5
 ·revert hm;refine bT λ o es ep ho r=>?_
  exact iD o es ep (k _ o hL ho) r
 ·refine (I.hok b u e).stay (λ c v hc q=>k c v ?_ q) (λ _ q=>q) (λ _ _ q=>q) λ _ _ _ q=>q;rcases hc with z|z
  ·rw[z];exact Mn b u e
  ·exact Mn c _ z
end
section
variable{X:Cx}{ct:Ct}{a b e:Expr}{f g h:Sg->Res D}{pos:Pos}
end
section
variable{X:Cx}{c:Cf}{r ix e:Expr}{i:Nat}{g:Sg->Res (List Nat)}{f fk:Sg->Res D}{pos:Pos}{Γ:Sg}{σ:St}{H:Hp}
end
end L4
end
section
namespace L4
open PySem PySem.W PyProof.Rows
structure Ord(lt:Nat->Nat->Bool)(n:Nat):Prop where
 tot:∀i j,i<n->j<n->i≠j->lt i j=!lt j i
 tr:∀i j k,i<n->j<n->k<n->lt i j=true->lt j k=true->lt i k=true
structure Pm(n:Nat)(p:Array Nat):Prop where
 size:p.size=n
 low:∀k,k<n->p.getD k 0<n
 inj:∀i j,i<n->j<n->p.getD i 0=p.getD j 0->i=j
section
variable{lt:Nat->Nat->Bool}{n:Nat}
end
end L4
end
section
namespace L4
open PySem PySem.Calls PyProof.Rows PySem.W PyProof.V PySem.Spec
noncomputable def Ent(h:Heap)(d:Addr)(es:Array DictEntry)(ep:Nat):Prop:=∃o,h.get? d=some o/\o.data= .dict es ep
abbrev ZN(x y:Value)(d:Addr)(i n ep:Nat)(p q:Value):Obj:={cls:= .type "dict_itemiterator",dict:=none,data:= .fields #[x,y,.ref d,.int i 0,.int n 0,.int ep 0,p,q],slots:= #[]}
noncomputable abbrev prO(a b:Value):Obj:={cls:= .type "tuple",data:= .seq #[a,b]}
section
variable{prog:Program}{w:World}{A:Around}{E:Value->Shared->Prop}{s:Shared}
structure Told(h:Heap)(es:Array DictEntry)(lo:Addr)(as:List Addr):Prop where
 above:∀a∈as,lo<a/\a<h.objs.size
 nd:as.Pairwise (· < ·)
 pair:∀(j:Nat) (a:Addr),as[j]? =some a->∃e:DictEntry,es[j]? =some e/\h.get? a=some (prO e.key e.val)
noncomputable abbrev Q9(d:Addr):Obj:={cls:= .type "dict_items",data:= .fields #[.ref d]}
def AX{v d:Addr}{Q:Value->Shared->Prop}(hv:s.heap.get? v=some (Q9 d))(hd:Ent s.heap d es ep)(hQ:Q (.ref s.heap.objs.size) {s with heap:=s.heap.push (ZN .none (.bool false) d 0 es.size ep .none .none)}):wpAny (model prog w) A (pyIter (.ref v)) Q E s:=by
 revert hd;refine ah λ od ho ZS=>?_
 have ty:s.TypeIs (.ref v) "dict_items":=af _ hv rfl;refine wpAny_pyIter_slot ty PySem.F.slot_dict_items_iter (wpAny_call_entry PySem.F.slot_dict_items_iter ty PySem.F.entry_dict_items_iter ?_ (PySem.F.args_dict_items_iter_1 _));unfold Builtin.«dict_items.__iter__»;refine wpAny_bind (wpAny_pure (wpAny_bind ?_));unfold Builtin.Dict_items.dictOf;refine wpAny_bind (wpAny_field hv rfl (x:= .ref d) rfl (wpAny_pure (wpAny_bind ?_)));unfold Builtin.Dict_items.newIterator;refine wpAny_bind (wpAny_dictEntries ho ZS (wpAny_bind (wpAny_dictEpoch ho ZS ?_)));have own:Builtin.Dict_items.ownsTuple "dict_itemiterator"=true:=by decide
 simp only[own,if_true];refine wpAny_newObj_type (wpAny_pure (af _ rfl (ay ("dict_itemiterator") _ (af _ (Heap.get?_push_size _ rfl) rfl) PySem.F.slot_dict_itemiterator_next.lookup ?_))) (by simp only[sizeOk,Builtin.Dict_items.ownedTupleFields,List.size_toArray,List.length_append,List.length_cons,List.length_nil,sizeLine_eq];omega);simpa[rawInt,ZN,Builtin.Dict_items.ownedTupleFields] using hQ
end
end L4
end
section
namespace LM
open PySem PySem.W PyProof.Rows
end LM
end
section
namespace LM
open PySem PySem.W PyProof.Rows L4
structure Mg(R:Nat->Nat->Prop)(o X Y T:List Nat):Prop where
 perm:(o++(X++Y)).Perm T
 uo:o.Pairwise R
 lo:∀x∈o,∀y∈X++Y,R x y
 ux:X.Pairwise R
 uy:Y.Pairwise R
namespace Mg
variable{R:Nat->Nat->Prop}{o X X1 X2 Y T:List Nat}{x y:Nat}
end Mg
section
variable{prog:Program}{w:World}{A:Around}{E:Value->Shared->Prop}{s:Shared}{κ:SortKind}{it:Array Keyed}{lt:Nat->Nat->Bool}{n:Nat}
noncomputable def kar(it:Array Keyed)(l:List Nat):Array Keyed:=(l.map (kas_item it)).toArray
structure Cut(lt:Nat->Nat->Bool)(it:Array Keyed)(n:Nat)(arr:Array Keyed)(base N k B:Nat):Prop where
 g:∀i,i<N->∃x,arr[base+i]? =some (kas_item it x)/\x<n/\x≠k/\lt x k=decide (i<B)
 le:B<=N
 kn:k<n
noncomputable abbrev Rl(lt:Nat->Nat->Bool)(a b:Nat):Prop:=lt a b=true
structure Two(lt:Nat->Nat->Bool)(n:Nat)(la lb:List Nat):Prop where
 hn:∀x∈la++lb,x<n
 nd:(la++lb).Nodup
 ua:la.Pairwise (Rl lt)
 ub:lb.Pairwise (Rl lt)
def Good(lt:Nat->Nat->Bool)(it:Array Keyed)(la lb:List Nat)(r:Array Keyed):Prop:=∃l,r=kar it l/\l.Perm (la++lb)/\l.Pairwise (Rl lt)
section
variable{la lb:List Nat}
structure LI(lt:Nat->Nat->Bool)(la lb o:List Nat)(ia ib:Nat):Prop where
 m:Mg (Rl lt) o (la.drop ia) (lb.drop ib) (la++lb)
 ha:ia+1<la.length
 hb:ib<lb.length
end
end
section
variable{prog:Program}{w:World}{A:Around}{E:Value->Shared->Prop}{s:Shared}{κ:SortKind}{it:Array Keyed}{lt:Nat->Nat->Bool}{n:Nat}
noncomputable abbrev Rg(lt:Nat->Nat->Bool)(a b:Nat):Prop:=lt b a=true
noncomputable abbrev tr(l:List Nat)(k:Nat):List Nat:=(l.take k).reverse
section
variable{la lb:List Nat}
structure HI(lt:Nat->Nat->Bool)(la lb o:List Nat)(na nb:Nat):Prop where
 m:Mg (Rg lt) o (tr la na) (tr lb nb) (la++lb)
 a1:1<=na
 a2:na<=la.length
 b1:2<=nb
 b2:nb<=lb.length
end
end
section
variable{prog:Program}{w:World}{A:Around}{E:Value->Shared->Prop}{s:Shared}{κ:SortKind}{it:Array Keyed}{lt:Nat->Nat->Bool}{n:Nat}
structure Nd(n:Nat)(l:List Nat):Prop where
 hn:∀x∈l,x<n
 nd:l.Nodup
def PR(lt:Nat->Nat->Bool):List (Nat×Nat×Nat)->Nat->List (List Nat)->Prop
 |[],_,[]=>True
 |(a,k,_)::t,b,r::rs=>a=b/\k=r.length/\0<r.length/\r.Pairwise (Rl lt)/\PR lt t (b+r.length) rs
 |_,_,_=>False
structure RI(lt:Nat->Nat->Bool)(it:Array Keyed)(κ:SortKind)(n:Nat)(rs:List (List Nat))(rest:List Nat)(pe:Array (Nat×Nat×Nat)):Prop where
 pr:PR lt pe.toList 0 rs
 pm:(rs.flatten++rest).Perm (List.range n)
end
end LM
end
section
namespace L4
open PySem PySem.Spec PyProof.Rows L2 PySem.W LM
section
variable{prog:Program}{w:World}{A:Around}{E:Value->Shared->Prop}{s:Shared}
end
end L4
end
section
namespace L4
open PySem PySem.Spec PyProof.Rows L2 PySem.W
section
variable{prog:Program}{w:World}{A:Around}{E:Value->Shared->Prop}{s:Shared}{Q:Bool->Shared->Prop}
end
section
variable{X:Cx}{ct:Ct}{e:Expr}{es:List Expr}{f:Sg->Res D}{fa:Sg->Res (List D)}{p pos:Pos}
end
def LH(v a:Addr):Heap->Prop:=λ h=>h.get? v=some (Q9 a)
def HG{v a:Addr}(e:h.get? v=some (Q9 a)):bS P w H h v (.ext (LH v a)):=aV e ⟨_,e⟩ (λ h1 h2 e1 k=>k _ e1)
def Nn(td:TE):TE:=λ σ H Q=>td σ H λ x H1=>∃a,x= .ref a/\IsD H1 a/\∀v,H1 v=none->Q (.ref v) (upd H1 v (.ext (LH v a)))
section
variable{X:Cx}{ct:Ct}{o:Expr}{td:TE}{f:Sg->Res D}{ap cp p pos:Pos}
def Gr(ho:PE X o td)(h1:attributeBase o "items" X.env (eval o X.env)=eval o X.env:=by rfl)(h3:(ap.endLine==cp.line)=true:=by rfl):PE X (.Call (.Attribute o "items" ap) [] [] cp) (Nn td):=by intro pins s σ H Q I h;refine wpAny_Call_method h1 rfl h3 PySem.F.plainAttrs_dict PySem.F.slot_dict_items PySem.F.type_dict_items (dm (ho pins s σ H _ I h) ?_);refine λ u s1=>aq λ x H1 I1 rx=>aH λ a ex d q1=>?_;subst ex;obtain rfl:u=Value.ref a:=rx;refine bg (λ t1 t2 hy=>?_) (O6 I1 d);refine aV t1 t2 ?_;show wpAny _ _ (callWith cp (.builtin "dict.items") [.ref a] [] []) _ _ s1;refine Calls.callWith_builtin rfl (PyProof.Rows.evalArgs_none ?_);refine wpAny_call_entry PySem.F.slot_dict_items t1 PySem.F.entry_dict_items ?_ (PySem.F.args_dict_items_1 _);unfold Builtin.«dict.items»;refine wpAny_bind ?_;unfold Builtin.Dict.noArgs;refine wpAny_bind (wpAny_notOrdered_dict t1 ?_);show wpAny _ _ (pure a) _ _ s1;refine wpAny_pure ?_;show wpAny _ _ (Builtin.Dict.showsAll a>>=_) _ _ s1;unfold Builtin.Dict.showsAll;rw[if_neg (by rw[hy];exact Bool.false_ne_true)];refine wpAny_bind (wpAny_pure (wpAny_bind (wpAny_newObj_type (wpAny_pure (af _ rfl ?_)))));have e:(s1.heap.push (Q9 a)).get? s1.heap.objs.size=some (Q9 a):=Heap.get?_push_size _ rfl;exact ay (.ref s1.heap.objs.size) _ (I1.laid (t':=s1.toks) (λ _ _ z=>Heap.get?_push_of_some _ z) (Nat.le_refl _) (HG e)) rfl (q1 _ (I1.hok.fresh (Nat.le_refl _)))
end
section
variable{X:Cx}{c:Cf}{e:Expr}{fm:Sg->Res M}{pos:Pos}
end
end L4
end
section
namespace L4
open PySem PySem.Spec PyProof.Rows L2
section
variable{X:Cx}{pins:List (Addr×Obj)}{σ:St}{H:Hp}{s:Shared}
def uC{t':Nat}{h':Heap}{ch:List Addr}{T:Addr}{o:HO}(I:Inv X pins σ H s)(k:∀b o,b∉ch->s.heap.get? b=some o->h'.get? b=some o)(hf:∀b∈ch,f9 X pins H b)(hT:s.heap.objs.size<=T) (new:bS X.prog X.w (upd H T o) h' T o):Inv X pins σ (upd H T o) {s with heap:=h',toks:=t'}:=by
 have Mn:∀b u,H b=some u->b∉ch:=λ b u e z=>by rw[(hf b z).1] at e;cases e
 have hL:X.env.locals∉ch:=λ z=>(hf _ z).2.1 rfl;have hTn:H T=none:=I.hok.fresh hT;have ne:∀b u,s.heap.get? b=some u->b≠T:=λ b u e=>Nat.ne_of_lt (Nat.lt_of_lt_of_le (Heap.lt_size e) hT);have Rq:∀b u,H b=some u->b≠T:=λ b u e z=>by rw[z,hTn] at e;cases e
 refine I.step (g':=s.gens) (d':=s.drawn) (ch:=ch) (λ b hb=>?_) (λ b o _ _ hc e _=>k b o hc e) (λ b o _ _ hc e _=>⟨o.slots,k b o hc e⟩) (λ b o _ e n=>by rw[aE (ne b o e)];exact n)
  (λ b o hc e=>⟨o,k b o hc e⟩) (λ b xs e=>by rw[aE (Rq b _ e)];exact e) (λ b o u e=>by rw[aE (Rq b _ e)];exact e) (λ b ps e=>⟨#[],by rw[aE (Rq b _ e),e];simp⟩) (λ m hm=>?_) (λ b u e=>?_) I.bare
 ·refine fh (λ _ f1 _ f3 f4 f5=>?_) (hf b hb);exact iE f3 f1 f4 f5
 ·revert hm;refine bT λ o es ep ho r=>?_
  exact iD o es ep (k _ o hL ho) r
 ·by_cases hb:b=T
  ·subst hb;rw[aJ] at e;cases e;exact new
  ·rw[aE hb] at e;refine (I.hok b u e).stay (λ c v hc q=>k c v ?_ q) (λ c q=>by rw[aE (Rq c _ q)];exact q) (λ c u q=>by rw[aE (Rq c _ q)];exact q) λ c ob y q=>by rw[aE (Rq c _ q)];exact q
   rcases hc with z|z
   ·rw[z];exact Mn b u e
   ·exact Mn c _ z
end
def Jy(h:a≠b):Value.type a≠Value.type b:=λ z=>h (Value.type.inj z)
end L4
end
section
namespace L4
open PySem
noncomputable def eT:Nat->List D->List D
 |_,[]=>[]
 |k,x::t=> .tup [.int k,x]::eT (k+1) t
noncomputable def fX:D->Res (List D)
 | .lst xs=> .ok xs
 | .bor _ xs=> .ok xs
 | .tup xs=> .ok xs
 | .gt xs=> .ok xs
 |_=> .bad
def gg(f:Sg->Res D):Sg->Res (List D):=λ Γ=>(f Γ).bnd fX
@[simp] theorem Rw:gg f Γ=(f Γ).bnd fX:=(rfl)
@[simp] theorem SH(xs:List D):fX (.lst xs)= .ok xs:=(rfl)
noncomputable def d3:D->Option (List Int)
 | .tup [.int a,.int b,.int c]=>some [a,b,c]
 |_=>none
end L4
end
section
namespace L4
open PySem PySem.Spec PyProof.Rows L2 PySem.W
section
variable{X:Cx}{ct:Ct}{e:Expr}{es:List Expr}{f:Sg->Res D}{fa:Sg->Res (List D)}{p pos:Pos}
end
end L4
end
section
namespace L4
open PySem PySem.Spec PyProof.Rows L2
section
variable{X:Cx}{c:Cf}{st:Stmt}{sts:List Stmt}
end
def hU1(h:a+64<b):a+1<b:=by omega
def CQ(X:Cx)(scope:Scope)(c:Nat)(y:Str):Prop:=X.N[c]? =some y/\IP X.env.scope y/\X.env.kindOf y≠some .local/\(y,NameKind.free)∈scope.names
def ny{y:Str}(h1:X.N[c]? =some y)(h2:IP X.env.scope y:=by first|exact Or.inl rfl|exact Or.inr (Or.inl rfl)|exact Or.inr (Or.inr rfl))(h3:X.env.kindOf y≠some .local:=by exact λ h=>nomatch h)(h4:(y,NameKind.free)∈scope.names:=by decide+kernel):CQ X scope c y:=iE h1 h2 h3 h4
def rN{X:Cx}{scope:Scope}{k:Nat}{caps:List Nat}{N':List Str}(h:∀p∈caps.zip (N'.drop k),CQ X scope p.1 p.2)(i c:Nat)(y:Str)(h1:caps[i]? =some c)(h2:N'[k+i]? =some y):X.N[c]? =some y/\IP X.env.scope y/\X.env.kindOf y≠some .local/\(y,NameKind.free)∈scope.names:=h (c,y) (List.mem_of_getElem? (i:=i) (List.getElem?_zip_eq_some.mpr ⟨h1,by rw[List.getElem?_drop];exact h2⟩))
section
variable{X:Cx}{ct:Ct}{a b:Expr}{f g:Sg->Res D}{pos:Pos}
end
section
variable{X:Cx}{c:Cf}{r ix e:Expr}{i:Nat}{g:Sg->Res (List Nat)}{f:Sg->Res (List D)}{pos:Pos}{Γ:Sg}{σ:St}{H:Hp}
end
section
variable{X:Cx}{ct:Ct}{tg:Expr}{elts:List Expr}{cx:Nat}{tp:Pos}
theorem tZ:∀(k:Nat) (xs:List D),(eT k xs).length=xs.length
 |_,[]=>rfl
 |k,x::xs=>by simp[eT,tZ (k+1) xs]
theorem t9:∀(k:Nat) (xs:List D) (i:Nat),(eT k xs)[i]? =(xs[i]?).map λ x=> .tup [.int ((k+i:Nat):Int),x]
 |_,[],i=>by simp[eT]
 |k,x::xs,0=>by simp[eT]
 |k,x::xs,i+1=>by simp only[eT,List.getElem?_cons_succ];rw[t9 (k+1) xs i,show k+1+i=k+(i+1) by omega]
end
section
variable{X:Cx}{ct:Ct}{tg:Expr}
def K3:fastTable "dict_itemiterator.__iter__"=none:=by kernel_rfl
def O9:"dict_itemiterator.__iter__".cutAt '#'=["dict_itemiterator.__iter__"]:=by kernel_rfl
def O8:fastTable "dict_keyiterator.__iter__"=some Builtin.«dict_keyiterator.__iter__»:=by kernel_rfl
def ku:entryFor table "dict_itemiterator.__iter__"=some Builtin.«dict_keyiterator.__iter__»:=entryFor_alias K3 O9 (by decide+kernel) O8
def sI{s:Shared}{Q:Value->Shared->Prop}(h:s.heap.get? it=some o)(hc:o.cls= .type "dict_itemiterator")(q:Q (.ref it) s):wpAny (model prog w) A (pyIter (.ref it)) Q E s:=by have ty:s.TypeIs (.ref it) "dict_itemiterator":=af o h hc;refine wpAny_pyIter_slot ty PySem.F.slot_dict_itemiterator_iter (wpAny_call_entry PySem.F.slot_dict_itemiterator_iter ty ku ?_ (PySem.F.args_dict_itemiterator_iter_1 _));unfold Builtin.«dict_keyiterator.__iter__»;exact wpAny_pure (af _ rfl (ay ("dict_itemiterator") _ ty PySem.F.slot_dict_itemiterator_next.lookup q))
end
noncomputable def KJ(K:W.Frag)(cv:Value)(n:String)(l:List (Value×List String)):Bool:=l.all λ p=>W.kitOne K p.1 cv==some (p.2.contains n)
noncomputable def kN:List (Value×List String):=[(.type "NoneType",["NoneType"]),(.type "bool",["bool","int"]),(.type "int",["int"]),(.type "str",["str"]),(.type "tuple",["tuple"]),(.type "list",["list"]),(.type "dict",["dict"])]
def isAll(K:W.Frag)(mt:List (String×List String))(E:List (String×Addr))(T:rY)(IS:List (Value×String)):Bool:=IS.all λ x=>KJ K x.1 x.2 kN&&KJ K x.1 x.2 (E.map λ e=>(.ref e.2,(mt.lookup e.1).getD []))&&KJ K x.1 x.2 (T.map λ e=>(.ref e.2.1,(mt.lookup e.1).getD []))
def gr{K:W.Frag}{cv:Value}{n:String}{l:List (Value×List String)}(h:KJ K cv n l=true){p:Value×List String}(hp:p∈l):W.kitOne K p.1 cv=some (p.2.contains n):=eq_of_beq (List.all_eq_true.mp h p hp)
def Yd{K:W.Frag}{mt:List (String×List String)}{E:List (String×Addr)}{T:rY}{IS:List (Value×String)}{cv:Value}{n:String}(h:isAll K mt E T IS=true)(hm:(cv,n)∈IS):LJ K (Ln E T) mt cv n:=by
 have h1:=List.all_eq_true.mp h _ hm;simp only[Bool.and_eq_true] at h1;obtain ⟨⟨h1,h2⟩,h3⟩:=h1;refine ⟨gr h1 (.head _),gr h1 (.tail _ (.head _)),gr h1 (.tail _ (.tail _ (.head _))),gr h1 (.tail _ (.tail _ (.tail _ (.head _)))),gr h1 (.tail _ (.tail _ (.tail _ (.tail _ (.head _))))),gr h1 (.tail _ (.tail _ (.tail _ (.tail _ (.tail _ (.head _)))))),gr h1 (.tail _ (.tail _ (.tail _ (.tail _ (.tail _ (.tail _ (.head _))))))),λ c C ks hc hk=>?_,λ c C ns ks hc hk=>?_⟩
 ·have:=gr h2 (List.mem_map.mpr (af _ (nN hc) rfl));simp only[hk,Option.getD_some] at this;exact this
 ·have:=gr h3 (List.mem_map.mpr (af _ (nN hc) rfl));simp only[hk,Option.getD_some] at this;exact this
section
variable{P:Program}{w:World}{K:W.Frag}{mg:Str->Option Value}{cb:Cb}{base:Heap}
def sf{x qual:Str}{st:Stmt}{f:Addr}{fd:FuncData}{N ps:List Str}{k:Nat}{F:List Slot->dN}(B:Nat->Sg->Out)(Jh:E0 K x qual st f fd)(hF:∀as,as.length=ps.length->F as≠.bad->∃n,jx (B n (cT N as))=F as)(hbody:∀(c:Cf) (cdv:Value) (A:Around) (outer:List Env) (s:Shared) (H:Hp) (E:XK),c.cb=cb->dH k (A.deeper (envOfC qual (aU st) s.heap.objs.size f cdv))->Good (jc (Bw P w) P w K mg base N qual (aU st) f cdv A outer s H E)->∀n,oF (jc (Bw P w) P w K mg base N qual (aU st) f cdv A outer s H E) c (c9 st) (B n)) (S:ji N ps (aU st):=by exact ⟨rfl,rfl,rfl,by decide+kernel,rfl,by decide+kernel,by decide+kernel⟩):jj P w K mg base cb (k+1) f fd ps F:=Jq Jh S hbody hF
end
section
variable{X:Cx}{ct:Ct}{tg iter e:Expr}{f:Sg->Res D}{pos:Pos}
def cV(he:WD X ct iter f):IM X ct tg iter (gg f):=by
 have he:=he.out;refine ⟨?_⟩;refine λ pins s σ H R I=>ah λ Γ j h=>?_;cases q:f Γ with
 |bad=>simp only[gg,q,Res.vK] at h;exact h.elim
 |err c=>simp only[gg,q,Res.vJ] at h;exact uV he pins s σ H R I (af Γ j (by rw[q];exact h))
 |ok d=>
  simp only[gg,q,Res.iF] at h;cases d with
  |lst xs=>
   replace h:∀J H',aB H H'->xP X.K ct J xs H'->R J H':=h;refine uV he pins s σ H R I (af Γ j ?_);rw[q];intro v H' sm tl;simp only[Tl] at tl
   revert tl;refine aq λ a vs z fz tl=>?_;subst z
   exact aY a rfl ⟨vs,fz.sq⟩ (h _ H' sm (HE fz tl))
  |bor tm xs=>replace h:∀J H',aB H H'->xP X.K ct J xs H'->R J H':=h;refine uV he pins s σ H R I (af Γ j ?_);rw[q];intro v H' sm tl;have j':=j.mono sm;refine aH (λ a z sq it=>?_) (KR j'.lL j'.lB tl);subst z;exact aY a rfl sq (h _ H' sm it)
  |tup xs=>
   replace h:∀J H',aB H H'->xP X.K ct J xs H'->R J H':=h;refine Gk he pins s σ H R I (af Γ j ?_);rw[q];intro v H' sm tl;simp only[Tl] at tl
   revert tl;refine aq λ a vs z fz tl=>?_;subst z
   exact aY a rfl ⟨vs,kE fz⟩ (h _ H' sm (Cv (kE fz) tl))
  |gt xs=>
   replace h:∀J H',aB H H'->xP X.K ct J xs H'->R J H':=h;refine Gk he pins s σ H R I (af Γ j ?_);rw[q];intro v H' sm tl;simp only[Tl] at tl
   revert tl;refine aq λ a vs z fz tl=>?_;subst z
   exact aY a rfl ⟨vs,fz.sq⟩ (h _ H' sm (Cv fz.sq tl))
  |_=>exact h.elim
end
section
variable{X:Cx}{ct:Ct}{a b:Expr}{f g:Sg->Res D}
end
end L4
end
section
namespace L4
open PySem
def ZK(ks:List zP)(k:zP):Option Nat:=ks.findIdx? λ n=>decide (n=k)
def Lj(ks:List zP)(ms:List M)(k:zP):M:=match ZK ks k with
 |some _=> .q (.s ks) ms
 |none=> .q (.s (ks++[k])) (ms++[.l []])
def UN(ks:List zP)(k:zP):Nat:=(ZK ks k).getD ks.length
def VI(i:Nat)(fk f:Sg->Res D):Sg->Out:=λ Γ=>match Γ[i]? with
 |some (.own (.q (.s ks) ms))=>oE (fk Γ) Γ λ z=>match AW z with
  |some k=>if ks.length<1000000/\ks.length=ms.length/\vm (jL i [UN ks k] (Γ.set i (.own (Lj ks ms k))))=true then oE (f (Γ.set i (.own (Lj ks ms k)))) (Γ.set i (.own (Lj ks ms k))) λ d=>IZ (oQ i [UN ks k] (rR d) (Γ.set i (.own (Lj ks ms k)))) else .bad
  |none=> .bad
 |_=> .bad
def kD:zP->D
 | .inl i=> .int i
 | .inr x=> .str x
def rj:D->Res (List D)
 | .lJ (.s ks) xs=>if ks.length=xs.length then .ok ((ks.zip xs).map λ p=> .tup [kD p.1,p.2]) else .bad
 |_=> .bad
def AY(f:Sg->Res D):Sg->Res (List D):=λ Γ=>(f Γ).bnd rj
@[simp] theorem Pc:AY f Γ=(f Γ).bnd rj:=(rfl)
end L4
end
section
namespace L4
open PySem PySem.Spec PyProof.Rows L2
section
variable{X:Cx}{pins:List (Addr×Obj)}{σ:St}{H:Hp}{s:Shared}{a:Addr}{kvs:List (Key×V)}{A:Around}{E:Value->Shared->Prop}{k:Key}{u r:Value}{z:V}
end
section
variable{X:Cx}{o e f:Expr}{apos cpos:Pos}{td ty tx:TE}
end
section
variable{X:Cx}{c:Cf}{i:Nat}{x:Str}{ke le e:Expr}{fk f:Sg->Res D}{pos xp ap cp ap2 cp2:Pos}
end
def Uo(h:o9 k u=true):L2.RelV (kV k) u:=by
 rcases bH h with ⟨i,t,rfl,rfl⟩|⟨x,t,rfl,rfl⟩
 ·exact ⟨t,rfl⟩
 ·exact ⟨t,rfl⟩
def Iti(d:Addr)(ob:Obj)(kvs:List (Key×V)):It:=⟨λ i H=>(∃u,H d=some (.jP ob u))/\i<kvs.length,λ i H x H'=>∃p k v,H p=none/\kvs[i]? =some (k,v)/\x= .ref p/\H'=upd H p (.tup [kV k,v]),λ i H=>(∃u,H d=some (.jP ob u))/\kvs.length<=i⟩
def KV.get{kvs:List (Key×V)}{vs:List (Key×Value)}(r:KV kvs vs){i:Nat}{k:Key}{v:V}(h:kvs[i]? =some (k,v)):∃w,vs[i]? =some (k,w)/\L2.RelV v w:=by
 induction r generalizing i with
 |nil=>simp at h
 |cons e r ih=>
  cases i with
  |zero=>simp only[List.getElem?_cons_zero,Option.some.injEq] at h ⊢;subst h;exact af _ (Prod.ext e.1.symm rfl) e.2
  |succ i=>simp only[List.getElem?_cons_succ] at h ⊢;exact ih h
def Ad{P:Program}{w:World}{K:W.Frag}{elts:List Expr}{c:Nat}{pos:Pos}(it d:Addr)(ob:Obj)(ep:Nat){kvs:List (Key×V)}{vs:List (Key×Value)}(rel:KV kvs vs)
  (at':∀h:Heap,h.get? d=some ob->Heap.DictAt (cJ P w) h d vs ep) (ne:d≠it):
  Turn P w K (.Tuple elts c pos) (Iti d ob kvs) [it] it (λ i h=>(∃ok ov,IsItemIter h it d i vs.length ep ok ov)/\i<=kvs.length) where
 mem:=by simp
 obj:=λ i h st b hb=>by
  have e:b=it:=by simpa using hb
  subst e
  obtain ⟨⟨ok,ov,h1⟩,_⟩:=st
  exact af _ h1 (λ v z=>by cases z)
 keep:=λ i h h' st k=>by
  obtain ⟨⟨ok,ov,h1⟩,h2⟩:=st
  exact ⟨lq ok ov (k it (by simp) _ h1),h2⟩
 item:=by
  intro X hP hw hK hc i pins s σ H E I hf st hg
  subst hP hw hK
  obtain ⟨⟨ok,ov,h1⟩,h2⟩:=st
  obtain ⟨⟨u,hu⟩,hi⟩:=hg
  have da:=at' s.heap (I.hok d _ hu).1
  obtain ⟨k,v,hkv⟩:∃k v,kvs[i]? =some (k,v):=lq (kvs[i].1) (kvs[i].2) (List.getElem?_eq_getElem hi)
  refine ah (λ w' hw' rw'=>?_) (KV.get rel hkv)
  have hfp:=hf it (by simp)
  refine wpAny_pyNext_items_item h1 da hw' λ key h' hk ho hT hsz kk=>af _ rfl (wpAny_letOwnedTupleGo_items ho λ EH Yt sb=>?_)
  have ZU:s.heap.objs.size≠it:=Nat.ne_of_gt (Heap.lt_size h1)
  have hT2:EH.get? s.heap.objs.size=some {cls:= .type "tuple",data:= .seq #[key,w']}:=(sb.2 _ ZU).trans hT
  have I2:Inv X pins σ (upd H s.heap.objs.size (.tup [kV k,v])) {s with heap:=EH}:=by
   refine uC (t':=s.toks) (ch:=[it]) I (λ b o hb q=>?_) (λ b hb=>hf b hb) (Nat.le_refl _) (⟨by simp[sizeLine_eq],af [key,w'] (.cons (Uo hk) (.cons rw' .nil)) (aY _ hT2 rfl ⟨0,rfl⟩)⟩)
   have hb':b≠it:=by simpa using hb
   exact (sb.2 b hb').trans (kk b o hb' q)
  refine bN (.ref s.heap.objs.size) _ I2 rfl (iC _ k v (I.hok.fresh (Nat.le_refl _)) hkv rfl rfl) ⟨lq _ _ Yt,hi⟩ (λ b hb=>?_)
  have e:b=it:=by simpa using hb
  subst e
  rw[aE (Ne.symm ZU)]
  exact hfp.1
 done:=by
  intro X hP hw hK hc i pins s σ H E I hf st hg
  subst hP hw hK
  obtain ⟨⟨ok,ov,h1⟩,h2⟩:=st
  obtain ⟨⟨u,hu⟩,hi⟩:=hg
  have da:=at' s.heap (I.hok d _ hu).1
  refine fh (λ f0 f1 f2 f3 f4 f5=>?_) (hf it (by simp))
  refine wpAny_pyNext_items_end (I.ok.hd hc) h1 da (by rw[List.getElem?_eq_none];rw[<-rel.length];exact hi) λ h' eb=>⟨rfl,I.turned (t':=s.toks) (λ b o hb e=>eb b o hb e) f0 f1 f3 f4 f5⟩
 self:=λ _ _ _ _ _ st h=>by
  obtain ⟨⟨ok,ov,h1⟩,_⟩:=st
  exact sI h1 rfl h
theorem RW{K:W.Frag}{ct:Ct}{H:Hp}:∀{ks:List Key} {xs:List D} {vs:List V} {i:Nat} {d:D},aN K ct H xs vs->ks.length=vs.length->((ks.zip xs).map λ p=>D.tup [kD p.1,p.2])[i]? =some d->∃k v x,(ks.zip vs)[i]? =some (k,v)/\d= .tup [kD k,x]/\Tl K ct H x v
 |[],xs,vs,i,d,t,hl,h=>by simp at h
 |k::ks,[],vs,i,d,t,hl,h=>by simp at h
 |k::ks,x::xs,vs,i,d,t,hl,h=>by
  simp only[aN] at t
  revert t;refine aq λ v r z t1 t2=>?_;subst z
  cases i with
  |zero=>simp only[List.zip_cons_cons,List.map_cons,List.getElem?_cons_zero,Option.some.injEq] at h;exact nU k v x rfl h.symm t1
  |succ i=>simp only[List.zip_cons_cons,List.map_cons,List.getElem?_cons_succ] at h;refine eZ (λ k' v' x' e1 e2 e3=>?_) (RW t2 (by simpa using hl) h);exact nU k' v' x' (by simpa using e1) e2 e3
def Uj{K:W.Frag}{ct:Ct}{H:Hp}(k:Key):Tl K ct H (kD k) (kV k):=by cases k<;>simp[kD,kV,Tl]
section
variable{X:Cx}{ct:Ct}{elts:List Expr}{c:Nat}{tp:Pos}
def DO{ap cp:Pos}(ho:WD X ct o f)(h1:attributeBase o "items" X.env (eval o X.env)=eval o X.env:=by rfl)(h3:(ap.endLine==cp.line)=true:=by rfl):IM X ct (.Tuple elts c tp) (.Call (.Attribute o "items" ap) [] [] cp) (AY f):=by
 have ho:=ho.out;refine ⟨?_⟩;refine λ pins s σ H R I=>ah λ Γ j h=>?_;refine dm (Gr ho h1 h3 pins s σ H (λ x H2=>∃v d ob kvs,x= .ref v/\H2 v=some (.ext (LH v d))/\H2 d=some (.jP ob (.dK kvs))/\R (Iti d ob kvs) H2) I (af Γ j (h.bnd λ x _ q v H' sm tl=>?_))) ?_
 ·unfold rj at q;split at q
  ·rename_i ks xs _;split at q
   ·rename_i hlen;replace q:∀J H',aB H H'->xP X.K ct J ((ks.zip xs).map λ p=>D.tup [kD p.1,p.2]) H'->R J H':=q;simp only[Tl] at tl
    revert tl;refine aL λ a vs z1 z2 hl tl=>?_;subst z1;obtain ⟨ob,ZR⟩:=z2
    have hl':ks.length=vs.length:=hl;refine aY a rfl (.inl ⟨_,.inr ⟨_,ZR⟩⟩) (λ v hvn=>?_);have uJ:=bC hvn (.ext (LH v a));have hd2:=uJ _ _ ZR;have tl2:=tl.keep (aB.keep uJ);refine Au v a ob _ rfl aJ hd2 (q _ _ (sm.trans uJ) (bW (λ H1=>(∃u,H1 a=some (.jP ob u))/\aN X.K ct H1 xs vs) ⟨⟨_,hd2⟩,tl2⟩ (λ H1 H3 ⟨⟨u,hu⟩,t1⟩ k _ _=>⟨⟨u,k a _ hu trivial⟩,t1.keep k⟩) (λ i d H1 ⟨hu,t1⟩ z=>?_) (λ i H1 ⟨hu,t1⟩ z=>⟨hu,?_⟩)))
    ·refine eZ (λ k w y e1 z1 e3=>?_) (RW t1 hl' z);subst z1;refine ⟨⟨hu,(List.getElem?_eq_some_iff.mp e1).1⟩,λ x H3 ⟨p,k',v',hp,hkv,ex,eH⟩=>?_⟩;rw[e1] at hkv;cases hkv;subst ex eH;have Zq:=bC hp (.tup [kV k,w]);refine ⟨Zq,?_⟩;simp only[Tl];exact ay p _ rfl aJ (aN.cons (Uj k) (aN.cons (e3.keep (aB.keep Zq)) aN.nil))
    ·have:=tl.length;simp only[List.length_map,List.length_zip] at z ⊢;omega
   ·exact q.elim
  ·exact q.elim
 ·refine λ v s1=>aq λ x H2 I2 rx=>Ao λ vv d ob kvs ex hv hd q=>?_;subst ex;cases rx;obtain ⟨g1,g2⟩:=I2.hok d _ hd;refine bg (λ z0 _=>ah λ vs rel z1=>?_) (show bS X.prog X.w H2 s1.heap d (.dK kvs) from g2);obtain ⟨o',es,ep,e1,e2,e3,e4,e5,e6⟩:=z1;rw[g1] at e1;cases e1;have hvw:s1.heap.get? vv=some (Q9 d):=(I2.hok vv _ hv).1;have hsz:es.size=vs.length:=by have:=e5.length;simpa using this
  refine AX hvw (af ob g1 e3) ?_;have Yu:d≠s1.heap.objs.size:=Nat.ne_of_lt (Heap.lt_size g1);refine jF s1.heap.objs.size [s1.heap.objs.size] _ _ H2 rfl (I2.kept (t':=s1.toks) λ b o e=>Heap.get?_push_of_some _ e) (Ad _ d ob ep rel (λ h hg=>⟨ob,es,hg,e2,e3,e4,e5,e6⟩) Yu) ⟨lq .none .none ?_,Nat.zero_le _⟩ (λ b hb=>?_) q
  ·rw[<-hsz];exact Heap.get?_push_size _ rfl
  ·have e:b=s1.heap.objs.size:=by simpa using hb
   subst e;exact I2.oh (Nat.le_refl _) (I2.hok.fresh (Nat.le_refl _))
end
section
variable{X:Cx}{ct:Ct}{e:Expr}{a b:Str}{te:TE}{p1 p2 p3 pos:Pos}{k1 k3:Nat}{f:Sg->Res D}
end
section
variable{X:Cx}{c:Cf}{x:Str}{e:Expr}{es:List Expr}{i q n k:Nat}{f:Sg->Res D}{r fa:Sg->Res (List D)}{p pos:Pos}{F:List Slot->dN}{fn:Addr}{fd:FuncData}{ps:List Str}
variable{g:Sg->Res Sg}{Γ:Sg}{σ:St}{H:Hp}
end
section
variable{X:Cx}{ct:Ct}{pos:Pos}
end
end L4
end
section
namespace L4
open PySem
def p3:D->Option (List Int)
 | .tup [x,_]=>d3 x
 |_=>none
noncomputable def Xq:D->Res (List D)
 | .lst xs=> .ok xs.reverse
 | .tup xs=> .ok xs.reverse
 |_=> .bad
def NI:List D->Res (List D)
 |[d]=>Xq d
 |_=> .bad
def EF(r:Sg->Res (List D)):Sg->Res (List D):=λ Γ=>(r Γ).bnd NI
@[simp] theorem F6(xs:List D):NI [.lst xs]= .ok xs.reverse:=(rfl)
noncomputable def Kz:D->D->Res D
 | .str x,.int n=>if n=0 then .ok (.str Str.empty) else if n=1 then .ok (.str x) else .bad
 |_,_=> .bad
end L4
end
section
namespace L4
open PySem PySem.Spec PyProof.Rows L2 PySem.W
section
variable{X:Cx}{ct:Ct}{a b e:Expr}{f g:Sg->Res D}{pos:Pos}
end
section
variable{X:Cx}{ct:Ct}{e:Expr}{es:List Expr}{f:Sg->Res D}{fa:Sg->Res (List D)}{p pos:Pos}
end
end L4
end
section
namespace L4
open PySem PySem.Spec PyProof.Rows L2
section
variable{X:Cx}{ct:Ct}{elts:List Expr}{c:Nat}{tp:Pos}
end
section
variable{X:Cx}{ct:Ct}{tg:Expr}
end
section
variable{X:Cx}{ct:Ct}{a b:Expr}{f g:Sg->Res D}{pos:Pos}
end
section
variable{X:Cx}{ct:Ct}{pos:Pos}
def Jl:WM X ct (.Dict [] [] pos) (λ _=> .ok (.k (.s []) [])):=by
 refine ⟨?_⟩;refine PE.imp Gs ?_;refine λ σ H Q=>ah λ Γ j h=>?_;intro p hp;refine h (.ref p) _ (λ b=>b=p) (bC hp _) ?_ (λ b z=>z▸hp) λ b z q=>by subst z;rw[aJ] at q;cases q
 simp only[Ow];exact bN p [] rfl rfl aJ rfl aN.nil
end
end L4
end
section
namespace L4
open PySem PySem.Spec PyProof.Rows L2 PySem.W
section
variable{X:Cx}{ct:Ct}{e:Expr}{es:List Expr}{fa:Sg->Res (List D)}{p pos:Pos}
end
section
variable{prog:Program}{w:World}{A:Around}{E:Value->Shared->Prop}{s:Shared}
end
section
variable{X:Cx}{ct:Ct}{e:Expr}{f:Sg->Res D}{pos:Pos}
end
structure Fy(K:W.Frag)(n q:Str)(st:Stmt)(ps:List Str) where
 a:Addr
 fd:FuncData
 f:E0 K n q st a fd
 b:Binds K fd ps []
structure Fx(K:W.Frag)(mg:Str->Option Value)(n:Str)(st:Stmt)(ps:List Str) where
 y:Fy K n n st ps
 m:mg n=some (.ref y.a)
structure Gc(mg:Str->Option Value)(n:Str) where
 a:Addr
 m:mg n=some (.ref a)
structure Gu(K:W.Frag)(mg:Str->Option Value)(n:Str)(d:D) where
 u:Value
 v:mg n=some u
 g:Vt K u d
structure Gx(K:W.Frag)(n:Str)(st:Stmt)(f:Addr):Prop where
 s:W.nsIn K mainGlobals n=some (some (.ref f))
 e:∃fd,E0 K n n st f fd
structure Gy(K:W.Frag)(C:Addr)(m q:Str)(st:Stmt)(f:Addr):Prop where
 s:W.findIn K (.ref C) m=some (some (.ref f))
 e:∃fd,E0 K m q st f fd
 w:W.isFn K (.ref f)=true
def HB(n q:Str)(st:Stmt)(ps:List Str):Prop:=∀(kV doc pm:Value) (an:Option Addr) (cdv ct:Value) (us:List Value),us.length=ps.length->bindArgs (W.fnOf n q (ig st) (c9 st) (aU st) .none kV doc pm an cdv ct) ⟨us,[]⟩=pure (ps.zip us)
def mkY{K:W.Frag}{n q:Str}{st:Stmt}{ps:List Str}{f:Addr}(h:∃fd,E0 K n q st f fd)(hb:HB n q st ps):Fy K n q st ps:=⟨f,h.choose,h.choose_spec,h.choose_spec.binds hb⟩
def pY{K:W.Frag}{mg:Str->Option Value}{h:Heap}{n:Str}{st:Stmt}{ps:List Str}{f:Addr}(X:K.In h)(G:h.Ns mainGlobals mg)(g:Gx K n st f)(hb:HB n n st ps):Fx K mg n st ps:=⟨mkY g.e hb,W.mg_of X G g.s⟩
def Bm{n q:Str}{st:Stmt}{ps:List Str}(h:∀(kV doc pm:Value) (an:Option Addr) (cdv ct:Value) (u0:Value),bindArgs (W.fnOf n q (ig st) (c9 st) (aU st) .none kV doc pm an cdv ct) ⟨[u0],[]⟩=pure (ps.zip [u0]):=by intros;rfl)(hl:ps.length=1:=by rfl):HB n q st ps:=λ a b c d e f us l=>by rw[hl] at l;obtain ⟨_,rfl⟩:=Ue l;exact h a b c d e f _
def nD{n q:Str}{st:Stmt}{ps:List Str}(h:∀(kV doc pm:Value) (an:Option Addr) (cdv ct:Value) (u0 u1:Value),bindArgs (W.fnOf n q (ig st) (c9 st) (aU st) .none kV doc pm an cdv ct) ⟨[u0,u1],[]⟩=pure (ps.zip [u0,u1]):=by intros;rfl)(hl:ps.length=2:=by rfl):HB n q st ps:=λ a b c d e f us l=>by rw[hl] at l;refine Ar (λ _ _ z=>?_) (Ud l);subst z;exact h a b c d e f _ _
def Lu{n q:Str}{st:Stmt}{ps:List Str}(h:∀(kV doc pm:Value) (an:Option Addr) (cdv ct:Value) (u0 u1 u2:Value),bindArgs (W.fnOf n q (ig st) (c9 st) (aU st) .none kV doc pm an cdv ct) ⟨[u0,u1,u2],[]⟩=pure (ps.zip [u0,u1,u2]):=by intros;rfl)(hl:ps.length=3:=by rfl):HB n q st ps:=λ a b c d e f us l=>by rw[hl] at l;refine uT (λ _ _ _ z=>?_) (X6 l);subst z;exact h a b c d e f _ _ _
structure CK(K:W.Frag)(fl:List Str)(C:Addr)(i:Value):Prop where
 cl:Vv K C
 i1:W.findIn K (.ref C) "__class__"=some (some (.builtin "object.__class__"))
 i4:W.mroIn K C (.type "object")=some true
 mm:W.makesIn K C=true
 kp:W.keepIn K (.ref C)=true
 ini:W.findIn K (.ref C) "__init__"=some (some i)
 na:(fl.all λ x=>match W.findIn K (.ref C) x with
  |some none=>true
  |_=>false)=true
def vg{α:Type}{l:List α}{a:α}(i:Nat)(h:l[i]? =some a):a∈l:=List.mem_of_getElem? h
section
variable{X:Cx}{c:Cf}{e:Expr}{es:List Expr}{fa:Sg->Res (List D)}{p pos:Pos}{k k' n:Nat}{ps:List Str}{st:Stmt}{x:Str}{F:List Slot->dN}
def bx{M:Fx X.K X.mg x st ps}(G:jj X.prog X.w X.K X.mg X.base c.z.f.cb k M.y.a M.y.fd ps F)(hr:dH k' X.A)(ha:pN X c.z (e::es) fa)(hk:k<=k':=by decide)(hn:ps.length=n:=by rfl)(hg:Gl X x:=by rfl)(hdb:(x==("__debug__":Str))=false:=by decide)(he:starEach (e::es) X.env=(false,eval e X.env)::starEach es X.env:=by rfl)(hpl:(backTo pos (starEach es X.env)).any (·.1)=false:=by rfl):WD X c.z (.Call (.Name x p) (e::es) [] pos) (bu n F fa):=R9 G (hr.mono hk) M.m M.y.f.kp M.y.b ha hn hg hdb he hpl
end
end L4
end
section
namespace L4
open PySem PySem.Spec PyProof.Rows L2
def JM:typeLookup (.type "tuple") "__reversed__"=pure none:=by rw[typeLookup_type,builtinLookup_eq_fast];kernel_rfl
def JN:isSubtype (.type "tuple") (.type "dict")=pure false:=by rw[isSubtype_type];kernel_rfl
def eF:PySem.Slot "reversed" "__next__" "reversed.__next__":=.of (owner:="reversed") (n:="__next__") (by rw[typeLookup_type,builtinLookup_eq_fast];kernel_rfl) (by decide+kernel) (by decide+kernel) (by decide+kernel)
  (by first|exact .inl (by decide+kernel)|exact .inr (by decide+kernel)) (by rw[isSubtype_type];kernel_rfl)
def mJ:PySem.Slot "reversed" "__iter__" "reversed.__iter__":=.of (owner:="reversed") (n:="__iter__") (by rw[typeLookup_type,builtinLookup_eq_fast];kernel_rfl) (by decide+kernel) (by decide+kernel) (by decide+kernel)
  (by first|exact .inl (by decide+kernel)|exact .inr (by decide+kernel)) (by rw[isSubtype_type];kernel_rfl)
def uN:PySem.Slot "reversed" "__init__" "object.__init__":=.of (owner:="object") (n:="__init__") (by rw[typeLookup_type,builtinLookup_eq_fast];kernel_rfl) (by decide+kernel) (by decide+kernel) (by decide+kernel)
  (by first|exact .inl (by decide+kernel)|exact .inr (by decide+kernel)) (by rw[isSubtype_type];kernel_rfl)
def kK:entryFor table "reversed.__next__"=some Builtin.«reversed.__next__»:=entryFor_of_tree (by kernel_rfl)
def sy:entryFor table "reversed.__iter__"=some Builtin.«dict_keyiterator.__iter__»:=entryFor_alias (id':="dict_keyiterator.__iter__") (by kernel_rfl) (by first|rfl|decide+kernel|(unfold String.splitOn;simp+decide [String.splitOnAux])) (by decide+kernel) (by kernel_rfl)
def ym:Manifest.owners.lookup (String.ofList ['d','e','s','r','e','v','e','r'].reverse)=some Manifest.sig_reversed:=by kernel_rfl
def mK(a:Value):argsOk "reversed.__next__" ⟨[a],[]⟩:=by unfold argsOk;rw[signature?_of (id:="reversed.__next__") (n:=['_','_','t','x','e','n','_','_']) (o:=['d','e','s','r','e','v','e','r']) (by kernel_rfl) ym];kernel_rfl
def uO(a:Value):argsOk "reversed.__iter__" ⟨[a],[]⟩:=by unfold argsOk;rw[signature?_of (id:="reversed.__iter__") (n:=['_','_','r','e','t','i','_','_']) (o:=['d','e','s','r','e','v','e','r']) (by kernel_rfl) ym];kernel_rfl
section
variable{prog:Program}{w:World}{A:Around}{E:Value->Shared->Prop}{s:Shared}
def n6(v:Value):Sem Bool:=do
 if <-isInstance v (.type "dict") then return false
 match <-specialOf v "__getitem__" with
 |none=>return false
 |some (.builtin id)=>
  if ["tuple.__getitem__","str.__getitem__","bytes.__getitem__","bytearray.__getitem__","memoryview.__getitem__","numpy.ndarray.__getitem__","sqlite3.Row.__getitem__"].contains id then return true
  if id=="sqlite3.Blob.__getitem__" then return false
  unsupported "reversed.__new__:is-it-a-sequence"
 |some _=>return true
def vj{l:Addr}{items:Array Value}{Q:Bool->Shared->Prop}(hl:IsTup s.heap l items)(h:Q true s):wpAny (model prog w) A (n6 (.ref l)) Q E s:=by unfold n6;refine wpAny_bind (wpAny_isInstance hl.typeIs JN ?_);rw[if_neg Bool.false_ne_true];refine wpAny_bind (wpAny_specialOf hl.typeIs PySem.F.slot_tuple_getitem.lookup ?_);exact wpAny_pure h
noncomputable def SS(l:Addr)(i:Int):Obj:={cls:= .type "reversed",data:= .fields #[.ref l,rawInt i]}
def Bg:TypeCalled "reversed" "reversed.__new__" "object.__init__":=⟨by decide+kernel,by decide+kernel,lq _ _ PySem.F.mro_reversed,madeBy_type PySem.F.mro_reversed PySem.F.lookup_reversed_new (by decide+kernel),by decide+kernel,by rw[isSubtype_type];kernel_rfl,uN⟩
def AO(l:Addr)(items:Array Value):Meets (Builtin.«reversed.__new__» ⟨[.type "reversed",.ref l],[]⟩) (λ _ R s=>IsTup s.heap l items/\(items.size:Int)<2^63/\R (.ok (.ret (.ref s.heap.objs.size))) {s with heap:=s.heap.push (SS l ((items.size:Int) - 1)),toks:=s.toks+1+1}):=λ prog w A R s ⟨hl,hf,h⟩=>by
 unfold Builtin.«reversed.__new__»;refine wpAny_bind (wpAny_of_eq (newClass_reversed _) ?_);try dsimp only
 refine wpAny_bind (wpAny_of_eq (a:=()) (by first|rfl|kernel_rfl) ?_);refine wpAny_bind (wpAny_of_eq (a:=()) (by first|rfl|kernel_rfl) ?_);try dsimp only
 refine wpAny_bind (wpAny_specialOf hl.typeIs JM ?_);try dsimp only
 refine wpAny_bind (show wpAny _ _ (n6 (.ref l)) _ _ _ from vj hl ?_);rw[if_neg (by simp)];refine wpAny_bind (len_tuple hl hf ?_);try dsimp only
 refine wpAny_bind (m:=asInt? _) (wpAny_of_eq (a:=some (items.size:Int)) rfl ?_);try dsimp only
 unfold Builtin.SmallTypes.newRecord;refine wpAny_bind (wpAny_newObj_type ?_ (by size_fits));exact wpAny_pure h
def vH{l:Addr}{items:Array Value}{Q:Value->Shared->Prop}(hl:IsTup s.heap l items)(hf:(items.size:Int)<2^63) (h:Q (.ref s.heap.objs.size) {s with heap:=s.heap.push (SS l ((items.size:Int) - 1)),toks:=s.toks+1+1}):wpAny (model prog w) A (call (.type "reversed") [.ref l]) Q E s:=callType_new Bg (by decide) (PySem.F.typeCall_reversed_1 _) (PySem.F.newCall_reversed_1 _) (λ obj=>PySem.F.args_object_init_2 obj _) PySem.F.entry_reversed_new (AO l items) (iE hl hf (af _ (Heap.get?_push_size _ rfl) rfl) h)
noncomputable def zS(h:Heap)(a l:Addr)(i:Int):Prop:=∃o,h.get? a=some o/\o.cls= .type "reversed"/\o.data= .fields #[.ref l,rawInt i]
def zS.typeIs{a l:Addr}{i:Int}(x:zS s.heap a l i):s.TypeIs (.ref a) "reversed":=let ⟨o,ho,hc,_⟩:=x;(af o ho hc)
def JJ{it l:Addr}{i:Nat}{items:Array Value}{x:Value}{Q:Option Value->Shared->Prop}(hit:zS s.heap it l (i:Int))(hl:IsTup s.heap l items)(hx:items[i]? =some x)(hf:(items.size:Int)<2^63) (hQ:∀h',zS h' it l ((i:Int) - 1)->Heap.SameBut it s.heap h'->Q (some x) {s with heap:=h',toks:=s.toks+1}):wpAny (model prog w) A (pyNext (.ref it)) Q E s:=by
 refine aH (λ o ho hc hd=>?_) (id hit);have hi:i<items.size:=(Array.getElem?_eq_some_iff.mp hx).1;unfold pyNext;refine wpAny_bind (wpAny_attempt (wpAny_callSpecial?_slot (name:=Str.ofString "__next__") hit.typeIs eF
  (wpAny_call_entry eF hit.typeIs kK ?_ (mK _))))
 unfold Builtin.«reversed.__next__»;refine wpAny_bind (wpAny_of_eq (a:=(Value.ref it,[])) rfl ?_);try dsimp only
 refine wpAny_bind (wpAny_field ho hd (x:= .ref l) rfl ?_);refine wpAny_bind (wpAny_field ho hd (x:=rawInt (i:Int)) rfl ?_);show wpAny _ _ (if (i:Int)<0 then _ else _) _ _ s;rw[if_neg (by omega)];refine wpAny_bind (wpAny_specialOf hl.typeIs PySem.F.slot_tuple_getitem.lookup ?_);rw[if_neg (by simp)];refine wpAny_bind (wpAny_mkInt ?_);refine wpAny_bind (wpAny_attempt (getItem_tuple (k:=(i:Int)) hl (by omega) (by omega) (seqIndex_of (by omega) (by omega)) (by simpa using hx) ?_));try dsimp only
 refine wpAny_bind (wpAny_field ho hd (x:=rawInt (i:Int)) rfl ?_);show wpAny _ _ (setField (.ref it) 1 (rawInt ((i:Int) - 1))>>=_) _ _ _;refine wpAny_bind (wpAny_setField ho hd (by simp) ?_);refine wpAny_pure (af x rfl (wpAny_pure (hQ _ ?_ (Heap.SameBut.update ..))));exact aY _ (Heap.get?_update_self _ ho (Obj.isFreed_of_fields (Obj.data_mapFields hd _))) ((Obj.cls_mapFields ..).trans hc) (by rw[Obj.data_mapFields hd];simp)
def NG{it l:Addr}{Q:Option Value->Shared->Prop}(hh:A.handled=none)(hit:zS s.heap it l (-1)) (hQ:∀h',Heap.ExtBut it s.heap h'->Q none {s with heap:=h'}):wpAny (model prog w) A (pyNext (.ref it)) Q E s:=by
 refine aH (λ o ho hc hd=>?_) (id hit);unfold pyNext;refine wpAny_bind (wpAny_attempt (wpAny_callSpecial?_slot (name:=Str.ofString "__next__") hit.typeIs eF
  (wpAny_call_entry eF hit.typeIs kK ?_ (mK _))))
 unfold Builtin.«reversed.__next__»;refine wpAny_bind (wpAny_of_eq (a:=(Value.ref it,[])) rfl ?_);try dsimp only
 refine wpAny_bind (wpAny_field ho hd (x:= .ref l) rfl ?_);refine wpAny_bind (wpAny_field ho hd (x:=rawInt (-1)) rfl ?_);show wpAny _ _ (if (-1:Int)<0 then _ else _) _ _ s;rw[if_pos (by decide)];refine wpAny_bind (wpAny_rule ?_);refine wpAny_bind (show wpAny _ _ (setField (.ref it) 1 (rawInt (-1))>>=λ _=>setField (.ref it) 0 .none) _ _ s from wpAny_bind (wpAny_setField ho hd (by simp) ?_));refine wpAny_setField (Heap.get?_update_self _ ho (Obj.isFreed_of_fields (Obj.data_mapFields hd _))) (Obj.data_mapFields hd _) (by simp) ?_;refine wpAny_bind ?_;show wpAny _ _ (newExc (.type "StopIteration") []>>=_) _ _ _;refine wpAny_bind ?_;simp only[newExc,newTuple];refine wpAny_bind (wpAny_newObj_type ?_ (by size_fits));refine wpAny_bind (m:=firstArgMember _ _) (wpAny_of_eq (a:=Value.none) (by first|rfl|(simp only[firstArgMember];rfl)) ?_);refine wpAny_newObj_type ?_ (by size_fits);simp only[raiseNew];refine wpAny_bind (wpAny_handled ?_);first|rw[show A.in1.handled=none from hh]|rw[hh]
 refine wpAny_bind (wpAny_pure (wpAny_throw ?_));refine wpAny_bind (wpAny_isInstance (T:="StopIteration") (b:=true) (af _ (Heap.get?_push_size _ rfl) rfl) isSubtype_stop ?_);exact wpAny_pure (hQ _ (((((Heap.SameBut.update ..).trans (Heap.SameBut.update ..)).extBut).push _).push _))
def BX{it l:Addr}{i:Int}{Q:Value->Shared->Prop}(hit:zS s.heap it l i)(h:Q (.ref it) s):wpAny (model prog w) A (pyIter (.ref it)) Q E s:=by refine wpAny_pyIter_slot hit.typeIs mJ (wpAny_call_entry mJ hit.typeIs sy ?_ (uO _));show wpAny _ _ (ret (.ref it)) _ _ s;exact wpAny_pure (af _ rfl (ay ("reversed") _ hit.typeIs eF.lookup h))
end
def Vr(q:Hp->List V->Prop)(N:Nat):It:=⟨λ i H=>∃xs x,q H xs/\xs.length=N/\i<N/\xs[N- 1- i]? =some x,λ i H x H'=>H'=H/\∀xs,q H xs->xs[N- 1- i]? =some x,λ i H=>∃xs,q H xs/\xs.length=N/\N<=i⟩
def DT{P:Program}{w:World}{K:W.Frag}{tg:Expr}(a it:Addr)(N:Nat):Turn P w K tg (Vr (sR K · a) N) [it] it (λ i h=>zS h it a ((N:Int) - 1-(i:Nat))/\i<=N) where
 mem:=by simp
 obj:=λ i h st b hb=>by
  have e:b=it:=by simpa using hb
  subst e
  obtain ⟨⟨o,e,c,d⟩,_⟩:=st
  exact af o e (λ v z=>by rw[d] at z;cases z)
 keep:=λ i h h' st k=>by
  obtain ⟨⟨o,e,c,d⟩,r⟩:=st
  exact ⟨aY o (k it (by simp) o e) c d,r⟩
 item:=by
  intro X hP hw hK hc i pins s σ H E I hf st hg
  subst hP hw hK
  obtain ⟨st,hi⟩:=st
  revert hg;refine aL λ xs x hq hN hi hx=>?_
  refine aH (λ its rv p hz=>?_) (I.tuple hq)
  refine ah (λ u hu ru=>?_) (rv.get hx)
  refine fh (λ f0 f1 f2 f3 f4 f5=>?_) (hf it (by simp))
  rw[show (N:Int) - 1-(i:Nat)=((N- 1- i:Nat):Int) by omega] at st
  have hl:=rv.length
  refine JJ st p (x:=u) (by simpa using hu) (by simp[sizeLine] at hz ⊢;omega) λ h' st' sb=>?_
  rw[show ((N- 1- i:Nat):Int) - 1=(N:Int) - 1-((i+1:Nat):Int) by omega] at st'
  have I1:Inv X pins σ H {s with heap:=h',toks:=s.toks+1}:=I.turned (t':=s.toks+1) (λ b o hb e=>(sb.2 b hb).trans e) f0 f1 f3 f4 f5
  refine aH (λ o e c d=>?_) (id st')
  exact af u rfl (zg (s:={s with heap:=h',toks:=s.toks+1}) e c d (by decide) (bN x H I1 ru ⟨rfl,λ ys hy=>by rw[I.sX hy hq];exact hx⟩ ⟨st',hi⟩ (λ b hb=>(hf b hb).1)))
 done:=by
  intro X hP hw hK hc i pins s σ H E I hf st hg
  subst hP hw hK
  obtain ⟨st,hi⟩:=st
  revert hg;refine aH λ xs hq hN hx=>?_
  refine fh (λ f0 f1 f2 f3 f4 f5=>?_) (hf it (by simp))
  rw[show (N:Int) - 1-(i:Nat)= -1 by omega] at st
  exact NG (I.ok.hd hc) st λ h' eb=>⟨rfl,I.turned (t':=s.toks) (λ b o hb e=>eb b o hb e) f0 f1 f3 f4 f5⟩
 self:=λ _ _ _ _ _ st h=>BX st.1 h
def DU{P:Program}{w:World}{K:W.Frag}{tg:Expr}(a it:Addr)(N:Nat):Turn P w K tg (Vr (fZ K · a) N) [it] it (λ i h=>h.IsRevIter it a ((N:Int) - 1-(i:Nat))/\i<=N) where
 mem:=by simp
 obj:=λ i h st b hb=>by
  have e:b=it:=by simpa using hb
  subst e
  obtain ⟨⟨o,e,c,d⟩,_⟩:=st
  exact af o e (λ v z=>by rw[d] at z;cases z)
 keep:=λ i h h' st k=>⟨st.1.at λ o e=>k it (by simp) o e,st.2⟩
 item:=by
  intro X hP hw hK hc i pins s σ H E I hf st hg
  subst hP hw hK
  obtain ⟨st,hi⟩:=st
  revert hg;refine aL λ xs x hq hN hi hx=>?_
  refine aH (λ its rv p hz=>?_) (I.list hq)
  refine ah (λ u hu ru=>?_) (rv.get hx)
  refine fh (λ f0 f1 f2 f3 f4 f5=>?_) (hf it (by simp))
  rw[show (N:Int) - 1-(i:Nat)=((N- 1- i:Nat):Int) by omega] at st
  refine wpAny_pyNext_rev_item st p.isList (x:=u) (by simpa using hu) λ h' st' sb=>?_
  rw[show ((N- 1- i:Nat):Int) - 1=(N:Int) - 1-((i+1:Nat):Int) by omega] at st'
  have I1:Inv X pins σ H {s with heap:=h'}:=I.turned (t':=s.toks) (λ b o hb e=>(sb.2 b hb).trans e) f0 f1 f3 f4 f5
  refine aH (λ o e c d=>?_) (id st')
  exact af u rfl (zg (s:={s with heap:=h'}) e c d (by decide) (bN x H I1 ru ⟨rfl,λ ys hy=>by rw[I.jN hy hq];exact hx⟩ ⟨st',hi⟩ (λ b hb=>(hf b hb).1)))
 done:=by
  intro X hP hw hK hc i pins s σ H E I hf st hg
  subst hP hw hK
  obtain ⟨st,hi⟩:=st
  revert hg;refine aH λ xs hq hN hx=>?_
  refine fh (λ f0 f1 f2 f3 f4 f5=>?_) (hf it (by simp))
  rw[show (N:Int) - 1-(i:Nat)= -1 by omega] at st
  exact wpAny_pyNext_rev_end (I.ok.hd hc) st λ h' eb=>⟨rfl,I.turned (t':=s.toks) (λ b o hb e=>eb b o hb e) f0 f1 f3 f4 f5⟩
 self:=λ _ _ _ _ _ st h=>wpAny_pyIter_revIter st.1 h
section
variable{X:Cx}{ct:Ct}{tg:Expr}
def Cy{K:W.Frag}{H:Hp}{q:Hp->List V->Prop}{vs:List V}{xs:List D}(hk:∀H1,aX ct.f.cb H H1->q H1 vs)(t:aN K ct H xs vs):xP K ct (Vr q xs.length) xs.reverse H:=by
 have hl:=t.length;refine bW (λ H1=>aX ct.f.cb H H1) (aX.refl H) (λ H1 H2 k1 k2 _ _=>k1.trans k2) (λ i d H1 k1 hd=>?_) (λ i H1 k1 hi=>aY vs (hk H1 k1) hl.symm (by simpa using hi));have hi:i<xs.length:=by have:=(List.getElem?_eq_some_iff.mp hd).1;simpa using this
 rw[List.getElem?_reverse hi] at hd;refine ah (λ v hv tv=>?_) (t.get hd);refine ⟨bh vs v (hk H1 k1) hl.symm hi hv,λ x H2 ⟨e,y⟩=>⟨by rw[e];exact aB.refl _,?_⟩⟩;subst e;have:=y vs (hk _ k1);rw[hv] at this;cases this;exact tv.keep k1
def Yh(K:W.Frag)(ta:TA):TI:=λ σ H R=>ta σ H λ vs H'=>∃l xs,vs=[.ref l]/\((sR K H' l xs/\R (Vr (sR K · l) xs.length) H')\/(fZ K H' l xs/\R (Vr (fZ K · l) xs.length) H'))
def boot_reversed:bootBuiltins "reversed"=some (.type "reversed"):=by decide+kernel
def N4{a:Expr}{ta:TA}{p pos:Pos}(hg:Gl X "reversed")(hm:X.mg "reversed"=none)(ha:PA X [a] ta)(hs:starEach [a] X.env=[(false,eval a X.env)]:=by rfl):PI X tg (.Call (.Name "reversed" p) [a] [] pos) (Yh X.K ta):=by
 intro pins s σ H R I h;refine Call_ (gP I hg hm boot_reversed (PyProof.Rows.callWith_type1 (dm (ha pos pins s σ H _ I h) λ us s1 z_=>tY z_ λ vs H1 I1 r1 q1=>?_) hs rfl))
 revert q1;refine aW λ l xs e q=>?_
 subst e;cases r1 with
 |cons r rr=>
  cases rr;cases r;rcases q with ⟨hq,q⟩|⟨hq,q⟩
  ·refine aH (λ its rv p hz=>?_) (I1.tuple hq);have hl:=rv.length;refine vH (l:=l) p (by simp[sizeLine] at hz ⊢;omega) ?_;have k:∀b o,s1.heap.get? b=some o->(s1.heap.push (SS l ((its.toArray.size:Int) - 1))).get? b=some o:=λ b o x=>Heap.get?_push_of_some _ x;have hr:zS (s1.heap.push (SS l ((its.toArray.size:Int) - 1))) s1.heap.objs.size l ((xs.length:Int) - 1-(0:Nat)):=aY _ (Heap.get?_push_size _ rfl) rfl (by simp[SS,hl]);refine BX hr ?_;refine jF s1.heap.objs.size [s1.heap.objs.size] _ _ H1 rfl (I1.kept (t':=s1.toks+1+1) k) (DT l _ xs.length) ⟨hr,Nat.zero_le _⟩ (λ b hb=>?_) q;have e:b=s1.heap.objs.size:=by simpa using hb
   subst e;exact I1.oh (Nat.le_refl _) (I1.hok.fresh (Nat.le_refl _))
  ·refine aH (λ its rv p hz=>?_) (I1.list hq);have hl:=rv.length;refine call_reversed_list (l:=l) p.isList ?_;have k:∀b o,s1.heap.get? b=some o->(s1.heap.push (revObj l ((its.toArray.size:Int) - 1))).get? b=some o:=λ b o x=>Heap.get?_push_of_some _ x;have hr:(s1.heap.push (revObj l ((its.toArray.size:Int) - 1))).IsRevIter s1.heap.objs.size l ((xs.length:Int) - 1-(0:Nat)):=aY _ (Heap.get?_push_size _ rfl) rfl (by simp[revObj,hl]);refine wpAny_pyIter_revIter hr ?_;refine jF s1.heap.objs.size [s1.heap.objs.size] _ _ H1 rfl (I1.kept (t':=s1.toks) k) (DU l _ xs.length) ⟨hr,Nat.zero_le _⟩ (λ b hb=>?_) q;have e:b=s1.heap.objs.size:=by simpa using hb
   subst e;exact I1.oh (Nat.le_refl _) (I1.hok.fresh (Nat.le_refl _))
def BC{a:Expr}{r:Sg->Res (List D)}{p pos':Pos}(hm:X.mg "reversed"=none)(ha:pN X ct [a] r)(AZ:Gl X "reversed":=by rfl)(hs:starEach [a] X.env=[(false,eval a X.env)]:=by rfl):IM X ct tg (.Call (.Name "reversed" p) [a] [] pos') (EF r):=by
 have ha:=ha.out;refine ⟨?_⟩;refine λ pins s σ H R I=>ah λ Γ j h=>?_;refine N4 AZ hm ha hs pins s σ H R I (af Γ j (h.bnd λ ds _ q vs H' s tl=>?_));rcases ds with _|⟨d,_|⟨d2,r2⟩⟩
 ·exact q.elim
 ·refine ah (λ v z t1=>?_) (mF tl);subst z;cases d with
  |lst xs=>
   replace q:∀J H',aB H H'->xP X.K ct J xs.reverse H'->R J H':=q;simp only[Tl] at t1
   revert t1;refine aq λ b us z hb t2=>?_;subst z
   refine aQ b us rfl (.inr ⟨hb.sq,?_⟩);rw[<-t2.length];exact q _ H' s (Cy (λ H1 k=>(k.HM hb).sq) t2)
  |tup xs=>
   replace q:∀J H',aB H H'->xP X.K ct J xs.reverse H'->R J H':=q;simp only[Tl] at t1
   revert t1;refine aq λ b us z hb t2=>?_;subst z
   refine aQ b us rfl (.inl ⟨kE hb,?_⟩);rw[<-t2.length];exact q _ H' s (Cy (λ H1 k=>k.VG (kE hb)) t2)
  |_=>exact q.elim
 ·exact q.elim
end
section
variable{X:Cx}{ct:Ct}{a b:Expr}{f g:Sg->Res D}{pos:Pos}
end
structure WQ(X:Cx)(scope:Scope)(cl:List (Str×Addr))(k:Nat)(caps:List Nat)(N':List Str):Prop where
 clos:jw X.env.cells scope.names []=some cl
 kind:scope.kind= .function
 names:∀y∈scope.names,y.2= .local->scope.names.lookup y.1=some .local
 len:N'.length=k+caps.length
 cap:∀(i c:Nat) (y:Str),caps[i]? =some c->N'[k+i]? =some y->X.N[c]? =some y/\IP X.env.scope y/\X.env.kindOf y≠some .local/\(y,NameKind.free)∈scope.names
section
variable{X:Cx}{ct:Ct}{elt iter tg:Expr}{ifs:List Expr}{scope:Scope}{cl:List (Str×Addr)}{pos:Pos}{k:Nat}{caps:List Nat}{N':List Str}{fi:Sg->Res (List D)}{t:Tg}{p:Sg->Res Bool}{fe:Sg->Res M}{fd:Sg->Res D}{tm:Bool}
end
section
variable{X:Cx}{c:Cf}{pos:Pos}
end
section
variable{X:Cx}{ct:Ct}{a b:Expr}{f g:Sg->Res D}{pos:Pos}
end
section
variable{prog:Program}{w:World}{A:Around}{E:Value->Shared->Prop}{s:Shared}
end
section
variable{X:Cx}{ct:Ct}
end
section
variable{X:Cx}{c:Cf}{pos:Pos}
end
end L4
end
section
namespace L4
open PySem PySem.Spec PyProof PyProof.Rows L2
section
variable{X:Cx}{ct:Ct}{e:Expr}{p pos:Pos}
end
section
variable{X:Cx}{ct:Ct}{a b:Expr}{f g:Sg->Res D}{pos:Pos}
end
section
variable{X:Cx}{c:Cf}{pos:Pos}{e:Expr}{f:Sg->Res M}
end
section
variable{X:Cx}{cf:Cf}{body suite:List Stmt}{b₀:Stmt}{F G:Sg->Out}{t:Str}{hit:String->Option Bool}{T:Value}{np hpos pos:Pos}
end
section
variable{X:Cx}{c:Cf}{pos:Pos}{ce e:Expr}{p:Sg->Res Bool}{f:Sg->Res D}
structure FAs(X:Cx)(c:Cf)(k i:Nat)(xs:List D)(a:Addr)(vs:List V)(H:Hp)(B:Sg->Out)(R:Out)(m:Nat)(Γ1:Sg)(σ1:St)(H1:Hp):Prop where
 j:Jx X c.z Γ1 σ1 H1
 q0:Γ1[i]? =some (.own (.l xs))
 q1:σ1[i]? =some (some (.ref a))
 qk:k<Γ1.length
 qa:H1 a=some (.lst vs)
 kp:aX c.cb H H1
 qf:cS (aG k) B (xs.drop m) Γ1=R
end
end L4
end
section
namespace L4
open PySem PySem.Spec PyProof.Rows L2 PySem.W
section
variable{X:Cx}{ct:Ct}{e:Expr}{es:List Expr}{fa:Sg->Res (List D)}{p pos:Pos}
def Nv(k:D->D->Option Bool):List D->Res (List D)
 |[x]=>match qe x with
  |some []=> .ok []
  |some [a]=> .ok [a]
  |some [a,b]=>(match k a b with
   |some true=> .ok [b,a]
   |some false=> .ok [a,b]
   |none=> .bad)
  |_=> .bad
 |_=> .bad
def Rc:Nx=Nv λ a b=>ZG b a:=rfl
end
end L4
end
section
namespace L4
open PySem
noncomputable abbrev Lt:=List (List Int×Rat)
def GO(r:Rat):Int×Int:=(r.num,(r.den:Int))
def pX(t:Int)(b:Nat)(h:b≠0):(r6 t b,xN t b)=GO (Rat.normalize t b h):=by
 have e:r9 (b:Int) (Int.gcd t b)=(Int.gcd t b:Int):=by unfold r9;rw[if_neg (by omega)]
 have g:Int.gcd t (b:Int)=Nat.gcd t.natAbs b:=rfl;rw[Rat.normalize_eq];unfold r6 xN GO;rw[e,g,Int.fdiv_eq_ediv_of_nonneg _ (by omega),Int.fdiv_eq_ediv_of_nonneg _ (by omega)];rfl
def Ql(r s:Rat):(r6 (r.num*s.den+s.num*r.den) ((r.den:Int)*s.den),xN (r.num*s.den+s.num*r.den) ((r.den:Int)*s.den))=GO (r+s):=by have:=pX (r.num*s.den+s.num*r.den) (r.den*s.den) (Nat.mul_ne_zero r.den_nz s.den_nz);rw[Rat.add_def, <-this];simp
def ON(r s:Rat):(r6 (r.num*s.num) ((r.den:Int)*s.den),xN (r.num*s.num) ((r.den:Int)*s.den))=GO (r*s):=by have:=pX (r.num*s.num) (r.den*s.den) (Nat.mul_ne_zero r.den_nz s.den_nz);rw[Rat.mul_def, <-this];simp
structure Sz(c k:Nat)(r:Rat):Prop where
 nn:0<=r.num
 top:r.num.natAbs<2^(8*k+c)
 bot:r.den<2^(7*k)
def Ce{r s:Rat}(h:GO r=GO s):r=s:=Rat.ext (congrArg Prod.fst h) (Int.ofNat.inj (congrArg Prod.snd h))
end L4
end
section
namespace L4
open PySem PySem.W PyProof.Rows
noncomputable def Rv{α:Type}(lt:Nat->Nat->Bool):KasT α->α
 | .ret a=>a
 | .ask i j k=>Rv lt (k (lt i j))
def V8(ks:List Int)(i j:Nat):Bool:=decide (ks.getD i 0<ks.getD j 0)
def tU(ks:List Int):List Nat:=if ks.length<2 then List.range ks.length else (Rv (V8 ks) (kas_sort ks.length)).toList
def mX{α:Type}(n:Nat):KasT α->(α->Prop)->Prop
 | .ret a,Q=>Q a
 | .ask i j k,Q=>i<n/\j<n/\∀b,mX n (k b) Q
theorem Cr{α:Type}{n:Nat}{lt:Nat->Nat->Bool}{cmp:Nat->Nat->(Bool->Shared->Prop)->Shared->Prop}{s:Shared}{Q:α->Shared->Prop}{R:α->Prop}(hc:∀i j C,i<n->j<n->C (lt i j) s->cmp i j C s):
  ∀{t:KasT α},mX n t R->Q (Rv lt t) s->t.kasWp cmp Q s
 | .ret _,_,h=>h
 | .ask i j k,l,h=>hc i j _ l.1 l.2.1 (Cr hc (l.2.2 _) h)
theorem zb{α:Type}{n:Nat}{lt:Nat->Nat->Bool}{Q:α->Prop}:∀{t:KasT α},mX n t Q->Q (Rv lt t)
 | .ret _,h=>h
 | .ask i j k,h=>zb (t:=k (lt i j)) (h.2.2 _)
theorem gB{α β:Type}{n:Nat}{f:α->KasT β}{Q:β->Prop}{R:α->Prop}(hf:∀a,R a->mX n (f a) Q):∀{t:KasT α},mX n t R->mX n (t.bind f) Q
 | .ret _,h=>hf _ h
 | .ask _ _ _,h=>⟨h.1,h.2.1,λ b=>gB hf (h.2.2 b)⟩
structure xF(n:Nat)(p:Array Nat):Prop where
 pm:p.toList.Perm (List.range n)
 n1:1<=n
def xF.low{n:Nat}{p:Array Nat}(h:xF n p)(k:Nat):p.getD k 0<n:=by
 by_cases hk:k<p.size
 ·have e:p.getD k 0=p[k]:=by simp[Array.getD,hk]
  rw[e];have:p[k]∈p.toList:=by simp
  have:=h.pm.mem_iff.mp this;simpa using this
 ·have e:p.getD k 0=0:=by simp[Array.getD,hk]
  rw[e];exact h.n1
def qG{n:Nat}{p:Array Nat}(h:xF n p)(i j:Nat):xF n (kas_rev p i j):=⟨(Array.perm_iff_toList_perm.mp (mirror_perm p i j ((j- i)/ 2))).trans h.pm,h.n1⟩
def N1{n:Nat}{p:Array Nat}(h:xF n p)(k d:Nat):xF n (bubble p k d):=⟨(Array.perm_iff_toList_perm.mp (bubble_perm p k d)).trans h.pm,h.n1⟩
theorem Ay{n:Nat}{p:Array Nat}(h:xF n p):∀(f m:Nat),mX n (kas_asc p f m) λ _=>True
 |0,m=>trivial
 |f+1,m=>⟨h.low _,h.low _,λ c=>by
  cases c with
  |true=>exact trivial
  |false=>exact Ay h f _⟩
theorem pU{l:Nat}:∀(f:Nat) {p:Array Nat} (n q:Nat),xF l p->mX l (kas_desc f p n q) λ r=>xF l r.1
 |0,p,n,q,h=>h
 |f+1,p,n,q,h=>⟨h.low _,h.low _,λ c=>by
  cases c with
  |true=>
   simp only[if_true];split
   ·exact pU f _ _ (qG h _ _)
   ·exact pU f _ _ h
  |false=>
   simp only[Bool.false_eq_true,if_false];refine ⟨h.low _,h.low _,λ d=>?_⟩;cases d with
   |true=>exact h
   |false=>exact pU f _ _ h⟩
def B7{l:Nat}{p:Array Nat}(n m:Nat)(h:xF l p):mX l (kas_tail3 n m p) λ r=>xF l r.2:=by unfold kas_tail3;refine gB (R:=λ _=>True) (f:=λ k=> .ret (k,kas_rev p 0 n)) (λ k _=>?_) (Ay (qG h _ _) _ _);exact qG h _ _
def yw{l:Nat}{p:Array Nat}(n m:Nat)(h:xF l p):mX l (kas_descPart n m p) λ r=>xF l r.2:=by
 refine gB (λ a ha=>?_) (pU _ _ _ h);split
 ·exact B7 _ _ (qG ha _ _)
 ·exact B7 _ _ ha
def Ge{l:Nat}{p:Array Nat}(n:Nat)(h:xF l p):mX l (kas_count n p) λ r=>xF l r.2:=by
 refine gB (λ k _=>?_) (Ay h _ _);split
 ·exact h
 ·split
  ·refine ⟨h.low _,h.low _,λ c=>?_⟩;cases c with
   |true=>exact h
   |false=>exact yw _ _ (qG h _ _)
  ·exact yw _ _ h
theorem qH{n:Nat}{p:Array Nat}(h:xF n p)(k:Nat):∀(f l r:Nat),mX n (kas_place p k f l r) λ _=>True
 |0,l,r=>trivial
 |f+1,l,r=>by
  unfold kas_place;split
  ·exact trivial
  ·refine ⟨h.low _,h.low _,λ c=>?_⟩;cases c with
   |true=>exact qH h k f _ _
   |false=>exact qH h k f _ _
theorem Gh{l:Nat}:∀(f:Nat) {p:Array Nat} (k:Nat),xF l p->mX l (kas_bin f p k) (xF l)
 |0,p,k,h=>h
 |f+1,p,k,h=>gB (λ _ _=>Gh f _ (N1 h _ _)) (qH h _ _ _ _)
def B8{n:Nat}(h:1<=n):mX n (kas_sort n) (xF n):=by
 refine gB (λ a ha=>?_) (Ge n ⟨by simp,h⟩);split
 ·exact Gh _ _ ha
 ·exact ha
def jO(ks:List Int):(tU ks).Perm (List.range ks.length):=by
 unfold tU;split
 ·exact .refl _
 ·exact (zb (B8 (by omega))).pm
noncomputable def eN(fk:D->Res D):List D->Option (List Int)
 |[]=>some []
 |x::xs=>match fk x with
  | .ok (.int i)=>(eN fk xs).map λ ks=>i::ks
  |_=>none
def lE(d:D)(caps:List Nat)(Γ:Sg):Sg:= .val d::caps.map λ j=>(match (Γ[j]? :Option Slot) with
 |some (Slot.val d)=>Slot.val d
 |_=>Slot.no)
def pT(g:D->Res D):List D->Res (List D)
 |[d]=>(match qe d with
  |some xs=>if xs.length<64 then (match eN g xs with
   |some ks=> .ok ((tU ks).map λ i=>xs.getD i .gY)
   |none=> .bad) else .bad
  |none=> .bad)
 |_=> .bad
def nZ(fa:Sg->Res (List D))(caps:List Nat)(fk:Sg->Res D):Sg->Res (List D):=λ Γ=>(fa Γ).bnd (pT λ x=>fk (lE x caps Γ))
noncomputable def gO:List Int->Nat
 |[]=>0
 |k::ks=>go 0 k 1 ks
where go (b:Nat) (kb:Int) (i:Nat):List Int->Nat
 |[]=>b
 |k::ks=>if k<kb then go i k (i+1) ks else go b kb (i+1) ks
def Cj(g:D->Res D):List D->Res D
 |[d]=>(match qe d with
  |some xs=>(match xs with
   |[]=> .bad
   |_::_=>(match eN g xs with
    |some ks=>(match xs[gO ks]? with
     |some d=> .ok d
     |none=> .bad)
    |none=> .bad))
  |none=> .bad)
 |_=> .bad
def zz(fa:Sg->Res (List D))(caps:List Nat)(fk:Sg->Res D):Sg->Res D:=λ Γ=>(fa Γ).bnd (Cj λ x=>fk (lE x caps Γ))
end L4
end
section
namespace L4
open PySem
def L3(i:Nat)(F:Sg->Out):Sg->Out:=λ Γ=>match (Γ[i]? :Option Slot) with
 |some (.own (.l ds))=>F (Γ.set i (.val (.lst ds)))
 |_=> .bad
def sA(x y:D):Res (List D):=match qe x,y with
 |some [d],.int n=>if 0<=n/\n<=100000 then .ok (List.replicate n.toNat d) else .bad
 |_,_=> .bad
def gT:List D->Option (List Int)
 |[]=>some []
 | .int i::r=>(gT r).map λ z=>i::z
 |_=>none
noncomputable def Qe(zs:List Int):D->Res D
 | .int k=> .ok (.int (zs.count k:Nat))
 |_=> .bad
def sM(f g:Sg->Res D):Sg->Res D:=λ Γ=>(f Γ).bnd λ x=>match (qe x).bind gT with
 |some zs=>(g Γ).bnd (Qe zs)
 |none=> .bad
def DX:List D->Res D
 |[d]=>(match (qe d).bind gT with
  |some zs=>if (zs.all λ z=>decide (0<=z/\z<=1000000000000))&&decide (zs.length<=100000) then .ok (.int zs.sum) else .bad
  |none=> .bad)
 |_=> .bad
noncomputable def Vx:List D->Res (List D)
 |[.lst xs,.lst ys]=> .ok ((xs.zip ys).map λ p=> .tup [p.1,p.2])
 |_=> .bad
def K5(r:Sg->Res (List D)):Sg->Res (List D):=λ Γ=>(r Γ).bnd Vx
def A9:List D->Res (List D)
 |[.lst xs]=> .ok (eT 0 xs)
 |_=> .bad
def rB(r:Sg->Res (List D)):Sg->Res (List D):=λ Γ=>(r Γ).bnd A9
def pl:D->Bool
 | .int _=>true
 | .tup ds=>(gT ds).isSome
 |_=>false
def yl(i:Nat)(g:Sg->Res (List Nat))(fk f:Sg->Res D):Sg->Out:=λ Γ=>match (Γ[i]? :Option Slot) with
 |some (.own (.k (.s ks) xs))=>(match f (Γ.set i (.val (.lJ (.s ks) xs))) with
  | .ok d=>if pl d=true then F4 i g fk (λ _=> .ok d) Γ else .bad
  |_=> .bad)
 |_=> .bad
end L4
end
section
namespace L4
open PySem PySem.Spec PyProof.Rows L2
def RO(X:Cx)(q:Str)(scope:Scope)(f c':Addr)(cl:List (Str×Addr))(A:Around)(s:Shared)(H:Hp)(N':List Str):Cx where
 prog:=X.prog
 w:=X.w
 K:=X.K
 mg:=X.mg
 base:=X.base
 A:=A.deeper (W.envX q scope s.heap.objs.size f (.ref c') cl)
 N:=N'
 s₀:=s
 H₀:=H
 env:=W.envX q scope s.heap.objs.size f (.ref c') cl
 outer:=X.stack
 stack:=W.envX q scope s.heap.objs.size f (.ref c') cl::X.stack
 ex:=[]
 fn:=λ _=>false
 calm:=true
 pn:=[]
 xe:=λ _ _=>False
structure jS(X:Cx)(N':List Str)(p:Str)(caps:List Nat)(sc:Scope):Prop where
 kind:sc.kind= .function
 co:sc.isCoroutine=false
 gen:sc.isGenerator=false
 len:N'.length=1+caps.length
 fst:N'[0]? =some p
 par:sc.names.lookup p=some .local
 GS:∀y∈sc.names,y.2≠.cell
 see:∀(i j:Nat) (x:Str),caps[i]? =some j->N'[i+1]? =some x->X.N[j]? =some x/\sc.names.lookup x=some .free/\(X.env.kindOf x=some .cell\/X.env.kindOf x=some .free)
def yZ(v:V)(caps:List Nat)(σ:St):St:=some v::caps.map λ j=>(σ[j]?).join
section
variable{X:Cx}{pins:List (Addr×Obj)}{σ:St}{H:Hp}{s:Shared}{q:Str}{scope:Scope}{f c':Addr}{cl:List (Str×Addr)}{A:Around}{N':List Str}{p:Str}{caps:List Nat}{v:V}{u:Value}{h₁:Heap}{tk:Nat}
def KY(I:Inv X pins σ H s)(S:jS X N' p caps scope)(hcl:jw X.env.cells scope.names []=some cl)(hA:A.handled=none)(hfr:A.frames=some X.stack)(r:RelV v u) (hns:h₁.Ns s.heap.objs.size (λ y=>[(p,u)].reverse.lookup y)) (hk:∀b o,s.heap.get? b=some o->h₁.get? b=some o):
  Inv (RO X q scope f c' cl A s H N') [] (yZ v caps σ) H {s with heap:=h₁,toks:=tk}:=by
 have sub:∀y c,cl.lookup y=some c->X.env.cells.lookup y=some c:=zG hcl λ y c z=>nomatch z;have Ku:∀b:Addr,b∉(RO X q scope f c' cl A s H N').ex:=λ b z=>absurd (show b∈([]:List Addr) from z) (by simp);have ck:∀{c:Addr} {o:Option Value},s.heap.IsCell c o->h₁.IsCell c o:=λ⟨ob,e,d⟩=>⟨ob,hk _ _ e,d⟩;refine ⟨⟨I.ok.mod,S.kind,rfl,rfl,Nat.le_refl _,λ y z c h1 h2=>I.ok.inj y z c (sub y c h1) (sub z c h2),λ y hy=>?_,λ y c z=>(nomatch z),λ _=>hA,Around.frames_deeper hfr,.inr ⟨rfl,rfl⟩,λ b z=>absurd z (Ku b),I.bs,Nat.le_trans I.ok.RP I.sz,λ b _ _=>Ku b,λ b z=>absurd z (Ku b),I.stack,I.pR⟩,
  rfl,I.bare,Un.kept hk,⟨_,hns,λ i y v' h1 h2 h3=>?_⟩,λ y c h=>?_,I.hok.fresh (Nat.le_refl _),λ y c h=>I.g8 y c (sub y c h),λ p hp=>absurd (show p∈([]:List (Addr×Obj)) from hp) (by simp),I.hok.kept hk,?_⟩
 ·have hy:scope.names.lookup y=some .cell\/scope.names.lookup y=some .free:=hy;rcases hy with hy|hy
  ·exact absurd rfl (S.GS _ (PySem.mem_of_lookup hy))
  ·exact Option.isSome_iff_exists.mp (nv hcl y (PySem.mem_of_lookup hy))
 ·have h1:N'[i]? =some y:=h1;cases i with
  |zero=>rw[S.fst] at h1;cases h1;cases h2;exact ⟨u,r,.inl ⟨S.par,by simp⟩⟩
  |succ i=>
   simp only[yZ,List.getElem?_cons_succ,List.getElem?_map] at h2;cases hj:caps[i]? with
   |none=>rw[hj] at h2;cases h2
   |some j=>
    rw[hj] at h2;simp only[Option.map_some,Option.some.injEq] at h2;have EH:σ[j]? =some (some v'):=by
     cases w:σ[j]? with
     |none=>rw[w] at h2;cases h2
     |some o=>rw[w] at h2;exact congrArg some (show o=some v' from h2)
    obtain ⟨e1,e2,e3⟩:=S.see i j y hj h1;obtain ⟨m,_,hl⟩:=I.loc;obtain ⟨u',r',lk⟩:=hl j y v' e1 EH (by rcases e3 with z|z<;>first|exact .inr (.inl z)|exact .inr (.inr z));refine ⟨u',r',.inr ⟨.inr e2,?_⟩⟩;rcases lk with ⟨k,_⟩|⟨_,c,ec,z⟩
    ·rcases e3 with w|w<;> · rw[w] at k;cases k
    ·obtain ⟨c2,hc2⟩:=Option.isSome_iff_exists.mp (nv hcl y (PySem.mem_of_lookup e2));have:=sub y c2 hc2;rw[ec] at this;cases this;exact ⟨c,hc2,ck z⟩
 ·obtain ⟨w,z⟩:=I.cell y c (sub y c h);exact ⟨w,ck z⟩
 ·show (yZ v caps σ).length=N'.length;rw[S.len];simp[yZ];omega
abbrev gQ(q:Str)(params:Arguments)(body:Expr)(scope:Scope)(cl:List (Str×Addr))(pm:Value)(c':Addr)(ctv:Value):Obj:=W.kla_obj "<lambda>" q params body scope cl pm c' ctv
noncomputable def qW(f:Addr)(o:Obj):HO:= .ext λ h=>h.get? f=some o
def Hs{P:Program}{w:World}{H:Hp}{h:Heap}{f:Addr}{o:Obj}(e:h.get? f=some o):bS P w H h f (qW f o):=⟨e,⟨o,e⟩,λ h1 h2 e1 k=>k o e1⟩
def JK{params:Arguments}{body:Expr}{pm ctv:Value}{Q:VK}{t:TE}(I:Inv X pins σ H s)(S:jS X N' p caps scope)(hcl:jw X.env.cells scope.names []=some cl)(hA:A.handled=none)(hfr:A.frames=some X.stack)(hroom:A.depth<recursionLimit)(r:RelV v u) (hf:H f=some (qW f (gQ q params body scope cl pm c' ctv))) (hcd:s.heap.CodeRec (.ref c') q) (hbind:bindArgs (W.kla_fn "<lambda>" q params body scope cl pm (.ref c') ctv) ⟨[u],[]⟩=pure [(p,u)]) (hb:PE (RO X q scope f c' cl A s H N') body t) (h:t (yZ v caps σ) H Q):wpAny (model X.prog X.w) A (call (.ref f) [u]) (EP X pins σ Q) (λ _ _=>False) s:=by
 obtain ⟨ho,_⟩:=I.hok f _ hf;have ho:s.heap.get? f=some (gQ q params body scope cl pm c' ctv):=ho;refine wpAny_call (codeAny_mono (R:=λ r s'=>match r with| .ok (.ret u)=>CE X.stack X.prog X.w H s Q u s'|_=>False) (W.kla_callFunE hroom ho rfl S.co S.gen rfl hcd ?_) λ r s' hq=>?_)
 ·rw[hbind];refine wpAny_pure (wpAny_newFunctionEnv S.GS (λ y hy=>?_) (λ h₁ hns Rz=>⟨I.nolimit.fresh _ Rz,?_⟩) S.kind)
  ·rw[List.mem_singleton.mp hy];exact S.par
  ·have hk₁:∀b o,s.heap.get? b=some o->h₁.get? b=some o:=λ b o e=>Rz.extBut b o (Nat.ne_of_lt (Heap.lt_size e)) (Heap.get?_push_of_some _ e);show codeAny _ _ (.expr body (W.envX q scope s.heap.objs.size f (.ref c') cl)) _ _;refine W.kla_codeExpr (wpAny_mono (hb [] _ _ H Q (KY (q:=q) (f:=f) (c':=c') I S hcl hA hfr r hns hk₁) h) (λ u' s' z=>?_) λ _ _ z=>z.elim);obtain ⟨v',H',J,rv,z⟩:=z;exact ⟨v',H',J.os,J.bare,J.base,J.hok,rv,z⟩
 ·cases r with
  |error e=>exact hq.elim
  |ok fl=>
   cases fl with
   |ret u=>exact I.after hq
   |next=>exact hq.elim
   |brk=>exact hq.elim
   |cont=>exact hq.elim
end
structure MZ(Z H:Hp):Prop where
 z:aB Z H
 o:∀b,Z b=none->H b=none\/∃o xs,H b=some (.jP o (.lst xs))
structure Qs(K:W.Frag)(Z:Hp)(h:Heap):Prop where
 out:∀b o,Z b=some o->K.lookup b=none/\(∃p q,o= .EO p q)/\h.get? b=some {cls:= .none,data:= .fields #[]}/\isCodeTable h b
def Ep{P:Program}{w:World}{K:W.Frag}{mg mb:Str->Option Value}{CX:LQ}{k:Nat}{fa a:Addr}{fd:FuncData}{x:Str}{sp:Sp}{s₁:Shared}{vs:List Value}{ns:List Int}{Z:Hp} (KX:K.In s₁.heap) (hns:s₁.heap.Ns mainGlobals mg) (hb:s₁.heap.Ns builtinsNs mb) (hbb:∀x:Str,x≠"__name__"->mb x=bootBuiltins x) (hlim:s₁.heap.NoLimit) (hg:s₁.gens= #[]) (ha:s₁.heap.get? a=some {cls:= .type "list",data:= .seq vs.toArray}) (hi:IntsAre vs ns) (hl:ns.length<=sizeLine) (hr:dH k callerA) (hZ:Qs K Z s₁.heap) (F:∀base:Heap,K.In base->base.Ns mainGlobals mg->QD P w K mg base CX k fa fd [x] sp) (hbind:∀(s:Shared) (u:Value),BindsTo s fd ⟨[u],[]⟩ [(x,u)]) (E4:∀H:Hp,MZ Z H->fZ K H a (ns.map V.int)->sp [.ref a] H (λ v H'=>v= .bl true/\aB Z H') λ _ _ _=>False) (hCX:∀H e s',CX [] H s₁ (λ _ _ _=>False) e s'->False):
  codeAny (model P w) callerA (.call (.ref fa) ⟨[.ref a],[]⟩) (λ r s'=>r= .ok (.ret (.bool true))/\OldK s₁.heap s'.heap/\s'.os=s₁.os/\AllBare s'.gens) s₁:=by
 have rv:=sW hi;have X5:=hi.length;have za:Z a=none:=by
  cases q:Z a with
  |none=>rfl
  |some o=>obtain ⟨_,_,e,_⟩:=hZ.out a o q;rw[ha] at e;cases e
 have core:∀H:Hp,MZ Z H->fZ K H a (ns.map V.int)->kC P w H s₁.heap->(∀b,Z b=none->H b≠none->b=a)->(H a≠none->K.lookup a=none)->codeAny (model P w) callerA (.call (.ref fa) ⟨[.ref a],[]⟩) (λ r s'=>r= .ok (.ret (.bool true))/\OldK s₁.heap s'.heap/\s'.os=s₁.os/\AllBare s'.gens) s₁:=by
  intro H hO hS hok hA hK;have C1:∀{b:Addr} {o:Obj},s₁.heap.get? b=some o->H b=none->(vn s₁.heap H).get? b=some o:=λ e n=>HJ e n;have noZ:∀b,H b=none->Z b=none:=λ b n=>by
   cases q:Z b with
   |none=>rfl
   |some o=>rw[hO.z b o q] at n;cases n
  have Sf:∀{b:Addr} {u:HO},H b=some u->b=a\/∃o,Z b=some o:=λ{b u} q=>by
   cases y:Z b with
   |some o=>exact .inr ⟨o,rfl⟩
   |none=>exact .inl (hA b y (by rw[q];simp))
  have Ku:∀{b:Addr} {o:Obj} {es:Array DictEntry} {ep:Nat},s₁.heap.get? b=some o->o.data= .dict es ep->H b=none:=λ{b o es ep} e d=>by
   cases q:H b with
   |none=>rfl
   |some u=>
    rcases Sf q with e'|⟨oz,e'⟩
    ·subst e';rw[ha] at e;cases e;have d':Data.seq vs.toArray _=Data.dict es ep:=d;cases d'
    ·obtain ⟨_,_,e2,_⟩:=hZ.out b oz e';rw[e] at e2;cases e2;have d':Data.fields #[]=Data.dict es ep:=d;cases d'
  have V0:∀{b:Addr} {m:Str->Option Value},s₁.heap.Ns b m->(vn s₁.heap H).Ns b m:=λ{b m} ⟨o,es,ep,e,d,r⟩=>nU o es ep (C1 e (Ku e d)) d r;have ZW:K.In (vn s₁.heap H):=λ b o e=>C1 (KX b o e) (by
   cases q:H b with
   |none=>rfl
   |some u=>
    rcases Sf q with e'|⟨oz,e'⟩
    ·subst e';rw[hK (by rw[q];simp)] at e;cases e
    ·rw[(hZ.out b oz e').1] at e;cases e)
  have hM:Mod K mg (vn s₁.heap H):=⟨ZW,V0 hns,af mb (V0 hb) hbb,let ⟨mc,h1,h2⟩:=hlim;(af mc (V0 h1) h2)⟩;have e0:LO P w K mg (vn s₁.heap H) callerA [] s₁ H:=⟨rfl,hM,λ b o e=>Ko e,Nat.le_of_eq (EG _ _),trivial,λ b hb=>absurd (show b∈([]:List Addr) from hb) (by simp),hok,.of_eq hg⟩;refine codeAny_mono ((F _ ZW (V0 hns)).run callerA [] s₁ H ⟨[.ref a],[]⟩ [.ref a] [.ref a] _ _ hr e0 (hbind s₁ (.ref a)) (.cons rfl .nil) (E4 H hO hS)) λ r s' h=>?_;cases r with
  |error e=>exact (hCX H e s' h).elim
  |ok fl=>
   cases fl with
   |next=>exact False.elim h
   |brk=>exact False.elim h
   |cont=>exact False.elim h
   |ret u=>
    obtain ⟨v,H',os,bare,un,Ut,r',q,qz⟩:=h;subst q;obtain rfl:u=Value.bool true:=r';refine iE rfl ⟨λ b o e=>?_,λ b o e=>?_⟩ os bare
    ·cases q:H b with
     |none=>exact .inl (un.keep b o e q (by intro z;exact absurd (show b∈([]:List Addr) from z) (by simp)) (by simp))
     |some u=>
      cases y:Z b with
      |some oz=>obtain ⟨_,⟨p,qq,rfl⟩,e2,tb⟩:=hZ.out b oz y;rw[e] at e2;cases e2;obtain ⟨ps,e3,_⟩:=Ut b _ (qz b _ y);exact .inr (.inl ⟨tb,rfl, #[],ps,rfl,by simpa using e3⟩)
      |none=>
       rcases hO.o b y with z|⟨ob,xs,z⟩
       ·rw[q] at z;cases z
       ·have z2:=un.n9 b ob _ z;obtain ⟨e1,_⟩:=hok b _ z;obtain ⟨e2,_⟩:=Ut b _ z2;rw[e] at e1;cases e1;exact .inl e2
    ·exact un.there b o e (by simp)
 have Y5:∀(H:Hp) (b:Addr) (u:HO),Z b=some u->bS P w H s₁.heap b u:=λ H b u y=>by obtain ⟨_,⟨p,qq,rfl⟩,e2,_⟩:=hZ.out b u y;exact ⟨#[],e2,trivial,λ cv z=>nomatch z⟩
 cases hk:K.lookup a with
 |some o=>have e:=KX a o hk;rw[ha] at e;cases e;refine core Z ⟨λ _ _ q=>q,λ b q=> .inl q⟩ (.inr ⟨_,vs.toArray,_,hk,rfl,rfl,rfl,by rw[List.size_toArray,X5];exact hl,by simpa using rv⟩) (λ b u z=>Y5 Z b u z) (λ b y z=>absurd y z) λ z=>absurd za z
 |none=>
  have neA:∀b o,Z b=some o->b≠a:=λ b o q z=>by subst z;rw[za] at q;cases q
  refine core (λ b=>if b=a then some (.jP {cls:= .type "list",data:= .seq vs.toArray} (.lst (ns.map V.int))) else Z b) ⟨λ b o q=>(if_neg (neA b o q)).trans q,λ b y=>?_⟩ (.inl (.inr ⟨{cls:= .type "list",data:= .seq vs.toArray},if_pos rfl⟩)) (λ b u z=>?_) (λ b y z=>?_) λ _=>hk
  ·by_cases hb:b=a
   ·exact .inr (lq _ _ (if_pos hb))
   ·exact .inl ((if_neg hb).trans y)
  ·by_cases hb:b=a
   ·have z':=(if_pos hb).symm.trans z;cases z';subst hb;exact aV ha (by rw[List.length_map];exact hl) (aQ vs _ rv ha)
   ·exact Y5 _ b u ((if_neg hb).symm.trans z)
  ·by_cases hb:b=a
   ·exact hb
   ·exact absurd ((if_neg hb).trans y) z
def Sa{l:W.OpenLaw}{q:Program}{loose:List Str}{XP:(Str->Option Value)->Heap->Prop}{YP:World->Heap->Prop}{d:DefRec}{K:Params->W.Frag}{k:Nat}{F:List Slot->dN}(hn:l.most=some 63)(hdf:d.params.defaults=[]) (h1:callerA.depth+3*k+5<recursionLimit) (h2:callerA.units+16*k+200<cLine) (hY:∀(w:World) (h:Heap),YP w h->(K w.params).In h) (hF:∀(w:World) (mg:Str->Option Value) (fa:Addr) (h:Heap),YP w h->(K w.params).In h->h.Ns mainGlobals mg->mg d.name=some (.ref fa)->∃(cb:Cb) (fd:FuncData),Qs (K w.params) cb.xt h/\(∀(s:Shared) (u:Value),BindsTo s fd ⟨[u],[]⟩ [("_law_script",u)])/\∀base:Heap,jj l.prog w (K w.params) mg base cb k fa fd ["_law_script"] F) (ht:∀ns:List Int,ns.length<=63->F [.val (.lst (ns.map D.int))]= .ok (.bl true)):W.WalkO q loose XP YP l.row.toRowW d [] (λ f vs=>PySem.call f vs):=by
 refine Att.zL hn hdf λ w s₀ s₁ mg mb fa o pm cd doc a vs ns G Y ho hd hcd hmg hobj hints hlen hg=>?_;have KX:=hY w _ Y;obtain ⟨cb,fd,hZ,hb,hf⟩:=hF w mg fa _ Y KX G.T.g hmg;refine Ep (Z:=cb.xt) (sp:=λ vs H Q E=>Xn (K w.params) cb 1 F vs H Q E) KX G.T.g G.T.b G.T.builtins G.T.nolimit hg hobj hints (Nat.le_trans hlen (by decide)) ⟨rfl,h1,h2⟩ hZ (λ base _ _=>hf base) hb (λ H hO hS=>?_) λ H e s' z=>?_
 ·have fz:QC (K w.params) H a (ns.map V.int):=by
   rcases hS with (h|⟨o,h⟩)|h
   ·have za:cb.xt a=none:=by
     cases q:cb.xt a with
     |none=>rfl
     |some o=>obtain ⟨_,_,e,_⟩:=hZ.out a o q;rw[hobj] at e;cases e
    rcases hO.o a za with z|⟨o,xs,z⟩
    ·rw[z] at h;cases h
    ·rw[z] at h;cases h
   ·exact .inl ⟨o,h⟩
   ·exact .inr h
  refine ⟨rfl,gw cb cb.xt [.ref a],[.val (.lst (ns.map D.int))],rfl,rfl,HA (ds:=[.lst (ns.map D.int)]) hO.z (aB.refl _) (aN.cons ?_ aN.nil),?_⟩
  ·simp only[Tl];exact ay a _ rfl fz (FW ns)
  ·rw[ht ns hlen];intro v H' sm _ tv;simp only[Tl] at tv;subst tv;exact ⟨rfl,λ b o z=>sm b o (hO.z b o z) λ w=>w⟩
 ·obtain ⟨_,_,_,_,_,_,z,_⟩:=z;exact z.elim
noncomputable def Vw(K:W.Frag)(mg:Str->Option Value):Prop:=∃bm o,mg "__builtins__"=some (.ref bm)/\bm≠builtinsNs/\bm≠mainGlobals/\K.lookup bm=some o/\o.cls= .type "module"/\o.dict=some builtinsNs/\o.data= .plain
noncomputable def LP(K:W.Frag)(cdv:Value)(P:Addr):Prop:=∃c,cdv= .ref c/\∀h:Heap,K.In h->W.CodeHd h c P
section
variable{X:Cx}{pins:List (Addr×Obj)}{σ:St}{H:Hp}{s:Shared}{q:Str}{scope:Scope}{cl:List (Str×Addr)}{A:Around}{params:Arguments}{body:Expr}{pos:Pos}{P:Addr}{E:Value->Shared->Prop}
def YX(X:Cx)(pins:List (Addr×Obj))(σ:St)(H:Hp)(P:Addr)(q:Str)(params:Arguments)(body:Expr)(scope:Scope)(cl:List (Str×Addr))(u:Value)(s':Shared):Prop:=∃f c' oc ctv pm H',u= .ref f/\Inv X pins σ H' s'/\aB H H'/\H' f=some (qW f (gQ q params body scope cl pm c' ctv))/\H' c'=some (.jP oc (.own P))/\IW q oc
def G6(I:Inv X pins σ H s)(hcd:LP X.K X.env.code P)(hB:Vw X.K X.mg)(hP:H P=some (.EO pos q))(hq:X.env.qual++"<lambda>"=q)(hcl:jw X.env.cells scope.names []=some cl)(hdef:defaultsOf params X.env=([],[])):
  wpAny (model X.prog X.w) A (eval (.Lambda params body scope pos) X.env) (YX X pins σ H P q params body scope cl) E s:=by
 obtain ⟨c,ec,hc⟩:=hcd;obtain ⟨bm,ob,b1,b2,b3,b4,b5,b6,b7⟩:=hB;obtain ⟨ps,hps,tr,hcs⟩:=I.hok P _ hP;have C:=hc _ I.Hz;have hob:=I.Hz bm ob b4;have hgs:s.heap.Ns mainGlobals X.mg:=I.mod.glob.keeps I.bk;have bmP:bm≠P:=λ z=>by rw[z,hps] at hob;cases hob;cases b5
 have hgP:mainGlobals≠P:=λ z=>by obtain ⟨o,es,ep,e,d,_⟩:=hgs;rw[z,hps] at e;cases e;cases d
 have ZZ:s.heap.BuiltinsAt X.mg P:=⟨bm,ob,b1,b2,b3,bmP,hob,b5,b6,b7⟩;refine W.kla_eval hdef ?_;rw[hq];cases hf:codeAmong pos ps.toList with
 |some cv=>obtain ⟨c',oc,rfl,e2,e3⟩:=hcs cv hf;refine W.kla_makeFunctionHit (je hcl) I.ok.glob hgs ec C hps tr hf ZZ λ ctv h' tk hk hsz=>?_;have k1:∀b o,s.heap.get? b=some o->(h'.push {cls:= .type "function",data:= .func (W.kla_fn "<lambda>" q params body scope cl ((X.mg "__name__").getD .none) (.ref c') ctv)}).get? b=some o:=λ b o e=>Heap.get?_push_of_some _ (hk b o e);have fr:=I.hok.fresh hsz;exact ⟨h'.objs.size,c',oc,ctv,_,upd H h'.objs.size _,rfl,I.laid (t':=tk) k1 hsz (Hs (Heap.get?_push_size _ rfl)),bC fr _,aJ,bC fr _ _ _ e2,e3⟩
 |none=>
  refine W.kla_makeFunction (je hcl) I.ok.glob hgs ec C hps tr hf hgP ZZ λ c' ctv h' tk hx hge hlt hrec htb=>?_;obtain ⟨c1,oc,vs,tq,f1,f2,f3,f4⟩:=hrec;cases f1;have fc:H c'=none:=I.hok.fresh hge;have hsz:s.heap.objs.size<=h'.objs.size:=Nat.le_trans hge (Nat.le_of_lt hlt);have ff:H h'.objs.size=none:=I.hok.fresh hsz;have XQ:h'.objs.size≠c':=Nat.ne_of_gt hlt;have ff2:upd H c' (.jP oc (.own P)) h'.objs.size=none:=by rw[aE XQ];exact ff
  have k2:∀b o,b≠P->s.heap.get? b=some o->(h'.push (gQ q params body scope cl ((X.mg "__name__").getD .none) c' ctv)).get? b=some o:=λ b o hb e=>Heap.get?_push_of_some _ (hx b o hb e);have neP:c'≠P:=Nat.ne_of_gt (Nat.lt_of_lt_of_le (Heap.lt_size hps) hge);have nfP:h'.objs.size≠P:=Nat.ne_of_gt (Nat.lt_of_lt_of_le (Heap.lt_size hps) hsz);have sm:aB H (upd (upd H c' (.jP oc (.own P))) h'.objs.size (qW h'.objs.size (gQ q params body scope cl ((X.mg "__name__").getD .none) c' ctv))):=(bC fc _).trans (bC ff2 _);have hok:kC X.prog X.w (upd (upd H c' (.jP oc (.own P))) h'.objs.size (qW h'.objs.size (gQ q params body scope cl ((X.mg "__name__").getD .none) c' ctv))) (h'.push (gQ q params body scope cl ((X.mg "__name__").getD .none) c' ctv)):=by
   intro b u e;by_cases hb:b=h'.objs.size
   ·subst hb;rw[aJ] at e;cases e;exact Hs (Heap.get?_push_size _ rfl)
   ·rw[aE hb] at e;by_cases hb2:b=c'
    ·subst hb2;rw[aJ] at e;cases e;exact ⟨Heap.get?_push_of_some _ f2,oc,Heap.get?_push_of_some _ f2⟩
    ·rw[aE hb2] at e;by_cases ZT:b=P
     ·subst ZT;rw[hP] at e;cases e;refine ⟨_,Heap.get?_push_of_some _ htb,?_,λ cv z=>?_⟩
      ·have:(ps++ #[rawInt pos.line,rawInt pos.col,Value.ref c']).toList=ps.toList++[rawInt pos.line,rawInt pos.col,.ref c']:=by simp
       rw[this];exact TriplesOk_snoc _ _ _ _ tr
      ·have:(ps++ #[rawInt pos.line,rawInt pos.col,Value.ref c']).toList=ps.toList++[rawInt pos.line,rawInt pos.col,.ref c']:=by simp
       rw[this,codeAmong_snoc _ tr hf] at z;cases z;exact ⟨c',oc,rfl,by rw[aE (Ne.symm XQ),aJ],vs,tq,f3,f4⟩
     ·refine (I.hok b u e).stay (λ d v hd z=>k2 d v ?_ z) (λ d z=>sm d _ z) (λ d xs z=>sm d _ z) λ d ob y z=>sm d _ z;rcases hd with rfl|hd
      ·exact ZT
      ·rintro rfl
       rw[hP] at hd;cases hd
  have there:∀b o,s.heap.get? b=some o->∃o',(h'.push (gQ q params body scope cl ((X.mg "__name__").getD .none) c' ctv)).get? b=some o':=λ b o e=>by
   by_cases hb:b=P
   ·subst hb;exact ⟨_,Heap.get?_push_of_some _ htb⟩
   ·exact ⟨o,k2 b o hb e⟩
  have nP:∀b,H b=none->b≠P:=λ b n z=>by rw[z,hP] at n;cases n
  have un:Un X.fs [] H (upd (upd H c' (.jP oc (.own P))) h'.objs.size (qW h'.objs.size (gQ q params body scope cl ((X.mg "__name__").getD .none) c' ctv))) s.heap (h'.push (gQ q params body scope cl ((X.mg "__name__").getD .none) c' ctv)):=⟨λ b o e n _ _=>k2 b o (nP b n) e,λ b o e n _ _=>⟨o.slots,k2 b o (nP b n) e⟩,λ b o e n _=>by rw[aE (Nat.ne_of_lt (Nat.lt_of_lt_of_le (Heap.lt_size e) hsz)),aE (Nat.ne_of_lt (Nat.lt_of_lt_of_le (Heap.lt_size e) hge))];exact n,λ b o e _=>there b o e,λ b xs z=>sm b _ z,λ b o u z=>sm b _ z,λ b ps z=>⟨#[],by rw[sm b _ z];simp⟩⟩;exact ⟨h'.objs.size,c',oc,ctv,_,_,rfl,I.un (t':=tk) un hok,sm,aJ,by rw[aE (Ne.symm XQ),aJ],vs,tq,f3,f4⟩
end
end L4
end
section
namespace L4
open PySem PySem.Spec PyProof.Rows L2 PySem.W
section
variable{X:Cx}{pins:List (Addr×Obj)}{σ:St}{H:Hp}{s:Shared}{A:Around}{f l kS a:Addr}{its:List Value}{kz:List Int}{h':Heap}
def gR{it:Addr}{o o':Obj}{t':Nat}(I:Inv X ((it,o)::pins) σ H s)(fp:f9 X pins H it)(hs:Heap.SameBut it s.heap h')(e:h'.get? it=some o')(nc:∀v,o'.data≠.cell v):Inv X ((it,o')::pins) σ H {s with heap:=h',toks:=t'}:=by
 obtain ⟨f0,f1,f2,f3,f4,f5⟩:=fp;have I1:Inv X pins σ H s:=I.eK λ p hp=>I.pin p (List.mem_append_right _ (.tail _ hp));have I2:=I1.turned (t':=t') (it:=it) (λ b o hb q=>(hs.2 b hb).trans q) f0 f1 f3 f4 f5;refine I2.eK λ p hp=>?_;rcases List.mem_cons.mp hp with rfl|hp
 ·exact ⟨e,f0,f1,f2,nc⟩
 ·exact I2.pin p (List.mem_append_right _ hp)
def zc{p q:Addr×Obj}(I:Inv X (p::q::pins) σ H s):Inv X (q::p::pins) σ H s:=I.eK λ r hr=>I.pin r (List.mem_append_right _ (by
 rcases List.mem_cons.mp hr with rfl|hr
 ·exact .tail _ (.head _)
 ·rcases List.mem_cons.mp hr with rfl|hr
  ·exact .head _
  ·exact .tail _ (.tail _ hr)))
def fu{p:Addr×Obj}(I:Inv X (p::pins) σ H s):Inv X pins σ H s:=I.eK λ r hr=>I.pin r (List.mem_append_right _ (.tail _ hr))
def zq{H':Hp}{b:Addr}{q:Addr×Obj}(fp:f9 X pins H b)(n:H' b=none)(ne:q.1≠b):f9 X (q::pins) H' b:=by
 obtain ⟨f0,f1,f2,f3,f4,f5⟩:=fp;refine ⟨n,f1,f2,f3,f4,λ p hp=>?_⟩;rcases List.mem_append.mp hp with z|z
 ·exact f5 p (List.mem_append_left _ z)
 ·rcases List.mem_cons.mp z with rfl|z
  ·exact ne
  ·exact f5 p (List.mem_append_right _ z)
def Mw{H':Hp}{b:Addr}(fp:f9 X pins H b)(n:H' b=none):f9 X pins H' b:=⟨n,fp.2⟩
def iA{c:String}{xs:Array Value}{n:Nat}:∀v,(seqObj c xs n).data≠.cell v:=λ _ z=>by cases z
def zQ(X:Cx)(σ:St)(H:Hp)(A:Around)(f:Addr)(its:List Value)(kz:List Int):Prop:=∀(i:Nat) (u:Value) (k:Int),its[i]? =some u->kz[i]? =some k->∀(yy:List (Addr×Obj)) (H1:Hp) (s1:Shared),Inv X yy σ H1 s1->aB H H1->wpAny (model X.prog X.w) A (call (.ref f) [u]) (EP X yy σ λ v H2=>v= .int k/\aB H1 H2) (λ _ _=>False) s1
def Ai{e1:Nat}{Pp:PySem.Fin->Shared->Prop}{E:Value->Shared->Prop}(KA:zQ X σ H A f its kz)(hlen:kz.length=its.length)(h64:its.length<64) (I:Inv X ((kS,seqObj "list" #[] 0)::(a,seqObj "list" #[] e1)::pins) σ H s) (fk:f9 X pins H kS) (fa:f9 X pins H a) (ne:kS≠a) (h:∀H' s' c,Inv X ((a,seqObj "list" ((tU kz).map λ i=>its.getD i Value.none).toArray c)::pins) σ H' s'->aB H H'->Pp (.done (.ret .none)) s'):
  wpAny (model X.prog X.w) A (ksk_rest a (.ref f) false its.toArray e1 (.ref kS)) Pp E s:=by
 unfold ksk_rest;refine wpAny_bind (wpAny_rule ?_);first
  |rw[List.forIn_toArray]
  |(rw[<-Array.forIn_toList];simp only[List.toList_toArray])
 refine wpAny_bind (ksk_fold (λ i s'=>∃H1 kA e,Inv X ((kS,seqObj "list" kA e)::(a,seqObj "list" #[] e1)::pins) σ H1 s'/\aB H H1/\IntsAre kA.toList (kz.take i)) its 0 s ⟨H, #[],0,I,aB.refl H,by simpa using IntsAre.nil⟩ ?step ?done);case step=>
  rintro j x s' hx ⟨H1,kA,e,I1,sm,hk⟩
  simp only[Nat.zero_add] at hk ⊢;have hj:j<its.length:=(List.getElem?_eq_some_iff.mp hx).1;obtain ⟨k,hkj⟩:∃k,kz[j]? =some k:=⟨_,List.getElem?_eq_getElem (by omega)⟩;have hz:kA.size<=its.length:=by have h1:=hk.length;rw[Array.length_toList,List.length_take] at h1;omega
  refine wpAny_bind (wpAny_attempt (wpAny_mono (KA j x k hx hkj _ H1 s' I1 sm) (λ v s'' he=>?_) λ _ _ hF=>hF.elim));obtain ⟨v',H2,I2,rv,rfl,uJ⟩:=he;obtain ⟨t2,rfl⟩:=rv;try dsimp only
  have nk:=I2.pin (kS,seqObj "list" kA e) (List.mem_append_right _ (.head _));have s1:=Heap.SameBut.update s''.heap kS (Obj.mapSeq (·.push (.int k t2)));obtain ⟨c2,hc2⟩:∃c2,(s''.heap.update kS (Obj.mapSeq (·.push (.int k t2)))).get? kS=some (seqObj "list" (kA.push (.int k t2)) c2):=⟨_,get?_update_seq nk.1 (·.push (.int k t2))⟩;have ek:kz.take (j+1)=kz.take j++[k]:=by rw[List.take_add_one,hkj];simp
  have ea:(kA.push (Value.int k t2)).toList=kA.toList++[Value.int k t2]:=by simp
  refine wpAny_bind (listUpdate_at nk.1 rfl ?_ (by rw[sizeLine_eq];omega) (Nat.le_trans (Nat.le_of_eq (Array.size_push ..)) (by rw[sizeLine_eq];omega)));refine wpAny_pure ⟨rfl,H2,kA.push (.int k t2),c2,gR (t':=s''.toks) I2 (zq fk nk.2.1 (Ne.symm ne)) s1 hc2 iA,sm.trans uJ,by rw[ea,ek];exact ksk_snoc hk⟩
 case done=>
  rintro s' ⟨H1,kA,e,I1,sm,hk⟩
  have hk':IntsAre kA.toList kz:=by have e3:kz.take (0+its.length)=kz:=List.take_of_length_le (by omega);rw[e3] at hk;exact hk
  have nk:=I1.pin (kS,seqObj "list" kA e) (List.mem_append_right _ (.head _));have na:=I1.pin (a,seqObj "list" #[] e1) (List.mem_append_right _ (.tail _ (.head _)));try dsimp only
  refine wpAny_bind (listItems_at nk.1 rfl ?_);have hsz:kA.size=its.length:=by have h1:=hk'.length;rw[Array.length_toList] at h1;omega
  have zs:(kA.zip its.toArray).size=its.length:=by rw[Array.size_zip,hsz,List.size_toArray,Nat.min_self]
  have fin:∀(st:SortSt),(arrOf st).map (·.2)=((tU kz).map λ i=>its.getD i Value.none).toArray->failedOf st=none->wpAny (model X.prog X.w) A (ksk_tail a false e1 (.ref kS) st) Pp E s':=by
   intro st har hf;have hl:((tU kz).map λ i=>its.getD i Value.none).length=its.length:=by rw[List.length_map,(jO kz).length_eq,List.length_range,hlen]
   unfold ksk_tail;try dsimp only
   have s1:=Heap.SameBut.update s'.heap kS (Obj.mapSeq λ _=>(#[]:Array Value));obtain ⟨c2,hc2⟩:∃c2,(s'.heap.update kS (Obj.mapSeq λ _=>(#[]:Array Value))).get? kS=some (seqObj "list" #[] c2):=⟨_,get?_update_seq nk.1 λ _=> #[]⟩;have I2:=gR (t':=s'.toks) I1 (zq fk nk.2.1 (Ne.symm ne)) s1 hc2 iA;have XS:(s'.heap.update kS (Obj.mapSeq λ _=>(#[]:Array Value))).get? a=some (seqObj "list" #[] e1):=(s1.2 a (Ne.symm ne)).trans na.1;refine wpAny_bind (listUpdate_at nk.1 rfl ?_ (by rw[hsz,sizeLine_eq];omega) (Nat.zero_le _));refine wpAny_bind (wpAny_letGo ?_);refine wpAny_bind (seqEpoch_at XS rfl ?_);rw[har,hf];refine wpAny_bind (listUpdate_at XS rfl ?_ (Nat.zero_le _) (by simp only[Bool.false_eq_true,if_false];rw[List.size_toArray,hl,sizeLine_eq];omega));simp only[bne_self_eq_false,Bool.false_eq_true,if_false];have s2:=Heap.SameBut.update (s'.heap.update kS (Obj.mapSeq λ _=>(#[]:Array Value))) a (Obj.mapSeq λ _=>((tU kz).map λ i=>its.getD i Value.none).toArray);obtain ⟨c3,hc3⟩:∃c3,((s'.heap.update kS (Obj.mapSeq λ _=>(#[]:Array Value))).update a (Obj.mapSeq λ _=>((tU kz).map λ i=>its.getD i Value.none).toArray)).get? a=some (seqObj "list" ((tU kz).map λ i=>its.getD i Value.none).toArray c3):=⟨_,get?_update_seq XS λ _=>((tU kz).map λ i=>its.getD i Value.none).toArray⟩;have I3:=gR (t':=s'.toks) (zc I2) (zq (q:=(kS,seqObj "list" #[] c2)) fa na.2.1 ne) s2 hc3 iA;exact wpAny_pure (h H1 _ c3 (fu (zc I3)) sm)
  unfold ksk_end;try dsimp only
  simp only[Bool.false_eq_true,if_false];have SE:∀{st:SortSt} {p:Array Nat},arrOf st=p.map (kas_item (kA.zip its.toArray))->(arrOf st).map (·.2)=(p.toList.map λ i=>its.getD i Value.none).toArray:=λ{st p} har=>kat_snds (ks:=kA.toList) (vs:=its) (by rw[Array.length_toList];exact hsz) (by simpa using har);by_cases h2:its.toArray.size<2
  ·rw[if_pos h2,if_pos h2];have EH:its.length<2:=by simpa using h2
   refine wpAny_bind (wpAny_pure ?_);rw[StateT.run_pure];refine wpAny_bind (wpAny_pure ?_);refine fin (SortSt.mk' general' (kA.zip its.toArray) #[] 7 none) ?_ rfl;have er:tU kz=List.range its.length:=by unfold tU;rw[if_pos (by omega),hlen]
   rw[er];have:=SE (st:=SortSt.mk' general' (kA.zip its.toArray) #[] 7 none) (p:=(List.range its.length).toArray) (by have e:=kas_range (kA.zip its.toArray);rw[zs] at e;exact e.symm);simpa using this
  ·rw[if_neg h2,if_neg h2];have EH:2<=its.length:=by simp at h2;omega
   rw[ksk_kind hk' (by rw[hsz];omega)];refine wpAny_bind (wpAny_pure ?_);have est:SortSt.mk' oneType' (kA.zip its.toArray) #[] 7 none=kas_st oneType' (kA.zip its.toArray) (List.toArray (List.range its.length)):=by have e:=kas_range (kA.zip its.toArray);rw[zs] at e;show _=SortSt.mk' oneType' ((List.toArray (List.range its.length)).map (kas_item (kA.zip its.toArray))) #[] 7 none;rw[e]
   have key:∀i,∃t,(kas_item (kA.zip its.toArray) i).1= .int (kz.getD i 0) t\/its.length<=i:=λ i=>by
    by_cases hi:i<its.length
    ·obtain ⟨t,ht⟩:=hk'.get i (kz.getD i 0) (by rw[List.getD_eq_getElem?_getD,List.getElem?_eq_getElem (by omega)];rfl);refine ⟨t,.inl ?_⟩;have e:(kA.zip its.toArray)=(kA.toList.toArray.zip its.toArray):=by simp
     rw[e,kat_item (by rw[Array.length_toList];exact hsz)];rw[List.getD_eq_getElem?_getD,ht];rfl
    ·exact ⟨0,.inr (by omega)⟩
   have low:=B8 (n:=its.length) (by omega);have run:=kas_runs (prog:=X.prog) (w:=X.w) (A:=A) (κ:=oneType') (it:=kA.zip its.toArray) (E:=E) (s:=s') (Q:=λ _ st' s2=>∃p:Array Nat,arrOf st'=p.map (kas_item (kA.zip its.toArray))/\failedOf st'=none/\p=Rv (V8 kz) (kas_sort its.length)/\s2=s')
    EH h64 (λ p' st' s2 a1 a2 a3 a4=>⟨p',a2,a3,a4⟩) (Cr (lt:=V8 kz) (λ i j C hi hj hq=>by
     unfold kas_cmp;obtain ⟨t,e1|e1⟩:=key i
     ·obtain ⟨u,e2|e2⟩:=key j
      ·rw[e1,e2];exact kat_lt_int hq
      ·omega
     ·omega) low ⟨rfl,rfl⟩)
   rw[<-est] at run;refine wpAny_bind (wpAny_mono run ?_ λ _ _ e=>e)
   rintro ⟨⟨⟩,st'⟩ s2 ⟨p,har,hf,rfl,rfl⟩
   refine fin st' ?_ hf;have er:tU kz=(Rv (V8 kz) (kas_sort its.length)).toList:=by unfold tU;rw[if_neg (by omega),hlen]
   rw[er];exact SE har
end
section
variable{X:Cx}{pins:List (Addr×Obj)}{σ:St}{H:Hp}{s:Shared}
def EC{a:Addr}{o:HO}(I:Inv X pins σ H s)(fp:f9 X pins H a)(new:bS X.prog X.w (upd H a o) s.heap a o):Inv X pins σ (upd H a o) s:=by
 obtain ⟨ha,nl,_,hx0,nc,np⟩:=fp;have there:∀b o,X.s₀.heap.get? b=some o->b∉X.ex->b≠a:=λ b o e hx z=>by
  subst z;rcases hx0 with w|w
  ·exact hx w
  ·exact absurd (Nat.lt_of_lt_of_le (Heap.lt_size e) w) (Nat.lt_irrefl _)
 have ne:∀b u,H b=some u->b≠a:=λ b u e=>bX e ha;refine ⟨I.ok,I.os,I.bare,⟨I.base.keep,I.base.slot,λ b o e n hx=>?_,I.base.there,λ b xs e=>?_,λ b o u e=>?_,λ b ps e=>?_⟩,I.loc,I.cell,?_,λ x c e=>?_,λ p hp=>?_,λ b u e=>?_,I.len⟩
 ·rw[aE (there b o e hx)];exact I.base.free b o e n hx
 ·have q:=I.base.tups b xs e;rw[aE (ne _ _ q)];exact q
 ·have q:=I.base.n9 b o u e;rw[aE (ne _ _ q)];exact q
 ·obtain ⟨more,q⟩:=I.base.pJ b ps e;exact ⟨more,by rw[aE (ne _ _ q)];exact q⟩
 ·rw[aE (Ne.symm nl)];exact I.free
 ·rw[aE (nc x c e)];exact I.g8 x c e
 ·obtain ⟨h1,h2,h3⟩:=I.pin p hp;exact ⟨h1,by rw[aE (np p hp)];exact h2,h3⟩
 ·by_cases hb:b=a
  ·subst hb;rw[aJ] at e;cases e;exact new
  ·rw[aE hb] at e;exact (I.hok b u e).stay (λ _ _ _ q=>q) (λ c q=>by rw[aE (ne _ _ q)];exact q) (λ c xs q=>by rw[aE (ne _ _ q)];exact q) λ c ob y q=>by rw[aE (ne _ _ q)];exact q
theorem BF{vs:List V}{its:List Value}(r:Vals vs its):∀{ix:List Nat},(∀i∈ix,i<vs.length)->Vals (ix.map λ i=>vs.getD i .gY) (ix.map λ i=>its.getD i Value.none)
 |[],_=> .nil
 |i::ix,h=>by have hi:=h i (.head _);obtain ⟨u,hu,ru⟩:=r.get (List.getElem?_eq_getElem hi);refine .cons ?_ (BF r λ j hj=>h j (.tail _ hj));simp only[List.getD_eq_getElem?_getD,hu,List.getElem?_eq_getElem hi,Option.getD_some];exact ru
def Bh{l f:Addr}{its:List Value}{vs:List V}{kz:List Int}{Q:VK}{E:Value->Shared->Prop}(KA:zQ X σ H X.A.in1.in1 f its kz)(I:Inv X pins σ H s)(hl:s.heap.IsList l its.toArray)(rv:Vals vs its)(hlen:kz.length=its.length)(h64:its.length<64) (h:∀r H',aB H H'->H' r=none->Q (.ref r) (upd H' r (.lst ((tU kz).map λ i=>vs.getD i .gY)))):wpAny (model X.prog X.w) X.A (call (.builtin "sorted") [.ref l] [(Str.ofString "key",.ref f)]) (EP X pins σ Q) E s:=by
 refine call_function_entry_kw kind_sorted plain_sorted entry_sorted (ksk_s1 _ _) ?_;unfold Builtin.«sorted»;refine wpAny_bind (m:=checkCount "sorted" 1 1 _) (wpAny_pure ?_);refine wpAny_bind (collect_list hl ?_ (by rw[sizeLine_eq];omega));refine wpAny_bind (wpAny_newList ?_ (by rw[sizeLine_eq];omega));have hsz:((s.heap.push (seqObj "list" #[] 0)).update s.heap.objs.size (Obj.mapSeq (· ++its.toArray))).objs.size=s.heap.objs.size+1:=by rw[Heap.size_update,size_push']
 have Pg:(((s.heap.push (seqObj "list" #[] 0)).update s.heap.objs.size (Obj.mapSeq (· ++its.toArray))).push (seqObj "list" its.toArray 0)).get? (s.heap.objs.size+1)=some (seqObj "list" its.toArray 0):=by rw[<-hsz];exact Heap.get?_push_size _ rfl
 have keep:∀b o,s.heap.get? b=some o->(((s.heap.push (seqObj "list" #[] 0)).update s.heap.objs.size (Obj.mapSeq (· ++its.toArray))).push (seqObj "list" its.toArray 0)).get? b=some o:=λ b o q=>by have hlt:b<s.heap.objs.size:=Heap.lt_size q;rw[Heap.get?_push_ne _ _ _ (by rw[hsz];exact Nat.ne_of_lt (Nat.lt_succ_of_lt hlt)),Heap.get?_update_ne _ _ _ _ (Nat.ne_of_lt hlt),Heap.get?_push_ne _ _ _ (Nat.ne_of_lt hlt)];exact q
 show wpAny _ _ _ _ _ {s with heap:=((s.heap.push (seqObj "list" #[] 0)).update s.heap.objs.size (Obj.mapSeq (· ++its.toArray))).push (seqObj "list" its.toArray 0)};rw[hsz];have I1:Inv X pins σ H {s with heap:=((s.heap.push (seqObj "list" #[] 0)).update s.heap.objs.size (Obj.mapSeq (· ++its.toArray))).push (seqObj "list" its.toArray 0)}:=I.kept (t':=s.toks) keep;have fa:f9 X pins H (s.heap.objs.size+1):=I.oh (Nat.le_succ _) (I.hok.fresh (Nat.le_succ _));generalize ((s.heap.push (seqObj "list" #[] 0)).update s.heap.objs.size (Obj.mapSeq (· ++its.toArray))).push (seqObj "list" its.toArray 0)=h1 at*;generalize s.heap.objs.size+1=a at*;refine wpAny_bind (wpAny_holding (wpAny_call_entry_kw slot_list_sort ⟨_,Pg,rfl⟩ entry_list_sort ?body (ksk_l1 _ _)));case body=>
  show wpAny (model X.prog X.w) X.A.in1.in1 (Builtin.«list.sort» ⟨[.ref a],[(Str.ofString "key",.ref f)]⟩) _ _ _;rw[ksk_t1];unfold ksk_tree;have I2:Inv X ((a,seqObj "list" its.toArray 0)::pins) σ H {s with heap:=h1}:=I1.eK λ p hp=>by
   rcases List.mem_cons.mp hp with rfl|hp
   ·exact ⟨Pg,fa.1,fa.2.1,fa.2.2.1,iA⟩
   ·exact I1.pin p (List.mem_append_right _ hp)
  have s1:=Heap.SameBut.update h1 a (Obj.mapSeq λ _=>(#[]:Array Value));obtain ⟨e1,Yq⟩:∃e1,(h1.update a (Obj.mapSeq λ _=>(#[]:Array Value))).get? a=some (seqObj "list" #[] e1):=⟨_,get?_update_seq Pg λ _=> #[]⟩;have I3:=gR (t':=s.toks) I2 fa s1 Yq iA;refine wpAny_bind (listItems_at Pg rfl ?_);refine wpAny_bind (listUpdate_at Pg rfl ?_ (by rw[List.size_toArray,sizeLine_eq];omega) (Nat.zero_le _));refine wpAny_bind (seqEpoch_at Yq rfl ?_);refine wpAny_bind (wpAny_newTuple ?_ (by show its.length<=_;rw[sizeLine_eq];omega));refine wpAny_bind (wpAny_newList ?_ (Nat.zero_le _));refine wpAny_holding ?_;have I4:=I3.kept (t':=s.toks) (h':=((h1.update a (Obj.mapSeq λ _=>(#[]:Array Value))).push (seqObj "tuple" its.toArray 0)).push (seqObj "list" #[] 0)) λ b o e=>Heap.get?_push_of_some _ (Heap.get?_push_of_some _ e);have ha:a<(h1.update a (Obj.mapSeq λ _=>(#[]:Array Value))).objs.size:=Heap.lt_size Yq;have RG:=I3.oh (b:=((h1.update a (Obj.mapSeq λ _=>(#[]:Array Value))).push (seqObj "tuple" its.toArray 0)).objs.size) (H':=H) (by rw[Heap.size_push];exact Nat.le_succ _) (I3.hok.fresh (by rw[Heap.size_push];exact Nat.le_succ _));have fk:f9 X pins H ((h1.update a (Obj.mapSeq λ _=>(#[]:Array Value))).push (seqObj "tuple" its.toArray 0)).objs.size:=⟨RG.1,RG.2.1,RG.2.2.1,RG.2.2.2.1,RG.2.2.2.2.1,λ p hp=>RG.2.2.2.2.2 p (by
   rcases List.mem_append.mp hp with z|z
   ·exact List.mem_append_left _ z
   ·exact List.mem_append_right _ (.tail _ z))⟩
  have ne:((h1.update a (Obj.mapSeq λ _=>(#[]:Array Value))).push (seqObj "tuple" its.toArray 0)).objs.size≠a:=by rw[Heap.size_push];exact Nat.ne_of_gt (Nat.lt_succ_of_lt ha)
  have hkS:(((h1.update a (Obj.mapSeq λ _=>(#[]:Array Value))).push (seqObj "tuple" its.toArray 0)).push (seqObj "list" #[] 0)).get? ((h1.update a (Obj.mapSeq λ _=>(#[]:Array Value))).push (seqObj "tuple" its.toArray 0)).objs.size=some (seqObj "list" #[] 0):=Heap.get?_push_size _ rfl;have I5:Inv X ((((h1.update a (Obj.mapSeq λ _=>(#[]:Array Value))).push (seqObj "tuple" its.toArray 0)).objs.size,seqObj "list" #[] 0)::(a,seqObj "list" #[] e1)::pins) σ H {s with heap:=((h1.update a (Obj.mapSeq λ _=>(#[]:Array Value))).push (seqObj "tuple" its.toArray 0)).push (seqObj "list" #[] 0)}:=I4.eK λ p hp=>by
   rcases List.mem_cons.mp hp with rfl|hp
   ·exact ⟨hkS,fk.1,fk.2.1,fk.2.2.1,iA⟩
   ·exact I4.pin p (List.mem_append_right _ hp)
  refine Ai (s:={s with heap:=((h1.update a (Obj.mapSeq λ _=>(#[]:Array Value))).push (seqObj "tuple" its.toArray 0)).push (seqObj "list" #[] 0)}) KA hlen h64 I5 fk fa ne λ H' s' c I6 sm=>⟨_,rfl,?_⟩;have na:=I6.pin (a,_) (List.mem_append_right _ (.head _));refine wpAny_pure ⟨_,rfl,.ref a,upd H' a (.lst ((tU kz).map λ i=>vs.getD i .gY)),EC (fu I6) (Mw fa na.2.1) ⟨?_,_,c,BF rv λ i hi=>?_,na.1⟩,rfl,h a H' sm na.2.1⟩
  ·rw[List.length_map,(jO kz).length_eq,List.length_range,hlen,sizeLine_eq];omega
  ·have:=(jO kz).mem_iff.mp hi;rw[List.mem_range] at this;rw[rv.length];omega
end
section
variable{X:Cx}{ct:Ct}{pins:List (Addr×Obj)}{σ:St}{H:Hp}{s:Shared}{caps:List Nat}{Γ:Sg}
def Uk{H0 H1:Hp}{d:D}{v:V}(j:J X.K ct H0 Γ σ H1)(t:Tl X.K ct H1 d v):J X.K ct H1 (lE d caps Γ) (yZ v caps σ) H1:=by
 refine ⟨λ _ _ q _=>q,λ _ q=>q,j.lL,j.lB,j.xt,by simp[lE,yZ],λ _ _=>False,λ i sl ov h1 h2=>?_,λ _ _ _ _ z=>z.elim,λ _ _ z=>z.elim⟩;cases i with
 |zero=>cases h1;cases h2;exact ⟨⟨v,rfl,t⟩,λ _ z=>z⟩
 |succ i=>
  simp only[lE,yZ,List.getElem?_cons_succ,List.getElem?_map] at h1 h2;cases hj:caps[i]? with
  |none=>rw[hj] at h1;cases h1
  |some k=>
   rw[hj] at h1 h2;simp only[Option.map_some,Option.some.injEq] at h1 h2;cases hg:Γ[k]? with
   |none=>rw[hg] at h1;subst h1;exact λ _ z=>z
   |some E3=>
    rw[hg] at h1;cases E3 with
    |val d'=>subst h1;obtain ⟨v',g1,g2⟩:=j.val hg;rw[g1] at h2;exact ⟨⟨v',h2.symm,g2⟩,λ _ z=>z⟩
    |no=>subst h1;exact λ _ z=>z
    |own m=>subst h1;exact λ _ z=>z
    |par m=>subst h1;exact λ _ z=>z
def qZ{fk:D->Res D}{x:D}{xs:List D}{ks:List Int}(h:eN fk (x::xs)=some ks):∃k r,ks=k::r/\fk x= .ok (.int k)/\eN fk xs=some r:=by
 unfold eN at h;split at h
 ·rename_i i q;cases q2:eN fk xs with
  |none=>rw[q2] at h;cases h
  |some r=>rw[q2] at h;cases h;exact ⟨i,r,rfl,q,rfl⟩
 ·cases h
theorem n5{fk:D->Res D}:∀{xs:List D} {ks:List Int},eN fk xs=some ks->ks.length=xs.length
 |[],ks,h=>by cases h;rfl
 |x::xs,ks,h=>by obtain ⟨k,r,rfl,_,q⟩:=qZ h;simp[n5 q]
theorem tT{fk:D->Res D}:∀{xs:List D} {ks:List Int},eN fk xs=some ks->∀(i:Nat) (x:D) (k:Int),xs[i]? =some x->ks[i]? =some k->fk x= .ok (.int k)
 |[],ks,h,i,x,k,h1,h2=>by cases h1
 |x::xs,ks,h,i,y,k,h1,h2=>by
  obtain ⟨k0,r,rfl,q0,q⟩:=qZ h;cases i with
  |zero=>cases h1;cases h2;exact q0
  |succ i=>exact tT q i y k h1 h2
theorem ya{K:W.Frag}{ct:Ct}{H:Hp}{xs:List D}{vs:List V}(t:aN K ct H xs vs):∀{ix:List Nat},(∀i∈ix,i<xs.length)->aN K ct H (ix.map λ i=>xs.getD i .gY) (ix.map λ i=>vs.getD i .gY)
 |[],_=>aN.nil
 |i::ix,h=>by have hi:=h i (.head _);obtain ⟨v,ev,tv⟩:=t.get (List.getElem?_eq_getElem hi);refine aN.cons ?_ (ya t λ j hj=>h j (.tail _ hj));simp only[List.getD_eq_getElem?_getD,ev,List.getElem?_eq_getElem hi,Option.getD_some];exact tv
structure RT(X:Cx)(ct:Ct)(k:Nat)(N':List Str)(caps:List Nat)(params:Arguments)(body:Expr)(scope:Scope)(jv:Pos)(fk:Sg->Res D):Prop where
 out:∃(P:Addr) (q:Str) (cl:List (Str×Addr)) (p:Str),LP X.K X.env.code P/\Vw X.K X.mg/\ct.f.cb.xt P=some (.EO jv q)/\X.env.qual++"<lambda>"=q/\jw X.env.cells scope.names []=some cl/\defaultsOf params X.env=([],[])/\jS X N' p caps scope/\
  (∀pm c' ctv u,bindArgs (kla_fn "<lambda>" q params body scope cl pm (.ref c') ctv) ⟨[u],[]⟩=pure [(p,u)])/\dH (k+2) X.A/\
  ∀f c' A s H,dH k (A.deeper (envX q scope s.heap.objs.size f (.ref c') cl))->PD (RO X q scope f c' cl A s H N') ct body fk
def Ht{k:Nat}{N':List Str}{params:Arguments}{body:Expr}{scope:Scope}{fk:Sg->Res D}{A:Around}(hA:A.handled=none)(hfr:A.frames=some X.stack)(Us:dH (k+1) A) {P:Addr} {q p:Str} {cl:List (Str×Addr)} (hcl:jw X.env.cells scope.names []=some cl) (S:jS X N' p caps scope) (hbind:∀pm c' ctv u,bindArgs (kla_fn "<lambda>" q params body scope cl pm (.ref c') ctv) ⟨[u],[]⟩=pure [(p,u)]) (hb:∀f c' A s H,dH k (A.deeper (envX q scope s.heap.objs.size f (.ref c') cl))->PD (RO X q scope f c' cl A s H N') ct body fk) (j:Jx X ct Γ σ H) {f c':Addr} {oc:Obj} {ctv pm:Value} (hf:H f=some (qW f (gQ q params body scope cl pm c' ctv))) (hc:H c'=some (.jP oc (.own P))) (hco:IW q oc) {xs:List D} {vs:List V} {its:List Value} {kz:List Int} (t:aN X.K ct H xs vs) (rv:Vals vs its) (hk:eN (λ x=>fk (lE x caps Γ)) xs=some kz):zQ X σ H A f its kz:=by
 intro i u k0 hu hki yy H1 s1 I1 sm;have hi:i<its.length:=(List.getElem?_eq_some_iff.mp hu).1;have hiv:i<vs.length:=by rw[rv.length];exact hi
 have hix:i<xs.length:=by rw[t.length];exact hiv
 have ex:xs[i]? =some xs[i]:=List.getElem?_eq_getElem hix;obtain ⟨v,ev,tv⟩:=t.get ex;obtain ⟨u',Z5,ru⟩:=rv.get ev;rw[hu] at Z5;cases Z5;have kk:=tT hk i _ k0 ex hki;have j1:=j.mono sm;have t1:=tv.keep (aB.keep sm);obtain ⟨hc1,_⟩:=I1.hok c' _ (sm _ _ hc);obtain ⟨fs,tq,f1,f2⟩:=hco;have rd:A.depth<recursionLimit:=by have:=Us.dp;omega
 refine JK I1 S hcl hA hfr rd ru (sm _ _ hf) ⟨c',oc,fs,tq,rfl,hc1,f1,f2⟩ (hbind _ _ _ _) (hb f c' A s1 H1 (Us.deeper _)) ⟨lE xs[i] caps Γ,Uk (X:=X) j1 t1,?_⟩;rw[kk];intro v2 H2 uJ t2;simp only[Tl] at t2;exact ⟨t2,uJ⟩
def zJ{k:Nat}{N':List Str}{params:Arguments}{body:Expr}{scope:Scope}{jv kp p0 pos:Pos}{fk:Sg->Res D}{e:Expr}{fa:Sg->Res (List D)}{x:Str}{id:String}(L:RT X ct k N' caps params body scope jv fk)(hm:X.mg x=none)(ha:Qv X ct [e] fa)(hg:Gl X x) (hbt:bootBuiltins x=some (.builtin id)) (hn:x≠"__name__") (hdb:(x==("__debug__":Str))=false) (he:starEach [e] X.env=[(false,eval e X.env)]) {Q:VK} (I:Inv X pins σ H s) (j:Jx X ct Γ σ H) (h:Ok X ct σ H (fa Γ) λ ds=>∀vs us H1 s1 f,aB H H1->aN X.K ct H1 ds vs->Vals vs us->Inv X pins σ H1 s1->(∀A xs vs its kz,A.handled=none->A.frames=some X.stack->dH (k+1) A->aN X.K ct H1 xs vs->Vals vs its->eN (λ x=>fk (lE x caps Γ)) xs=some kz->zQ X σ H1 A f its kz)->wpAny (model X.prog X.w) X.A (call (.builtin id) us [(Str.ofString "key",.ref f)]) (EP X pins σ Q) X.xe s1):
  wpAny (model X.prog X.w) X.A (eval (.Call (.Name x p0) [e] [⟨some "key",.Lambda params body scope jv,kp⟩] pos) X.env) (EP X pins σ Q) X.xe s:=by
 obtain ⟨P,q,cl,p,hcd,hB,hP,hq,hcl,hdef,S,hbind,hr,hb⟩:=L.out;refine wpAny_Call_Name_kw (gP I hg hm hbt ?_ hn hdb);refine callWith_kw ?_ (by rw[he];rfl) (by rw[he];rfl) rfl rfl;refine wpAny_mono (ha pos pins s σ H (λ vs H1=>∃ds,aB H H1/\aN X.K ct H1 ds vs/\fa Γ= .ok ds) I ⟨Γ,j,?_⟩) (λ us s1 z=>?_) λ _ _ z=>z
 ·cases w:fa Γ with
  |ok ds=>exact λ vs H' sm t=>⟨ds,sm,t,rfl⟩
  |err c=>rw[w] at h;exact h
  |bad=>rw[w] at h;exact h
 ·obtain ⟨vs,H1,I1,rv,ds,sm,t,w⟩:=z;rw[w] at h;have hP1:H1 P=some (.EO jv q):=sm _ _ (j.lL _ _ (j.xt _ _ hP));refine kws_cons (wpAny_mono (G6 (A:=X.A) (E:=X.xe) (body:=body) I1 hcd hB hP1 hq hcl hdef) (λ u s2 z2=>?_) λ _ _ z=>z);obtain ⟨f,c',oc,ctv,pm,H2,rfl,I2,uJ,hf,hc,hco⟩:=z2;refine kws_nil ?_;exact h vs us H2 s2 f (sm.trans uJ) (t.keep (aB.keep uJ)) rv I2 λ A xs vs its kz a1 a2 a3 t' Xp hk=>Ht a1 a2 a3 hcl S hbind hb ((j.mono sm).mono uJ) hf hc hco t' Xp hk
def Gi{k:Nat}{N':List Str}{params:Arguments}{body:Expr}{scope:Scope}{jv kp p0 pos:Pos}{fk:Sg->Res D}{e:Expr}{fa:Sg->Res (List D)}(L:RT X ct k N' caps params body scope jv fk)(hm:X.mg "sorted"=none)(ha:Qv X ct [e] fa)(hg:Gl X "sorted":=by rfl) (he:starEach [e] X.env=[(false,eval e X.env)]:=by rfl):PL X ct (.Call (.Name "sorted" p0) [e] [⟨some "key",.Lambda params body scope jv,kp⟩] pos) (nZ fa caps fk):=by
 rintro pins s σ H Q I ⟨Γ,j,h⟩
 obtain ⟨_,_,_,_,_,_,_,_,_,_,_,_,hr,_⟩:=L.out;refine zJ (id:="sorted") L hm ha hg (by decide+kernel) (by decide) (by decide) he I j ?_;unfold nZ at h;refine h.bnd λ ds hds h' vs us H1 s1 f sm t rv I1 KA=>?_;unfold pT at h';split at h'
 ·rename_i d;split at h'
  ·rename_i xs hxs;split at h'
   ·rename_i h64;obtain ⟨v,rfl,t1⟩:=mF t;obtain ⟨u,rfl,ru⟩:=vals1 rv;have j1:=j.mono sm;obtain ⟨a,ws,rfl,sq,tw⟩:=t1.fX j1.lL j1.lB hxs;cases ru;obtain ⟨its,rw',pl,hz⟩:=I1.list sq;cases hk:eN (λ x=>fk (lE x caps Γ)) xs with
    |some kz=>
     rw[hk] at h';replace h':Wl X ct H Q ((tU kz).map λ i=>xs.getD i .gY):=h';have ln:its.length=xs.length:=by rw[<-rw'.length, <-tw.length]
     have lk:kz.length=its.length:=by rw[n5 hk,ln]
     refine Bh (KA X.A.in1.in1 xs ws its kz hr.hd I1.ok.frames ⟨hr.hd,by have:=hr.dp;show X.A.depth+3*(k+1)+5<recursionLimit;omega,by have:=hr.un;show X.A.units+1+1+16*(k+1)+200<cLine;omega⟩ tw rw' hk) I1 pl.isList rw' lk (by omega) λ r H' Rh hr'=>?_;have s3:=bC hr' (.lst ((tU kz).map λ i=>ws.getD i .gY));refine h' r _ _ (sm.trans (Rh.trans s3)) ((sm.trans Rh).free hr') aJ ?_;refine (ya tw (λ i hi=>?_)).keep (aB.keep (Rh.trans s3));have:=(jO kz).mem_iff.mp hi;rw[List.mem_range] at this;omega
    |none=>rw[hk] at h';exact h'.elim
   ·exact h'.elim
  ·exact h'.elim
 ·exact h'.elim
end
section
variable{X:Cx}{ct:Ct}{pins:List (Addr×Obj)}{σ:St}{H:Hp}{s:Shared}{caps:List Nat}{Γ:Sg}{f l S It:Addr}{vs:List V}{kz:List Int}
def Vp(X:Cx)(σ:St)(H:Hp)(A:Around)(f:Addr)(vs:List V)(kz:List Int):Prop:=∀its:List Value,Vals vs its->zQ X σ H A f its kz
def G4{Q:VK}{E:Value->Shared->Prop}(KV:Vp X σ H X.A.in1 f vs kz)(hlen:kz.length=vs.length)(hh:X.A.handled=none)(sq:∀H1,aB H H1->fZ X.K H1 l vs)(fS:f9 X pins H S)(fI:f9 X pins H It)(hSI:S≠It)(hlI:l≠It) (hQ:∀v H',vs[gO kz]? =some v->aB H H'->Q v H'):
  ∀(r j i:Nat) (H1:Hp) (s1:Shared) (ub:Value) (vb:V) (kb:Int) (tb:Tok) (c:Nat) (oI:Obj),vs.length-(j+1)=r->j+1<=vs.length->Inv X ((S,seqObj "list" #[ub,.int kb tb] c)::(It,oI)::pins) σ H1 s1->aB H H1->s1.heap.IsListIter It l (j+1)->vs[i]? =some vb->RelV vb ub->gO kz=gO.go i kb (j+1) (kz.drop (j+1))->codeAny (model X.prog X.w) X.A (.builtin "min.loop" ⟨[.ref It,.ref f,.ref S],[]⟩) (λ r s'=>match r with| .ok (.ret u)=>EP X pins σ Q u s'| .ok _=>False| .error e=>E e s') s1:=by
 have hname:(toString "min"++toString ".loop":String)="min.loop":=by decide
 intro r;induction r with
 |zero=>
  intro j i H1 s1 ub vb kb tb c oI hr hj I1 sm hit Yl rb hm;have hin:j+1=vs.length:=by omega
  obtain ⟨its,rv,pl,hz⟩:=I1.list (sq H1 sm);have hsz:its.toArray.size=vs.length:=by rw[List.size_toArray,rv.length]
  have W:=Walks.list (prog:=X.prog) (w:=X.w) (A:=X.A.in1) hh It l hlI its.toArray;have nS:=I1.pin (S,seqObj "list" #[ub,.int kb tb] c) (List.mem_append_right _ (.head _));have nI:=I1.pin (It,oI) (List.mem_append_right _ (.tail _ (.head _)));refine codeAny_builtin PySem.F.entry_min_loop ?_;rw[Around.under_plainId PySem.F.plain_min_loop _];show wpAny _ X.A.in1 (seqItems? (.ref S)>>=_) _ _ _;refine wpAny_bind (wpAny_seqItems nS.1 rfl ?_);show wpAny _ X.A.in1 (tryCatch (pyNext (.ref It)) _>>=_) _ _ _;refine wpAny_bind (wpAny_tryCatch (W.done _ _ _ ⟨by rw[hsz, <-hin];exact hit,pl.isList⟩ λ h' tk' hk'=>?_));have I2:Inv X pins σ H1 {s1 with heap:=h',toks:=tk'}:=(fu (fu I1)).turned (it:=It) (λ b o hb e=>hk' b o (by simpa using hb) e) nI.2.1 nI.2.2.1 fI.2.2.2.1 fI.2.2.2.2.1 fI.2.2.2.2.2;have hS':=hk' S _ (by simpa using hSI) nS.1;have I3:Inv X ((S,seqObj "list" #[ub,.int kb tb] c)::pins) σ H1 {s1 with heap:=h',toks:=tk'}:=I2.eK λ p hp=>by
   rcases List.mem_cons.mp hp with rfl|hp
   ·exact ⟨hS',nS.2⟩
   ·exact I2.pin p (List.mem_append_right _ hp)
  have u1:=Heap.SameBut.update h' S (Obj.mapSeq λ _=>(#[]:Array Value));obtain ⟨c2,hc2⟩:∃c2,(h'.update S (Obj.mapSeq λ _=>(#[]:Array Value))).get? S=some (seqObj "list" #[] c2):=⟨_,get?_update_seq hS' λ _=> #[]⟩;have I4:=gR (t':=tk') I3 (Mw fS nS.2.1) u1 hc2 iA;show wpAny _ X.A.in1 (updateSeq S (λ _=> #[])>>=_) _ _ _;refine wpAny_bind ?_;refine wpAny_updateSeq hS' rfl (wpAny_bind (wpAny_letGo (wpAny_pure ?_)));have hd:kz.drop (j+1)=[]:=List.drop_eq_nil_of_le (by omega);rw[hd] at hm;exact ⟨vb,H1,fu I4,rb,hQ vb H1 (by rw[hm];exact Yl) sm⟩
 |succ r ih=>
  intro j i H1 s1 ub vb kb tb c oI hr hj I1 sm hit Yl rb hm;have hlt:j+1<vs.length:=by omega
  obtain ⟨its,rv,pl,hz⟩:=I1.list (sq H1 sm);have hsz:its.toArray.size=vs.length:=by rw[List.size_toArray,rv.length]
  have W:=Walks.list (prog:=X.prog) (w:=X.w) (A:=X.A.in1) hh It l hlI its.toArray;have nS:=I1.pin (S,seqObj "list" #[ub,.int kb tb] c) (List.mem_append_right _ (.head _));have nI:=I1.pin (It,oI) (List.mem_append_right _ (.tail _ (.head _)));refine codeAny_builtin PySem.F.entry_min_loop ?_;rw[Around.under_plainId PySem.F.plain_min_loop _];show wpAny _ X.A.in1 (seqItems? (.ref S)>>=_) _ _ _;refine wpAny_bind (wpAny_seqItems nS.1 rfl ?_);show wpAny _ X.A.in1 (tryCatch (pyNext (.ref It)) _>>=_) _ _ _;refine wpAny_bind (wpAny_tryCatch (W.item (j+1) _ _ _ (by rw[hsz];exact hlt) ⟨hit,pl.isList⟩ λ u h' tk' hP Pe hk'=>?_));have hu:its[j+1]? =some u:=by simpa using hP
  obtain ⟨Ef,Ph,hoc,hod⟩:=id Pe.1;have I2:Inv X pins σ H1 {s1 with heap:=h',toks:=tk'}:=(fu (fu I1)).turned (it:=It) (λ b o hb e=>hk' b o (by simpa using hb) e) nI.2.1 nI.2.2.1 fI.2.2.2.1 fI.2.2.2.2.1 fI.2.2.2.2.2;have XR:∀v,Ef.data≠.cell v:=λ v z=>by rw[hod] at z;cases z
  have I3:Inv X ((S,seqObj "list" #[ub,.int kb tb] c)::(It,Ef)::pins) σ H1 {s1 with heap:=h',toks:=tk'}:=I2.eK λ p hp=>by
   rcases List.mem_cons.mp hp with rfl|hp
   ·exact ⟨hk' S _ (by simpa using hSI) nS.1,nS.2⟩
   ·rcases List.mem_cons.mp hp with rfl|hp
    ·exact ⟨Ph,nI.2.1,nI.2.2.1,nI.2.2.2.1,XR⟩
    ·exact I2.pin p (List.mem_append_right _ hp)
  obtain ⟨k,hk⟩:∃k,kz[j+1]? =some k:=⟨_,List.getElem?_eq_getElem (by omega)⟩;have hv:vs[j+1]? =some vs[j+1]:=List.getElem?_eq_getElem hlt;have ru:RelV vs[j+1] u:=by obtain ⟨u',e1,e2⟩:=rv.get hv;rw[hu] at e1;cases e1;exact e2
  have hdr:kz.drop (j+1)=k::kz.drop (j+1+1):=by obtain ⟨h1,h2⟩:=List.getElem?_eq_some_iff.mp hk;rw[List.drop_eq_getElem_cons h1,h2]
  rw[hdr] at hm;simp only[gO.go] at hm;show wpAny _ X.A.in1 (tryCatch (holding [u] (call (.ref f) [u])) _>>=_) _ _ _;refine wpAny_bind (wpAny_tryCatch (wpAny_holding (wpAny_mono (KV its rv (j+1) u k hu hk _ H1 _ I3 sm) (λ x s'' he=>?_) λ _ _ hF=>hF.elim)));obtain ⟨v2,H2,I4,L6,rfl,uJ⟩:=he;obtain ⟨t2,rfl⟩:=L6;have OM:=I4.pin (S,seqObj "list" #[ub,.int kb tb] c) (List.mem_append_right _ (.head _));have V6:=I4.pin (It,Ef) (List.mem_append_right _ (.tail _ (.head _)));have Ys:s''.heap.IsListIter It l (j+1+1):=⟨Ef,V6.1,hoc,hod⟩;show wpAny _ X.A.in1 (tryCatch (holding [u,.int k t2] (richCompare .Lt (.int k t2) (.int kb tb)>>=_)) _>>=_) _ _ _;refine wpAny_bind (wpAny_tryCatch (wpAny_holding (wpAny_bind (CmpOf.ints_lt (prog:=X.prog) (w:=X.w) (A:=X.A.in1) (P:=λ i v=>∃t,v= .int (if i=0 then k else kb) t) (λ i=>if i=0 then k else kb) (λ i v h=>h) 0 1 _ _ _ _ _ ⟨t2,rfl⟩ ⟨tb,rfl⟩ ?_))));refine wpAny_bind (wpAny_holding (wpAny_truthy_bool ?_));refine wpAny_bind (wpAny_letGo (wpAny_pure ?_));show wpAny _ _ (if decide (k<kb)=true then _ else _) _ _ _;by_cases hb':k<kb
  ·have u1:=Heap.SameBut.update s''.heap S (Obj.mapSeq λ _=> #[u,.int k t2]);obtain ⟨c2,hc2⟩:∃c2,(s''.heap.update S (Obj.mapSeq λ _=> #[u,.int k t2])).get? S=some (seqObj "list" #[u,.int k t2] c2):=⟨_,get?_update_seq OM.1 λ _=> #[u,.int k t2]⟩;have I5:=gR (t':=s''.toks) I4 (zq fS OM.2.1 (Ne.symm hSI)) u1 hc2 iA;simp only[hb',decide_true,if_true];refine wpAny_bind ?_;refine wpAny_updateSeq OM.1 rfl (wpAny_bind (wpAny_letGo ?_));rw[hname];rw[if_pos hb'] at hm;exact wpAny_pure ⟨plainId_quiet PySem.F.plain_min_loop _,ih (j+1) (j+1) H2 _ u vs[j+1] k t2 c2 Ef (by omega) hlt I5 (sm.trans uJ) ⟨Ef,(u1.2 It (Ne.symm hSI)).trans V6.1,hoc,hod⟩ hv ru hm⟩
  ·simp only[hb',decide_false,Bool.false_eq_true,if_false];refine wpAny_bind (wpAny_letGo ?_);rw[hname];rw[if_neg hb'] at hm;exact wpAny_pure ⟨plainId_quiet PySem.F.plain_min_loop _,ih (j+1) i H2 s'' ub vb kb tb c Ef (by omega) hlt I4 (sm.trans uJ) Ys Yl rb hm⟩
def ES{Q:VK}{E:Value->Shared->Prop}(KV:Vp X σ H X.A.in1 f vs kz)(I:Inv X pins σ H s)(hlen:kz.length=vs.length)(hne:0<vs.length)(hh:X.A.handled=none)(sq:∀H1,aB H H1->fZ X.K H1 l vs) (hQ:∀v H',vs[gO kz]? =some v->aB H H'->Q v H'):wpAny (model X.prog X.w) X.A (call (.builtin "min") [.ref l] [(Str.ofString "key",.ref f)]) (EP X pins σ Q) E s:=by
 have hname:(toString "min"++toString ".loop":String)="min.loop":=by decide
 obtain ⟨its,rv,pl,hz⟩:=I.list (sq H (aB.refl H));have hls:=pl.isList;obtain ⟨ol,hol,_⟩:=id hls;have hll:l<s.heap.objs.size:=Heap.lt_size hol;have hsz:its.toArray.size=vs.length:=by rw[List.size_toArray,rv.length]
 refine kmk_tree PySem.F.kind_min PySem.F.plain_min PySem.F.entry_min (kmk_min_key _ _) ?_;show wpAny _ X.A.in1 (Builtin.Builtins.bindParams "min" ["key","default"] 0 ⟨[],[(Str.ofString "key",.ref f)]⟩>>=_) _ _ s;refine wpAny_bind (wpAny_of_eq (show Builtin.Builtins.bindParams "min" ["key","default"] 0 ⟨[],[(Str.ofString "key",.ref f)]⟩=pure [some (.ref f),none] from rfl) ?_);refine wpAny_bind (wpAny_pure ?_);refine wpAny_bind (wpAny_pyIter_list hls ?_);refine wpAny_bind (wpAny_newList ?_ (Nat.zero_le _));rw[hname];have hS:(s.heap.push {cls:= .type "list_iterator",data:= .fields #[.ref l,.int 0 0]}).objs.size=s.heap.objs.size+1:=size_push' ..;have hlI:l≠s.heap.objs.size:=Nat.ne_of_lt hll;have hSI:(s.heap.push {cls:= .type "list_iterator",data:= .fields #[.ref l,.int 0 0]}).objs.size≠s.heap.objs.size:=by rw[hS];exact Nat.ne_of_gt (Nat.lt_succ_self _)
 refine wpAny_pure ⟨plainId_quiet PySem.F.plain_min_loop _,?_⟩;have gI:((s.heap.push {cls:= .type "list_iterator",data:= .fields #[.ref l,.int 0 0]}).push (seqObj "list" #[] 0)).get? s.heap.objs.size=some {cls:= .type "list_iterator",data:= .fields #[.ref l,.int 0 0]}:=
  Heap.get?_push_of_some _ (Heap.get?_push_size _ rfl)
 have gS:((s.heap.push {cls:= .type "list_iterator",data:= .fields #[.ref l,.int 0 0]}).push (seqObj "list" #[] 0)).get? (s.heap.push {cls:= .type "list_iterator",data:= .fields #[.ref l,.int 0 0]}).objs.size=some (seqObj "list" #[] 0):=Heap.get?_push_size _ rfl;have fI:f9 X pins H s.heap.objs.size:=I.oh (Nat.le_refl _) (I.hok.fresh (Nat.le_refl _));have fS:f9 X pins H (s.heap.push {cls:= .type "list_iterator",data:= .fields #[.ref l,.int 0 0]}).objs.size:=I.oh (by rw[hS];exact Nat.le_succ _) (I.hok.fresh (by rw[hS];exact Nat.le_succ _));have I1:=I.kept (t':=s.toks) (h':=(s.heap.push {cls:= .type "list_iterator",data:= .fields #[.ref l,.int 0 0]}).push (seqObj "list" #[] 0)) λ b o e=>Heap.get?_push_of_some _ (Heap.get?_push_of_some _ e);have Yr:((s.heap.push {cls:= .type "list_iterator",data:= .fields #[.ref l,.int 0 0]}).push (seqObj "list" #[] 0)).IsList l its.toArray:=by obtain ⟨o,e,r⟩:=hls;exact ⟨o,Heap.get?_push_of_some _ (Heap.get?_push_of_some _ e),r⟩
 generalize (s.heap.push {cls:= .type "list_iterator",data:= .fields #[.ref l,.int 0 0]}).objs.size=S at*;generalize (s.heap.push {cls:= .type "list_iterator",data:= .fields #[.ref l,.int 0 0]}).push (seqObj "list" #[] 0)=h1 at*;generalize s.heap.objs.size=It at*;have W:=Walks.list (prog:=X.prog) (w:=X.w) (A:=X.A.in1) hh It l hlI its.toArray;refine codeAny_builtin PySem.F.entry_min_loop ?_;rw[Around.under_plainId PySem.F.plain_min_loop _];show wpAny _ X.A.in1 (seqItems? (.ref _)>>=_) _ _ _;refine wpAny_bind (wpAny_seqItems gS rfl ?_);show wpAny _ X.A.in1 (tryCatch (pyNext (.ref It)) _>>=_) _ _ _;refine wpAny_bind (wpAny_tryCatch (W.item 0 _ _ _ (by rw[hsz];exact hne) ⟨⟨_,gI,rfl,rfl⟩,Yr⟩ λ u h' tk' hP Pe hk'=>?_));have hu:its[0]? =some u:=by simpa using hP
 obtain ⟨Ef,Ph,hoc,hod⟩:=id Pe.1;have XR:∀v,Ef.data≠.cell v:=λ v z=>by rw[hod] at z;cases z
 have I2:Inv X pins σ H {s with heap:=h',toks:=tk'}:=L2.Inv.turned (s:={s with heap:=h1}) (h':=h') (t':=tk') (it:=It) I1 (λ b o hb e=>hk' b o (by simpa using hb) e) fI.1 fI.2.1 fI.2.2.2.1 fI.2.2.2.2.1 fI.2.2.2.2.2;have I3:Inv X ((S,seqObj "list" #[] 0)::(It,Ef)::pins) σ H {s with heap:=h',toks:=tk'}:=I2.eK λ p hp=>by
  rcases List.mem_cons.mp hp with rfl|hp
  ·exact ⟨hk' S _ (by simpa using hSI) gS,fS.1,fS.2.1,fS.2.2.1,iA⟩
  ·rcases List.mem_cons.mp hp with rfl|hp
   ·exact ⟨Ph,fI.1,fI.2.1,fI.2.2.1,XR⟩
   ·exact I2.pin p (List.mem_append_right _ hp)
 obtain ⟨k,hk⟩:∃k,kz[0]? =some k:=⟨_,List.getElem?_eq_getElem (by omega)⟩;have hv:vs[0]? =some vs[0]:=List.getElem?_eq_getElem hne;have ru:RelV vs[0] u:=by obtain ⟨u',e1,e2⟩:=rv.get hv;rw[hu] at e1;cases e1;exact e2
 show wpAny _ X.A.in1 (tryCatch (holding [u] (call (.ref f) [u])) _>>=_) _ _ _;refine wpAny_bind (wpAny_tryCatch (wpAny_holding (wpAny_mono (KV its rv 0 u k hu hk _ H _ I3 (aB.refl H)) (λ x s'' he=>?_) λ _ _ hF=>hF.elim)));obtain ⟨v2,H2,I4,L6,rfl,uJ⟩:=he;obtain ⟨t2,rfl⟩:=L6;have OM:=I4.pin (S,seqObj "list" #[] 0) (List.mem_append_right _ (.head _));have V6:=I4.pin (It,Ef) (List.mem_append_right _ (.tail _ (.head _)));have u1:=Heap.SameBut.update s''.heap S (Obj.mapSeq λ _=> #[u,.int k t2]);obtain ⟨c2,hc2⟩:∃c2,(s''.heap.update S (Obj.mapSeq λ _=> #[u,.int k t2])).get? S=some (seqObj "list" #[u,.int k t2] c2):=⟨_,get?_update_seq OM.1 λ _=> #[u,.int k t2]⟩;have I5:=gR (t':=s''.toks) I4 (zq fS OM.2.1 (Ne.symm hSI)) u1 hc2 iA;show wpAny _ X.A.in1 (updateSeq S (λ _=> #[u,.int k t2])>>=_) _ _ _;refine wpAny_bind ?_;refine wpAny_updateSeq OM.1 rfl ?_;rw[hname];have hm:gO kz=gO.go 0 k 1 (kz.drop 1):=by
  cases kz with
  |nil=>cases hk
  |cons k' r=>cases hk;rfl
 exact wpAny_pure ⟨plainId_quiet PySem.F.plain_min_loop _,G4 (E:=E) KV hlen hh sq fS fI hSI hlI hQ _ 0 0 H2 _ u vs[0] k t2 c2 Ef rfl hne I5 uJ ⟨Ef,(u1.2 It (Ne.symm hSI)).trans V6.1,hoc,hod⟩ hv ru hm⟩
def Kg{k:Nat}{N':List Str}{params:Arguments}{body:Expr}{scope:Scope}{jv kp p0 pos:Pos}{fk:Sg->Res D}{e:Expr}{fa:Sg->Res (List D)}(L:RT X ct k N' caps params body scope jv fk)(hm:X.mg "min"=none)(ha:Qv X ct [e] fa)(hg:Gl X "min":=by rfl) (he:starEach [e] X.env=[(false,eval e X.env)]:=by rfl):PD X ct (.Call (.Name "min" p0) [e] [⟨some "key",.Lambda params body scope jv,kp⟩] pos) (zz fa caps fk):=by
 rintro pins s σ H Q I ⟨Γ,j,h⟩
 obtain ⟨_,_,_,_,_,_,_,_,_,_,_,_,hr,_⟩:=L.out;refine zJ (id:="min") L hm ha hg (by decide+kernel) (by decide) (by decide) he I j ?_;unfold zz at h;refine h.bnd λ ds hds h' us0 us H1 s1 f sm t rv I1 KA=>?_;unfold Cj at h';split at h'
 ·rename_i d;split at h'
  ·rename_i xs hxs;split at h'
   ·exact h'.elim
   ·rename_i x0 xr;obtain ⟨v,rfl,t1⟩:=mF t;obtain ⟨u,rfl,ru⟩:=vals1 rv;have j1:=j.mono sm;obtain ⟨a,ws,rfl,sq,tw⟩:=t1.fX j1.lL j1.lB hxs;cases ru;cases hk:eN (λ x=>fk (lE x caps Γ)) (x0::xr) with
    |some kz=>
     rw[hk] at h';simp only at h';have lk:kz.length=ws.length:=by rw[n5 hk,tw.length]
     split at h'
     ·rename_i d' hd';replace h':Wd X ct H Q d':=h';refine ES (λ its Xp=>KA X.A.in1 (x0::xr) ws its kz hr.hd I1.ok.frames ⟨hr.hd,by have:=hr.dp;show X.A.depth+3*(k+1)+5<recursionLimit;omega,by have:=hr.un;show X.A.units+1+16*(k+1)+200<cLine;omega⟩ tw Xp hk) I1 lk (by rw[<-tw.length];simp) hr.hd (λ H2 s2=>?_) λ v H' ev Rh=>?_
      ·obtain ⟨a',ws',e1,Zo,tw2⟩:=(t1.keep (aB.keep s2)).fX (j1.mono s2).lL (j1.mono s2).lB hxs;cases e1;rcases sq with (z|⟨o,z⟩)|z
       ·exact .inl (.inl (s2 _ _ z))
       ·exact .inl (.inr ⟨o,s2 _ _ z⟩)
       ·exact .inr z
      ·obtain ⟨v',e1,tv⟩:=tw.get hd';rw[ev] at e1;cases e1;exact h' v H' (sm.trans Rh) (tv.keep (aB.keep Rh))
     ·exact h'.elim
    |none=>rw[hk] at h';exact h'.elim
  ·exact h'.elim
 ·exact h'.elim
end
end L4
end
section
namespace L4
open PySem PySem.Spec PyProof.Rows L2
section
variable{X:Cx}{c:Cf}{ct:Ct}{st:Stmt}{F:Sg->Out}{a b e:Expr}{f g:Sg->Res D}{pos:Pos}
def Og(i:Nat)(h:YV X c st F):YV X c st (L3 i F):=by
 rintro pins s σ H E I ⟨Γ,j,hf⟩
 unfold L3 at hf;split at hf
 ·rename_i ds hg;obtain ⟨S,sg,chg⟩:=j.chg i;obtain ⟨v,S0,g1,_⟩:=j.own hg;have hsl:=sg _ _ hg g1;obtain ⟨v',e1,ow,so,n0⟩:=hsl;cases e1;obtain ⟨H',z,t⟩:=L4.Inv.zm (ct:=c.z) (m:= .l ds) rfl I ow n0;have j':=chg H' (.val (.lst ds)) (some v) (λ _=>False) z.keep z.un z.free (λ _ _ q=>nomatch q) ⟨⟨v,rfl,t⟩,λ _ w=>w⟩ λ _ w=>w.elim;have es:σ.set i (some v)=σ:=by
   apply List.ext_getElem?;intro k;by_cases hk:i=k
   ·subst hk;have hi:=(List.getElem?_eq_some_iff.mp g1).1;rw[List.getElem?_set_self hi,g1]
   ·rw[List.getElem?_set_ne hk]
  rw[es] at j';exact h pins s σ H' E z.inv ⟨_,j',Fn.mono z.keep hf⟩
 ·exact hf.elim
def SX(K:W.Frag):R2:=λ x y H Q=>∃l v n,x= .ref l/\y= .int n/\fZ K H l [v]/\(0<=n/\n<=100000)/\∀p,H p=none->Q (.ref p) (upd H p (.lst (List.replicate n.toNat v)))
theorem xV{v:V}{u:Value}(r:RelV v u):∀n,Vals (List.replicate n v) (List.replicate n u)
 |0=> .nil
 |n+1=> .cons r (xV r n)
def Oi:oG X (binaryOp .Mult) (SX X.K):=by
 intro pins s σ H x y v u Q I rx ry h;obtain ⟨l,w,n,rfl,rfl,hH,hn,q⟩:=h;cases rx;obtain ⟨t,rfl⟩:=ry;obtain ⟨its,r,⟨⟨oc,od,odt,osl⟩,k,e,hc,_,hd⟩,_⟩:=I.list hH;simp only at hc hd;subst hc hd;obtain ⟨u,rfl,ru⟩:∃u,its=[u]/\RelV w u:=by
  cases r with
  |cons r1 r2=>cases r2;exact ⟨_,rfl,r1⟩
 have hs: #[u].size*n.toNat<=100000:=by have: #[u].size=1:=rfl;rw[this];omega
 refine wpAny_binaryOp_repeat_ref (T:="list") (U:="int") (by decide) ⟨_,e,rfl⟩ (λ s'=>typeIs_int s' n t) noFill_list_mul PySem.F.fills_int_mul PySem.F.slot_int_rmul repeat_list PySem.F.slot_int_index.lookup
  (call_meets PySem.F.slot_int_rmul (typeIs_int s n t) PySem.F.entry_int_rmul (PySem.F.args_int_rmul_2 _ _) (lm_int_rmul_list_any n t l [u].toArray k od osl) ⟨e,rfl,⟨_,e,rfl⟩,call_meets PySem.F.slot_list_mul ⟨_,e,rfl⟩ PySem.F.entry_list_mul (PySem.F.args_list_mul_2 _ _)
    (lm_list_mul_any l [u].toArray k od osl n t (by simp[Builtin.List.listFitsIndex];omega) (by omega) (by simp[Builtin.List.listTooLong,sizeLine];omega))
    ⟨e,?_⟩⟩)
 have ea:List.foldl (λ x1 x2=>x1++x2) #[] (List.replicate (if [u].toArray.isEmpty=true then 0 else n.toNat) [u].toArray)=(List.replicate n.toNat u).toArray:=by rw[listMul_foldl_if,lm_rep_flat_one]
 rw[ea];exact ⟨.ref _,_,I.Ua (t':=s.toks) (xV ru _) (by rw[List.length_replicate,sizeLine_eq];omega),rfl,q _ I.fresh⟩
end
theorem jV{K:W.Frag}{ct:Ct}{H:Hp}:∀{xs:List D} {zs:List Int} {vs:List V},gT xs=some zs->aN K ct H xs vs->vs=zs.map V.int
 |[],zs,vs,h,t=>by cases h;simpa[aN] using t
 |x::xs,zs,vs,h,t=>by
  cases x with
  |int i=>
   simp only[gT] at h;cases q:gT xs with
   |none=>rw[q] at h;cases h
   |some r=>rw[q] at h;cases h;simp only[aN,Tl] at t;obtain ⟨v,w,rfl,rfl,t⟩:=t;rw[jV q t];rfl
  |_=>cases h
theorem kY:∀{zs:List Int} {us:List Value},Vals (zs.map V.int) us->IntsAre us zs
 |[],_,.nil=> .nil
 |z::zs,_,.cons r t=>by obtain ⟨tk,rfl⟩:=r;exact .cons z tk (kY t)
section
variable{X:Cx}{ct:Ct}{o e:Expr}{f g:Sg->Res D}{apos cpos pos:Pos}
def Xk(K:W.Frag)(td ty:TE):TE:=λ σ H Q=>td σ H λ x H1=>∃(a:Addr) (zs:List Int),x= .ref a/\fZ K H1 a (zs.map V.int)/\ty σ H1 λ y H2=>∃k,y= .int k/\fZ K H2 a (zs.map V.int)/\Q (.int (zs.count k:Nat)) H2
def Gv{td ty:TE}(ho:PE X o td)(he:PE X e ty)(m:M1 X o "count" apos e cpos):PE X (.Call (.Attribute o "count" apos) [e] [] cpos) (Xk X.K td ty):=by
 intro pins s σ H Q I h;refine wpAny_Call_method m.base m.few m.line PySem.F.plainAttrs_list PySem.F.slot_list_count PySem.F.type_list_count (dm (ho pins s σ H _ I h) ?_)
 rintro u s1 ⟨x,H1,I1,rx,a,zs,rfl,sq,q1⟩
 obtain rfl:u=Value.ref a:=rx;obtain ⟨its,r,pl,hz⟩:=I1.list sq;obtain ⟨ob,n,e1,c1,d1,dt1⟩:=id pl;refine ⟨⟨ob,e1,c1⟩,λ b hb=>?_,?_⟩
 ·cases hb;exact ⟨ob,e1,d1⟩
 rw[m.trees];refine Calls.callWith_builtin rfl (Calls.evalArgs_plain (Calls.spliced_cons (dm (he pins s1 σ H1 _ I1 q1) ?_)))
 rintro iv s2 ⟨y,H2,I2,ry,k,rfl,Zo,q2⟩
 obtain ⟨tk,rfl⟩:=ry;refine Calls.spliced_nil ?_;obtain ⟨its2,r2,pl2,hz2⟩:=I2.list Zo;have ia:=kY r2;obtain ⟨o2,n2,e2,c2,d2,dt2⟩:=id pl2;exact count_list_ints ⟨o2,e2,c2,n2,dt2⟩ ia ⟨.int _,H2,I2.tok _,⟨_,rfl⟩,q2⟩
def GA(ha:PD X ct o f)(hb:PD X ct e g)(m:M1 X o "count" apos e cpos:=by exact ⟨rfl,rfl,rfl,rfl⟩):
  PD X ct (.Call (.Attribute o "count" apos) [e] [] cpos) (sM f g):=by
 refine λ pins s σ H Q I=>ah λ Γ j hh=>?_;refine Gv ha hb m pins s σ H Q I ?_;refine oi.bnd j hh λ x v H1 s1 t1 j1 q1=>?_;split at q1
 ·rename_i zs e0;cases ex:qe x with
  |none=>rw[ex] at e0;cases e0
  |some xs=>
  rw[ex] at e0;obtain ⟨l,vs,rfl,r1,r2⟩:=t1.fX j1.lL j1.lB ex;have ev:=jV (zs:=zs) (by simpa using e0) r2;subst ev;refine ⟨l,zs,rfl,r1,?_⟩;refine oi.bnd (f:=g) (W:=Wd X ct H Q) j1 (Ok.mono s1 q1 λ _ z=>z) λ y u H2 s2 t2 j2 q2=>?_;unfold Qe at q2;split at q2
  ·rename_i k;simp only[Tl] at t2;subst t2;obtain ⟨l',vs',ea,w1,w2⟩:=(t1.keep (aB.keep s2)).fX j2.lL j2.lB ex;cases ea;have ev:=jV (zs:=zs) (by simpa using e0) w2;subst ev;exact ⟨k,rfl,w1,q2 _ H2 (s1.trans s2) (by simp[Tl])⟩
  ·exact q2.elim
 ·exact q1.elim
end
def QB(K:W.Frag)(a:Addr)(N:Nat):It:=⟨λ i H=>∃xs x,fZ K H a xs/\xs.length=N/\xs[i]? =some x,λ i H x H'=>∃p v,H p=none/\(∀xs,fZ K H a xs->xs[i]? =some v)/\x= .ref p/\H'=upd H p (.tup [.int i,v]),λ i H=>∃xs,fZ K H a xs/\xs.length=N/\N<=i⟩
def pC{h:Heap}{e it a:Addr}{i:Int}{j:Nat}{old:Value}{items:Array Value}(h1:IsEnum h e it i old)(h2:h.IsListIter it a j)(h3:h.IsList a items):e≠it/\e≠a/\a≠it:=by
 revert h2;refine aH λ o2 g2 c2 d2=>?_
 revert h3;refine aH λ o3 g3 c3 _=>?_
 refine aV (λ z=>?_) (λ z=>?_) (λ z=>?_)
 ·subst z;rw[h1] at g2;cases g2;exact Jy (by decide) c2
 ·subst z;rw[h1] at g3;cases g3;exact Jy (by decide) c3
 ·subst z;rw[g2] at g3;cases g3;rw[c2] at c3;exact Jy (by decide) c3
def Ae{P:Program}{w:World}{K:W.Frag}{elts:List Expr}{c:Nat}{pos:Pos}(a e it:Addr)(N:Nat):Turn P w K (.Tuple elts c pos) (QB K a N) [e,it] e (λ i h=>(∃old,IsEnum h e it (i:Nat) old)/\h.IsListIter it a i/\i<=N) where
 mem:=by simp
 obj:=λ i h st b hb=>by
  revert st;refine bg λ z1 z2 _=>?_;obtain ⟨old,h1⟩:=z1;revert z2;refine aH λ o e2 c2 d2=>?_
  simp only[List.mem_cons,List.mem_singleton,List.not_mem_nil,or_false] at hb
  rcases hb with rfl|rfl
  ·exact af _ h1 (λ v z=>by cases z)
  ·exact af o e2 (λ v z=>by rw[d2] at z;cases z)
 keep:=λ i h h' st k=>by
  revert st;refine bg λ z1 h2 h3=>?_;obtain ⟨old,h1⟩:=z1
  exact aV ⟨old,k e (by simp) _ h1⟩ (h2.at λ o z=>k it (by simp) o z) h3
 item:=by
  intro X hP hw hK hc i pins s σ H E I hf st hg
  subst hP hw hK
  revert st;refine bg λ z1 h2 h3=>?_;obtain ⟨old,h1⟩:=z1
  revert hg;refine aq λ xs x hq hN hx=>?_
  refine aH (λ its rv p hz=>?_) (I.list hq)
  refine ah (λ u hu ru=>?_) (rv.get hx)
  have hl:=rv.length
  have p':s.heap.IsList a its.toArray:=p.isList
  refine bg (λ n1 n2 n3=>?_) (pC h1 h2 p')
  have hi:i<its.toArray.size:=by
   have:=(List.getElem?_eq_some_iff.mp hu).1
   simpa using this
  refine wpAny_pyNext_enum_itemD (Draws.list (A:=X.A.in1) (prog:=X.prog) (w:=X.w) (I.ok.hd hc) it a n3 its.toArray) h1 ⟨h2,p'⟩ hi n1 (by simp[n1,n2]) λ y h' tk hy ho st' hT hsz kk=>?_
  have ey:y=u:=by
   rw[List.getElem?_toArray,hu] at hy;exact (Option.some.inj hy).symm
  subst ey
  refine af _ rfl (wpAny_letOwnedTupleGo_enum ho λ EH Yt sb=>?_)
  have ZV:s.heap.objs.size≠e:=Nat.ne_of_gt (Heap.lt_size h1)
  have hT2:EH.get? s.heap.objs.size=some {cls:= .type "tuple",data:= .seq #[.int i tk,y]}:=(sb.2 _ ZV).trans hT
  have hfp:=λ b (hb:b∈[e,it])=>hf b hb
  have I2:Inv X pins σ (upd H s.heap.objs.size (.tup [.int i,x])) {s with heap:=EH,toks:=tk+1}:=by
   refine uC (ch:=[e,it]) I (λ b o hb q=>?_) hfp (Nat.le_refl _) (⟨by simp[sizeLine_eq],af [.int i tk,y] (.cons ⟨tk,rfl⟩ (.cons ru .nil)) (aY _ hT2 rfl ⟨0,rfl⟩)⟩)
   simp only[List.mem_cons,List.not_mem_nil,or_false,not_or] at hb
   exact (sb.2 b hb.1).trans (kk b o hb.1 hb.2 q)
  refine bN (.ref s.heap.objs.size) _ I2 rfl (bh _ x (I.hok.fresh (Nat.le_refl _)) (λ ys hys=>by rw[I.jN hys hq];exact hx) rfl rfl) (aV ⟨_,Yt⟩ ?_ ?_) (λ b hb=>?_)
  ·exact st'.1.at λ o z=>(sb.2 it (Ne.symm n1)).trans z
  ·have:=(List.getElem?_eq_some_iff.mp hx).1;omega
  ·have hb0:=hfp b hb
   rw[aE]
   ·exact hb0.1
   ·intro z
    simp only[List.mem_cons,List.not_mem_nil,or_false] at hb
    rcases hb with rfl|rfl
    ·exact ZV z.symm
    ·revert h2;refine ah λ o2 g2 _=>?_
     exact absurd z (Nat.ne_of_lt (Heap.lt_size g2))
 done:=by
  intro X hP hw hK hc i pins s σ H E I hf st hg
  subst hP hw hK
  revert st;refine bg λ z1 h2 h3=>?_;obtain ⟨old,h1⟩:=z1
  revert hg;refine aH λ xs hq hN hi=>?_
  refine aH (λ its rv p hz=>?_) (I.list hq)
  have hl:=rv.length
  have p':s.heap.IsList a its.toArray:=p.isList
  refine bg (λ n1 n2 n3=>?_) (pC h1 h2 p')
  have ei:i=its.toArray.size:=by simp;omega
  subst ei
  refine wpAny_pyNext_enum_endD (Draws.list (A:=X.A.in1) (prog:=X.prog) (w:=X.w) (I.ok.hd hc) it a n3 its.toArray) h1 ⟨h2,p'⟩ λ h' eb=>⟨rfl,?_⟩
  exact BG (ch:=[it]) (t':=s.toks) I (λ b o hb q=>eb b o (by simpa using hb) q) λ b hb=>hf b (by simp only[List.mem_singleton] at hb;subst hb;simp)
 self:=λ _ _ _ _ _ st h=>by
  obtain ⟨⟨old,h1⟩,_⟩:=st
  exact wpAny_pyIter_enum h1 h
def QA(K:W.Frag)(l1 l2:Addr):It:=⟨λ i H=>∃xs ys x y,fZ K H l1 xs/\fZ K H l2 ys/\xs[i]? =some x/\ys[i]? =some y,λ i H x H'=>∃p v u,H p=none/\(∀xs,fZ K H l1 xs->xs[i]? =some v)/\(∀ys,fZ K H l2 ys->ys[i]? =some u)/\x= .ref p/\H'=upd H p (.tup [v,u]),λ i H=>∃xs ys,fZ K H l1 xs/\fZ K H l2 ys/\(xs[i]? =none\/ys[i]? =none)⟩
def MW(n l1 l2:Addr)(i:Nat)(h:Heap):Prop:=IsZip h (n+4) (n+2) (n+3) .none/\IsPair h (n+2) (.ref n) (.ref (n+1))/\(∃a b,IsPair h (n+3) a b)/\h.IsListIter n l1 i/\h.IsListIter (n+1) l2 i
def fT{h:Heap}{l b:Addr}{xs:Array Value}{o:Obj}{T:String}(hl:h.IsList l xs)(hb:h.get? b=some o)(hc:o.cls= .type T)(hT:"list"≠T):l≠b:=by obtain ⟨o2,g2,c2,_⟩:=hl;intro z;subst z;rw[hb] at g2;cases g2;rw[hc] at c2;exact Jy hT c2.symm
def sS{h:Heap}{n l1 l2:Addr}{i:Nat}{xs ys:Array Value}(st:MW n l1 l2 i h)(h1:h.IsList l1 xs)(h2:h.IsList l2 ys):ZipApart (n+4) (n+2) (n+3) n (n+1) l1 l2:=by
 obtain ⟨hz,hTI,⟨a,b,hTO⟩,⟨o1,g1,c1,_⟩,⟨o2,g2,c2,_⟩⟩:=st;constructor;all_goals first
  |exact fT h1 hz rfl (by decide)
  |exact fT h2 hz rfl (by decide)
  |exact fT h1 hTO rfl (by decide)
  |exact fT h2 hTO rfl (by decide)
  |exact fT h1 g1 c1 (by decide)
  |exact fT h2 g1 c1 (by decide)
  |exact fT h1 g2 c2 (by decide)
  |exact fT h2 g2 c2 (by decide)
  |exact Nat.ne_of_lt (by omega)
  |exact Nat.ne_of_gt (by omega)
def FN{P:Program}{w:World}{K:W.Frag}{elts:List Expr}{c:Nat}{pos:Pos}(n l1 l2:Addr):Turn P w K (.Tuple elts c pos) (QA K l1 l2) [n+4,n+2,n+3,n,n+1] (n+4) (MW n l1 l2) where
 mem:=by simp
 obj:=λ i h st b hb=>by
  obtain ⟨hz,hTI,⟨a,b',hTO⟩,⟨o1,g1,c1,d1⟩,⟨o2,g2,c2,d2⟩⟩:=st
  simp only[List.mem_cons,List.not_mem_nil,or_false] at hb
  rcases hb with rfl|rfl|rfl|rfl|rfl
  ·exact ⟨_,hz,λ v z=>by cases z⟩
  ·exact ⟨_,hTI,λ v z=>by cases z⟩
  ·exact ⟨_,hTO,λ v z=>by cases z⟩
  ·exact ⟨_,g1,λ v z=>by rw[d1] at z;cases z⟩
  ·exact ⟨_,g2,λ v z=>by rw[d2] at z;cases z⟩
 keep:=λ i h h' st k=>by
  obtain ⟨hz,hTI,⟨a,b',hTO⟩,h1,h2⟩:=st
  exact ⟨k _ (by simp) _ hz,k _ (by simp) _ hTI,⟨a,b',k _ (by simp) _ hTO⟩,h1.at λ o z=>k _ (by simp) o z,h2.at λ o z=>k _ (by simp) o z⟩
 item:=by
  intro X hP hw hK hc i pins s σ H E I hf st hg
  subst hP hw hK
  obtain ⟨xs,ys,x,y,q1,q2,hx,hy⟩:=hg
  obtain ⟨Um,VM,p1,hz1⟩:=I.list q1
  obtain ⟨its2,L6,p2,hz2⟩:=I.list q2
  obtain ⟨u1,hu1,ru1⟩:=VM.get hx
  obtain ⟨u2,hu2,ru2⟩:=L6.get hy
  have D:=sS st p1.isList p2.isList
  obtain ⟨hz,hTI,⟨a,b',hTO⟩,h1,h2⟩:=st
  refine wpAny_pyNext_zip_item D hz hTI hTO h1 h2 p1.isList p2.isList (x:=u1) (y:=u2) (by simpa using hu1) (by simpa using hu2) λ h' a1 a2 a3 a4 a5 a6 hk=>?_
  refine af _ rfl (wpAny_letOwnedTupleGo_zip a1 λ EH Yk sb=>?_)
  have lt:∀{c:Addr} {o:Obj},s.heap.get? c=some o->s.heap.objs.size≠c:=λ e=>Nat.ne_of_gt (Heap.lt_size e)
  have hT2:IsPair EH s.heap.objs.size u1 u2:=(sb.2 _ (lt hz)).trans a5
  have I2:Inv X pins σ (upd H s.heap.objs.size (.tup [x,y])) {s with heap:=EH,toks:=s.toks}:=by
   refine uC (ch:=[n+4,n+2,n+3,n,n+1]) I (λ b o hb q=>?_) hf (Nat.le_refl _) (⟨by simp[sizeLine_eq],af [u1,u2] (.cons ru1 (.cons ru2 .nil)) (aY _ hT2 rfl ⟨0,rfl⟩)⟩)
   simp only[List.mem_cons,List.not_mem_nil,or_false,not_or] at hb
   exact (sb.2 b hb.1).trans (hk b o hb.1 hb.2.2.1 hb.2.2.2.1 hb.2.2.2.2 q)
  refine bN (.ref s.heap.objs.size) _ I2 rfl ⟨_,x,y,I.hok.fresh (Nat.le_refl _),λ zs hzs=>by rw[I.jN hzs q1];exact hx,λ zs hzs=>by rw[I.jN hzs q2];exact hy,rfl,rfl⟩
   ⟨Yk,(sb.2 _ D.TIz).trans (hk _ _ D.TIz D.TITO D.TIi1 D.TIi2 hTI),⟨_,_,(sb.2 _ D.TOz).trans a2⟩,a3.at λ o z=>(sb.2 _ D.i1z).trans z,a4.at λ o z=>(sb.2 _ D.i2z).trans z⟩ (λ b hb=>?_)
  have hb0:=hf b hb
  rw[aE]
  ·exact hb0.1
  ·obtain ⟨o1,g1,_⟩:=h1
   obtain ⟨o2,g2,_⟩:=h2
   simp only[List.mem_cons,List.not_mem_nil,or_false] at hb
   rcases hb with rfl|rfl|rfl|rfl|rfl
   ·exact (lt hz).symm
   ·exact (lt hTI).symm
   ·exact (lt hTO).symm
   ·exact (lt g1).symm
   ·exact (lt g2).symm
 done:=by
  intro X hP hw hK hc i pins s σ H E I hf st hg
  subst hP hw hK
  obtain ⟨xs,ys,q1,q2,he⟩:=hg
  obtain ⟨Um,VM,p1,hz1⟩:=I.list q1
  obtain ⟨its2,L6,p2,hz2⟩:=I.list q2
  have l1':=VM.length
  have l2':=L6.length
  have D:=sS st p1.isList p2.isList
  obtain ⟨hz,hTI,⟨a,b',hTO⟩,h1,h2⟩:=st
  refine wpAny_pyNext_zip_end (I.ok.hd hc) D hz hTI hTO h1 h2 p1.isList p2.isList ?_ λ h' hk=>⟨rfl,?_⟩
  ·rcases he with he|he
   ·left;rw[List.getElem?_eq_none_iff] at he;rw[List.getElem?_toArray,List.getElem?_eq_none_iff];omega
   ·right;rw[List.getElem?_eq_none_iff] at he;rw[List.getElem?_toArray,List.getElem?_eq_none_iff];omega
  ·refine BG (ch:=[n+4,n+2,n+3,n,n+1]) (t':=s.toks) I (λ b o hb q=>?_) hf
   simp only[List.mem_cons,List.not_mem_nil,or_false,not_or] at hb
   exact hk b o hb.1 hb.2.2.1 hb.2.2.2.1 hb.2.2.2.2 q
 self:=λ _ _ _ _ _ st h=>wpAny_pyIter_zip st.1 h
section
variable{X:Cx}{ct:Ct}{elts:List Expr}{cx:Nat}{tp:Pos}
def Ye(K:W.Frag)(ta:TA):TI:=λ σ H R=>ta σ H λ vs H1=>∃a b xs ys,vs=[.ref a,.ref b]/\fZ K H1 a xs/\fZ K H1 b ys/\R (QA K a b) H1
def boot_zip:bootBuiltins "zip"=some (.type "zip"):=by decide+kernel
def N3{a b:Expr}{ta:TA}{p pos:Pos}(hg:Gl X "zip")(hm:X.mg "zip"=none)(ha:PA X [a,b] ta)(hs:starEach [a,b] X.env=[(false,eval a X.env),(false,eval b X.env)]:=by rfl)(hs2:starEach [b] X.env=[(false,eval b X.env)]:=by rfl):
  PI X (.Tuple elts cx tp) (.Call (.Name "zip" p) [a,b] [] pos) (Ye X.K ta):=by
 intro pins s σ H R I h;refine Call_ (gP I hg hm boot_zip (PyProof.Rows.callWith_type1 (dm (ha pos pins s σ H _ I h) λ us s1 z_=>tY z_ λ vs H1 I1 r1 q1=>?_) (by rw[hs,hs2]) (by rw[hs2];rfl)));obtain ⟨l1,l2,xs,ys,e,k1,k2,q⟩:=q1;subst e;cases r1 with
 |cons r rr=>
  cases rr with
  |cons r' rr=>
   cases rr;cases r;cases r';obtain ⟨Um,VM,p1,hz1⟩:=I1.list k1;obtain ⟨its2,L6,p2,hz2⟩:=I1.list k2;refine call_zip_2 p1.isList p2.isList λ h' a1 a2 a3 a4 a5 a6 k=>?_;refine wpAny_pyIter_zip a1 ?_;refine jF (s1.heap.objs.size+4) [s1.heap.objs.size+4,s1.heap.objs.size+2,s1.heap.objs.size+3,s1.heap.objs.size,s1.heap.objs.size+1] _ _ H1 rfl (I1.kept (t':=s1.toks) k) (FN s1.heap.objs.size l1 l2) ⟨a1,a2,⟨_,_,a3⟩,a4,a5⟩ (λ b hb=>?_) q;have hle:s1.heap.objs.size<=b:=by simp only[List.mem_cons,List.not_mem_nil,or_false] at hb;rcases hb with rfl|rfl|rfl|rfl|rfl<;>first|exact Nat.le_refl _|exact Nat.le_add_right _ _
   exact I1.oh hle (I1.hok.fresh hle)
def KQ{K:W.Frag}{H:Hp}{a b:Addr}{vs us:List V}{xs ys:List D}(f1:∀H1,aX ct.f.cb H H1->fZ K H1 a vs)(f2:∀H1,aX ct.f.cb H H1->fZ K H1 b us)(t1:aN K ct H xs vs)(t2:aN K ct H ys us):
  xP K ct (QA K a b) ((xs.zip ys).map λ p=> .tup [p.1,p.2]) H:=by
 have e1:=t1.length;have e2:=t2.length;refine bW (λ H1=>aX ct.f.cb H H1) (aX.refl H) (λ H1 H2 k1 k2 _ _=>k1.trans k2) (λ i d H1 k1 hd=>?_) (λ i H1 k1 hi=>⟨vs,us,f1 H1 k1,f2 H1 k1,?_⟩)
 ·rw[List.getElem?_map] at hd;cases hz:(xs.zip ys)[i]? with
  |none=>rw[hz] at hd;cases hd
  |some p=>
   rw[hz] at hd;simp only[Option.map_some,Option.some.injEq] at hd;subst hd;rw[List.getElem?_zip_eq_some] at hz;obtain ⟨v,hv,tv⟩:=t1.get hz.1;obtain ⟨u,hu,tu⟩:=t2.get hz.2;refine ⟨⟨vs,us,v,u,f1 H1 k1,f2 H1 k1,hv,hu⟩,?_⟩
   rintro y H2 ⟨q,v',u',hp,hv',Ym,ey,eH⟩
   have z1:=hv' vs (f1 H1 k1);have z2:=Ym us (f2 H1 k1);rw[hv] at z1;cases z1;rw[hu] at z2;cases z2;subst ey eH;have sm:=bC (H:=H1) hp (.tup [v,u]);refine ⟨sm,?_⟩;simp only[Tl];exact ay q _ rfl aJ (aN.cons ((tv.keep k1).keep (aB.keep sm)) (aN.cons ((tu.keep k1).keep (aB.keep sm)) aN.nil))
 ·simp only[List.length_map,List.length_zip] at hi;rcases Nat.le_total xs.length ys.length with h|h
  ·left;rw[List.getElem?_eq_none_iff];omega
  ·right;rw[List.getElem?_eq_none_iff];omega
def J9{a b:Expr}{r:Sg->Res (List D)}{p pos':Pos}(hm:X.mg "zip"=none)(ha:Qv X ct [a,b] r)(AZ:Gl X "zip":=by rfl)(hs:starEach [a,b] X.env=[(false,eval a X.env),(false,eval b X.env)]:=by rfl)(hs2:starEach [b] X.env=[(false,eval b X.env)]:=by rfl):
  RS X ct (.Tuple elts cx tp) (.Call (.Name "zip" p) [a,b] [] pos') (K5 r):=by
 refine λ pins s σ H R I=>ah λ Γ j h=>?_;refine N3 AZ hm ha hs hs2 pins s σ H R I (af Γ j (h.bnd λ ds _ q vs H' s tl=>?_));unfold Vx at q;split at q
 ·rename_i xs ys _;replace q:∀J H',aB H H'->xP X.K ct J ((xs.zip ys).map λ p=> .tup [p.1,p.2]) H'->R J H':=q;simp only[aN,Tl] at tl;obtain ⟨v1,r1,rfl,⟨b1,us1,rfl,hb1,t1⟩,v2,r2,rfl,⟨b2,us2,rfl,hb2,t2⟩,rfl⟩:=tl;exact ⟨b1,b2,us1,us2,rfl,hb1.sq,hb2.sq,q _ H' s (KQ (λ H1 k=>(k.HM hb1).sq) (λ H1 k=>(k.HM hb2).sq) t1 t2)⟩
 ·exact q.elim
def Ur(K:W.Frag)(ta:TA):TI:=λ σ H R=>ta σ H λ vs H1=>∃a xs,vs=[.ref a]/\fZ K H1 a xs/\R (QB K a xs.length) H1
def Gm{a:Expr}{ta:TA}{p pos:Pos}(hg:Gl X "enumerate")(hm:X.mg "enumerate"=none)(ha:PA X [a] ta)(hs:starEach [a] X.env=[(false,eval a X.env)]:=by rfl):PI X (.Tuple elts cx tp) (.Call (.Name "enumerate" p) [a] [] pos) (Ur X.K ta):=by
 intro pins s σ H R I h;refine Call_ (gP I hg hm boot_enumerate (PyProof.Rows.callWith_type1 (dm (ha pos pins s σ H _ I h) λ us s1 z_=>tY z_ λ vs H1 I1 r1 q1=>?_) hs rfl));obtain ⟨l,xs,e,hq,q⟩:=q1;subst e;cases r1 with
 |cons r rr=>
  cases rr;cases r;obtain ⟨its,rv,p,hz⟩:=I1.list hq;refine call_enumerate_list p.isList λ h' he hit _ k=>?_;refine wpAny_pyIter_enum he ?_;refine jF (s1.heap.objs.size+1) [s1.heap.objs.size+1,s1.heap.objs.size] _ _ H1 rfl (I1.kept (t':=s1.toks) k) (Ae l _ _ xs.length) (aV ⟨_,he⟩ hit (Nat.zero_le _)) (λ b hb=>?_) q;simp only[List.mem_cons,List.not_mem_nil,or_false] at hb;rcases hb with rfl|rfl
  ·exact I1.oh (Nat.le_succ _) (I1.hok.fresh (Nat.le_succ _))
  ·exact I1.oh (Nat.le_refl _) (I1.hok.fresh (Nat.le_refl _))
def Ez{K:W.Frag}{H:Hp}{a:Addr}{vs:List V}{xs:List D}(fz:∀H1,aX ct.f.cb H H1->fZ K H1 a vs)(t:aN K ct H xs vs):xP K ct (QB K a vs.length) (eT 0 xs) H:=by
 refine bW (λ H1=>aX ct.f.cb H H1) (aX.refl H) (λ H1 H2 k1 k2 _ _=>k1.trans k2) (λ i d H1 k1 hd=>?_) (λ i H1 k1 hi=>aY vs (fz H1 k1) rfl (by rw[tZ] at hi;rw[<-t.length];exact hi));rw[t9,Nat.zero_add] at hd;cases hx:xs[i]? with
 |none=>rw[hx] at hd;cases hd
 |some x=>rw[hx] at hd;simp only[Option.map_some,Option.some.injEq] at hd;subst hd;refine ah (λ v hv tv=>?_) (t.get hx);refine ⟨ay vs v (fz H1 k1) rfl hv,?_⟩;refine λ y H2=>aL λ p v' hp hv' ey eH=>?_;have e2:=hv' vs (fz H1 k1);rw[hv] at e2;cases e2;subst ey eH;have sm:=bC (H:=H1) hp (.tup [.int i,v]);refine ⟨sm,?_⟩;simp only[Tl];exact ay p _ rfl aJ (aN.cons (by simp[Tl]) (aN.cons ((tv.keep k1).keep (aB.keep sm)) aN.nil))
def D5{a:Expr}{r:Sg->Res (List D)}{p pos':Pos}(hm:X.mg "enumerate"=none)(ha:Qv X ct [a] r)(AZ:Gl X "enumerate":=by rfl)(hs:starEach [a] X.env=[(false,eval a X.env)]:=by rfl):
  RS X ct (.Tuple elts cx tp) (.Call (.Name "enumerate" p) [a] [] pos') (rB r):=by
 refine λ pins s σ H R I=>ah λ Γ j h=>?_;refine Gm AZ hm ha hs pins s σ H R I (af Γ j (h.bnd λ ds _ q vs H' s tl=>?_));unfold A9 at q;split at q
 ·rename_i xs _;replace q:∀J H',aB H H'->xP X.K ct J (eT 0 xs) H'->R J H':=q;refine ah (λ v z t1=>?_) (mF tl);subst z;simp only[Tl] at t1
  revert t1;refine aq λ b us z hb t2=>?_;subst z
  exact ay b us rfl hb.sq (q _ H' s (Ez (λ H1 k=>(k.HM hb).sq) t2))
 ·exact q.elim
end
end L4
end
section
namespace L4
open PySem PySem.Spec PyProof PyProof.Rows L2
def O5:List Int->Nat->Int
 |[],_=>0
 |z::_,0=>z
 |_::zs,i+1=>O5 zs i
theorem oU(v:Nat->Int):∀n,preSum v (n+1)=v 0+preSum (λ i=>v (i+1)) n
 |0=>by simp[preSum]
 |n+1=>by have:=oU v n;simp only[preSum] at this ⊢;omega
theorem qF:∀zs:List Int,preSum (O5 zs) zs.length=zs.sum
 |[]=>rfl
 |z::zs=>by rw[List.length_cons,oU,List.sum_cons];exact congrArg (z+ ·) (qF zs)
def HD{zs:List Int}(h:∀z∈zs,0<=z/\z<=1000000000000)(i:Nat):0<=O5 zs i/\O5 zs i<=1000000000000:=by
 induction zs generalizing i with
 |nil=>simp[O5]
 |cons z zs ih=>
  cases i with
  |zero=>exact h z (by simp)
  |succ i=>exact ih (λ z hz=>h z (by simp[hz])) i
theorem tK{v:Nat->Int}(h:∀i,0<=v i/\v i<=1000000000000):∀n:Nat,0<=preSum v n/\preSum v n<=n*1000000000000
 |0=>by simp[preSum]
 |n+1=>by have:=tK h n;have:=h n;simp only[preSum];omega
theorem CA:∀{us:List Value} {zs:List Int} {i:Nat} {v:Value},IntsAre us zs->us[i]? =some v->∃t,v= .int (O5 zs i) t
 |_,_,0,v,.cons n t h,e=>by simp only[List.getElem?_cons_zero,Option.some.injEq] at e;exact ⟨t,e.symm⟩
 |_,_,i+1,v,.cons n t h,e=>by rw[List.getElem?_cons_succ] at e;have:=CA (i:=i) h e;exact this
section
variable{X:Cx}{ct:Ct}{a b e:Expr}{f g:Sg->Res D}{p pos:Pos}
def ER(hc:X.calm=true):pI X (.builtin "sum") (λ xs H Q=>∃(l:Addr) (zs:List Int),xs=[.ref l]/\fZ X.K H l (zs.map V.int)/\((∀z∈zs,0<=z/\z<=1000000000000)/\zs.length<=100000)/\Q (.int zs.sum) H):=by
 intro pins s σ H xs us Q I r h;obtain ⟨l,zs,rfl,hs,hz,q⟩:=h;refine ah (λ u z ru=>?_) (vals1 r);subst z;cases ru;obtain ⟨its,ri,pl,_⟩:=I.list hs;have hl:s.heap.IsList l its.toArray:=pl.isList;have hi:=kY ri;have ln:its.length=zs.length:=by have:=ri.length;simpa using this.symm
 refine call_sum_walk (wpAny_pyIter_list hl ?_);obtain ⟨o,g1,c1,n1,d1⟩:=id hl;have ne:l≠s.heap.objs.size:=Nat.ne_of_lt (Heap.lt_size g1);refine ⟨s.heap.objs.size,_,_,_,_,_,O5 zs,rfl,Walks.list (A:=X.A.in1) (I.ok.hd hc) s.heap.objs.size l ne its.toArray,⟨⟨_,Heap.get?_push_size _ rfl,rfl,rfl⟩,hl.at λ o z=>Heap.get?_push_of_some _ z⟩,λ c hb=>?_,λ i v hv=>?_,λ j hj=>?_,λ h' tk t' hk=>?_⟩
 ·simp only[List.mem_cons,List.not_mem_nil,or_false] at hb;rcases hb with rfl|rfl
  ·simp
  ·rw[Heap.size_push];exact Nat.lt_succ_of_lt (Heap.lt_size g1)
 ·exact CA hi (by simpa using hv)
 ·have q1:=HD hz.1 j;have q2:=tK (HD hz.1) (j+1);have:j+1<=100000:=by simp at hj;omega
  have q3:((j+1:Nat):Int)*1000000000000<=100000*1000000000000:=by omega
  unfold InLong;omega
 ·rw[show its.toArray.size=zs.length by simpa using ln,qF];refine ⟨.int zs.sum,H,I.kept (t':=tk) λ b o e=>hk b o ?_ (Heap.get?_push_of_some _ e),⟨_,rfl⟩,q⟩;simp only[List.mem_cons,List.not_mem_nil,or_false];exact Nat.ne_of_lt (Heap.lt_size e)
def Kf{fa:Sg->Res (List D)}(hc:X.calm=true)(hm:X.mg "sum"=none)(ha:Qv X ct [e] fa)(hg:Gl X "sum":=by rfl)(he:starEach [e] X.env=(false,eval e X.env)::starEach [] X.env:=by rfl):
  PD X ct (.Call (.Name "sum" p) [e] [] pos) (p6 DX fa):=by
 refine PE.imp (jG (ER hc) hg hm (by decide+kernel) ha (by decide) (by decide) he rfl) (CW λ σ H vs ds Q lL lB t h=>?_);unfold DX at h;split at h
 ·rename_i d;cases ex:qe d with
  |none=>rw[ex] at h;exact h.elim
  |some xs=>
  rw[ex] at h;cases ey:gT xs with
  |none=>simp only[Option.bind_some,ey] at h;exact h.elim
  |some zs=>
  simp only[Option.bind_some,ey] at h;split at h
  ·rename_i hz;simp only[Bool.and_eq_true,List.all_eq_true,decide_eq_true_eq] at hz;refine ah (λ v z tv=>?_) (mF t);subst z;refine aq (λ l us z h1 h2=>?_) (tv.fX lL lB ex);subst z;rw[jV ey h2] at h1;exact ⟨l,zs,rfl,h1,hz,h _ H (aB.refl H) (by simp[Tl])⟩
  ·exact h.elim
 ·exact h.elim
end
end L4
end
section
namespace L4
open PySem PySem.Spec PyProof.Rows L2 PySem.W
section
variable{X:Cx}{c:Cf}{ct:Ct}{st:Stmt}{F:Sg->Out}{a b e o:Expr}{f g:Sg->Res D}{fa r:Sg->Res (List D)}{p pos apos cpos:Pos}{elts:List Expr}{cx:Nat}{tp:Pos}
def Fq(i:Nat)(h:sQ X c st F):sQ X c st (L3 i F):=⟨Og i h.out⟩
def Fg(ha:WD X ct a f)(hb:WD X ct b g):WL X ct (.BinOp a .Mult b pos) (Ms sA f g):=by
 have ha:=ha.out;have hb:=hb.out;refine ⟨?_⟩;refine PE.imp (Gq Oi ha hb) ?_
 rintro σ H Q ⟨Γ,j,h⟩
 refine oi.bnd j h λ d1 v H1 s1 t1 j1 h1=>?_;refine oi.bnd (W:=Wl X ct H Q) j1 (Ok.mono s1 h1 λ _ z=>z) λ d2 u H2 s2 t2 j2 h2=>?_;have t1:=t1.keep (aB.keep s2);unfold sA at h2;split at h2
 ·rename_i d n e1;split at h2
  ·rename_i hn;obtain ⟨l,vs,rfl,q1,q2⟩:=t1.fX j2.lL j2.lB e1;obtain ⟨v0,rfl,t0⟩:=mF q2;simp only[Tl] at t2;subst t2;refine ⟨l,v0,n,rfl,rfl,q1,hn,λ p hp=>?_⟩;have s3:=bC hp (.lst (List.replicate n.toNat v0));refine h2 p _ _ ((s1.trans s2).trans s3) ((s1.trans s2).free hp) aJ ?_;have:∀k,aN X.K ct H2 (List.replicate k d) (List.replicate k v0):=λ k=>by
    induction k with
    |zero=>exact aN.nil
    |succ k ih=>exact aN.cons t0 ih
   exact (this _).keep (aB.keep s3)
  ·exact h2.elim
 ·exact h2.elim
def FA(ha:WD X ct o f)(hb:WD X ct e g)(m:M1 X o "count" apos e cpos:=by exact ⟨rfl,rfl,rfl,rfl⟩):WD X ct (.Call (.Attribute o "count" apos) [e] [] cpos) (sM f g):=⟨GA ha.out hb.out m⟩
def Jo(hm:X.mg "zip"=none)(ha:pN X ct [a,b] r)(AZ:Gl X "zip":=by rfl)(hs:starEach [a,b] X.env=[(false,eval a X.env),(false,eval b X.env)]:=by rfl)(hs2:starEach [b] X.env=[(false,eval b X.env)]:=by rfl):
  IM X ct (.Tuple elts cx tp) (.Call (.Name "zip" p) [a,b] [] pos) (K5 r):=⟨J9 hm ha.out AZ hs hs2⟩
def DP(hm:X.mg "enumerate"=none)(ha:pN X ct [a] r)(AZ:Gl X "enumerate":=by rfl)(hs:starEach [a] X.env=[(false,eval a X.env)]:=by rfl):IM X ct (.Tuple elts cx tp) (.Call (.Name "enumerate" p) [a] [] pos) (rB r):=⟨D5 hm ha.out AZ hs⟩
def Js(hc:X.calm=true)(hm:X.mg "sum"=none)(ha:pN X ct [e] fa)(hg:Gl X "sum":=by rfl)(he:starEach [e] X.env=(false,eval e X.env)::starEach [] X.env:=by rfl):WD X ct (.Call (.Name "sum" p) [e] [] pos) (p6 DX fa):=⟨Kf hc hm ha.out hg he⟩
variable{k:Nat}{N':List Str}{caps:List Nat}{params:Arguments}{body:Expr}{scope:Scope}{jv kp p0:Pos}{fk:Sg->Res D}
def Ff(L:RT X ct k N' caps params body scope jv fk)(hm:X.mg "sorted"=none)(ha:pN X ct [e] fa)(hg:Gl X "sorted":=by rfl)(he:starEach [e] X.env=[(false,eval e X.env)]:=by rfl):
  WL X ct (.Call (.Name "sorted" p0) [e] [⟨some "key",.Lambda params body scope jv,kp⟩] pos) (nZ fa caps fk):=⟨Gi L hm ha.out hg he⟩
def Jt(L:RT X ct k N' caps params body scope jv fk)(hm:X.mg "min"=none)(ha:pN X ct [e] fa)(hg:Gl X "min":=by rfl)(he:starEach [e] X.env=[(false,eval e X.env)]:=by rfl):
  WD X ct (.Call (.Name "min" p0) [e] [⟨some "key",.Lambda params body scope jv,kp⟩] pos) (zz fa caps fk):=⟨Kg L hm ha.out hg he⟩
def Mp{P:Addr}{q p1:Str}{cl:List (Str×Addr)}{k':Nat}(hcd:LP X.K X.env.code P)(hB:Vw X.K X.mg)(hP:ct.f.cb.xt P=some (.EO jv q))(hr:dH k' X.A) (hb:∀f c' A s H,dH k (A.deeper (envX q scope s.heap.objs.size f (.ref c') cl))->WD (RO X q scope f c' cl A s H N') ct body fk) (S:jS X N' p1 caps scope) (hk:k+2<=k':=by decide) (hq:X.env.qual++"<lambda>"=q:=by rfl) (hcl:jw X.env.cells scope.names []=some cl:=by rfl) (hdef:defaultsOf params X.env=([],[]):=by rfl) (hbind:∀pm c' ctv u,bindArgs (kla_fn "<lambda>" q params body scope cl pm (.ref c') ctv) ⟨[u],[]⟩=pure [(p1,u)]:=by exact λ _ _ _ _=>rfl):RT X ct k N' caps params body scope jv fk:=⟨P,q,cl,p1,hcd,hB,hP,hq,hcl,hdef,S,hbind,hr.mono hk,λ f c' A s H h=>(hb f c' A s H h).out⟩
def JH{Y:Cx}{N:List Str}{sc:Scope}:∀(i j:Nat) (x:Str),([]:List Nat)[i]? =some j->N[i+1]? =some x->Y.N[j]? =some x/\sc.names.lookup x=some .free/\(Y.env.kindOf x=some .cell\/Y.env.kindOf x=some .free):=λ i j x h=>by simp at h
def JG{Y:Cx}{p1 x:Str}{j:Nat}{sc:Scope}(h1:Y.N[j]? =some x)(h2:sc.names.lookup x=some .free)(h3:Y.env.kindOf x=some .cell):∀(i j':Nat) (y:Str),([j]:List Nat)[i]? =some j'->[p1,x][i+1]? =some y->Y.N[j']? =some y/\sc.names.lookup y=some .free/\(Y.env.kindOf y=some .cell\/Y.env.kindOf y=some .free)
 |0,_,_,q1,q2=>by cases q1;cases q2;exact ⟨h1,h2,.inl h3⟩
 |_+1,_,_,q1,_=>by simp at q1
end
section
variable{P:Program}{w:World}{K:W.Frag}{mg:Str->Option Value}{cb:Cb}{base:Heap}
def PB{x qual:Str}{st:Stmt}{f Pt:Addr}{fd:FuncData}{N ps:List Str}{k:Nat}{F:List Slot->dN}{B:Nat->Sg->Out}(Jh:E0 K x qual st f fd)(Po:LP K fd.code Pt)(S:ji N ps (aU st)) (hbody:∀(c:Cf) (cdv:Value) (A:Around) (outer:List Env) (s:Shared) (H:Hp) (E:XK),c.cb=cb->LP K cdv Pt->dH k (A.deeper (envOfC qual (aU st) s.heap.objs.size f cdv))->Good (jc (Bw P w) P w K mg base N qual (aU st) f cdv A outer s H E)->∀n,Vm (jc (Bw P w) P w K mg base N qual (aU st) f cdv A outer s H E) c (c9 st) (B n)) (hF:∀as,as.length=ps.length->F as≠.bad->∃n,jx (B n (cT N as))=F as):jj P w K mg base cb (k+1) f fd ps F:=by
 obtain ⟨oc,od,kV,doc,pm,an,cdv,dj,osl,rfl,lk,hcd⟩:=Jh.ex;refine My lk hcd S (λ vs H Q E h=>h.1) λ A outer s H vs Q E hr E4=>?_
 revert E4;refine cC λ hn=>aL λ c as UI UJ j h=>?_
 have hl:as.length=vs.length:=by have:=j.len;simpa using this
 have hb:F as≠.bad:=λ z=>by rw[z] at h;exact h
 obtain ⟨n,hF⟩:=hF as (by rw[hl];exact hn) hb;refine af _ (hbody c cdv A outer s H E UI Po hr ⟨PassesOwn.leaving,rfl,S.nd,rfl,rfl⟩ n) ⟨cT N as,Cs j,?_⟩;rw[<-hF] at h;cases q:B n (cT N as) with
 |nx Γ=>rw[q] at h;exact λ σ' H' _ j=>h .gY H' j.same j.free (by simp[Tl])
 |bk Γ=>rw[q] at h;exact h.elim
 |ct Γ=>rw[q] at h;exact h.elim
 |rt d=>rw[q] at h;exact λ v H' b t=>h v H' b.same b.free t
 |zV m=>rw[q] at h;exact λ v H' S b o n k=>h v H' S b.same b.free o n k
 |L7 d Γ=>rw[q] at h;exact λ v σ' H' j t=>h v Γ σ' H' j rfl t
 |yo d Γ=>rw[q] at h;exact λ σ' H' i v j g1 g2=>h Γ σ' H' i v j rfl g1 g2
 |err x Γ=>rw[q] at h;exact λ σ' H' e s' _ j r=>yY (UI▸r) λ C H2 hc s=>h C H2 hc λ b o z n=>s b o (j.same b o z n)
 |bad=>rw[q] at h;exact h.elim
def Zh{x qual:Str}{st:Stmt}{f Pt:Addr}{fd:FuncData}{N ps:List Str}{k:Nat}{F:List Slot->dN}(B:Nat->Sg->Out)(Jh:E0 K x qual st f fd)(hF:∀as,as.length=ps.length->F as≠.bad->∃n,jx (B n (cT N as))=F as)(Po:LP K fd.code Pt) (hbody:∀(c:Cf) (cdv:Value) (A:Around) (outer:List Env) (s:Shared) (H:Hp) (E:XK),c.cb=cb->LP K cdv Pt->dH k (A.deeper (envOfC qual (aU st) s.heap.objs.size f cdv))->Good (jc (Bw P w) P w K mg base N qual (aU st) f cdv A outer s H E)->∀n,oF (jc (Bw P w) P w K mg base N qual (aU st) f cdv A outer s H E) c (c9 st) (B n)) (S:ji N ps (aU st):=by exact ⟨rfl,rfl,rfl,by decide+kernel,rfl,by decide+kernel,by decide+kernel⟩):jj P w K mg base cb (k+1) f fd ps F:=PB Jh Po S (λ c cdv A outer s H E h1 h2 h3 h4 n=>(hbody c cdv A outer s H E h1 h2 h3 h4 n).out) hF
end
structure Tp(K:W.Frag)(fd:FuncData) where
 a:Addr
 c:LP K fd.code a
def K7(o:Obj)(P:Addr):Bool:=(match o.cls with| .type n=>n=="code"|_=>false)&&match o.data with
 | .fields vs=>(match (vs[11]? :Option Value),vs.getD 18 Value.none,vs.getD 7 Value.none,vs.getD 9 Value.none,vs.getD 10 Value.none with
  |some (Value.ref p),Value.str _ _,Value.int _ _,Value.bool _,Value.int _ _=>p==P
  |_,_,_,_,_=>false)
 |_=>false
def tabIn(K:W.Frag)(f P:Addr):Bool:=match K.lookup f with
 |some ⟨_,_,.func fd,_⟩=>(match fd.code with
  | .ref c=>c !=P&&(match K.lookup c with
   |some o=>K7 o P
   |none=>false)
  |_=>false)
 |_=>false
def CB{o:Obj}{P c:Addr}{h:Heap}(e:h.get? c=some o)(hne:c≠P)(x:K7 o P=true):CodeHd h c P:=by
 unfold K7 at x;rw[Bool.and_eq_true] at x;obtain ⟨x1,x2⟩:=x;have hc:o.cls= .type "code":=by
  revert x1
  cases o.cls<;>simp
 split at x2
 ·rename_i vs hd;split at x2
  ·rename_i p file tf flags tg ZO text tt h1 h2 h3 h4 h5;have:=eq_of_beq x2;subst this;refine ⟨o,vs,file,tf,flags,tg,ZO,text,tt,e,hc,hd,h1,?_,h2,h3,h4,h5,hne⟩;rw[Array.getD_eq_getD_getElem?,h1];rfl
  ·cases x2
 ·cases x2
def yc{K:W.Frag}{x q:Str}{st:Stmt}{f P:Addr}{fd:FuncData}(F:E0 K x q st f fd)(h:tabIn K f P=true):LP K fd.code P:=by
 obtain ⟨oc,od,kV,doc,pm,an,cdv,dj,osl,e,lk,_⟩:=F.ex;unfold tabIn at h;rw[lk] at h;simp only at h;split at h
 ·rename_i c hc;rw[Bool.and_eq_true] at h;obtain ⟨h1,h2⟩:=h;split at h2
  ·rename_i o ho;exact ⟨c,hc,λ hp Ru=>CB (Ru _ _ ho) (by simpa using h1) h2⟩
  ·cases h2
 ·cases h
noncomputable def Qk(K:W.Frag):Bool:=match W.nsIn K mainGlobals "__builtins__" with
 |some (some (.ref bm))=>bm !=builtinsNs&&bm !=mainGlobals&&(match K.lookup bm with
  |some ⟨.type n,some d,.plain,_⟩=>n=="module"&&d==builtinsNs
  |_=>false)
 |_=>false
def Lr{K:W.Frag}{h:Heap}{mg:Str->Option Value}(X:K.In h)(G:h.Ns mainGlobals mg)(e:Qk K=true):Vw K mg:=by
 unfold Qk at e;split at e
 ·rename_i bm hb;simp only[Bool.and_eq_true] at e;obtain ⟨⟨e1,e2⟩,e3⟩:=e;split at e3
  ·rename_i n d sl hl;rw[Bool.and_eq_true] at e3;have z1:=eq_of_beq e3.1;have z2:=eq_of_beq e3.2;subst z1 z2;exact ⟨bm,_,W.mg_of X G hb,by simpa using e1,by simpa using e2,hl,rfl,rfl,rfl⟩
  ·cases e3
 ·cases e
def E1(l:List (Addr×Pos×Str)):Hp:=λ b=>(l.lookup b).map λ p=> .EO p.1 p.2
def RX{a:Addr}{p:Pos}{q:Str}{l:List (Addr×Pos×Str)}:E1 ((a,p,q)::l) a=some (.EO p q):=by simp[E1]
def WR{a b:Addr}{p:Pos}{q:Str}{l:List (Addr×Pos×Str)}{r:Option HO}(hne:b≠a)(h:E1 l b=r):E1 ((a,p,q)::l) b=r:=by
 have:(b==a)=false:=by simpa using hne
 unfold E1 at h ⊢;rw[List.lookup_cons,this];exact h
def Cz{K:W.Frag}{mt:List (String×List String)}{E:List (String×Addr)}{T:rY}{Z:Hp}{IS:List (Value×String)}{cv:Value}{n:String}(h:isAll K mt E T IS=true)(hm:(cv,n)∈IS):LJ K (Ln E T Z) mt cv n:=let ⟨a,b,c,d,e,f,g,i,j⟩:=Yd h hm;⟨a,b,c,d,e,f,g,i,j⟩
noncomputable def ve(ts:List Addr)(K:W.Frag):W.Frag:=K.filter λ p=>!ts.contains p.1
def yU{ts:List Addr}{K:W.Frag}{b:Addr}:(ve ts K).lookup b=if ts.contains b then none else K.lookup b:=by
 induction K with
 |nil=>simp[ve]
 |cons p K ih=>
  obtain ⟨a,o⟩:=p;unfold ve at ih ⊢;rw[List.filter_cons];by_cases hp:ts.contains a=true
  ·simp only[hp,Bool.not_true,Bool.false_eq_true,if_false,ih,List.lookup_cons];by_cases hb:b=a
   ·subst hb;rw[if_pos hp,if_pos hp]
   ·have:(b==a)=false:=by simpa using hb
    rw[this]
  ·simp only[hp,Bool.not_false,if_true,List.lookup_cons,ih];by_cases hb:b=a
   ·subst hb;rw[if_neg hp];simpa using hp
   ·have:(b==a)=false:=by simpa using hb
    rw[this]
def OC{ts:List Addr}{K:W.Frag}{h:Heap}(X:K.In h):(ve ts K).In h:=λ a o e=>by
 rw[yU] at e;split at e
 ·cases e
 ·exact X a o e
def tabsOk(K:W.Frag)(l:List (Addr×Addr)):Bool:=l.all λ p=>(match K.lookup p.2 with
 |some ⟨.none,none,.fields vs,sl⟩=>vs.isEmpty&&sl.isEmpty
 |_=>false)&&p.1 !=p.2&&(match K.lookup p.1 with
 |some o=>K7 o p.2
 |none=>false)
def JC{K:W.Frag}{h:Heap}{l:List (Addr×Pos×Str)}{tb:List (Addr×Addr)}(X:K.In h)(e:tabsOk K tb=true)(hl:tb.map (·.2)=l.map (·.1)):Qs (ve (l.map (·.1)) K) (E1 l) h:=by
 refine ⟨λ b o z=>?_⟩;unfold E1 at z;rw[Option.map_eq_some_iff] at z;obtain ⟨pq,z1,rfl⟩:=z;have hm:b∈l.map (·.1):=by
  have h1:l.lookup b=some pq->∃e∈l,e.1=b:=by
   clear hl e X;induction l with
   |nil=>intro z;cases z
   |cons e l ih=>
    intro z;rw[List.lookup_cons] at z;split at z
    ·rename_i q;exact ⟨e,.head _,(eq_of_beq q).symm⟩
    ·rename_i q;obtain ⟨e',h1,h2⟩:=ih z z;exact ⟨e',.tail _ h1,h2⟩
  obtain ⟨e',h2,h3⟩:=h1 z1;exact List.mem_map.mpr ⟨e',h2,h3⟩
 refine ⟨by rw[yU,if_pos (by simpa using hm)],⟨_,_,rfl⟩,?_⟩;rw[<-hl,List.mem_map] at hm;obtain ⟨t,ht,rfl⟩:=hm;have:=List.all_eq_true.mp e t ht;simp only[Bool.and_eq_true] at this;obtain ⟨⟨a1,a2⟩,a3⟩:=this;split at a1
 ·rename_i vs sl hk;rw[Bool.and_eq_true] at a1;have e1:vs= #[]:=by simpa using a1.1
  have e2:sl= #[]:=by simpa using a1.2
  subst e1 e2;have g1:=X _ _ hk;refine ⟨g1,?_⟩;split at a3
  ·rename_i o ho;exact Heap.TableAt.isCodeTable ((CB (X _ _ ho) (by simpa using a2) a3).tab g1)
  ·cases a3
 ·cases a1
def Nb{l:W.OpenLaw}{q:Program}{loose:List Str}{XP:(Str->Option Value)->Heap->Prop}{d:DefRec}{K:Params->W.Frag}{as:List Addr}{nz tz:Nat}{k:Nat}{F:List Slot->dN}(zl:List (Addr×Pos×Str))(tb:List (Addr×Addr))(hn:l.most=some 63)(hdf:d.params.defaults=[]) (h1:callerA.depth+3*k+5<recursionLimit) (h2:callerA.units+16*k+200<cLine) (hK:∀P,as=(K P).map (·.1)) (htb:∀P,tabsOk (K P) tb=true) (Yj:tb.map (·.2)=zl.map (·.1)) (hF:∀(w:World) (mg:Str->Option Value) (fa:Addr) (h:Heap),(ve (zl.map (·.1)) (K w.params)).In h->h.Ns mainGlobals mg->mg d.name=some (.ref fa)->∃(cb:Cb) (fd:FuncData),cb.xt=E1 zl/\(∀(s:Shared) (u:Value),BindsTo s fd ⟨[u],[]⟩ [("_law_script",u)])/\∀base:Heap,jj l.prog w (ve (zl.map (·.1)) (K w.params)) mg base cb k fa fd ["_law_script"] F) (ht:∀ns:List Int,ns.length<=63->F [.val (.lst (ns.map D.int))]= .ok (.bl true)):W.WalkX q loose XP (W.X.obsZ as) (W.X.valZ K nz tz) l.row.toRowW d [] (λ f vs=>PySem.call f vs):=λ w s₀ s₁ mg mb G y a o pm cd doc dV kV ho hd hcd hD hmg hg args vals as' L hpre hlay hrd hwl hlo=>Sa (YP:=λ w h=>(K w.params).In h) (K:=λ P=>ve (zl.map (·.1)) (K P)) hn hdf h1 h2 (λ _ _ Y=>OC Y) (λ w mg fa h Y KX G hm=>by obtain ⟨cb,fd,e,hb,hf⟩:=hF w mg fa h KX G hm;exact ⟨cb,fd,by rw[e];exact JC Y (htb _) Yj,hb,hf⟩) ht w s₀ s₁ mg mb G (W.InK.keeps w s₀.heap s₁.heap (W.X.z_facts hK y).2.1 (W.Laid.keeps L)) a o pm cd doc dV kV ho hd hcd hD hmg hg args vals as' hpre hlay hrd hwl hlo
def Jv{l:W.OpenLaw}{q:Program}{loose:List Str}{XP:(Str->Option Value)->Heap->Prop}{d:DefRec}{K:Params->W.Frag}{as:List Addr}{nz tz:Nat}{k:Nat}{F:List Slot->dN}(KG:Params->W.Frag)(zl:List (Addr×Pos×Str))(tb:List (Addr×Addr))(ZX:∀P,ve (zl.map (·.1)) (K P)=KG P)(hn:l.most=some 63)(hdf:d.params.defaults=[]) (h1:callerA.depth+3*k+5<recursionLimit) (h2:callerA.units+16*k+200<cLine) (hK:∀P,as=(K P).map (·.1)) (htb:∀P,tabsOk (K P) tb=true) (Yj:tb.map (·.2)=zl.map (·.1)) (hF:∀(w:World) (mg:Str->Option Value) (fa:Addr) (h:Heap),(KG w.params).In h->h.Ns mainGlobals mg->mg d.name=some (.ref fa)->∃(cb:Cb) (fd:FuncData),cb.xt=E1 zl/\(∀(s:Shared) (u:Value),BindsTo s fd ⟨[u],[]⟩ [("_law_script",u)])/\∀base:Heap,jj l.prog w (KG w.params) mg base cb k fa fd ["_law_script"] F) (ht:∀ns:List Int,ns.length<=63->F [.val (.lst (ns.map D.int))]= .ok (.bl true)):W.WalkX q loose XP (W.X.obsZ as) (W.X.valZ K nz tz) l.row.toRowW d [] (λ f vs=>PySem.call f vs):=Nb zl tb hn hdf h1 h2 hK htb Yj (λ w mg fa h X G hm=>by rw[ZX] at X ⊢;exact hF w mg fa h X G hm) ht
end L4
end
section
namespace L4
open PySem PySem.Spec PyProof.Rows L2
section
variable{X:Cx}{pins:List (Addr×Obj)}{σ:St}{H:Hp}{s:Shared}{a:Addr}{ob:Obj}{u:HO}
def Inv.W4{kvs:List (Key×V)}(I:Inv X pins σ H s)(h:H a=some (.jP ob (.dK kvs)))(n:X.H₀ a=none):Inv X pins σ (upd H a (.dK kvs)) s:=by
 have ne:∀b,H b=none->b≠a:=λ b q z=>by rw[z,h] at q;cases q
 have nh:∀b u,X.H₀ b=some u->b≠a:=λ b u q z=>by rw[z,n] at q;cases q
 refine ⟨I.ok,I.os,I.bare,⟨I.base.keep,I.base.slot,λ b o e q x=>?_,I.base.there,λ b xs q=>?_,λ b o u q=>?_,λ b ps q=>?_⟩,I.loc,I.cell,?_,λ x c e=>?_,λ p hp=>?_,λ b u q=>?_,I.len⟩
 ·have z:=I.base.free b o e q x;rw[aE (ne b z)];exact z
 ·rw[aE (nh b _ q)];exact I.base.tups b xs q
 ·rw[aE (nh b _ q)];exact I.base.n9 b o u q
 ·rw[aE (nh b _ q)];exact I.base.pJ b ps q
 ·rw[aE (ne _ I.free)];exact I.free
 ·rw[aE (ne _ (I.g8 x c e))];exact I.g8 x c e
 ·obtain ⟨p1,p2,p3⟩:=I.pin p hp;exact ⟨p1,by rw[aE (ne _ p2)];exact p2,p3⟩
 ·by_cases hb:b=a
  ·subst hb;rw[aJ] at q;cases q;obtain ⟨_,z⟩:=I.hok b _ h;exact z
  ·rw[aE hb] at q;refine (I.hok b u q).stay (λ c v _ e=>e) (λ c z=>?_) (λ c xs z=>?_) λ c o y z=>?_
   ·have:c≠a:=λ w=>by rw[w,h] at z;cases z
    rw[aE this];exact z
   ·have:c≠a:=λ w=>by rw[w,h] at z;cases z
    rw[aE this];exact z
   ·have:c≠a:=λ w=>by rw[w,h] at z;cases z
    rw[aE this];exact z
theorem FU{K:W.Frag}{ct dj:Ct}{H H':Hp}:∀{xs:List D} {zs:List Int} {vs:List V},gT xs=some zs->aN K ct H xs vs->aN K dj H' xs vs
 |[],_,_,_,t=>by simpa[aN] using t
 |x::xs,zs,vs,h,t=>by
  cases x with
  |int i=>
   simp only[gT] at h;cases q:gT xs with
   |none=>rw[q] at h;cases h
   |some r=>simp only[aN,Tl] at t ⊢;obtain ⟨v,w,e1,e2,t⟩:=t;exact ⟨v,w,e1,e2,FU q t⟩
  |_=>cases h
def LV{K:W.Frag}{ct dj:Ct}{H H':Hp}{d:D}{v:V}(hp:pl d=true)(h:∀b xs,H b=some (.tup xs)->H' b=some (.tup xs))(t:Tl K ct H d v):Tl K dj H' d v:=by
 cases d with
 |int i=>simpa[Tl] using t
 |tup ds=>simp only[pl] at hp;obtain ⟨zs,hz⟩:=Option.isSome_iff_exists.mp hp;simp only[Tl] at t ⊢;obtain ⟨b,vs,e,q,t⟩:=t;exact ⟨b,vs,e,h _ _ q,FU hz t⟩
 |_=>cases hp
end
section
variable{X:Cx}{c:Cf}{e r ix:Expr}{f fk:Sg->Res D}{g:Sg->Res (List Nat)}{i:Nat}{pos:Pos}
def zT(X:Cx)(c:Cf)(i:Nat)(f:Sg->Res D):TE:=λ σ H Q=>∃Γ,Jx X c.z Γ σ H/\∃ks xs d,Γ[i]? =some (.own (.k (.s ks) xs))/\f (Γ.set i (.val (.lJ (.s ks) xs)))= .ok d/\pl d=true/\∀v H',aB H H'->Tl X.K c.z H' d v->Q v H'
def Xw(h:PD X c.z e f):PE X e (zT X c i f):=by
 rintro pins s σ H Q I ⟨Γ,j,ks,xs,d,hg,hf,hpl,q⟩
 obtain ⟨S,sg,chg⟩:=j.chg i;obtain ⟨v0,S0,g1,_⟩:=j.own hg;obtain ⟨v',e1,ow,so,n0⟩:=sg _ _ hg g1;cases e1;simp only[Ow] at ow;obtain ⟨a,vs,rfl,sa,ha,hl,tl⟩:=ow;obtain ⟨ob,I2⟩:=Inv.vz I ha (n0 a sa);have z:Fz X c.z pins σ s S H H:=⟨I,λ _ _ q _=>q,aX.refl H,λ _ q=>q⟩;have z2:=z.step ha sa Ks.mU I2;have j':=chg _ (.val (.lJ (.s ks) xs)) (some (.ref a)) (λ _=>False) z2.keep z2.un z2.free (λ _ _ q=>nomatch q) ⟨⟨_,rfl,by simp only[Tl];exact ⟨a,vs,rfl,⟨ob,aJ⟩,hl,tl.keep z2.keep⟩⟩,λ _ w=>w⟩ λ _ w=>w.elim;have es:σ.set i (some (.ref a))=σ:=by
  apply List.ext_getElem?;intro k;by_cases hk:i=k
  ·subst hk;have hi:=(List.getElem?_eq_some_iff.mp g1).1;rw[List.getElem?_set_self hi,g1]
  ·rw[List.getElem?_set_ne hk]
 rw[es] at j';refine wpAny_mono (h pins s σ _ (λ v H2=>aB (upd H a (.jP ob (Ks.ho (.s ks) vs))) H2/\Tl X.K c.z H2 d v) z2.inv ⟨_,j',by rw[hf];exact λ v H2 sm t=>⟨sm,t⟩⟩) (λ u s2 w=>?_) λ _ _ w=>w;obtain ⟨v,H2,J2,rv,sm,t⟩:=w;have Z0:=sm a _ aJ;have I3:=Inv.W4 J2 Z0 (n0 a sa);refine ⟨v,_,I3,rv,q v _ (λ b o hb=>?_) (LV hpl (λ b xs hb=>?_) t)⟩
 ·by_cases hba:b=a
  ·subst hba;rw[ha] at hb;cases hb;exact aJ
  ·rw[aE hba];exact sm b o (by rw[aE hba];exact hb)
 ·have:b≠a:=λ w=>by rw[w,Z0] at hb;cases hb
  rw[aE this];exact hb
def Gw{pt:Pos}(hu:X.A.units+1<cLine)(hr:∀B,PP X (c.at' B) r i g)(hk:∀B,PD X (c.at' B) ix fk)(he:PD X c.z e f)(hs:swapsWith e (some (.Subscript r ix pt)) pos.line X.env=pure false:=by rfl):
  YV X c (.Assign [.Subscript r ix pt] e pos) (yl i g fk f):=by
 refine λ pins s σ H E I=>ah λ Γ j h=>?_;unfold yl at h;split at h
 ·rename_i ks0 xs0 hg;split at h
  ·rename_i d hd;split at h
   ·rename_i hpl;have h:Fn X c H (F4 i g fk (λ _=> .ok d) Γ) E:=h;refine J4 hu (hr H) (hk H) (Xw (i:=i) he) hs pins s σ H E I ?_;refine ⟨Γ,j,ks0,xs0,d,hg,hd,hpl,λ y H1 s1 t=>?_⟩;have q:Fn X c H (oE (g Γ) Γ λ ks=>oE (fk Γ) Γ λ z=>match AW z with
     |some k=>IZ (oQ i ks (mQ k d) Γ)
     |none=> .bad) E:=h
    refine af Γ (j.lift.mono s1) (Ok.mono (H:=H) s1 (Fn.ok (tm:=true) (B:=H) j q λ ks _ q v H2 s2 pa=>?_) λ _ z=>z);refine af Γ ((j.lift.mono s1).mono s2) (Ok.mono (H:=H) (s1.trans s2) (Fn.ok (tm:=true) (B:=H) j q λ z _ q u H3 s3 t3=>?_) λ _ z=>z);split at q
    ·rename_i k hk';have sm:=(s1.trans s2).trans s3;have j3:=j.mono sm;refine cI (λ sl m v0 m' p1 p2 p3 p4 p5=>?_) (pa.same s3);have ty:Tl X.K (c.at' H) H3 d y:=LV hpl (λ b xs hb=>(s2.trans s3) b _ hb) t;have e1:oQ i ks (mQ k d) Γ=(mQ k d m').map λ dZ=>Γ.set i (An sl (eG m ks dZ)):=by unfold oQ;rw[p1,Option.bind_some,p2,Option.bind_some,p5,Option.bind_some]
     rw[e1] at q;cases z:mQ k d m' with
     |none=>rw[z] at q;exact q.elim
     |some dZ=>rw[z] at q;refine aW (λ vv S g1 o1=>?_) (j3.ofM p1 p2);rw[p3] at g1;cases g1;refine ah (λ S' o' _=>?_) (o1.CH p4 p5);refine aL (λ a kvs w ha hl _=>?_) (B5 ty z o');subst w;refine ay a _ rfl (.inl (bh kvs k ha (Cq t3 hk') (Nat.lt_trans hl i7) rfl)) ?_;have kp:aX c.cb H3 (upd H3 a (.dK (putK kvs k y))):=aX.dK ha;refine q σ _ ((aB.keep sm).trans kp) (j3.up p1 p2 p3 p4 p5 kp λ S' o=>?_);refine cR (λ a' kvs' e2 ha' _ w1 w2=>?_) (B5 ty z o);cases e2;rw[ha] at ha';cases ha';exact ⟨w1,w2⟩
    ·exact q.elim
   ·exact h.elim
  ·exact h.elim
 ·exact h.elim
def Fl{pt:Pos}(hu:X.A.units+1<cLine)(hr:∀B,WP X (c.at' B) r i g)(hk:∀B,WD X (c.at' B) ix fk)(he:WD X c.z e f)(hs:swapsWith e (some (.Subscript r ix pt)) pos.line X.env=pure false:=by rfl):
  sQ X c (.Assign [.Subscript r ix pt] e pos) (yl i g fk f):=⟨Gw hu (λ B=>(hr B).out) (λ B=>(hk B).out) he.out hs⟩
end
end L4
end
section
namespace L4
open PySem
def y9:List D->Res (List D)
 |[x]=>match qe x with
  |some xs=> .ok xs.reverse
  |none=> .bad
 |_=> .bad
@[simp] theorem Rr(t:Bool)(xs:List D):y9 [.bor t xs]= .ok xs.reverse:=(rfl)
end L4
end
section
namespace L4
open PySem PySem.Spec PyProof.Rows L2
def Eg:typeLookup (.type "list_reverseiterator") "__len__"=pure none:=by rw[typeLookup_type,builtinLookup_eq_fast];kernel_rfl
def HH:typeLookup (.type "list_reverseiterator") "__length_hint__"=pure (some (.builtin "list_reverseiterator.__length_hint__")):=by rw[typeLookup_type,builtinLookup_eq_fast];kernel_rfl
section
variable{prog:Program}{w:World}{A:Around}{E:Value->Shared->Prop}{s:Shared}{I l:Addr}{items:Array Value}
def G9{i:Int}{Q:Bool->Shared->Prop}(hit:s.heap.IsRevIter I l i)(h:Q false s):wpAny (model prog w) A (Builtin.List.listLengthHint (.ref I)) Q E s:=by
 unfold Builtin.List.listLengthHint;refine wpAny_bind (wpAny_specialOf hit.typeIs Eg ?_);show wpAny _ A (specialOf (Value.ref I) (Str.ofString "__length_hint__")>>=_) _ _ _;refine wpAny_bind (wpAny_specialOf hit.typeIs HH ?_);generalize hid:("list_reverseiterator.__length_hint__":String)=id0
 wp_delta
 rw[show splitId id0=some ("list_reverseiterator","__length_hint__") from by subst hid;decide+kernel];subst hid;refine wpAny_bind (wpAny_isInstance (b:=true) hit.typeIs (by rw[isSubtype_type];kernel_rfl) ?_);exact wpAny_pure h
def AS{R:Result->Shared->Prop}(hh:A.handled=none)(hit:s.heap.IsRevIter I l ((items.size:Int) - 1))(hl:s.heap.IsList l items)(hne:l≠I)(S:Addr)(hSI:S≠I)(Wf:S≠l)(res:Value)(c₀:Nat)(hS:s.heap.get? S=some {cls:= .type "list",data:= .seq #[] c₀}) (hR:∀h' tk acc' c',(∀b o,b≠S->b≠I->s.heap.get? b=some o->h'.get? b=some o)->h'.get? S=some {cls:= .type "list",dict:=none,data:= .seq acc' c',slots:= #[]}->ItemsOf (λ i v=>items[items.size- 1- i]? =some v) acc' items.size->R (.ok (.ret res)) {s with heap:=h',toks:=tk}) (hn:items.size<=sizeLine):
  wpAny (model prog w) A.in1 (Builtin.List.listExtendWith (.ref S) (.ref I) res)
   (λ fin s'=>match fin with| .done f=>R (.ok f) s'| .again c'=>c'.quiet=true/\codeAny (model prog w) A c' R s') (λ e s'=>R (.error e) s') s:=by
 have W:=Walks.listRev (prog:=prog) (w:=w) (A:=A.in1) hh I l hne items;have hSf:S∉[I,l]:=by simp only[List.mem_cons,List.not_mem_nil,or_false,not_or];exact ⟨hSI,Wf⟩
 have st:(0:Nat)<=items.size/\s.heap.IsRevIter I l ((items.size:Int) - 1-((0:Nat):Int))/\s.heap.IsList l items:=⟨Nat.zero_le _,by simpa using hit,hl⟩;unfold Builtin.List.listExtendWith;refine wpAny_bind (wpAny_typeOf (T:="list_reverseiterator") hit.typeIs ?_);have h1:Builtin.List.listSameRef (.ref S) (.ref I)=false:=by simp[Builtin.List.listSameRef,hSI]
 rw[if_neg (by rw[h1];decide)];refine wpAny_bind (wpAny_pyIter_revIter hit ?_);refine wpAny_bind (wpAny_holding (G9 hit ?_));rw[if_neg (by decide)];refine wpAny_pure ⟨plainId_quiet PySem.F.plain_extend_loop _,codeAny_extend_loopS W.toS hn S hSf res items.size 0 _ #[] c₀ rfl (Nat.zero_le _) st hS (ItemsOf.nil _) λ s' acc' c' hm hS' hacc=>?_⟩;rw[Moved.eq_with hm];refine hR s'.heap s'.toks acc' c' (λ b o hb hi e=>hm.heap b o (λ hmem=>?_) e) hS' hacc;rcases List.mem_cons.mp hmem with e'|hmem
 ·exact hb e'
 ·exact hi (List.mem_singleton.mp hmem)
def G8{R:Result->Shared->Prop}(hh:A.handled=none)(hit:s.heap.IsRevIter I l ((items.size:Int) - 1))(hl:s.heap.IsList l items)(hne:l≠I)(S:Addr)(hSI:S≠I)(Wf:S≠l)(hS:s.heap.get? S=some {cls:= .type "list",data:= .seq #[]})
  (hR:∀h' tk acc' c',(∀b o,b≠S->b≠I->s.heap.get? b=some o->h'.get? b=some o)->h'.get? S=some {cls:= .type "list",dict:=none,data:= .seq acc' c',slots:= #[]}->ItemsOf (λ i v=>items[items.size- 1- i]? =some v) acc' items.size->R (.ok (.ret .none)) {s with heap:=h',toks:=tk}) (hn:items.size<=sizeLine):
  wpAny (model prog w) A.in1 (Builtin.«list.__init__» ⟨[.ref S,.ref I],[]⟩)
   (λ fin s'=>match fin with| .done f=>R (.ok f) s'| .again c'=>c'.quiet=true/\codeAny (model prog w) A c' R s') (λ e s'=>R (.error e) s') s:=by
 show wpAny _ _ (do let old <-Builtin.List.listItems (.ref S);Builtin.List.listUpdate (.ref S) (λ _=> #[]);letGo old.toList.reverse;Builtin.List.listExtendWith (.ref S) (.ref I) .none) _ _ s
 refine wpAny_bind ?_
 unfold Builtin.List.listItems
 refine wpAny_bind (wpAny_seqItems hS rfl (wpAny_pure ?_))
 show wpAny _ _ (updateSeq S (λ _=> #[])>>=λ _=>letGo (#[]:Array Value).toList.reverse>>=λ _=>Builtin.List.listExtendWith (.ref S) (.ref I) .none) _ _ s
 refine wpAny_bind (wpAny_updateSeq hS rfl ?_)
 have hS₂:=Heap.get?_update_self (Obj.mapSeq (λ _=>(#[]:Array Value))) hS rfl
 have Xz:∀b o,b≠S->s.heap.get? b=some o->(s.heap.update S (Obj.mapSeq (λ _=>(#[]:Array Value)))).get? b=some o:=
  λ b o hb e=>(Heap.get?_update_other _ _ (Ne.symm hb)).trans e
 refine wpAny_bind (wpAny_letGo ?_)
 exact AS hh (hit.at λ o e=>Xz I o hSI.symm e) (hl.at λ o e=>Xz l o Wf.symm e) hne S hSI Wf .none _ hS₂ (λ h' tk acc' c' hk hS' hacc=>hR h' tk acc' c' (λ b o hb hi e=>hk b o hb hi (Xz b o hb e)) hS' hacc) hn
def Hf{Q:Value->Shared->Prop}(hh:A.handled=none)(hit:s.heap.IsRevIter I l ((items.size:Int) - 1))(hl:s.heap.IsList l items)(hne:l≠I)(hn:items.size<=sizeLine) (hQ:∀h' tk acc' c',(∀b o,b≠I->s.heap.get? b=some o->h'.get? b=some o)->h'.get? s.heap.objs.size=some {cls:= .type "list",dict:=none,data:= .seq acc' c',slots:= #[]}->ItemsOf (λ i v=>items[items.size- 1- i]? =some v) acc' items.size->Q (.ref s.heap.objs.size) {s with heap:=h',toks:=tk}):
  wpAny (model prog w) A (call (.type "list") [.ref I]) Q E s:=by
 refine callType_codes (Q₁:=λ obj s₁=>obj= .ref s.heap.objs.size/\s₁={s with heap:=s.heap.push {cls:= .type "list",data:= .seq #[]}}) PySem.F.called_list (PySem.F.typeCall_list_1 _) PySem.F.entry_list_init
  (code_list_new _ ⟨rfl,rfl⟩) λ obj s₁ h₁=>?_
 obtain ⟨rfl,rfl⟩:=h₁;have hS:(s.heap.push {cls:= .type "list",data:= .seq #[]}).get? s.heap.objs.size=some {cls:= .type "list",data:= .seq #[]}:=Heap.get?_push_size _ rfl;have hI:I<s.heap.objs.size:=let ⟨_,ho,_⟩:=hit;Heap.lt_size ho
 have hL:l<s.heap.objs.size:=let ⟨_,ho,_⟩:=hl;Heap.lt_size ho
 refine ⟨⟨_,hS,rfl⟩,PySem.F.args_list_init_2 _ _,G8 (A:=A.in1) hh (hit.at λ o e=>Heap.get?_push_of_some _ e) (hl.at λ o e=>Heap.get?_push_of_some _ e) hne _ (Nat.ne_of_gt hI) (Nat.ne_of_gt hL) hS (λ h' tk acc' c' hk hS' hacc=>?_) hn⟩;exact ⟨rfl,hQ h' tk acc' c' (λ b o hb e=>hk b o (Nat.ne_of_lt (Heap.lt_size e)) hb (Heap.get?_push_of_some _ e)) hS' hacc⟩
end
def FG{vs:List V}{us:List Value}(h:Vals vs us):Vals vs.reverse us.reverse:=by
 induction h with
 |nil=>exact .nil
 |cons h1 _ ih=>rw[List.reverse_cons,List.reverse_cons];exact ih.append (.cons h1 .nil)
theorem BO{K:W.Frag}{ct:Ct}{H:Hp}:∀{ds:List D} {vs:List V},aN K ct H ds vs->aN K ct H ds.reverse vs.reverse
 |[],vs,h=>by simp only[aN] at h;subst h;simp[aN]
 |d::ds,vs,h=>by simp only[aN] at h;obtain ⟨v,r,rfl,h1,h2⟩:=h;rw[List.reverse_cons,List.reverse_cons];exact (BO h2).append (by simp only[aN];exact ⟨v,[],rfl,h1,rfl⟩)
section
variable{X:Cx}{ct:Ct}{a:Expr}{fa:Sg->Res (List D)}{p p' pos pos':Pos}
def Az{ta:TA}(Uv:X.calm=true)(hm:X.mg "list"=none)(hm':X.mg "reversed"=none)(ha:PA X [a] ta)(hg:Gl X "list":=by rfl)(hg':Gl X "reversed":=by rfl)(hs:starEach [a] X.env=[(false,eval a X.env)]:=by rfl):
  PE X (.Call (.Name "list" p) [.Call (.Name "reversed" p') [a] [] pos'] [] pos) (VE (λ xs H Q=>∃q ys,xs=[.ref q]/\fZ X.K H q ys/\∀l,H l=none->Q (.ref l) (upd H l (.lst ys.reverse))) ta):=by
 intro pins s σ H Q I h;refine wpAny_Call_Name_kw (gP I hg hm (u:= .type "list") (by decide+kernel) ?_ (by decide) (by decide));refine PyProof.Rows.callWith_type1 ?_ rfl rfl;show wpAny _ _ (spliced ((false,eval (.Call (.Name "reversed" p') [a] [] pos') X.env)::backTo pos (starEach [] X.env))) _ _ s;refine Calls.spliced_cons ?_;refine wpAny_Call_Name_kw (gP I hg' hm' boot_reversed ?_ (by decide) (by decide));refine PyProof.Rows.callWith_type1 (dm (ha pos' pins s σ H _ I h) λ us s1 z_=>tY z_ λ vs H1 I1 r1 q1=>?_) hs rfl
 revert q1;refine aq λ q ys e sq q1=>?_
 subst e;refine ah (λ u w ru=>?_) (vals1 r1);subst w;cases ru;refine aH (λ its rv pl hz=>?_) (I1.list sq);have hl:=rv.length;refine call_reversed_list (l:=q) pl.isList ?_;refine Calls.spliced_nil ?_;have lt:q<s1.heap.objs.size:=let ⟨_,ho,_⟩:=pl.isList;Heap.lt_size ho
 have hr:(s1.heap.push (revObj q ((its.toArray.size:Int) - 1))).IsRevIter s1.heap.objs.size q ((its.toArray.size:Int) - 1):=aY _ (Heap.get?_push_size _ rfl) rfl (by simp[revObj]);refine Hf (l:=q) (items:=its.toArray) (I1.ok.hd Uv) hr (pl.isList.at λ o e=>Heap.get?_push_of_some _ e) (Nat.ne_of_lt lt) (by simp only[List.size_toArray];omega) λ h' tk acc c kp e ao=>?_;have sz:(s1.heap.push (revObj q ((its.toArray.size:Int) - 1))).objs.size=s1.heap.objs.size+1:=Heap.size_push ..;have ea:acc=its.reverse.toArray:=by
  apply Array.ext';apply List.ext_getElem?;intro i;have a1:=ao.1;simp only[List.size_toArray] at a1;by_cases hi:i<its.length
  ·have g:acc[i]? =some (acc[i]'(by omega)):=Array.getElem?_eq_getElem (by omega);have:=ao.2 i _ g;rw[<-Array.getElem?_toList] at g;rw[g,List.getElem?_reverse hi];simpa using this.symm
  ·rw[List.getElem?_eq_none (by simp;omega),List.getElem?_eq_none (by simp;omega)]
 have kp':∀b o,s1.heap.get? b=some o->h'.get? b=some o:=λ b o x=>kp b o (Nat.ne_of_lt (Heap.lt_size x)) (Heap.get?_push_of_some _ x);rw[sz] at e ⊢;rw[ea] at e;exact ay (.ref (s1.heap.objs.size+1)) _ (I1.laid (t':=tk) kp' (Nat.le_succ _) (show bS X.prog X.w _ h' _ (.lst ys.reverse) from ⟨by simpa using hz,aQ its.reverse c (FG rv) e⟩)) rfl (q1 _ (I1.hok.fresh (Nat.le_succ _)))
def qi(Uv:X.calm=true)(hm:X.mg "list"=none)(hm':X.mg "reversed"=none)(ha:pN X ct [a] fa)(hg:Gl X "list":=by rfl)(hg':Gl X "reversed":=by rfl)(hs:starEach [a] X.env=[(false,eval a X.env)]:=by rfl):
  WL X ct (.Call (.Name "list" p) [.Call (.Name "reversed" p') [a] [] pos'] [] pos) (OV y9 fa):=by
 have ha:=ha.out;refine ⟨?_⟩;refine PE.imp (Az Uv hm hm' ha hg hg' hs) ?_;refine λ σ H Q=>ah λ Γ j h=>?_;refine EZ.bnd j h λ ds vs H' s t j' h'=>?_;unfold y9 at h';split at h'
 ·rename_i x;split at h'
  ·rename_i xs hs;refine ah (λ v z t1=>?_) (mF t);subst z;refine aq (λ a us z q1 q2=>?_) (t1.fX j'.lL j'.lB hs);subst z;refine ay a us rfl q1 (λ l hl=>?_);have s2:=bC hl (.lst us.reverse);exact h' l us.reverse _ (s.trans s2) (s.free hl) aJ (BO (q2.keep (aB.keep s2)))
  ·exact h'.elim
 ·exact h'.elim
end
end L4
end
section
namespace Vq
open PySem L4
noncomputable def mt:List (String×List String):=[("NoFraction",["NoFraction","BeamError","ValueError"]),("Loose",["Loose","BeamError","ValueError"])]
noncomputable def Yz:List (String×List Str):=[]
noncomputable abbrev oZ:List Str:=["_law_script","_law_k"]
abbrev oW:List Str:=oZ
def iw(n:Nat):Sg->Out:=(aZ (qB (dT (aO ltI (aj 1) (p6 c8 (au (aj 0) aM)))) (eE (aO bG (aj 0) (aj 1))) di)
  (eE (dC (.int 0))))
def bJ(as:List Slot):dN:=jx (iw 0 (cT oZ as))
noncomputable abbrev yM:List Str:=["_law_script","_law_many","_law_weights_here","_law_k","_law_cell","_law_row","_law_weight"]
noncomputable abbrev oV:List Str:=["_law_script","_law_many"]
def cN(n:Nat):Sg->Out:=(aZ (bR 4 (aO bG (aj 0) (aj 3)))
  (aZ (bR 5 (aO dD (aO cF (aO fP (aj 3) (dC (.int 2))) (aj 1)) (aj 1)))
  (aZ (bR 6 (aO dD (aO cF (aj 4) (dC (.int 3))) (dC (.int 10))))
  (aZ (qB (Ip (dT (aO vE (aO dD (aj 4) (dC (.int 3))) (dC (.int 0)))) (dT (aO vE (aO dD (aO cF (aj 4) (dC (.int 3))) (dC (.int 5))) (dC (.int 0))))) (bR 6 (aO dD (aO cF (aj 4) (dC (.int 15))) (aO Gb (dC (.int 10)) (dC (.int 9))))) di)
  (iB 2 (Ro 2 (fR 2) (aj 5)) (aO dD (aO fP (aj 3) (dC (.int 2))) (aj 1)) (aj 6))))))
def iu(n:Nat):Sg->Out:=(aZ (iP 2 (mN (jo false (jr (au (aj 1) aM)) 1 [1] (aG 0) fC (mL (Ms sA (lX (om (au (dC (.int 0)) aM))) (aj 1))))))
  (aZ (qB (dT (aO vE (aj 1) (dC (.int 0)))) (jn 2) di)
  (aZ (g5 (ze (au (dC (.int 2)) (au (p6 yS (au (p6 c8 (au (aj 0) aM)) (au (dC (.int 63)) aM))) aM))) (aG 3) (cN n))
  (jn 2))))
def eo(as:List Slot):dN:=jx (iu 0 (cT yM as))
noncomputable abbrev GY:List Str:=["_law_script","_law_weights_here","_law_j","_law_cell"]
noncomputable abbrev yF:List Str:=["_law_script","_law_weights_here","_law_j"]
def iU(n:Nat):Sg->Out:=(aZ (bR 3 (bu 2 bJ (au (aj 0) (au (aO eU (aj 2) (dC (.int 1))) aM))))
  (aZ (qB (Ip (dT (aO Jb (aj 2) (dC (.int 0)))) (Ip (dT (aO Jb (aO bG (aO bG (aj 1) (dC (.int 0))) (aj 2)) (dC (.int 0)))) (dT (aO vE (aO dD (aj 3) (dC (.int 2))) (dC (.int 0)))))) (eE (dC (.int 0))) di)
  (eE (aO eU (dC (.int 1)) (aO dD (aj 3) (dC (.int 50)))))))
def gX(as:List Slot):dN:=jx (iU 0 (cT GY as))
noncomputable abbrev Ky:List Str:=["_law_top","_law_bottom","_law_one","_law_other"]
noncomputable abbrev uX:List Str:=["_law_top","_law_bottom"]
def jU(n:Nat):Sg->Res Bool:=(dT (aO lU (aj 3) (dC (.int 0))))
def nK(n:Nat):Sg->Out:=(NF 2 3 (au (aj 3) (au (aO dD (aj 2) (aj 3)) aM)))
def vN(n:Nat):Sg->Out:=(aZ (bR 2 (aj 0))
  (aZ (bR 3 (aj 1))
  (aZ (bD (jU n) (nK n) n)
  (eE (ni (au (aO cF (aj 0) (aj 2)) (au (aO cF (aj 1) (aj 2)) aM)))))))
noncomputable def dg:List Slot->dN
 |[.val (.int a),.val (.int b)]=>if 0<=a/\1<=b/\b.natAbs<2^9000 then .ok (.tup [.int (a.fdiv (Int.gcd a b)),.int (b.fdiv (Int.gcd a b))]) else .bad
 |_=> .bad
def Hh(a b:Slot)(m:Nat):∀(s l k:Nat),s<k->bD (jU m) (nK m) k [a,b,.val (.int l),.val (.int s)]= .nx [a,b,.val (.int (Nat.gcd l s:Nat)),.val (.int 0)]:=by
 intro s;induction s using Nat.strongRecOn with
 |_ s ih=>
  intro l k hk;obtain ⟨k,rfl⟩:∃j,k=j+1:=⟨k- 1,by omega⟩;by_cases h:s=0
  ·subst h;simp[bD,jU]
  ·have e:=ih (l%s) (Nat.mod_lt l (by omega)) s k (by have:=Nat.mod_lt l (show 0<s by omega);omega);have hs:((s:Int)=0)=False:=by simp[h]
   have hs':(s:Int)≠0:=by omega
   rw[zk l s h, <-e];simp[bD,jU,nK,h,hs,bO _ _ hs',zv]
def K8(as:List Slot)(hl:as.length=uX.length)(hb:dg as≠.bad):∃n,jx (vN n (cT Ky as))=dg as:=by
 match as,hb with
 |[.val (.int a),.val (.int b)],hb=>
  by_cases hc:0<=a/\1<=b/\b.natAbs<2^9000
  ·obtain ⟨h1,h2,h3⟩:=id hc;obtain ⟨l,rfl⟩:=Int.eq_ofNat_of_zero_le h1;obtain ⟨s,rfl⟩:=Int.eq_ofNat_of_zero_le (show 0<=b by omega);refine ⟨s+1,?_⟩;have e:=Hh (.val (.int (l:Int))) (.val (.int (s:Int))) (s+1) s l (s+1) (by omega);have hg:Int.gcd (l:Int) (s:Int)=Nat.gcd l s:=by simp[Int.gcd]
   have hgp:0<Nat.gcd l s:=Nat.gcd_pos_of_pos_right _ (by omega);have AZ:Nat.gcd l s<=s:=Nat.le_of_dvd (by omega) (Nat.gcd_dvd_right _ _);have d:∀x:Int,cF (.int x) (.int ((Nat.gcd l s:Nat):Int))= .ok (.int (x.fdiv ((Nat.gcd l s:Nat):Int))):=λ x=>tX _ _ (zx (by omega) (Nat.lt_of_le_of_lt (by simpa using AZ) (by simpa using h3)));simp only[dg,hc,and_self,if_true,hg];simp[vN,cT,e,d]
  ·exact absurd (by simp[dg,hc]) hb
noncomputable abbrev mV:List Str:=["_law_cell","_law_k"]
abbrev mT:List Str:=mV
def gy(n:Nat):Sg->Out:=(aZ (qB (dT (aO vE (aO dD (aO eU (aO cF (aj 0) (dC (.int 2))) (aj 1)) (dC (.int 3))) (dC (.int 0)))) (eE (ni (au (dC (.int 0)) (au (dC (.int 1)) aM)))) di)
  (eE (bu 2 dg (au (aO dD (aO cX (aO cX (aO eU (aj 0) (aO cX (aj 1) (aj 1))) (dC (.int 48271))) (dC (.int 69621))) (aO Gb (dC (.int 10)) (dC (.int 60)))) (au (aO eU (dC (.int 1)) (aO dD (aO eU (aj 0) (aj 1)) (dC (.int 97)))) aM)))))
def eW(as:List Slot):dN:=jx (gy 0 (cT mV as))
noncomputable abbrev GX:List Str:=["_law_script","_law_many","_law_weights_here","_law_rows_here","_law_i","_law_terms","_law_j","_law_whole_here"]
noncomputable abbrev yD:List Str:=["_law_script","_law_many"]
def gD(n:Nat):Sg->Out:=(aZ (bR 7 (aO eU (p6 DX (au (lX (d8 false (jr (au (aj 1) aM)) 1 [6,2] (aG 0) fC (aO bG (aO bG (aj 2) (aj 0)) (aj 1)))) aM)) (bu 3 gX (au (aj 0) (au (aj 2) (au (aj 6) aM))))))
  (qB (dT (aO Jb (aO bG (aO bG (aj 2) (aj 4)) (aj 6)) (dC (.int 0)))) (jW 5 (fR 5) (ni (au (aj 6) (au (lK 2 dg (au (aO bG (aO bG (aj 2) (aj 4)) (aj 6)) (au (aj 7) aM))) aM)))) di))
def gC(n:Nat):Sg->Out:=(aZ (iP 5 (mL (om aM)))
  (aZ (g5 (jr (au (aj 1) aM)) (aG 6) (gD n))
  (aZ (qB (dT (aO vE (aO dD (bu 2 bJ (au (aj 0) (au (dC (.int 1)) aM))) (dC (.int 2))) (dC (.int 1)))) (iP 5 (mL (OV y9 (au (rH 5) aM)))) di)
  (L3 5 (jW 3 (fR 3) (ni (au (lK 2 eW (au (lK 2 bJ (au (aj 0) (au (aO eU (aj 4) (dC (.int 2))) aM))) (au (aj 4) aM))) (au (aj 5) aM))))))))
def rP(n:Nat):Sg->Out:=(aZ (bR 2 (bu 2 eo (au (aj 0) (au (aj 1) aM))))
  (aZ (iP 3 (mL (om aM)))
  (aZ (g5 (jr (au (aj 1) aM)) (aG 4) (gC n))
  (jn 3))))
def nG(as:List Slot):dN:=jx (rP 0 (cT GX as))
noncomputable abbrev lA:List Str:=["one","other","larger","smaller","rest"]
noncomputable abbrev dY:List Str:=["one","other"]
def bU(n:Nat):Sg->Res Bool:=(dT (aO lU (aj 3) (dC (.int 0))))
def cU(n:Nat):Sg->Out:=(aZ (bR 4 (aO dD (aj 2) (aj 3)))
  (aZ (bR 2 (aj 3))
  (bR 3 (aj 4))))
def d7(n:Nat):Sg->Out:=(aZ (bR 2 (p6 IA (au (aj 0) aM)))
  (aZ (bR 3 (p6 IA (au (aj 1) aM)))
  (aZ (bD (bU n) (cU n) n)
  (eE (aj 2)))))
noncomputable def aK:List Slot->dN
 |[.val (.int a),.val (.int b)]=> .ok (.int (Int.gcd a b))
 |_=> .bad
def La(a b:Slot)(m:Nat):∀(s l k:Nat) (r:Slot),s<k->∃r',bD (bU m) (cU m) k [a,b,.val (.int l),.val (.int s),r]= .nx [a,b,.val (.int (Nat.gcd l s:Nat)),.val (.int 0),r']:=by
 intro s;induction s using Nat.strongRecOn with
 |_ s ih=>
  intro l k r hk;obtain ⟨k,rfl⟩:∃j,k=j+1:=⟨k- 1,by omega⟩;by_cases h:s=0
  ·subst h;exact ⟨r,by simp[bD,bU]⟩
  ·obtain ⟨r',e⟩:=ih (l%s) (Nat.mod_lt l (by omega)) s k (.val (.int (l%s:Nat))) (by have:=Nat.mod_lt l (show 0<s by omega);omega);refine ⟨r',?_⟩;have hs:((s:Int)=0)=False:=by simp[h]
   have hs':(s:Int)≠0:=by omega
   rw[zk l s h, <-e];simp[bD,bU,cU,h,hs,bO _ _ hs',zv]
def lI(as:List Slot)(hl:as.length=dY.length)(hb:aK as≠.bad):∃n,jx (d7 n (cT lA as))=aK as:=by
 obtain ⟨a,b,rfl⟩:∃a b,as=[.val (.int a),.val (.int b)]:=by
  unfold aK at hb;split at hb
  ·exact ⟨_,_,rfl⟩
  ·exact absurd rfl hb
 obtain ⟨r',e⟩:=La (.val (.int a)) (.val (.int b)) (b.natAbs+1) b.natAbs a.natAbs (b.natAbs+1) .no (by omega);refine ⟨b.natAbs+1,?_⟩;have ha:(if a<0 then -a else a)=(a.natAbs:Int):=by split<;>omega
 have hb:(if b<0 then -b else b)=(b.natAbs:Int):=by split<;>omega
 simp[d7,cT,IA,ha,hb,e,aK,Int.gcd]
noncomputable abbrev AM:List Str:=["top","bottom","divisor"]
noncomputable abbrev qL:List Str:=["top","bottom"]
def jg(n:Nat):Sg->Out:=(aZ (qB (dT (aO vE (aj 1) (dC (.int 0)))) (uL "NoFraction" (au (dC (.str "the bottom of a fraction is never 0")) aM)) di)
  (aZ (bR 2 (bu 2 aK (au (aj 0) (au (aj 1) aM))))
  (aZ (qB (dT (aO ltI (aj 1) (dC (.int 0)))) (bR 2 (Ib pK (aj 2))) di)
  (eE (ni (au (aO cF (aj 0) (aj 2)) (au (aO cF (aj 1) (aj 2)) aM)))))))
def cZ(as:List Slot):dN:=jx (jg 0 (cT AM as))
def pB(t b:Int)(h:b≠0)(hb:b.natAbs<2^9000):cZ [.val (.int t),.val (.int b)]= .ok (.tup [.int (r6 t b),.int (xN t b)]):=by
 have d1:∀x,cF (.int x) (.int (r9 b (Int.gcd t b)))= .ok (.int (x.fdiv (r9 b (Int.gcd t b)))):=λ x=>tX _ _ (zx (HQ h) (EI h hb));by_cases hn:b<0
 ·have e:r9 b (Int.gcd t b)= -(Int.gcd t b:Int):=by simp[r9,hn]
  rw[e] at d1;simp[cZ,jg,cT,h,hn,aK,d1,r6,xN,e]
 ·have e:r9 b (Int.gcd t b)=(Int.gcd t b:Int):=by simp[r9,hn]
  rw[e] at d1;simp[cZ,jg,cT,h,hn,aK,d1,r6,xN,e]
noncomputable def fq(p:Int×Int):D:= .tup [.int p.1,.int p.2]
def ZM(p:Int×Int):bG (fq p) (.int 0)= .ok (.int p.1):=rfl
def ZL(p:Int×Int):bG (fq p) (.int 1)= .ok (.int p.2):=rfl
structure Low(n:Nat)(p:Int×Int):Prop where
 pos:1<=p.2
 gcd:Int.gcd p.1 p.2=1
 top:p.1.natAbs<2^n
 bot:p.2.natAbs<2^n
def Kz{n:Nat}{x y:Int}(hx:x.natAbs<2^n)(hy:y.natAbs<2^n)(hn:n<=1000):cX (.int x) (.int y)= .ok (.int (x*y)):=mW _ _ (qS hx hy (Nat.le_trans hn (by decide)) (Nat.le_trans hn (by decide)))
def GZ{n m:Nat}{x y:Int}(hx:x.natAbs<2^n)(hy:y.natAbs<2^m):(x*y).natAbs<2^(n+m):=by rw[Int.natAbs_mul,Nat.pow_add];exact Nat.mul_lt_mul'' hx hy
def DZ{n m:Nat}{x:Int}(h:x.natAbs<2^n)(hnm:n<=m):x.natAbs<2^m:=Nat.lt_of_lt_of_le h (Nat.pow_le_pow_right (by decide) hnm)
def Qj{a b:Int}(ha:1<=a)(hb:1<=b):a*b≠0:=by have:0<a*b:=Int.mul_pos (by omega) (by omega);omega
def zo{n:Nat}(t b:Int)(h:b≠0)(hb:b.natAbs<2^n)(hn:n<=1000):cZ [.val (.int t),.val (.int b)]= .ok (fq (r6 t b,xN t b)):=pB t b h (DZ hb (Nat.le_trans hn (by decide)))
noncomputable abbrev Ci:List Str:=["one","other"]
abbrev Ca:List Str:=Ci
def vM(n:Nat):Sg->Out:=(eE (bu 2 cZ (au (aO fP (aO cX (aO bG (aj 0) (dC (.int 0))) (aO bG (aj 1) (dC (.int 1)))) (aO cX (aO bG (aj 1) (dC (.int 0))) (aO bG (aj 0) (dC (.int 1))))) (au (aO cX (aO bG (aj 0) (dC (.int 1))) (aO bG (aj 1) (dC (.int 1)))) aM))))
def qg(as:List Slot):dN:=jx (vM 0 (cT Ci as))
noncomputable abbrev iR:List Str:=["one","other"]
abbrev iQ:List Str:=iR
def fE(n:Nat):Sg->Out:=(eE (aO cX (aO cF (aj 0) (bu 2 aK (au (aj 0) (au (aj 1) aM)))) (aj 1)))
def cD(as:List Slot):dN:=jx (fE 0 (cT iR as))
noncomputable abbrev sH:List Str:=["number","row","size","parts","other","share","bottom","part"]
noncomputable abbrev kP:List Str:=["number","row","size"]
def dS(n:Nat):Sg->Out:=(iB 3 (fR 3) (aj 4) (oq 2 qg (au (aO bG (rH 3) (aj 4)) (au (aj 5) aM))))
def fV(n:Nat):Sg->Out:=(bR 6 (bu 2 cD (au (aj 6) (au (aO bG (aj 7) (dC (.int 1))) aM))))
def iI(n:Nat):Sg->Out:=(aZ (iP 3 (mL (Ms Ii (lX (Ms sA (lX (om (au (dC (.gt [.int 0,.int 1])) aM))) (aj 2))) (lX (om (au (aO bG (aj 1) (dC (.int 0))) aM))))))
  (aZ (iB 3 (fR 3) (aj 0) (dC (.gt [.int 1,.int 1])))
  (aZ (g5 (gg (aO bG (aj 1) (dC (.int 1)))) (cL 2 (aS (aG 4) (aS (aG 5) cW))) (dS n))
  (aZ (bR 6 (dC (.int 1)))
  (aZ (L3 3 (g5 (gg (aj 3)) (aG 7) (fV n)))
  (tG (mL (d8 false (gg (aj 3)) 1 [6] (aG 0) fC (aO cX (aO bG (aj 0) (dC (.int 0))) (aO cF (aj 1) (aO bG (aj 0) (dC (.int 1)))))))))))))
def bY(as:List Slot):dN:=jx (iI 0 (cT sH as))
noncomputable abbrev kQ:List Str:=["number","equations"]
abbrev kL:List Str:=kQ
def iG(n:Nat):Sg->Out:=(eE (p6 c8 (au (lX (d8 false (gg (aj 1)) 1 [0] (aG 0) (dT (aO lU (aO bG (aj 0) (aj 1)) (dC (.int 0)))) (dC (.int 1)))) aM)))
def bI(as:List Slot):dN:=jx (iG 0 (cT kQ as))
noncomputable abbrev sF:List Str:=["equation","others","numbers"]
noncomputable abbrev kM:List Str:=["equation","others"]
def fN(n:Nat):Sg->Out:=(aZ (bR 2 (lX (d8 false (jr (au (aO fP (p6 c8 (au (aj 0) aM)) (dC (.int 1))) aM)) 1 [0] (aG 0) (dT (aO lU (aO bG (aj 1) (aj 0)) (dC (.int 0)))) (aj 0))))
  (aZ (qB (dT (aO vE (aj 2) (lX (om aM)))) (uL "Loose" (au (dC (.str "the rows are not fulfilled by just one list")) aM)) di)
  (eE (zz (au (aj 2) aM) [1] (bu 2 bI (au (aj 0) (au (aj 1) aM)))))))
def cQ(as:List Slot):dN:=jx (fN 0 (cT sF as))
noncomputable abbrev GW:List Str:=["equation","divisor","part"]
noncomputable abbrev yC:List Str:=["equation"]
def dW(n:Nat):Sg->Out:=(aZ (qB (dT (aO vE (aj 1) (dC (.int 1)))) (eE (aj 0)) di)
  (bR 1 (bu 2 aK (au (aj 2) (au (aj 1) aM)))))
def jR(n:Nat):Sg->Out:=(aZ (bR 1 (dC (.int 0)))
  (aZ (g5 (gg (aj 0)) (aG 2) (dW n))
  (aZ (qB (dT (aO vE (aj 1) (dC (.int 0)))) (eE (aj 0)) di)
  (tG (mL (d8 false (gg (aj 0)) 1 [1] (aG 0) fC (aO cF (aj 0) (aj 1))))))))
def dJ(as:List Slot):dN:=jx (jR 0 (cT GW as))
noncomputable abbrev Ek:List Str:=["number","equation","known","divisor","keep","take"]
noncomputable abbrev tM:List Str:=["number","equation","known"]
def j4(n:Nat):Sg->Out:=(aZ (qB (dT (aO vE (aO bG (aj 1) (aj 0)) (dC (.int 0)))) (eE (aj 1)) di)
  (aZ (bR 3 (bu 2 aK (au (aO bG (aj 1) (aj 0)) (au (aO bG (aj 2) (aj 0)) aM))))
  (aZ (bR 4 (aO cF (aO bG (aj 2) (aj 0)) (aj 3)))
  (aZ (bR 5 (aO cF (aO bG (aj 1) (aj 0)) (aj 3)))
  (tG (lD 1 dJ (au (lX (d8 false (K5 (au (aj 1) (au (aj 2) aM))) 2 [4,5] (cL 2 (aS (aG 0) (aS (aG 1) cW))) fC (aO fP (aO cX (aj 2) (aj 0)) (aO cX (aj 3) (aj 1))))) aM)))))))
def cP(as:List Slot):dN:=jx (j4 0 (cT Ek as))
noncomputable abbrev qR:List Str:=["equations","found","left","first","number"]
noncomputable abbrev lz:List Str:=["equations"]
def ez(n:Nat):Sg->Res Bool:=(dT (aO lU (aj 2) (lX (om aM))))
def cG(n:Nat):Sg->Out:=(aZ (bR 2 (lX (nZ (au (aj 2) aM) [] (Ib pK (sM (aj 0) (dC (.int 0)))))))
  (aZ (bR 3 (aO bG (aj 2) (dC (.int 0))))
  (aZ (bR 4 (bu 2 cQ (au (aj 3) (au (lX (Hu (aj 2) (dP (dC (.int 1))) Ic)) aM))))
  (aZ (bR 2 (lX (d8 false (gg (lX (Hu (aj 2) (dP (dC (.int 1))) Ic))) 1 [4,3] (aG 0) fC (bu 3 cP (au (aj 1) (au (aj 0) (au (aj 2) aM)))))))
  (jW 1 (fR 1) (ni (au (aj 4) (au (aj 3) aM))))))))
def gW(n:Nat):Sg->Out:=(aZ (iP 1 (mL (om aM)))
  (aZ (bR 2 (aj 0))
  (aZ (bD (ez n) (cG n) n)
  (jn 1))))
def cY(as:List Slot):dN:=jx (gW 20 (cT qR as))
def A1(as:List Slot)(hl:as.length=lz.length)(hb:cY as≠.bad):∃n,jx (gW n (cT qR as))=cY as:=⟨20,rfl⟩
noncomputable abbrev AK:List Str:=["number","equation","values","top","bottom","other","value","joint"]
noncomputable abbrev qJ:List Str:=["number","equation","values"]
def c7(n:Nat):Sg->Out:=(qB (dT (aO lU (aO bG (aj 1) (aj 5)) (dC (.int 0)))) (aZ (bR 7 (bu 2 cD (au (aj 4) (au (aO bG (aj 6) (dC (.int 1))) aM))))
  (aZ (bR 3 (aO fP (aO cX (aj 3) (aO cF (aj 7) (aj 4))) (aO cX (aO cX (aO bG (aj 1) (aj 5)) (aO bG (aj 6) (dC (.int 0)))) (aO cF (aj 7) (aO bG (aj 6) (dC (.int 1)))))))
  (bR 4 (aj 7)))) di)
def lO(n:Nat):Sg->Out:=(aZ (bR 3 (aO bG (aj 1) (Ib pK (dC (.int 1)))))
  (aZ (bR 4 (dC (.int 1)))
  (aZ (g5 (AY (aj 2)) (cL 2 (aS (aG 5) (aS (aG 6) cW))) (c7 n))
  (eE (bu 2 cZ (au (aj 3) (au (aO cX (aj 4) (aO bG (aj 1) (aj 0))) aM)))))))
def jl(as:List Slot):dN:=jx (lO 0 (cT AK as))
noncomputable abbrev GV:List Str:=["rows","equations","values","number","equation"]
noncomputable abbrev yz:List Str:=["rows"]
def kU(n:Nat):Sg->Out:=(yl 2 (fR 2) (aj 3) (bu 3 jl (au (aj 3) (au (aj 4) (au (aj 2) aM)))))
def nA(n:Nat):Sg->Out:=(aZ (bR 1 (lX (d8 false (rB (au (aj 0) aM)) 2 [0] (cL 2 (aS (aG 0) (aS (aG 1) cW))) fC (bu 3 bY (au (aj 0) (au (aj 1) (au (p6 c8 (au (aj 2) aM)) aM)))))))
  (aZ (iP 2 (λ _=> .ok (.k (.s []) [])))
  (aZ (g5 (EF (au (bu 1 cY (au (aj 1) aM)) aM)) (cL 2 (aS (aG 3) (aS (aG 4) cW))) (kU n))
  (tG (mL (d8 true (jr (au (p6 c8 (au (aj 0) aM)) aM)) 1 [2] (aG 0) fC (aO getD (aj 1) (aj 0))))))))
def dI(as:List Slot):dN:=jx (nA 0 (cT GV as))
noncomputable abbrev tP:List Str:=["_law_found"]
abbrev tN:List Str:=tP
def oA(n:Nat):Sg->Out:=(eE (Lk (EM mt ["int"] (aj 0)) (P8 (EM mt ["bool"] (aj 0)))))
def iV(as:List Slot):dN:=jx (oA 0 (cT tP as))
noncomputable abbrev yN:List Str:=["_law_one","_law_other"]
abbrev yE:List Str:=yN
def rQ(n:Nat):Sg->Out:=(eE (bu 2 dg (au (aO eU (aO cX (aO bG (aj 0) (dC (.int 0))) (aO bG (aj 1) (dC (.int 1)))) (aO cX (aO bG (aj 1) (dC (.int 0))) (aO bG (aj 0) (dC (.int 1))))) (au (aO cX (aO bG (aj 0) (dC (.int 1))) (aO bG (aj 1) (dC (.int 1)))) aM))))
def nH(as:List Slot):dN:=jx (rQ 0 (cT yN as))
noncomputable abbrev sG:List Str:=["_law_rows_here","_law_found","_law_one","_law_k","_law_total","_law_number","_law_share"]
noncomputable abbrev kO:List Str:=["_law_rows_here","_law_found"]
def dR(n:Nat):Sg->Out:=(aZ (qB (Lo (Bj (dT (EM mt ["tuple"] (aj 2)))) (Lo (dT (aO lU (p6 c8 (au (aj 2) aM)) (dC (.int 2)))) (Lo (Bj (dT (bu 1 iV (au (aO bG (aj 2) (dC (.int 0))) aM)))) (Bj (dT (bu 1 iV (au (aO bG (aj 2) (dC (.int 1))) aM))))))) (eE (dC (.bl false))) di)
  (qB (Lo (dT (aO ltI (aO bG (aj 2) (dC (.int 0))) (dC (.int 0)))) (Lo (dT (aO ltI (aO bG (aj 2) (dC (.int 1))) (dC (.int 1)))) (dT (aO lU (bu 2 dg (au (aO bG (aj 2) (dC (.int 0))) (au (aO bG (aj 2) (dC (.int 1))) aM))) (aj 2))))) (eE (dC (.bl false))) di))
def dQ(n:Nat):Sg->Out:=(bR 4 (bu 2 nH (au (aj 4) (au (bu 2 dg (au (aO cX (aO bG (aj 6) (dC (.int 0))) (aO bG (aO bG (aj 1) (aj 5)) (dC (.int 0)))) (au (aO cX (aO bG (aj 6) (dC (.int 1))) (aO bG (aO bG (aj 1) (aj 5)) (dC (.int 1)))) aM))) aM))))
def dO(n:Nat):Sg->Out:=(aZ (bR 4 (aO bG (aO bG (aj 0) (aj 3)) (dC (.int 0))))
  (aZ (g5 (gg (aO bG (aO bG (aj 0) (aj 3)) (dC (.int 1)))) (cL 2 (aS (aG 5) (aS (aG 6) cW))) (dQ n))
  (qB (dT (aO lU (aj 4) (aO bG (aj 1) (aj 3)))) (eE (dC (.bl false))) di)))
def iH(n:Nat):Sg->Out:=(aZ (qB (Lo (Bj (dT (EM mt ["list"] (aj 1)))) (dT (aO lU (p6 c8 (au (aj 1) aM)) (p6 c8 (au (aj 0) aM))))) (eE (dC (.bl false))) di)
  (aZ (g5 (gg (aj 1)) (aG 2) (dR n))
  (aZ (g5 (jr (au (p6 c8 (au (aj 0) aM)) aM)) (aG 3) (dO n))
  (eE (dC (.bl true))))))
def dM(as:List Slot):dN:=jx (iH 0 (cT sG as))
noncomputable abbrev AL:List Str:=["_law_rows_here","_law_last","_law_turned_here","_law_constant_here","_law_terms"]
noncomputable abbrev qK:List Str:=["_law_rows_here"]
def gj(n:Nat):Sg->Out:=(jW 2 (fR 2) (ni (au (aj 3) (au (lX (d8 false (gg (aj 4)) 2 [1] (cL 2 (aS (aG 0) (aS (aG 1) cW))) fC (ni (au (aO fP (aj 2) (aj 0)) (au (aj 1) aM))))) aM))))
def lP(n:Nat):Sg->Out:=(aZ (bR 1 (aO fP (p6 c8 (au (aj 0) aM)) (dC (.int 1))))
  (aZ (iP 2 (mL (om aM)))
  (aZ (g5 (EF (au (aj 0) aM)) (cL 2 (aS (aG 3) (aS (aG 4) cW))) (gj n))
  (jn 2))))
def jm(as:List Slot):dN:=jx (lP 0 (cT AL as))
noncomputable abbrev TX:List Str:=["_law_script","_law_many","_law_rows_here","_law_handed","_law_found","_law_other"]
noncomputable abbrev Mf:List Str:=["_law_script"]
def Iw(n:Nat):Sg->Out:=(aZ (bR 1 (aO dD (bu 2 bJ (au (aj 0) (au (dC (.int 0)) aM))) (dC (.int 8))))
  (aZ (bR 2 (bu 2 nG (au (aj 0) (au (aj 1) aM))))
  (aZ (bR 3 (lX (d8 false (gg (aj 2)) 2 [] (cL 2 (aS (aG 0) (aS (aG 1) cW))) fC (ni (au (aj 0) (au (lX (OV yV (au (aj 1) aM))) aM))))))
  (aZ (iP 4 (lD 1 dI (au (aj 3) aM)))
  (aZ (qB (Lo (Bj (dT (oq 2 dM (au (aj 2) (au (rH 4) aM))))) (dT (aO lU (aj 3) (aj 2)))) (eE (dC (.bl false))) di)
  (aZ (bR 5 (bu 1 dI (au (bu 1 jm (au (aj 2) aM)) aM)))
  (aZ (qB (dT (aO lU (aj 5) (lX (OV y9 (au (rH 4) aM))))) (eE (dC (.bl false))) di)
  (aZ (Al 4 (fR 4))
  (eE (bu 2 dM (au (aj 2) (au (bu 1 dI (au (aj 2) aM)) aM))))))))))))
def nF(as:List Slot):dN:=jx (Iw 0 (cT TX as))
noncomputable def sJ:List Nat->(Nat->Rat)->Rat
 |[],_=>0
 |j::J,g=>g j+sJ J g
theorem bF{g h:Nat->Rat}:∀{J:List Nat},(∀j∈J,g j=h j)->sJ J g=sJ J h
 |[],_=>rfl
 |j::J,e=>by simp only[sJ];rw[e j (by simp),bF (J:=J) λ i hi=>e i (by simp[hi])]
theorem k6(a b:Rat)(g h:Nat->Rat):∀J:List Nat,sJ J (λ j=>a*g j- b*h j)=a*sJ J g- b*sJ J h
 |[]=>by simp only[sJ];grind
 |j::J=>by simp only[sJ];rw[k6 a b g h J];grind
theorem dU{g:Nat->Rat}:∀{J:List Nat},(∀j∈J,g j=0)->sJ J g=0
 |[],_=>rfl
 |j::J,e=>by simp only[sJ];rw[e j (by simp),dU (J:=J) λ i hi=>e i (by simp[hi])];grind
theorem jC{p:Nat}(g:Nat->Rat):∀{J:List Nat},p∈J->sJ J g=g p+sJ (J.erase p) g
 |j::J,h=>by
  by_cases e:j=p
  ·subst e;simp[sJ]
  ·have hp:p∈J:=by
    rcases List.mem_cons.mp h with q|q
    ·exact absurd q.symm e
    ·exact q
   rw[List.erase_cons_tail (by simpa using e)];simp only[sJ];rw[jC g hp];grind
def uM{g:Nat->Rat}{J L:List Nat}(h:J.Perm L):sJ J g=sJ L g:=by
 induction h with
 |nil=>rfl
 |cons x _ ih=>simp only[sJ];rw[ih]
 |swap x y l=>simp only[sJ];grind
 |trans _ _ i1 i2=>rw[i1,i2]
def dt(J:List Nat)(e X:Nat->Rat):Rat:=sJ J λ j=>e j*X j
def oj(J:List Nat)(a b:Rat)(e f X:Nat->Rat):dt J (λ j=>a*e j- b*f j) X=a*dt J e X- b*dt J f X:=by unfold dt;rw[<-k6];exact bF λ j _=>by grind
def HU{J:List Nat}(nd:J.Nodup){p:Nat}(hp:p∈J)(e X:Nat->Rat)(v:Rat):dt J e (λ j=>if j=p then v else X j)=e p*v+dt (J.erase p) e X:=by
 unfold dt;rw[jC _ hp];simp only[if_true];congr 1;refine bF λ j hj=>?_;have:j≠p:=λ z=>by subst z;exact (List.Nodup.mem_erase_iff nd).mp hj|>.1 rfl
 rw[if_neg this]
theorem fL:∀(R:List (Nat->Rat)) (J:List Nat),J.Nodup->R.length<J.length->∃X:Nat->Rat,(∃j∈J,X j≠0)/\(∀j,j∉J->X j=0)/\∀e∈R,dt J e X=0
 |[],J,nd,hl=>by
  cases J with
  |nil=>simp at hl
  |cons j J=>refine ⟨λ i=>if i=j then 1 else 0,⟨j,by simp,by simp⟩,λ i hi=>?_,by simp⟩;have:i≠j:=λ z=>hi (by simp[z]);simp[this]
 |f::R,J,nd,hl=>by
  by_cases h:∀j∈J,f j=0
  ·obtain ⟨X,h1,h2,h3⟩:=fL R J nd (by simp at hl;omega);refine ⟨X,h1,h2,λ e he=>?_⟩;rcases List.mem_cons.mp he with rfl|he
   ·exact dU λ j hj=>by rw[h j hj];grind
   ·exact h3 e he
  ·have:∃p∈J,f p≠0:=Classical.byContradiction λ z=>h λ j hj=>Classical.byContradiction λ w=>z ⟨j,hj,w⟩;obtain ⟨p,hp,fp⟩:=this;have XO:=nd.erase p;have lj:(J.erase p).length=J.length- 1:=List.length_erase_of_mem hp;obtain ⟨X,⟨i,hi,h1⟩,h2,h3⟩:=fL (R.map λ e j=>f p*e j- e p*f j) (J.erase p) XO (by simp at hl ⊢;omega);have ip:i≠p:=λ z=>by subst z;exact ((List.Nodup.mem_erase_iff nd).mp hi).1 rfl
   have key:∀e:Nat->Rat,dt J e (λ j=>if j=p then -(dt (J.erase p) f X)/ f p else X j)=e p*(-(dt (J.erase p) f X)/ f p)+dt (J.erase p) e X:=λ e=>HU nd hp e X _;refine ⟨λ j=>if j=p then -(dt (J.erase p) f X)/ f p else X j,⟨i,List.mem_of_mem_erase hi,by simp[ip,h1]⟩,λ j hj=>?_,λ e he=>?_⟩
   ·have:j≠p:=λ z=>hj (z▸hp);simp only[this,if_false];exact h2 j λ z=>hj (List.mem_of_mem_erase z)
   ·rw[key e];rcases List.mem_cons.mp he with rfl|he
    ·grind
    ·have:=h3 _ (List.mem_map.mpr ⟨e,he,rfl⟩);rw[oj] at this
     grind
termination_by R=>R.length
def cf(e:List Int):Nat->Rat:=λ j=>((e.getD j 0:Int):Rat)
def Pm(e:List Int):Prop:=∀(v:Nat->Int) (r:Rat),r≠0->(∀j,cf e j=r*(v j:Rat))->∀j,(e.getD j 0).natAbs<=(v j).natAbs
structure Wo(p:Nat)(f e e':List Int):Prop where
 len:e'.length=e.length
 off:e'.getD p 0=0
 Mq:∃a b c:Int,a≠0/\c≠0/\∀j,c*e'.getD j 0=a*e.getD j 0- b*f.getD j 0
 pr:e'=e\/Pm e'
def Wo.ev{p:Nat}{f e e':List Int}(w:Wo p f e e')(J:List Nat)(X:Nat->Rat):∃a b c:Rat,a≠0/\c≠0/\c*dt J (cf e') X=a*dt J (cf e) X- b*dt J (cf f) X:=by
 obtain ⟨a,b,c,ha,hc,h⟩:=w.Mq;refine ⟨a,b,c,by exact_mod_cast ha,by exact_mod_cast hc,?_⟩;rw[<-oj];have h1:dt J (λ j=>(c:Rat)*cf e' j- 0*cf e' j) X=c*dt J (cf e') X- 0*dt J (cf e') X:=oj J c 0 (cf e') (cf e') X;have h2:(λ j=>(c:Rat)*cf e' j- 0*cf e' j)=λ j=>(a:Rat)*cf e j- b*cf f j:=by
  funext j;have:=congrArg (λ z:Int=>(z:Rat)) (h j);simp only[Rat.intCast_mul,Rat.intCast_sub] at this;unfold cf
  grind
 rw[h2] at h1;rw[h1];grind
inductive DK(n:Nat):List (List Int)->List (Nat×List Int)->Prop
 |nil:DK n [] []
 |step {L r:List (List Int)} {f:List Int} {p:Nat} {w:List Int->List Int} {fs:List (Nat×List Int)}:L.Perm (f::r)->p<n->f.getD p 0≠0->(∀e∈r,Wo p f e (w e))->DK n (r.map w) fs->DK n L ((p,f)::fs)
inductive xG(n:Nat):List (List Int)->Prop
 |here {L r:List (List Int)} {f:List Int}:L.Perm (f::r)->(∀j<n,f.getD j 0=0)->xG n L
 |step {L r:List (List Int)} {f:List Int} {p:Nat} {w:List Int->List Int}:L.Perm (f::r)->p<n->f.getD p 0≠0->(∀e∈r,Wo p f e (w e))->xG n (r.map w)->xG n L
def DK.sol{n:Nat}{L:List (List Int)}{fs:List (Nat×List Int)}(u:DK n L fs)(J:List Nat)(X:Nat->Rat):(∀e∈L,dt J (cf e) X=0)↔ ∀q∈fs,dt J (cf q.2) X=0:=by
 induction u with
 |nil=>simp
 | @step L r f p w fs hp hn hf hw _ ih=>
  constructor
  ·intro h q hq;have h1:dt J (cf f) X=0:=h f (hp.mem_iff.mpr (by simp));rcases List.mem_cons.mp hq with rfl|hq
   ·exact h1
   ·refine ih.mp (λ e' he'=>?_) q hq;obtain ⟨e,he,rfl⟩:=List.mem_map.mp he';have h2:=h e (hp.mem_iff.mpr (by simp[he]));obtain ⟨a,b,c,ha,hc,z⟩:=(hw e he).ev J X;rw[h1,h2] at z
    grind
  ·intro h e he;have h1:dt J (cf f) X=0:=h (p,f) (by simp);rcases List.mem_cons.mp (hp.mem_iff.mp he) with rfl|he
   ·exact h1
   ·have h2:=ih.mpr (λ q hq=>h q (by simp[hq])) (w e) (List.mem_map.mpr ⟨e,he,rfl⟩);obtain ⟨a,b,c,ha,hc,z⟩:=(hw e he).ev J X;rw[h1,h2] at z
    grind
def Wo.at0{p j:Nat}{f e e':List Int}(w:Wo p f e e')(h1:f.getD j 0=0)(h2:e.getD j 0=0):e'.getD j 0=0:=by
 obtain ⟨a,b,c,ha,hc,h⟩:=w.Mq;have:=h j;rw[h1,h2] at this;simp only[Int.mul_zero,Int.sub_zero] at this;rcases Int.mul_eq_zero.mp this with z|z
 ·exact absurd z hc
 ·exact z
def DK.off{n j:Nat}{L:List (List Int)}{fs:List (Nat×List Int)}(u:DK n L fs)(h:∀e∈L,e.getD j 0=0):∀q∈fs,q.2.getD j 0=0:=by
 induction u with
 |nil=>simp
 | @step L r f p w fs hp hn hf hw _ ih=>
  intro q hq;have h1:=h f (hp.mem_iff.mpr (by simp));rcases List.mem_cons.mp hq with rfl|hq
  ·exact h1
  ·refine ih (λ e' he'=>?_) q hq;obtain ⟨e,he,rfl⟩:=List.mem_map.mp he';exact (hw e he).at0 h1 (h e (hp.mem_iff.mpr (by simp[he])))
def Bt:List (Nat×List Int)->Prop
 |[]=>True
 |(p,f)::fs=>f.getD p 0≠0/\(∀q∈fs,q.2.getD p 0=0)/\Bt fs
def DK.Zj{n:Nat}{L:List (List Int)}{fs:List (Nat×List Int)}(u:DK n L fs):Bt fs/\(∀q∈fs,q.1<n)/\fs.length=L.length:=by
 induction u with
 |nil=>simp[Bt]
 | @step L r f p w fs hp hn hf hw u ih=>
  obtain ⟨i1,i2,i3⟩:=ih;refine ⟨⟨hf,u.off λ e' he'=>?_,i1⟩,λ q hq=>?_,?_⟩
  ·obtain ⟨e,he,rfl⟩:=List.mem_map.mp he';exact (hw e he).off
  ·rcases List.mem_cons.mp hq with rfl|hq
   ·exact hn
   ·exact i2 q hq
  ·have:=hp.length_eq;simp at this i3 ⊢;omega
theorem Bt.at{q:Nat×List Int}:∀{fs:List (Nat×List Int)},Bt fs->q∈fs->q.2.getD q.1 0≠0
 |(p,f)::fs,h,hq=>by
  rcases List.mem_cons.mp hq with rfl|hq
  ·exact h.1
  ·exact h.2.2.at hq
theorem Bt.nd:∀{fs:List (Nat×List Int)},Bt fs->(fs.map (·.1)).Nodup
 |[],_=>by simp
 |(p,f)::fs,h=>by simp only[List.map_cons,List.nodup_cons];refine ⟨λ z=>?_,h.2.2.nd⟩;obtain ⟨q,hq,e⟩:=List.mem_map.mp z;have h1:=h.2.2.at hq;rw[e] at h1;exact h1 (h.2.1 q hq)
def EW{n:Nat}{l:List Nat}(nd:l.Nodup)(h:∀j∈l,j<n)(hl:l.length=n){j:Nat}(hj:j<n):j∈l:=by
 refine Classical.byContradiction λ z=>?_;have:=List.Nodup.length_le_of_subset (l₁:=j::l) (l₂:=List.range n) (List.nodup_cons.mpr ⟨z,nd⟩) (λ i hi=>by
  rcases List.mem_cons.mp hi with rfl|hi
  ·exact List.mem_range.mpr hj
  ·exact List.mem_range.mpr (h i hi))
 simp at this;omega
def lu{n:Nat}{l:List Nat}(nd:l.Nodup)(h:∀j∈l,j<n)(hl:l.length=n):l.Perm (List.range n):=by rw[List.perm_ext_iff_of_nodup nd List.nodup_range];exact λ j=>⟨λ z=>List.mem_range.mpr (h j z),λ z=>EW nd h hl (List.mem_range.mp z)⟩
def CP{J L:List Nat}(h:J.Perm L)(e X:Nat->Rat):dt J e X=dt L e X:=uM h
theorem Bt.zero{X:Nat->Rat}:∀{fs:List (Nat×List Int)},Bt fs->(∀q∈fs,dt (fs.map (·.1)) (cf q.2) X=0)->∀j∈fs.map (·.1),X j=0
 |[],_,_=>by simp
 |(p,f)::fs,h,hd=>by
  have i:=h.2.2.zero (X:=X) λ q hq=>by
   have:=hd q (by simp[hq]);simp only[List.map_cons,dt,sJ] at this;have z:=h.2.1 q hq;unfold dt;rw[show cf q.2 p=0 by unfold cf;rw[z];rfl] at this
   grind
  intro j hj;simp only[List.map_cons,List.mem_cons] at hj;rcases hj with rfl|hj
  ·have:=hd (j,f) (by simp);simp only[List.map_cons,dt,sJ] at this;rw[dU (λ k hk=>by rw[i k hk];grind)] at this;have hf:cf f j≠0:=by unfold cf;exact_mod_cast h.1
   grind
  ·exact i j hj
def DK.only{n:Nat}{L:List (List Int)}{fs:List (Nat×List Int)}(u:DK n L fs)(hL:L.length=n){X:Nat->Rat}(h:∀e∈L,dt (List.range n) (cf e) X=0):∀j<n,X j=0:=by
 obtain ⟨t,h1,h2⟩:=u.Zj;have pr:=lu t.nd (λ j hj=>by obtain ⟨q,hq,rfl⟩:=List.mem_map.mp hj;exact h1 q hq) (by simp;omega);have:=(u.sol (List.range n) X).mp h;have z:=t.zero (X:=X) λ q hq=>by rw[CP pr];exact this q hq
 exact λ j hj=>z j (pr.mem_iff.mpr (List.mem_range.mpr hj))
def xG.rows{n:Nat}{L:List (List Int)}(u:xG n L):∃R:List (Nat->Rat),R.length<L.length/\∀X:Nat->Rat,(∀g∈R,dt (List.range n) g X=0)->∀e∈L,dt (List.range n) (cf e) X=0:=by
 induction u with
 | @here L r f hp h0=>
  refine ⟨r.map cf,by rw[hp.length_eq];simp,λ X h e he=>?_⟩;rcases List.mem_cons.mp (hp.mem_iff.mp he) with rfl|he
  ·exact dU λ j hj=>by rw[show cf e j=0 by unfold cf;rw[h0 j (List.mem_range.mp hj)];rfl];grind
  ·exact h _ (List.mem_map.mpr ⟨e,he,rfl⟩)
 | @step L r f p w hp hn hf hw _ ih=>
  obtain ⟨R,hR,h⟩:=ih;refine ⟨cf f::R,by rw[hp.length_eq];simp at hR ⊢;exact hR,λ X hX e he=>?_⟩;have h1:=hX (cf f) (by simp);rcases List.mem_cons.mp (hp.mem_iff.mp he) with rfl|he
  ·exact h1
  ·have h2:=h X (λ g hg=>hX g (by simp[hg])) (w e) (List.mem_map.mpr ⟨e,he,rfl⟩);obtain ⟨a,b,c,ha,hc,z⟩:=(hw e he).ev (List.range n) X;rw[h1,h2] at z
   grind
def xG.other{n:Nat}{L:List (List Int)}(u:xG n L)(hL:L.length=n):∃X:Nat->Rat,(∃j<n,X j≠0)/\∀e∈L,dt (List.range n) (cf e) X=0:=by obtain ⟨R,hR,h⟩:=u.rows;obtain ⟨X,⟨j,hj,h1⟩,_,h3⟩:=fL R (List.range n) List.nodup_range (by simp;omega);exact ⟨X,⟨j,List.mem_range.mp hj,h1⟩,h X h3⟩
def ab(r:Rat):Rat:=if 0<=r then r else -r
def U9(r:Rat):0<=ab r:=by unfold ab;split<;>grind
def ID(r:Rat):r<=ab r:=by unfold ab;split<;>grind
def Bo(r:Rat): -r<=ab r:=by unfold ab;split<;>grind
def Lx{r:Rat}(h:ab r<=0):r=0:=by have:=ID r;have:=Bo r;grind
def Va{r w:Rat}(h1:r<=w)(h2: -r<=w):ab r<=w:=by unfold ab;split<;>assumption
theorem L1{g h:Nat->Rat}:∀{J:List Nat},(∀j∈J,g j<=h j)->sJ J g<=sJ J h
 |[],_=>by simp only[sJ];grind
 |j::J,e=>by
  simp only[sJ];have h1:=e j (by simp);have h2:=L1 (J:=J) λ i hi=>e i (by simp[hi])
  grind
theorem tH{g:Nat->Rat}:∀{J:List Nat},(∀j∈J,0<=g j)->0<=sJ J g
 |[],_=>by simp only[sJ];grind
 |j::J,e=>by
  simp only[sJ];have h1:=e j (by simp);have h2:=tH (J:=J) λ i hi=>e i (by simp[hi])
  grind
theorem Ak(g h:Nat->Rat):∀J:List Nat,sJ J (λ j=>g j+h j)=sJ J g+sJ J h
 |[]=>by simp only[sJ];grind
 |j::J=>by simp only[sJ];rw[Ak g h J];grind
theorem qA(a:Rat)(g:Nat->Rat):∀J:List Nat,sJ J (λ j=>a*g j)=a*sJ J g
 |[]=>by simp only[sJ];grind
 |j::J=>by simp only[sJ];rw[qA a g J];grind
theorem BV(L:List Nat)(g:Nat->Nat->Rat):∀J:List Nat,sJ J (λ i=>sJ L (g i))=sJ L (λ j=>sJ J λ i=>g i j)
 |[]=>by simp only[sJ];exact (dU λ _ _=>rfl).symm
 |i::J=>by simp only[sJ];rw[BV L g J, <-Ak]
theorem IB(A:Nat->Rat)(X:Nat->Rat):∀{J:List Nat},(∀j∈J,0<=A j)->ab (sJ J λ j=>A j*X j)<=sJ J λ j=>A j*ab (X j)
 |[],_=>by simp only[sJ];unfold ab;split<;>grind
 |j::J,h=>by have h1:=IB A X (J:=J) λ i hi=>h i (by simp[hi]);have h2:=h j (by simp);have h3:A j*X j<=A j*ab (X j):=Rat.mul_le_mul_of_nonneg_left (ID _) h2;have h4:A j*(-X j)<=A j*ab (X j):=Rat.mul_le_mul_of_nonneg_left (Bo _) h2;have h5:=ID (sJ J λ j=>A j*X j);have h6:=Bo (sJ J λ j=>A j*X j);simp only[sJ];exact Va (by grind) (by grind)
def jt(q:Rat):Prop:=∃z:Int,q=z
def jt.Mq{x y:Rat}(a b:Int)(hx:jt x)(hy:jt y):jt (a*x- b*y):=by obtain ⟨u,rfl⟩:=hx;obtain ⟨v,rfl⟩:=hy;exact ⟨a*u- b*v,by simp only[Rat.intCast_mul,Rat.intCast_sub]⟩
theorem jt.sum(c:Int)(e:Nat->Int)(y:Nat->Rat):∀{J:List Nat},(∀j∈J,jt (c*y j))->jt (c*dt J (λ j=>(e j:Rat)) y)
 |[],_=>⟨0,by simp only[dt,sJ];grind⟩
 |j::J,h=>by
  obtain ⟨u,hu⟩:=h j (by simp);obtain ⟨v,hv⟩:=jt.sum c e y (J:=J) λ i hi=>h i (by simp[hi]);refine ⟨e j*u+v,?_⟩;simp only[dt,sJ,Rat.intCast_mul,Rat.intCast_add] at hv ⊢
  grind
noncomputable def bd:Nat->Nat->Nat
 |0,_=>1
 |m+1,C=>C*bd m (2*C*C)
theorem CY:∀(m C:Nat) (R:List (Nat->Int)) (J:List Nat),R.length=m->J.length=m->J.Nodup->(∀e∈R,∀j∈J,(e j).natAbs<=C)->(∀X:Nat->Rat,(∀e∈R,dt J (λ j=>(e j:Rat)) X=0)->∀j∈J,X j=0)->
  ∃d:Int,d≠0/\d.natAbs<=bd m C/\∀y:Nat->Rat,(∀e∈R,jt (dt J (λ j=>(e j:Rat)) y))->∀j∈J,jt (d*y j)
 |0,C,R,J,hR,hJ,_,_,_=>by
  obtain rfl:=List.length_eq_zero_iff.mp hJ
  exact ⟨1,by decide,by simp[bd],by simp⟩
 |m+1,C,R,J,hR,hJ,nd,hC,hK=>by
  cases J with
  |nil=>cases hJ
  |cons p J=>
  rw[List.nodup_cons] at nd
  have ex:∃f∈R,f p≠0:=Classical.byContradiction λ z=>by
   have:=hK (λ j=>if j=p then 1 else 0) (λ e he=>by
    have e0:e p=0:=Classical.byContradiction λ w=>z ⟨e,he,w⟩
    simp only[dt,sJ]
    rw[dU (J:=J) λ j hj=>by rw[if_neg (show j≠p from λ w=>nd.1 (w▸hj))];grind,e0];simp;grind) p (by simp)
   simp at this
  obtain ⟨f,hf,fp⟩:=ex
  obtain ⟨R1,R2,rfl⟩:=List.append_of_mem hf
  have hmem:∀e∈R1++R2,e∈R1++f::R2:=λ e he=>by
   rcases List.mem_append.mp he with z|z
   ·exact List.mem_append_left _ z
   ·exact List.mem_append_right _ (List.mem_cons_of_mem _ z)
  have hfp:(f p:Rat)≠0:=by exact_mod_cast fp
  have cast:∀e:Nat->Int,(λ j=>(((f p*e j- e p*f j:Int)):Rat))=λ j=>(f p:Rat)*(e j:Rat) -(e p:Rat)*(f j:Rat):=λ e=>by
   funext j;simp only[Rat.intCast_mul,Rat.intCast_sub]
  obtain ⟨d,d0,dl,hd⟩:=CY m (2*C*C) ((R1++R2).map λ e j=>f p*e j- e p*f j) J (by simp at hR ⊢;omega) (by simpa using hJ) nd.2 (λ e' he' j hj=>by
    obtain ⟨e,he,rfl⟩:=List.mem_map.mp he'
    have a1:=hC f hf p (by simp)
    have a2:=hC e (hmem e he) j (by simp[hj])
    have a3:=hC e (hmem e he) p (by simp)
    have a4:=hC f hf j (by simp[hj])
    have b1:(f p*e j).natAbs<=C*C:=by rw[Int.natAbs_mul];exact Nat.mul_le_mul a1 a2
    have b2:(e p*f j).natAbs<=C*C:=by rw[Int.natAbs_mul];exact Nat.mul_le_mul a3 a4
    have:2*C*C=C*C+C*C:=by rw[Nat.mul_assoc];omega
    show (f p*e j- e p*f j).natAbs<=2*C*C
    omega) (λ X hX j hj=>by
    have:=hK (λ j=>if j=p then -(dt J (λ j=>(f j:Rat)) X)/ f p else X j) (λ e he=>by
     have c1:dt (p::J) (λ j=>(e j:Rat)) (λ j=>if j=p then -(dt J (λ j=>(f j:Rat)) X)/ f p else X j)=e p*(-(dt J (λ j=>(f j:Rat)) X)/ f p)+dt J (λ j=>(e j:Rat)) X:=by
      have:=HU (J:=p::J) (List.nodup_cons.mpr nd) (p:=p) (by simp) (λ j=>(e j:Rat)) X (-(dt J (λ j=>(f j:Rat)) X)/ f p)
      rw[this];simp
     rw[c1]
     rcases List.mem_append.mp he with z|z
     ·have q:=hX _ (List.mem_map.mpr ⟨e,List.mem_append_left _ z,rfl⟩)
      rw[cast,oj] at q
      grind
     ·rcases List.mem_cons.mp z with rfl|z
      ·grind
      ·have q:=hX _ (List.mem_map.mpr ⟨e,List.mem_append_right _ z,rfl⟩)
       rw[cast,oj] at q
       grind) j (by simp[hj])
    have np:j≠p:=λ w=>nd.1 (w▸hj)
    simpa[np] using this)
  refine ⟨d*f p,Int.mul_ne_zero d0 fp,?_,λ y hy=>?_⟩
  ·rw[Int.natAbs_mul]
   have a1:=hC f hf p (by simp)
   have:=Nat.mul_le_mul dl a1
   rw[Nat.mul_comm] at this
   calc d.natAbs*(f p).natAbs=(f p).natAbs*d.natAbs:=Nat.mul_comm _ _
    _<=bd m (2*C*C)*C:=by rw[Nat.mul_comm];exact Nat.mul_le_mul dl a1
    _=C*bd m (2*C*C):=Nat.mul_comm _ _
  ·have ZY:=hd y λ e' he'=>by
    obtain ⟨e,he,rfl⟩:=List.mem_map.mp he'
    have q1:=hy e (hmem e he)
    have q2:=hy f hf
    have z:dt J (λ j=>(((f p*e j- e p*f j:Int)):Rat)) y=(f p:Rat)*dt (p::J) (λ j=>(e j:Rat)) y-(e p:Rat)*dt (p::J) (λ j=>(f j:Rat)) y:=by
     rw[cast,oj]
     simp only[dt,sJ];grind
    rw[z]
    exact jt.Mq _ _ q1 q2
   intro j hj
   rcases List.mem_cons.mp hj with rfl|hj
   ·obtain ⟨u,hu⟩:=hy f hf
    obtain ⟨v,hv⟩:=jt.sum d f y ZY
    refine ⟨d*u- v,?_⟩
    simp only[dt,sJ,Rat.intCast_mul,Rat.intCast_sub] at hu hv ⊢
    grind
   ·obtain ⟨u,hu⟩:=ZY j hj
    refine ⟨f p*u,?_⟩
    simp only[Rat.intCast_mul]
    grind
def fK(x:Rat):x*(x.den:Rat)=x.num:=by
 have h:((x.den:Nat):Rat)≠0:=by exact_mod_cast x.den_nz
 have e:x=(x.num:Rat)/(x.den:Rat):=by have:=Rat.num_divInt_den x;rw[Rat.divInt_eq_div] at this;exact this.symm
 have e2:x*(x.den:Rat)=(x.num:Rat)/(x.den:Rat)*(x.den:Rat):=by rw[<-e]
 rw[e2]
 grind
def m8{x:Rat}{d:Int}(h:jt (d*x)):(x.den:Int)∣d:=by
 obtain ⟨z,hz⟩:=h;have e:d*x.num=z*x.den:=by
  have h1:(d:Rat)*x*x.den=z*x.den:=by rw[hz]
  rw[Rat.mul_assoc,fK] at h1
  exact_mod_cast h1
 have dv:x.den∣x.num.natAbs*d.natAbs:=by have:=congrArg Int.natAbs e;rw[Int.natAbs_mul,Int.natAbs_mul] at this;exact ⟨z.natAbs,by rw[Nat.mul_comm,this];simp[Nat.mul_comm]⟩
 have:=Nat.Coprime.dvd_of_dvd_mul_left x.reduced.symm dv;exact Int.natAbs_dvd_natAbs.mp (by simpa using this)
def iL(e:List Int):D:= .lst (e.map D.int)
inductive IsL:dN->List Int->Prop
 |ok (e:List Int):IsL (.ok (iL e)) e
 |new (e:List Int):IsL (.new (.l (e.map D.int))) e
 |OL (e:List Int):IsL (.new (.d (iL e))) e
def IsL.d{a:dN}{e:List Int}(h:IsL a e):lM a= .ok (iL e):=by cases h<;>rfl
def fB{t:Tg}{B:Sg->Out}{d:D}{xs:List D}{Γ Γ1 Γ2:Sg}(h1:t d Γ=some Γ1)(h2:B Γ1= .nx Γ2):cS t B (d::xs) Γ=cS t B xs Γ2:=by simp[cS,h1,h2]
def Ld{t:Tg}{B:Sg->Out}{d r:D}{xs:List D}{Γ Γ1:Sg}(h1:t d Γ=some Γ1)(h2:B Γ1= .rt r):cS t B (d::xs) Γ= .rt r:=by simp[cS,h1,h2]
theorem rM{el:D->Res (Option D)}(f:Int->Int):∀{e:List Int},(∀z∈e,el (.int z)= .ok (some (.int (f z))))->bP el (e.map D.int)= .ok ((e.map f).map D.int)
 |[],_=>rfl
 |z::e,h=>by have:=rM (el:=el) f (e:=e) λ y hy=>h y (by simp[hy]);simp only[List.map_cons,bP,h z (by simp),this,Res.bnd]
def gf:List Int->Nat->Nat
 |[],d=>d
 |z::e,d=>gf e (Int.gcd z d)
theorem HL:∀(e:List Int),gf e 1=1
 |[]=>rfl
 |z::e=>by simp[gf,HL e]
theorem A2:∀(e:List Int) (d:Nat),gf e d∣d/\∀z∈e,(gf e d:Int)∣z
 |[],d=>⟨Nat.dvd_refl _,by simp⟩
 |z::e,d=>by
  obtain ⟨h1,h2⟩:=A2 e (Int.gcd z d);simp only[gf];refine ⟨Nat.dvd_trans h1 (by have:=Int.gcd_dvd_natAbs_right z d;simpa using this),λ y hy=>?_⟩;rcases List.mem_cons.mp hy with rfl|hy
  ·exact Int.dvd_trans (Int.natCast_dvd_natCast.mpr h1) (Int.gcd_dvd_left ..)
  ·exact h2 y hy
theorem Ck(E:D):∀(e:List Int) (d:Nat) (s:Slot),(∃s',cS (aG 2) (dW 0) (e.map D.int) [.val E,.val (.int d),s]= .nx [.val E,.val (.int (gf e d)),s'])\/(gf e d=1/\cS (aG 2) (dW 0) (e.map D.int) [.val E,.val (.int d),s]= .rt E)
 |[],d,s=> .inl ⟨s,rfl⟩
 |z::e,d,s=>by
  by_cases h:d=1
  ·subst h;right;refine ⟨HL _,Ld (Γ1:=[.val E,.val (.int 1),.val (.int z)]) rfl ?_⟩;simp[dW]
  ·have hd:¬((d:Int)=1):=by omega
   have e1:cS (aG 2) (dW 0) (D.int z::e.map D.int) [.val E,.val (.int d),s]=cS (aG 2) (dW 0) (e.map D.int) [.val E,.val (.int (Int.gcd z d)),.val (.int z)]:=fB (Γ1:=[.val E,.val (.int d),.val (.int z)]) rfl (by simp[dW,hd,aK]);have:=Ck E e (Int.gcd z d) (.val (.int z));simp only[List.map_cons,gf,e1];exact this
theorem Ba:∀(e:List Int) (d g:Nat),g∣d->(∀z∈e,(g:Int)∣z)->g∣gf e d
 |[],d,g,h,_=>h
 |z::e,d,g,h,k=>by
  refine Ba e _ g ?_ λ y hy=>k y (by simp[hy]);have h1:g∣z.natAbs:=by have:=Int.natAbs_dvd_natAbs.mpr (k z (by simp));simpa using this
  exact Nat.dvd_gcd h1 (by simpa using h)
def Mc{e:List Int}(h:∀g:Nat,(∀z∈e,(g:Int)∣z)->g=1):Pm e:=by
 intro v r r0 hv;have ev:∀j,e.getD j 0*(r.den:Int)=r.num*v j:=λ j=>by
  have h1:=hv j;have h2:cf e j*(r.den:Rat)=r.num*(v j:Rat):=by rw[h1, <-fK r];grind
  unfold cf at h2
  exact_mod_cast h2
 have na:∀j,(e.getD j 0).natAbs*r.den=r.num.natAbs*(v j).natAbs:=λ j=>by have:=congrArg Int.natAbs (ev j);rw[Int.natAbs_mul,Int.natAbs_mul] at this;simpa using this
 have one:r.num.natAbs=1:=h _ λ z hz=>by
  obtain ⟨j,hj,rfl⟩:=List.getElem_of_mem hz;have e1:e.getD j 0=e[j]:=by simp[hj]
  have:=na j;rw[e1] at this;have dv:r.num.natAbs∣e[j].natAbs*r.den:=⟨_,this⟩;have:=Nat.Coprime.dvd_of_dvd_mul_right r.reduced dv;exact Int.natAbs_dvd_natAbs.mp (by simpa using this)
 intro j;have:=na j;rw[one,Nat.one_mul] at this;rw[<-this];exact Nat.le_mul_of_pos_right _ r.den_pos
def iT(e:List Int)(j:Nat):e.getD j 0=0\/e.getD j 0∈e:=by
 simp only[List.getD_eq_getElem?_getD];cases h:e[j]? with
 |none=>left;rfl
 |some z=>right;exact List.mem_of_getElem? h
def J7{e:List Int}(h:∀z∈e,z=0):Pm e:=by
 intro v r _ _ j;rcases iT e j with z|z
 ·rw[z];simp
 ·rw[h _ z];simp
structure Vo(e e':List Int):Prop where
 len:e'.length=e.length
 pr:Pm e'
 Mq:∃c:Int,c≠0/\∀j,c*e'.getD j 0=e.getD j 0
def getD_map(f:Int->Int)(h0:f 0=0)(e:List Int)(j:Nat):(e.map f).getD j 0=f (e.getD j 0):=by simp only[List.getD_eq_getElem?_getD,List.getElem?_map];cases e[j]? <;>simp[h0]
def Jj{e:List Int}(h:gf e 0=0):∀z∈e,z=0:=λ z hz=>by have:=(A2 e 0).2 z hz;rw[h] at this;simpa using this
theorem CD:∀{e:List Int},(∀z∈e,z=0)->gf e 0=0
 |[],_=>rfl
 |z::e,h=>by have:=h z (by simp);subst this;simp only[gf];exact CD λ y hy=>h y (by simp[hy])
def Aj(e:List Int):fX (iL e)= .ok (e.map D.int):=rfl
def eO(x:Int){g:Int}(h0:g≠0)(h:g.natAbs.log2<9000):cF (.int x) (.int g)= .ok (.int (x.fdiv g)):=by simp[cF,rG,h0,h]
def nY{g m:Nat}(hg:g≠0)(h:g<2^m):g.log2<m:=(Nat.log2_lt hg).mpr h
theorem dG:∀e:List Int,eu (e.map D.int)=true
 |[]=>rfl
 |z::e=>by simp[eu,nt,dG e]
def Hi{e:List Int}{g:Int}(h0:g≠0)(h:g.natAbs.log2<9000):bP (jQ (aG 0) fC (aO cF (aj 0) (aj 1)) [.no,.val (.int g)]) (e.map D.int)= .ok ((e.map λ z=>z.fdiv g).map D.int):=rM _ λ z _=>by simp[jQ,eO z h0 h]
def Hg{e:List Int}(hl:e.length<100000)(hs:∀z∈e,z.natAbs<2^9000):∃e',IsL (dJ [.val (iL e)]) e'/\Vo e e':=by
 rcases Ck (iL e) e 0 .no with ⟨s',h⟩|⟨g1,h⟩
 ·by_cases g0:gf e 0=0
  ·refine ⟨e,?_,rfl,J7 (Jj g0),1,by decide,λ j=>by omega⟩;have:dJ [.val (iL e)]= .ok (iL e):=by have q:=Aj e;generalize iL e=E at*;simp only[Int.natCast_zero,g0] at h;simp[dJ,jR,cT,q,h]
   rw[this];exact .ok e
  ·have dv:=(A2 e 0).2;have gp:(gf e 0:Int)≠0:=by omega
   have g9:(gf e 0:Int).natAbs.log2<9000:=by
    have ex:∃z∈e,z≠0:=Classical.byContradiction λ w=>g0 (CD λ z hz=>Classical.byContradiction λ v=>w ⟨z,hz,v⟩);obtain ⟨z,hz,z0⟩:=ex;have d1:gf e 0∣z.natAbs:=by have:=Int.natAbs_dvd_natAbs.mpr (dv z hz);simpa using this
    have d2:=Nat.le_of_dvd (by omega) d1;rw[Int.natAbs_natCast];exact nY g0 (Nat.lt_of_le_of_lt d2 (hs z hz))
   refine ⟨e.map λ z=>z.fdiv (gf e 0),?_,by simp,Mc λ k hk=>?_,gf e 0,gp,λ j=>?_⟩
   ·have:dJ [.val (iL e)]= .new (.l ((e.map λ z=>z.fdiv (gf e 0)).map D.int)):=by
     have q:=Aj e;have c:=Hi (e:=e) gp g9;have nR:kr (.l ((e.map λ z=>z.fdiv (gf e 0)).map D.int))=true:=by simp only[kr];exact dG _
     have hn:e.length<1000000:=by omega
     generalize (e.map λ z=>z.fdiv (gf e 0)).map D.int=R at*;generalize iL e=E at*;simp only[Int.natCast_zero] at h;generalize (gf e 0:Int)=g at*;simp[dJ,jR,cT,q,h,gp,hn,iK,lN,c,nR]
    rw[this];exact .new _
   ·have kg:k*gf e 0∣gf e 0:=Ba e 0 _ (Nat.dvd_zero _) λ z hz=>by obtain ⟨m,hm⟩:=hk _ (List.mem_map.mpr ⟨z,hz,rfl⟩);have:=Int.mul_fdiv_cancel' (dv z hz);refine ⟨m,?_⟩;rw[<-this,hm,Int.natCast_mul];grind
    have:=Nat.le_of_dvd (by omega) kg;have k1:k*gf e 0<=1*gf e 0:=by omega
    have k2:=Nat.le_of_mul_le_mul_right k1 (by omega);have k0:k≠0:=λ w=>by rw[w,Nat.zero_mul] at kg;exact g0 (Nat.eq_zero_of_zero_dvd kg)
    omega
   ·rw[getD_map _ (by simp) e j];rcases iT e j with z|z
    ·rw[z];simp
    ·exact Int.mul_fdiv_cancel' (dv _ z)
 ·refine ⟨e,?_,rfl,Mc λ k hk=>?_,1,by decide,λ j=>by omega⟩
  ·have:dJ [.val (iL e)]= .ok (iL e):=by have q:=Aj e;generalize iL e=E at*;simp only[Int.natCast_zero] at h;simp[dJ,jR,cT,q,h]
   rw[this];exact .ok e
  ·have:=Ba e 0 k (Nat.dvd_zero _) hk;rw[g1] at this;exact Nat.dvd_one.mp this
def fj{x y:Int}(hx:x.natAbs<2^100000)(hy:y.natAbs<2^100000):cX (.int x) (.int y)= .ok (.int (x*y)):=mW _ _ (qS hx hy (by decide) (by decide))
def pz(e f:List Int):List D:=(e.zip f).map λ q=> .tup [.int q.1,.int q.2]
def M4(e f:List Int):Vx [iL e,iL f]= .ok (pz e f):=by simp only[Vx,iL,pz,List.zip_map,List.map_map];rfl
def lF{ds:List D}{d:D}{p:Nat}(h:ds[p]? =some d):bG (.lst ds) (.int p)= .ok d:=by have hp:=(List.getElem?_eq_some_iff.mp h).1;simp[bG,um,mY,hp];exact (List.getElem?_eq_some_iff.mp h).2
def jq{e:List Int}{p:Nat}(h:p<e.length):bG (iL e) (.int p)= .ok (.int (e.getD p 0)):=lF (by simp[List.getElem?_eq_getElem h])
theorem zE{el:D->Res (Option D)}(f:Int->Int->Int):∀{l:List (Int×Int)},(∀q∈l,el (.tup [.int q.1,.int q.2])= .ok (some (.int (f q.1 q.2))))->bP el (l.map λ q=> .tup [.int q.1,.int q.2])= .ok ((l.map λ q=>f q.1 q.2).map D.int)
 |[],_=>rfl
 |q::l,h=>by have:=zE (el:=el) f (l:=l) λ y hy=>h y (by simp[hy]);simp only[List.map_cons,bP,h q (by simp),this,Res.bnd]
theorem rC(f:Int->Int->Int)(h0:f 0 0=0):∀{a b:List Int} (j:Nat),a.length=b.length->((a.zip b).map λ q=>f q.1 q.2).getD j 0=f (a.getD j 0) (b.getD j 0)
 |[],[],_,_=>by simp[h0]
 |x::a,y::b,0,_=>by simp
 |x::a,y::b,j+1,h=>by have:=rC f h0 (a:=a) (b:=b) j (by simpa using h);simpa using this
def bB{x a b:Nat}(h:x<2^a)(hab:a<=b):x<2^b:=Nat.lt_of_lt_of_le h (Nat.pow_le_pow_right (by decide) hab)
def DN{p:Nat}{e f:List Int}(hp:p<e.length)(hl:f.length=e.length)(h1:e.length<100000)(f0:f.getD p 0≠0)(he:∀z∈e,z.natAbs<2^4400)(hf:∀z∈f,z.natAbs<2^4400):
  ∃e',IsL (cP [.val (.int p),.val (iL e),.val (iL f)]) e'/\Wo p f e e':=by
 have ie:=jq hp;have jf:=jq (e:=f) (p:=p) (by omega);have be:∀j,(e.getD j 0).natAbs<2^4400:=λ j=>by
  rcases iT e j with z|z
  ·rw[z];exact Nat.pow_pos (by decide)
  ·exact he _ z
 have bf:∀j,(f.getD j 0).natAbs<2^4400:=λ j=>by
  rcases iT f j with z|z
  ·rw[z];exact Nat.pow_pos (by decide)
  ·exact hf _ z
 have YM:=be p;have Z7:=bf p;by_cases e0:e.getD p 0=0
 ·refine ⟨e,?_,rfl,e0,⟨1,0,1,by decide,by decide,λ j=>by omega⟩,.inl rfl⟩
  ·have:cP [.val (.int p),.val (iL e),.val (iL f)]= .ok (iL e):=by rw[e0] at ie;generalize iL e=E at*;generalize iL f=G at*;simp[cP,j4,cT,ie]
   rw[this];exact .ok e
 ·generalize ev:e.getD p 0=ep at*;generalize fv:f.getD p 0=fp at*;have g0:(Int.gcd ep fp:Int)≠0:=by have:=Int.gcd_pos_of_ne_zero_left fp e0;omega
  have gl:(Int.gcd ep fp:Int).natAbs.log2<9000:=by rw[Int.natAbs_natCast];refine nY (by omega) (bB (Nat.lt_of_le_of_lt ?_ YM) (by decide));exact Nat.le_of_dvd (by omega) (Int.gcd_dvd_natAbs_left ep fp)
  have d1:(Int.gcd ep fp:Int)∣fp:=Int.gcd_dvd_right ..;have d2:(Int.gcd ep fp:Int)∣ep:=Int.gcd_dvd_left ..;generalize hg:(Int.gcd ep fp:Int)=g at*;obtain ⟨k,hk⟩:=d1;obtain ⟨t,ht⟩:=d2;have k1:fp.fdiv g=k:=by rw[hk,Int.mul_comm];exact Int.mul_fdiv_cancel _ g0
  have t1:ep.fdiv g=t:=by rw[ht,Int.mul_comm];exact Int.mul_fdiv_cancel _ g0
  have gp:1<=g.natAbs:=by omega
  have kl:k.natAbs<=fp.natAbs:=by rw[hk,Int.natAbs_mul];exact Nat.le_mul_of_pos_left _ gp
  have tl:t.natAbs<=ep.natAbs:=by rw[ht,Int.natAbs_mul];exact Nat.le_mul_of_pos_left _ gp
  have k0:k≠0:=λ z=>by rw[z,Int.mul_zero] at hk;exact f0 hk
  have dk:=eO fp g0 gl;have Z6:=eO ep g0 gl;rw[k1] at dk;rw[t1] at Z6;have cmp:bP (jQ (cL 2 (aS (aG 0) (aS (aG 1) cW))) fC (aO fP (aO cX (aj 2) (aj 0)) (aO cX (aj 3) (aj 1))) [.no,.no,.val (.int k),.val (.int t)]) (pz e f)= .ok (((e.zip f).map λ q=>k*q.1- t*q.2).map D.int):=
   zE (λ a b=>k*a- t*b) λ q hq=>by obtain ⟨q1,q2⟩:=q;have m1:=he _ (List.of_mem_zip hq).1;have m2:=hf _ (List.of_mem_zip hq).2;have z1:=fj (x:=k) (y:=q1) (bB (Nat.lt_of_le_of_lt kl Z7) (by decide)) (bB m1 (by decide));have z2:=fj (x:=t) (y:=q2) (bB (Nat.lt_of_le_of_lt tl YM) (by decide)) (bB m2 (by decide));simp[jQ,z1,z2,fP]
  have ln:(pz e f).length<1000000:=by simp[pz];omega
  have zp:=M4 e f;have sz:∀z∈(e.zip f).map λ q=>k*q.1- t*q.2,z.natAbs<2^9000:=λ z hz=>by
   obtain ⟨q,hq,rfl⟩:=List.mem_map.mp hz;have m1:=he _ (List.of_mem_zip hq).1;have m2:=hf _ (List.of_mem_zip hq).2;have b1:(k*q.1).natAbs<2^8800:=by rw[Int.natAbs_mul,show (2:Nat)^8800=2^4400*2^4400 from by rw[<-Nat.pow_add]];exact Nat.mul_lt_mul'' (Nat.lt_of_le_of_lt kl Z7) m1
   have b2:(t*q.2).natAbs<2^8800:=by rw[Int.natAbs_mul,show (2:Nat)^8800=2^4400*2^4400 from by rw[<-Nat.pow_add]];exact Nat.mul_lt_mul'' (Nat.lt_of_le_of_lt tl YM) m2
   have b3:(2:Nat)^8800+2^8800<=2^9000:=by
    rw[show (2:Nat)^9000=2^8800*2^200 from by rw[<-Nat.pow_add]];have:(2:Nat)<=2^200:=by decide
    have:=Nat.mul_le_mul_left (2^8800) this;omega
   omega
  obtain ⟨e',hL,lo⟩:=Hg (e:=(e.zip f).map λ q=>k*q.1- t*q.2) (by simp;omega) sz;refine ⟨e',?_,by rw[lo.len];simp;omega,?_,?_,.inr lo.pr⟩
  ·have nL:eu [iL ((e.zip f).map λ q=>k*q.1- t*q.2)]=true:=by simp only[eu,iL,nt,dG];rfl
   have fz:vq (.l (((e.zip f).map λ q=>k*q.1- t*q.2).map D.int))= .ok (iL ((e.zip f).map λ q=>k*q.1- t*q.2)):=rfl;have nx:∀(A:dN) (x:List Int) (Γ:Sg),IsL A x->IsL (jx (oE (ju A) Γ λ m=>if kr m=true then Out.zV m else Out.bad)) x:=λ A x Γ hA=>by
    cases hA with
    |ok=>simp only[ju,oE,kr,nt,iL,dG,if_true,jx];exact .OL x
    |new=>simp only[ju,oE,kr,dG,if_true,jx];exact .new x
    |OL=>simp only[ju,oE,kr,nt,iL,dG,if_true,jx];exact .OL x
   have gd:aK [.val (.int ep),.val (.int fp)]= .ok (.int g):=by rw[<-hg];rfl
   have key:cP [.val (.int p),.val (iL e),.val (iL f)]=jx (oE (ju (dJ [.val (iL ((e.zip f).map λ q=>k*q.1- t*q.2))])) [.val (.int p),.val (iL e),.val (iL f),.val (.int g),.val (.int k),.val (.int t)] λ m=>if kr m=true then Out.zV m else Out.bad):=by generalize ((e.zip f).map λ q=>k*q.1- t*q.2)=N at*;generalize pz e f=Z at*;generalize iL e=E at*;generalize iL f=G at*;simp[cP,j4,cT,ie,jf,e0,gd,dk,Z6,iK,lN,K5,zp,ln,cmp,nL,fz,iL,dG]
   rw[key];exact nx _ _ _ hL
  ·obtain ⟨c,c0,hc⟩:=lo.Mq;have:=hc p;rw[rC (λ a b=>k*a- t*b) (by simp) p hl.symm,ev,fv] at this;have z:k*ep- t*fp=0:=by rw[ht,hk];grind
   rw[z] at this;rcases Int.mul_eq_zero.mp this with w|w
   ·exact absurd w c0
   ·exact w
  ·obtain ⟨c,c0,hc⟩:=lo.Mq;refine ⟨k,t,c,k0,c0,λ j=>?_⟩;rw[hc j,rC (λ a b=>k*a- t*b) (by simp) j hl.symm]
def rL(L:List (List Int)):D:= .lst (L.map iL)
theorem lG:∀e:List Int,gT (e.map D.int)=some e
 |[]=>rfl
 |z::e=>by simp[gT,lG e]
def Lm(e:List Int):(Ib pK (sM (aj 0) (dC (.int 0)))) [.val (iL e)]= .ok (.int (-(e.count 0:Nat))):=by
 have:(qe (iL e)).bind gT=some e:=by simp only[iL,qe,Option.bind_some,lG]
 simp[sM,this,Qe]
theorem qY{fk:D->Res D}(key:List Int->Int):∀{L:List (List Int)},(∀e∈L,fk (iL e)= .ok (.int (key e)))->eN fk (L.map iL)=some (L.map key)
 |[],_=>rfl
 |e::L,h=>by have:=qY (fk:=fk) key (L:=L) λ y hy=>h y (by simp[hy]);simp[eN,h e (by simp),this]
def Nu{L:List (List Int)}(hl:L.length<64)(s0 s1 s3 s4:Slot):∃L':List (List Int),L.Perm L'/\nZ (au (aj 2) aM) [] (Ib pK (sM (aj 0) (dC (.int 0)))) [s0,s1,.val (rL L),s3,s4]= .ok (L'.map iL):=by
 have hk:=qY (fk:=λ x=>(Ib pK (sM (aj 0) (dC (.int 0)))) (lE x [] [s0,s1,.val (rL L),s3,s4])) (λ e=> -(e.count 0:Nat)) (L:=L) λ e _=>Lm e;have pm:=jO (L.map λ e=>(-(e.count 0:Nat):Int));rw[List.length_map] at pm;obtain ⟨ix,hix⟩:∃ix,tU (L.map λ e=>(-(e.count 0:Nat):Int))=ix:=⟨_,rfl⟩;rw[hix] at pm;refine ⟨ix.map λ i=>L.getD i [],?_,?_⟩
 ·have e1:(List.range L.length).map (λ i=>L.getD i [])=L:=by
   apply List.ext_getElem
   ·simp
   ·intro i h1 h2;simp at h1 h2 ⊢;simp[h2]
  have:=pm.symm.map λ i=>L.getD i [];rw[e1] at this;exact this
 ·have eb:ix.map (λ i=>(L.map iL).getD i .gY)=(ix.map λ i=>L.getD i []).map iL:=by rw[List.map_map];refine List.map_congr_left λ i hi=>?_;have hi:=List.mem_range.mp (pm.mem_iff.mp hi);simp[hi]
  show pT (λ x=>(Ib pK (sM (aj 0) (dC (.int 0)))) (lE x [] [s0,s1,.val (rL L),s3,s4])) [rL L]=_;unfold pT;have hn:(L.map iL).length<64:=by simpa using hl
  show (if (L.map iL).length<64 then (match eN (λ x=>(Ib pK (sM (aj 0) (dC (.int 0)))) (lE x [] [s0,s1,.val (rL L),s3,s4])) (L.map iL) with|some ks=>Res.ok ((tU ks).map λ i=>(L.map iL).getD i .gY)|none=> .bad) else .bad)=_;rw[if_pos hn,hk];simp only[hix,eb]
theorem uf{el:D->Res (Option D)}(P:List Int->Bool):∀{L:List (List Int)},(∀e∈L,el (iL e)= .ok (if P e=true then some (.int 1) else none))->bP el (L.map iL)= .ok (List.replicate (L.countP P) (.int 1))
 |[],_=>rfl
 |e::L,h=>by
  have:=uf (el:=el) P (L:=L) λ y hy=>h y (by simp[hy]);by_cases q:P e=true
  ·simp[bP,h e (by simp),this,q,List.replicate_succ]
  ·simp[bP,h e (by simp),this,q]
def Kw{p n:Nat}{L:List (List Int)}(hl:L.length<1000)(h:∀e∈L,e.length=n)(hp:p<n):bI [.val (.int p),.val (rL L)]= .ok (.int (L.countP λ e=>decide (e.getD p 0≠0):Nat)):=by
 have c:=uf (el:=jQ (aG 0) (dT (aO lU (aO bG (aj 0) (aj 1)) (dC (.int 0)))) (dC (.int 1)) [.no,.val (.int p)]) (λ e=>decide (e.getD p 0≠0)) (L:=L) λ e he=>by
  have ie:=jq (e:=e) (p:=p) (by rw[h e he];exact hp);generalize e.getD p 0=z at*;generalize iL e=E at*;by_cases z0:z=0
  ·subst z0;simp[jQ,ie]
  ·simp[jQ,ie,z0]
 have sq:fX (rL L)= .ok (L.map iL):=rfl;have hn:(L.map iL).length<1000000:=by simp;omega
 have kl:L.countP (λ e=>decide (e.getD p 0≠0))<=L.length:=List.countP_le_length;generalize L.countP (λ e=>decide (e.getD p 0≠0))=k at*;generalize L.map iL=X at*;generalize rL L=E at*;simp[bI,iG,cT,sq,hn,iK,lN,c,vq,c8]
theorem nu{α:Type}{el:D->Res (Option D)}(f:α->D)(P:α->Bool):∀{l:List α},(∀a∈l,el (f a)= .ok (if P a=true then some (f a) else none))->bP el (l.map f)= .ok ((l.filter P).map f)
 |[],_=>rfl
 |a::l,h=>by
  have:=nu (el:=el) f P (l:=l) λ y hy=>h y (by simp[hy]);by_cases q:P a=true
  ·simp[bP,h a (by simp),this,q]
  ·simp[bP,h a (by simp),this,q]
theorem tS{α:Type}{fk:D->Res D}(f:α->D)(key:α->Int):∀{l:List α},(∀a∈l,fk (f a)= .ok (.int (key a)))->eN fk (l.map f)=some (l.map key)
 |[],_=>rfl
 |a::l,h=>by have:=tS (fk:=fk) f key (l:=l) λ y hy=>h y (by simp[hy]);simp[eN,h a (by simp),this]
theorem qT:∀(ks:List Int) (b:Nat) (kb:Int) (i:Nat),b<i->gO.go b kb i ks<i+ks.length
 |[],b,kb,i,h=>by simpa[gO.go] using h
 |k::ks,b,kb,i,h=>by
  simp only[gO.go,List.length_cons];split
  ·have:=qT ks i k (i+1) (by omega);omega
  ·have:=qT ks b kb (i+1) (by omega);omega
def G5{ks:List Int}(h:ks≠[]):gO ks<ks.length:=by
 cases ks with
 |nil=>exact absurd rfl h
 |cons k ks=>have:=qT ks 0 k 1 (by decide);simp only[gO,List.length_cons];omega
def Cd{α:Type}(f:α->D)(n:Nat)(h:∀a,cM n (f a)=true)(l:List α):(l.map f).all (cM n)=true:=by simp[List.all_map,h]
def eq_nil{α:Type}(f:α->D)(h:∀a,cM 11 (f a)=true)(l:List α):vE (.lst (l.map f)) (.lst [])= .ok (.bl l.isEmpty):=by
 have o:=Cd f 11 h l;cases l with
 |nil=>rfl
 |cons a l=>rw[vE,if_pos ⟨by simpa[cM] using o,rfl⟩];simp[HZ,py,sD,PyData.eqv,PyData.eqvAll]
def ne_nil{α:Type}(f:α->D)(h:∀a,cM 11 (f a)=true)(l:List α):lU (.lst (l.map f)) (.lst [])= .ok (.bl (!l.isEmpty)):=by
 have o:=Cd f 11 h l;cases l with
 |nil=>rfl
 |cons a l=>rw[lU,if_pos ⟨by simpa[cM] using o,rfl⟩];simp[HZ,py,sD,PyData.eqv,PyData.eqvAll]
noncomputable def nI(k:Nat):D:= .int k
def iS(n:Nat):gU 0 n=(List.range n).map nI:=by unfold gU nI;exact List.map_congr_left λ k _=>by simp
def KH{n:Nat}{f:List Int}{L:List (List Int)}(hn:n<1000)(hf:f.length=n+1)(hl:L.length<1000)(h:∀e∈L,e.length=n+1):
  (cQ [.val (iL f),.val (rL L)]= .err "Loose"/\∀j<n,f.getD j 0=0)\/∃p,p<n/\f.getD p 0≠0/\cQ [.val (iL f),.val (rL L)]= .ok (.int p):=by
 have ln:c8 [iL f]= .ok (.int (n+1:Nat)):=by simp[c8,iL,hf]
 have rg:=gK n (by omega);rw[iS] at rg;have c:=nu (el:=jQ (aG 0) (dT (aO lU (aO bG (aj 1) (aj 0)) (dC (.int 0)))) (aj 0) [.no,.val (iL f)]) nI (λ j=>decide (f.getD j 0≠0)) (l:=List.range n) λ j hj=>by
  have ie:=jq (e:=f) (p:=j) (by have:=List.mem_range.mp hj;omega);generalize f.getD j 0=z at*;generalize iL f=E at*;unfold nI;by_cases z0:z=0
  ·subst z0;simp[jQ,ie]
  ·simp[jQ,ie,z0]
 have hnr:((List.range n).map nI).length<1000000:=by simp;omega
 have hmem:∀j∈(List.range n).filter (λ j=>decide (f.getD j 0≠0)),j<n/\f.getD j 0≠0:=λ j hj=>by rw[List.mem_filter,List.mem_range] at hj;exact ⟨hj.1,by simpa using hj.2⟩
 have hall:(List.range n).filter (λ j=>decide (f.getD j 0≠0))=[]->∀j<n,f.getD j 0=0:=λ q j hj=>Classical.byContradiction λ w=>by have:j∈(List.range n).filter (λ j=>decide (f.getD j 0≠0)):=List.mem_filter.mpr ⟨List.mem_range.mpr hj,by simpa using w⟩;rw[q] at this;simp at this
 generalize (List.range n).filter (λ j=>decide (f.getD j 0≠0))=N at*;have en:=eq_nil nI (λ _=>rfl) N;have fz:vq (.l (N.map nI))= .ok (.lst (N.map nI)):=rfl;have sb:fP (.int ((n+1:Nat):Int)) (.int 1)= .ok (.int n):=by simp[fP]
 cases N with
 |nil=>left;refine ⟨?_,hall rfl⟩;generalize (List.range n).map nI=R at*;generalize iL f=E at*;generalize rL L=G at*;simp only[List.map_nil] at*;simp[cQ,fN,cT,ln,sb,rg,hnr,iK,lN,c,en]
 |cons j N=>
  right;have hk:=tS (fk:=λ x=>(bu 2 bI (au (aj 0) (au (aj 1) aM))) (lE x [1] [.val (iL f),.val (rL L),.val (.lst ((j::N).map nI))])) nI (λ j=>(L.countP λ e=>decide (e.getD j 0≠0):Nat)) (l:=j::N) λ i hi=>by have:=Kw hl h (Nat.lt_succ_of_lt (hmem i hi).1);show (bu 2 bI (au (aj 0) (au (aj 1) aM))) [.val (nI i),.val (rL L)]=_;simp[bu,nI,this,lM]
  have mi:=G5 (ks:=(j::N).map (λ j=>((L.countP λ e=>decide (e.getD j 0≠0):Nat):Int))) (by simp);obtain ⟨m,hm⟩:∃m,gO ((j::N).map (λ j=>((L.countP λ e=>decide (e.getD j 0≠0):Nat):Int)))=m:=⟨_,rfl⟩;rw[hm,List.length_map] at mi;obtain ⟨q1,q2⟩:=hmem (j::N)[m] (List.getElem_mem mi);refine ⟨(j::N)[m],q1,q2,?_⟩;have mk:Cj (λ x=>(bu 2 bI (au (aj 0) (au (aj 1) aM))) (lE x [1] [.val (iL f),.val (rL L),.val (.lst ((j::N).map nI))])) [.lst ((j::N).map nI)]= .ok (.int ((j::N)[m]:Nat)):=by
   have g:((j::N).map nI)[m]? =some (nI (j::N)[m]):=by rw[List.getElem?_map,List.getElem?_eq_getElem mi];rfl
   unfold Cj;show (match eN _ ((j::N).map nI) with|some ks=>(match ((j::N).map nI)[gO ks]? with|some d=>Res.ok d|none=> .bad)|none=> .bad)=_;rw[hk];simp only[hm,g];rfl
  have mk':zz (au (aj 2) aM) [1] (bu 2 bI (au (aj 0) (au (aj 1) aM))) [.val (iL f),.val (rL L),.val (.lst ((j::N).map nI))]= .ok (.int ((j::N)[m]:Nat)):=mk;clear mk hk;generalize (j::N)[m]=r at*;have en':vE (.lst ((j::N).map nI)) (.lst [])= .ok (.bl false):=en;generalize (j::N).map nI=X at*;generalize (List.range n).map nI=R at*;generalize iL f=E at*;generalize rL L=G at*;simp[cQ,fN,cT,ln,sb,rg,hnr,iK,lN,c,en',fz,mk']
noncomputable def cB(k:Nat):Nat:=2^(34*2^k- 1)
noncomputable def dB(k:Nat):Nat:=2^(247+34*2^k)
structure LF(n:Nat)(Lf:Nat->Int):Prop where
 co:∀j<n,(Lf j).natAbs<=2^280
 ct:(Lf n).natAbs<=2^240
structure Cp(n:Nat)(Lf:Nat->Int)(C D:Nat)(e:List Int):Prop where
 cp:∃(m:Nat->Int) (r:Rat),r≠0/\(∀j,cf e j=r*((m j*Lf j:Int):Rat))/\(∀j<n,(m j).natAbs<=C)/\(m n).natAbs<=D/\∀j,n<j->m j=0
structure Bd(n:Nat)(Lf:Nat->Int)(k:Nat)(e:List Int):Prop where
 len:e.length=n+1
 co:∀j<n,(e.getD j 0).natAbs<=cB k*2^280
 ct:(e.getD n 0).natAbs<=dB k*2^240
 cp:Cp n Lf (cB k) (dB k) e
def k7{k:Nat}(h:k<7):1<=2^k/\2^k<=64:=by rcases (by omega:k=0\/k=1\/k=2\/k=3\/k=4\/k=5\/k=6) with rfl|rfl|rfl|rfl|rfl|rfl|rfl<;>decide
def Bd.mem{n k:Nat}{Lf:Nat->Int}{e:List Int}(hk:k<7)(b:Bd n Lf k e):∀z∈e,z.natAbs<2^4400:=λ z hz=>by
 have h2:=k7 hk;obtain ⟨j,hj,rfl⟩:=List.getElem_of_mem hz;have e1:e.getD j 0=e[j]:=by simp[hj]
 rw[<-e1];have hl:=b.len;by_cases q:j<n
 ·refine Nat.lt_of_le_of_lt (b.co j q) ?_;unfold cB;rw[<-Nat.pow_add];exact Nat.pow_lt_pow_right (by decide) (by omega)
 ·obtain rfl:j=n:=by omega
  refine Nat.lt_of_le_of_lt b.ct ?_;unfold dB;rw[<-Nat.pow_add];exact Nat.pow_lt_pow_right (by decide) (by omega)
def UK{u x y z:Rat}(hu:u≠0)(h:u*x=y*z):x=y/ u*z:=by grind
def Mj{u y:Rat}(hu:u≠0)(hy:y≠0):y/ u≠0:=by
 rw[Rat.div_def];intro z;rcases Rat.mul_eq_zero.mp z with q|q
 ·exact hy q
 ·exact hu (by have:=Rat.mul_inv_cancel u hu;rw[q] at this;grind)
def yr{u y:Rat}(hu:u≠0)(hy:y≠0):u*y≠0:=λ z=>by
 rcases Rat.mul_eq_zero.mp z with q|q
 ·exact hu q
 ·exact hy q
def Bd.wo{n k p:Nat}{Lf:Nat->Int}{e f e':List Int}(hL:LF n Lf)(hk:k<7)(hp:p<n)(fp:f.getD p 0≠0)(be:Bd n Lf k e)(bf:Bd n Lf k f)(w:Wo p f e e'):Bd n Lf (k+1) e':=by
 have h2:=k7 hk;have e2:2^(k+1)=2*2^k:=by rw[Nat.pow_succ];omega
 have c2:cB (k+1)=cB k*cB k+cB k*cB k:=by unfold cB;rw[show 34*2^(k+1) - 1=(34*2^k- 1)+(34*2^k- 1)+1 by omega,Nat.pow_add,Nat.pow_add,Nat.pow_one,Nat.mul_two]
 have d2:dB (k+1)=cB k*dB k+cB k*dB k:=by unfold cB dB;rw[show 247+34*2^(k+1)=(34*2^k- 1)+(247+34*2^k)+1 by omega,Nat.pow_add _ _ 1,Nat.pow_add _ (34*2^k- 1),Nat.pow_one,Nat.mul_two]
 have c1:cB k<=cB (k+1):=Nat.pow_le_pow_right (by decide) (by omega);have d1:dB k<=dB (k+1):=Nat.pow_le_pow_right (by decide) (by omega);obtain ⟨m,r,r0,hm,mc,md,mz⟩:=be.cp.cp;obtain ⟨m',r',r0',hm',V7,md',ZE⟩:=bf.cp.cp;rcases w.pr with rfl|pm
 ·exact ⟨be.len,λ j hj=>Nat.le_trans (be.co j hj) (Nat.mul_le_mul_right _ c1),Nat.le_trans be.ct (Nat.mul_le_mul_right _ d1),⟨m,r,r0,hm,λ j hj=>Nat.le_trans (mc j hj) c1,Nat.le_trans md d1,mz⟩⟩
 ·obtain ⟨a,b,c,a0,c0,hl⟩:=w.Mq;have fp':cf f p≠0:=by unfold cf;exact_mod_cast fp
  have hfp:=hm' p;have ZF:(m' p:Rat)≠0:=λ z=>by rw[Rat.intCast_mul,z] at hfp;exact fp' (by rw[hfp];grind)
  have X3:(Lf p:Rat)≠0:=λ z=>by rw[Rat.intCast_mul,z] at hfp;exact fp' (by rw[hfp];grind)
  have A0:(a:Rat)≠0:=by exact_mod_cast a0
  have C0:(c:Rat)≠0:=by exact_mod_cast c0
  have lr:∀j,(c:Rat)*cf e' j=a*cf e j- b*cf f j:=λ j=>by have:=congrArg (λ z:Int=>(z:Rat)) (hl j);simp only[Rat.intCast_mul,Rat.intCast_sub] at this;exact this
  have off:cf e' p=0:=by unfold cf;rw[w.off];rfl
  have hb:(b:Rat)*(r'*m' p)=a*(r*m p):=by
   have:=lr p;rw[off,hm p,hm' p,Rat.intCast_mul,Rat.intCast_mul] at this;have h3:(Lf p:Rat)*((b:Rat)*(r'*m' p) - a*(r*m p))=0:=by grind
   rcases Rat.mul_eq_zero.mp h3 with z|z
   ·exact absurd z X3
   ·grind
  have key:∀j,cf e' j=(a*r/(c*m' p))*(((m' p*m j- m p*m' j)*Lf j:Int):Rat):=λ j=>by
   have h1:=lr j;rw[hm j,hm' j,Rat.intCast_mul,Rat.intCast_mul] at h1;rw[Rat.intCast_mul,Rat.intCast_sub,Rat.intCast_mul,Rat.intCast_mul];refine UK (yr C0 ZF) ?_;clear lr hl hm hm' off pm mz ZE mc V7 be bf w c2 d2 c1 d1 e2 h2;generalize cf e' j=x at*
   grind
  have rz:(a*r/(c*m' p):Rat)≠0:=Mj (yr C0 ZF) (yr A0 r0);have ab:∀{x y z u:Int} {A B:Nat},x.natAbs<=cB k->y.natAbs<=A->z.natAbs<=cB k->u.natAbs<=A->(x*y- z*u).natAbs<=cB k*A+cB k*A:=λ{x y z u A B} q1 q2 q3 q4=>by
   have a1:(x*y).natAbs<=cB k*A:=by rw[Int.natAbs_mul];exact Nat.mul_le_mul q1 q2
   have a2:(z*u).natAbs<=cB k*A:=by rw[Int.natAbs_mul];exact Nat.mul_le_mul q3 q4
   omega
  have bc:∀j<n,(m' p*m j- m p*m' j).natAbs<=cB (k+1):=λ j hj=>by rw[c2];exact ab (B:=0) (V7 p hp) (mc j hj) (mc p hp) (V7 j hj)
  have bn:(m' p*m n- m p*m' n).natAbs<=dB (k+1):=by rw[d2];exact ab (B:=0) (V7 p hp) md (mc p hp) md'
  refine ⟨by rw[w.len,be.len],λ j hj=>?_,?_,⟨λ j=>m' p*m j- m p*m' j,_,rz,key,bc,bn,λ j hj=>by simp[mz j hj,ZE j hj]⟩⟩
  ·refine Nat.le_trans (pm _ _ rz key j) ?_;rw[Int.natAbs_mul];exact Nat.mul_le_mul (bc j hj) (hL.co j hj)
  ·refine Nat.le_trans (pm _ _ rz key n) ?_;rw[Int.natAbs_mul];exact Nat.mul_le_mul bn hL.ct
theorem rK{el:D->Res (Option D)}(w:List Int->List Int):∀{L:List (List Int)},(∀e∈L,el (iL e)= .ok (some (iL (w e))))->bP el (L.map iL)= .ok ((L.map w).map iL)
 |[],_=>rfl
 |e::L,h=>by have:=rK (el:=el) w (L:=L) λ y hy=>h y (by simp[hy]);simp only[List.map_cons,bP,h e (by simp),this,Res.bnd]
def Ie(x:D)(xs:List D)(s0 s1 s3 s4:Slot):Hu (aj 2) (dP (dC (.int 1))) Ic [s0,s1,.val (.lst (x::xs)),s3,s4]= .ok xs:=by simp[Hu,Ll,su]
def fD(q:Nat×List Int):D:= .tup [.int q.1,iL q.2]
def Ml(e:List Int):nt (iL e)=true:=by simp only[iL,nt,dG]
def OA(e:List Int):cM 11 (iL e)=true:=by simp[iL,cM,List.all_map]
def Ng{n k:Nat}{Lf:Nat->Int}{L:List (List Int)}{A:List D}{E:D}{s3 s4:Slot}(hn:n<100)(hk:k<7)(hL:L≠[])(hl:L.length<64)(hA:A.length<1000)(hB:∀e∈L,Bd n Lf k e):
  (∃f r Γ,L.Perm (f::r)/\(∀j<n,f.getD j 0=0)/\cG 20 [.val E,.own (.l A),.val (rL L),s3,s4]= .err "Loose" Γ)\/
  ∃f r p w,L.Perm (f::r)/\p<n/\f.getD p 0≠0/\(∀e∈r,Wo p f e (w e))/\∃SR SQ,cG 20 [.val E,.own (.l A),.val (rL L),s3,s4]= .nx [.val E,.own (.l (A++[fD (p,f)])),.val (rL (r.map w)),SR,SQ]:=by
 obtain ⟨L',pm,so⟩:=Nu hl (.val E) (.own (.l A)) s3 s4;cases L' with
 |nil=>exact absurd pm.eq_nil hL
 |cons f r=>
 have bf:=hB f (pm.mem_iff.mpr (by simp));have br:∀e∈r,Bd n Lf k e:=λ e he=>hB e (pm.mem_iff.mpr (by simp[he]));have lr:r.length<64:=by have:=pm.length_eq;simp at this;omega
 have ix:bG (.lst (iL f::r.map iL)) (.int 0)= .ok (iL f):=lF (p:=0) rfl;have so':lX (nZ (au (aj 2) aM) [] (Ib pK (sM (aj 0) (dC (.int 0))))) [.val E,.own (.l A),.val (rL L),s3,s4]= .ok (.lst (iL f::r.map iL)):=by simp only[lX,so,Res.bnd,List.map_cons]
 have cu:=Ie (iL f) (r.map iL) (.val E) (.own (.l A));rcases KH (n:=n) (f:=f) (L:=r) (by omega) bf.len (by omega) (λ e he=>(br e he).len) with ⟨le,h0⟩|⟨p,hp,fp,le⟩
 ·left;refine ⟨f,r,[.val E,.own (.l A),.val (.lst (iL f::r.map iL)),.val (iL f),s4],pm,h0,?_⟩;rw[rL] at le;simp only[List.map_cons] at so;clear so' cu br lr;generalize r.map iL=X at*;generalize iL f=G at*;simp[cG,so,ix,Ie,le]
 ·right;have hw:∀e∈r,∃e',IsL (cP [.val (.int p),.val (iL e),.val (iL f)]) e'/\Wo p f e e':=λ e he=>DN (by rw[(br e he).len];omega) (by rw[bf.len,(br e he).len]) (by rw[(br e he).len];omega) fp ((br e he).mem hk) (bf.mem hk);obtain ⟨w,hw⟩:∃w:List Int->List Int,∀e∈r,IsL (cP [.val (.int p),.val (iL e),.val (iL f)]) (w e)/\Wo p f e (w e):=by refine ⟨λ e=>if h:e∈r then Classical.choose (hw e h) else [],λ e he=>?_⟩;simp only[he,dif_pos];exact Classical.choose_spec (hw e he)
  refine ⟨f,r,p,w,pm,hp,fp,λ e he=>(hw e he).2,.val (iL f),.val (.int p),?_⟩;have c:=rK (el:=jQ (aG 0) fC (bu 3 cP (au (aj 1) (au (aj 0) (au (aj 2) aM)))) [.no,.val (.int p),.val (iL f)]) w (L:=r) λ e he=>by have:=(hw e he).1.d;generalize iL (w e)=W at*;generalize iL e=E' at*;generalize iL f=G at*;simp[jQ,this]
  have Zz:nt (fD (p,f))=true:=by simp only[fD,nt,eu,Ml];rfl
  have hn':(r.map iL).length<1000000:=by simp;omega
  rw[rL] at le;simp only[List.map_cons] at so;have el:rL (r.map w)= .lst ((r.map w).map iL):=rfl;rw[el];have ef:fD (p,f)= .tup [.int p,iL f]:=rfl;rw[ef] at Zz ⊢;clear so' cu hw br lr el ef;generalize (r.map w).map iL=Y at*;generalize r.map iL=X at*;generalize iL f=G at*;have hA':A.length<1000000:=by omega
  simp[cG,so,ix,Ie,le,hn',iK,lN,c,Zz,rR,oQ,hA',fR,jL,vm,gi,eG,sZ,An]
def oO{p:Sg->Res Bool}{B:Sg->Out}{n:Nat}{Γ Γ':Sg}(h1:p Γ= .ok true)(h2:B Γ= .nx Γ'):bD p B (n+1) Γ=bD p B n Γ':=by simp[bD,h1,h2]
def z6{p:Sg->Res Bool}{B:Sg->Out}{n:Nat}{Γ Γ':Sg}{c:String}(h1:p Γ= .ok true)(h2:B Γ= .err c Γ'):bD p B (n+1) Γ= .err c Γ':=by simp[bD,h1,h2]
def xW(L:List (List Int))(s0 s1 s3 s4:Slot):ez 20 [s0,s1,.val (rL L),s3,s4]= .ok (!L.isEmpty):=by have:=ne_nil iL OA L;rw[<-rL] at this;generalize rL L=G at*;simp[ez,this]
theorem xX(E:D){Lf:Nat->Int}:∀(m n k fuel:Nat) (L:List (List Int)) (A:List D) (s3 s4:Slot),L.length=m->m<fuel->k+m<=7->n<100->A.length+m<1000->LF n Lf->(∀e∈L,Bd n Lf k e)->(xG n L/\∃Γ,bD (ez 20) (cG 20) fuel [.val E,.own (.l A),.val (rL L),s3,s4]= .err "Loose" Γ)\/∃fs SR SQ,DK n L fs/\(∀q∈fs,q.2.length=n+1/\∀z∈q.2,z.natAbs<2^4400)/\bD (ez 20) (cG 20) fuel [.val E,.own (.l A),.val (rL L),s3,s4]= .nx [.val E,.own (.l (A++fs.map fD)),.val (rL []),SR,SQ]
 |0,n,k,fuel,L,A,s3,s4,hm,hf,_,_,_,_,_=>by obtain rfl:=List.length_eq_zero_iff.mp hm;obtain ⟨fuel,rfl⟩:∃j,fuel=j+1:=⟨fuel- 1,by omega⟩;right;refine ⟨[],s3,s4,.nil,by simp,?_⟩;have:=xW [] (.val E) (.own (.l A)) s3 s4;simp only[List.isEmpty_nil,Bool.not_true] at this;simp[bD,this]
 |m+1,n,k,fuel,L,A,s3,s4,hm,hf,hk,hn,hA,hL,hB=>by
  obtain ⟨fuel,rfl⟩:∃j,fuel=j+1:=⟨fuel- 1,by omega⟩;have ne:L≠[]:=λ z=>by rw[z] at hm;cases hm
  have tt:=xW L (.val E) (.own (.l A)) s3 s4;have:L.isEmpty=false:=by simpa using ne
  rw[this] at tt;rcases Ng (n:=n) (k:=k) (L:=L) (A:=A) (E:=E) (s3:=s3) (s4:=s4) hn (by omega) ne (by omega) (by omega) hB with ⟨f,r,Γ,pm,h0,e⟩|⟨f,r,p,w,pm,hp,fp,hw,SR,SQ,e⟩
  ·exact .inl ⟨.here pm h0,Γ,z6 tt e⟩
  ·have bf:=hB f (pm.mem_iff.mpr (by simp));have hr:r.length=m:=by have:=pm.length_eq;simp at this;omega
   rcases xX E m n (k+1) fuel (r.map w) (A++[fD (p,f)]) SR SQ (by simpa using hr) (by omega) (by omega) hn (by simp;omega) hL (λ e' he'=>by obtain ⟨e,he,rfl⟩:=List.mem_map.mp he';exact Bd.wo hL (by omega) hp fp (hB e (pm.mem_iff.mpr (by simp[he]))) bf (hw e he)) with ⟨lo,Γ,h⟩|⟨fs,t3,t4,u,hb,h⟩
   ·exact .inl ⟨.step pm hp fp hw lo,Γ,by rw[oO tt e,h]⟩
   ·refine .inr ⟨(p,f)::fs,t3,t4,.step pm hp fp hw u,λ q hq=>?_,?_⟩
    ·rcases List.mem_cons.mp hq with rfl|hq
     ·exact ⟨bf.len,bf.mem (by omega)⟩
     ·exact hb q hq
    ·rw[oO tt e,h];simp
def Aa{n:Nat}{Lf:Nat->Int}{L:List (List Int)}(hn:n<100)(hl:L.length<=7)(hL:LF n Lf)(hB:∀e∈L,Bd n Lf 0 e):
  (xG n L/\cY [.val (rL L)]= .err "Loose")\/∃fs,DK n L fs/\(∀q∈fs,q.2.length=n+1/\∀z∈q.2,z.natAbs<2^4400)/\cY [.val (rL L)]= .new (.l (fs.map fD)):=by
 rcases xX (rL L) L.length n 0 20 L [] .no .no rfl (by omega) (by omega) hn (by simp;omega) hL hB with ⟨lo,Γ,h⟩|⟨fs,t3,t4,u,b,h⟩
 ·left;refine ⟨lo,?_⟩;generalize rL L=G at*;simp[cY,gW,cT,h]
 ·right;refine ⟨fs,u,b,?_⟩;generalize rL L=G at*;simp only[List.nil_append] at h;simp[cY,gW,cT,h,jn]
def rq(r:Rat):D:=fq (GO r)
inductive kB:D->Rat->Prop
 |tup (r:Rat):kB (rq r) r
 |gt (r:Rat):kB (.gt [.int r.num,.int r.den]) r
inductive FL:List D->List Rat->Prop
 |nil:FL [] []
 |cons {d:D} {r:Rat} {ds:List D} {rs:List Rat}:kB d r->FL ds rs->FL (d::ds) (r::rs)
def kB.i0{d:D}{r:Rat}(h:kB d r):bG d (.int 0)= .ok (.int r.num):=by cases h<;>rfl
def kB.i1{d:D}{r:Rat}(h:kB d r):bG d (.int 1)= .ok (.int r.den):=by cases h<;>rfl
theorem kB.dn{d:D}{r:Rat}(h:kB d r):dn d=d:=by cases h<;>rfl
theorem kB.nt{d:D}{r:Rat}(h:kB d r):nt d=true:=by cases h<;>rfl
def FL.len{ds:List D}{rs:List Rat}(h:FL ds rs):ds.length=rs.length:=by
 induction h with
 |nil=>rfl
 |cons _ _ ih=>simp[ih]
def FL.get{ds:List D}{rs:List Rat}(h:FL ds rs){k:Nat}{r:Rat}(e:rs[k]? =some r):∃d,ds[k]? =some d/\kB d r:=by
 induction h generalizing k with
 |nil=>simp at e
 | @cons d r' ds rs h1 _ ih=>
  cases k with
  |zero=>simp only[List.getElem?_cons_zero,Option.some.injEq] at e;subst e;exact ⟨d,rfl,h1⟩
  |succ k=>rw[List.getElem?_cons_succ] at e;exact ih e
theorem FL.set{ds:List D}{rs:List Rat}(h:FL ds rs)(k:Nat){d:D}{r:Rat}(hd:kB d r):FL (ds.set k d) (rs.set k r):=by
 induction h generalizing k with
 |nil=>exact .nil
 |cons h1 h2 ih=>
  cases k with
  |zero=>exact .cons hd h2
  |succ k=>exact .cons h1 (ih k)
def FL.app{ds ds':List D}{rs rs':List Rat}(h:FL ds rs)(h':FL ds' rs'):FL (ds++ds') (rs++rs'):=by
 induction h with
 |nil=>exact h'
 |cons h1 _ ih=>exact .cons h1 ih
def FL.rep(n:Nat){d:D}{r:Rat}(h:kB d r):FL (List.replicate n d) (List.replicate n r):=by
 induction n with
 |zero=>exact .nil
 |succ n ih=>exact .cons h ih
def Nq(r s:Rat):(r6 (r.num*s.den- s.num*r.den) ((r.den:Int)*s.den),xN (r.num*s.den- s.num*r.den) ((r.den:Int)*s.den))=GO (r- s):=by have:=pX (r.num*s.den- s.num*r.den) (r.den*s.den) (Nat.mul_ne_zero r.den_nz s.den_nz);rw[Rat.sub_def, <-this];simp
structure S7(r:Rat):Prop where
 n:r.num.natAbs<=8589934592
 d:r.den<=8589934592
def KC{d e:D}{r s:Rat}(hd:kB d r)(he:kB e s)(hr:S7 r)(hs:S7 s):qg [.val d,.val e]= .ok (rq (r- s)):=by have b1:r.num.natAbs<2^40:=Nat.lt_of_le_of_lt hr.n (by decide);have b2:s.num.natAbs<2^40:=Nat.lt_of_le_of_lt hs.n (by decide);have b3:(r.den:Int).natAbs<2^40:=Nat.lt_of_le_of_lt (by simpa using hr.d) (by decide);have b4:(s.den:Int).natAbs<2^40:=Nat.lt_of_le_of_lt (by simpa using hs.d) (by decide);have p1:=Kz b1 b4 (by decide);have p2:=Kz b2 b3 (by decide);have p3:=Kz b3 b4 (by decide);have nz:(r.den:Int)*s.den≠0:=Qj (by have:=r.den_pos;omega) (by have:=s.den_pos;omega);have fr:=zo (n:=80) (r.num*s.den- s.num*r.den) ((r.den:Int)*s.den) nz (GZ b3 b4) (by decide);have i0:=hd.i0;have i1:=hd.i1;have j0:=he.i0;have j1:=he.i1;have q:=Nq r s;rw[q] at fr;simp[qg,vM,cT,i0,i1,j0,j1,p1,p2,p3,fP,fr,rq]
def Nl{j:Nat}{s r:Rat}{ds:List D}{rs:List Rat}{s0 s1 s2 s6 s7:Slot}(fl:FL ds rs)(hr:rs[j]? =some r)(s7r:S7 r)(s7s:S7 s):
  ∃ds',FL ds' (rs.set j (r- s))/\dS 0 [s0,s1,s2,.own (.l ds),.val (.int j),.val (rq s),s6,s7]= .nx [s0,s1,s2,.own (.l ds'),.val (.int j),.val (rq s),s6,s7]:=by
 obtain ⟨d,hd,fd⟩:=fl.get hr;refine ⟨ds.set j (rq (r- s)),fl.set j (.tup _),?_⟩;have hj:j<ds.length:=(List.getElem?_eq_some_iff.mp hd).1;have mi:=KC fd (.tup s) s7r s7s;have ix:bG (.bor true ds) (.int j)= .ok d:=by simp[bG,um,mY,hj];exact (List.getElem?_eq_some_iff.mp hd).2
 have dn1:=fd.dn;have dn2:=(kB.tup s).dn;have nt2:=(kB.tup (r- s)).nt;have nb2:nb (rq (r- s))=true:=rfl;generalize rq (r- s)=R at*;generalize rq s=S at*;simp[dS,iB,ix,lend,lW,dn1,dn2,dn,mi,Kv,nb2,fR,oQ,gi,eG,sZ,An,setM,mY,hj,nt2]
def tD(t:Nat×Rat):D:= .tup [.int t.1,rq t.2]
def tk(rs:List Rat)(t:Nat×Rat):List Rat:=rs.set t.1 (rs.getD t.1 0- t.2)
theorem BP{s0 s1 s2 s6 s7:Slot}:∀(T:List (Nat×Rat)) (ds:List D) (rs:List Rat) (t4 t5:Slot),FL ds rs->(T.map (·.1)).Nodup->(∀t∈T,t.1<rs.length/\S7 (rs.getD t.1 0)/\S7 t.2)->∃ds' u4 u5,FL ds' (T.foldl tk rs)/\cS (cL 2 (aS (aG 4) (aS (aG 5) cW))) (dS 0) (T.map tD) [s0,s1,s2,.own (.l ds),t4,t5,s6,s7]= .nx [s0,s1,s2,.own (.l ds'),u4,u5,s6,s7]
 |[],ds,rs,t4,t5,fl,_,_=>⟨ds,t4,t5,fl,rfl⟩
 |t::T,ds,rs,t4,t5,fl,nd,h=>by
  obtain ⟨h1,h2,h3⟩:=h t (by simp);have e:rs[t.1]? =some (rs.getD t.1 0):=by simp[h1]
  obtain ⟨ds1,fl1,st⟩:=Nl (s0:=s0) (s1:=s1) (s2:=s2) (s6:=s6) (s7:=s7) fl e h2 h3;rw[List.map_cons,List.nodup_cons] at nd;obtain ⟨ds',u4,u5,fl',lp⟩:=BP (s0:=s0) (s1:=s1) (s2:=s2) (s6:=s6) (s7:=s7) T ds1 (tk rs t) (.val (.int t.1)) (.val (rq t.2)) fl1 nd.2 λ u hu=>by
   obtain ⟨q1,q2,q3⟩:=h u (by simp[hu]);have ne:u.1≠t.1:=λ z=>nd.1 (List.mem_map.mpr ⟨u,hu,z⟩);refine ⟨by simpa[tk] using q1,?_,q3⟩;have:(tk rs t).getD u.1 0=rs.getD u.1 0:=by unfold tk;simp only[List.getD_eq_getElem?_getD,List.getElem?_set_ne (Ne.symm ne)]
   rw[this];exact q2
  refine ⟨ds',u4,u5,fl',?_⟩;rw[List.map_cons,fB (Γ1:=[s0,s1,s2,.own (.l ds),.val (.int t.1),.val (rq t.2),s6,s7]) rfl st];exact lp
theorem tV:∀(T:List (Nat×Rat)) (rs:List Rat),(T.foldl tk rs).length=rs.length
 |[],_=>rfl
 |t::T,rs=>by rw[List.foldl_cons,tV T];simp[tk]
theorem zu:∀(T:List (Nat×Rat)) (rs:List Rat) (j:Nat),(T.map (·.1)).Nodup->(∀t∈T,t.1<rs.length)->(T.foldl tk rs).getD j 0=rs.getD j 0-(T.lookup j).getD 0
 |[],rs,j,_,_=>by simp[List.lookup];grind
 |t::T,rs,j,nd,h=>by
  rw[List.map_cons,List.nodup_cons] at nd;rw[List.foldl_cons,zu T (tk rs t) j nd.2 λ u hu=>by simpa[tk] using h u (by simp[hu])];have h1:=h t (by simp);obtain ⟨i,s⟩:=t;by_cases e:j=i
  ·subst e;have:T.lookup j=none:=by rw[List.lookup_eq_none_iff];exact λ u hu=>by simpa using λ z:j=u.1=>nd.1 (List.mem_map.mpr ⟨u,hu,z.symm⟩)
   have g:(tk rs (j,s)).getD j 0=rs.getD j 0- s:=by simp[tk,h1]
   rw[this,g];simp[List.lookup];grind
  ·have g:(tk rs (i,s)).getD j 0=rs.getD j 0:=by unfold tk;simp only[List.getD_eq_getElem?_getD,List.getElem?_set_ne (Ne.symm e)]
   have e':(j==i)=false:=by simpa using e
   rw[g];simp[List.lookup,e']
def Ub{b d:Nat}(hb:0<b)(h1:b<2^9000)(h2:d<2^9000):cD [.val (.int b),.val (.int d)]= .ok (.int (Nat.lcm b d:Nat)):=by
 have gp:0<Nat.gcd b d:=Nat.gcd_pos_of_pos_left _ hb;have gd:Int.gcd (b:Int) (d:Int)=Nat.gcd b d:=by simp[Int.gcd]
 have gl:((Nat.gcd b d:Nat):Int).natAbs.log2<9000:=by rw[Int.natAbs_natCast];exact nY (by omega) (Nat.lt_of_le_of_lt (Nat.le_of_dvd hb (Nat.gcd_dvd_left ..)) h1)
 have dv:=eO (b:Int) (g:=((Nat.gcd b d:Nat):Int)) (by omega) gl;have fd:(b:Int).fdiv ((Nat.gcd b d:Nat):Int)=((b/ Nat.gcd b d:Nat):Int):=by rw[Int.fdiv_eq_ediv_of_nonneg _ (by omega)];simp
 rw[fd] at dv;have lc:b/ Nat.gcd b d*d=Nat.lcm b d:=by unfold Nat.lcm;exact Nat.div_mul_right_comm (Nat.gcd_dvd_left ..) d|>.trans (by rfl)
 have ql:=Nat.div_le_self b (Nat.gcd b d);generalize b/ Nat.gcd b d=q at*;have l1:((q:Nat):Int).natAbs<2^100000:=by rw[Int.natAbs_natCast];exact bB (Nat.lt_of_le_of_lt ql h1) (by decide)
 have l2:((d:Nat):Int).natAbs<2^100000:=by rw[Int.natAbs_natCast];exact bB h2 (by decide)
 have m:=fj l1 l2;have mm:(q:Int)*(d:Int)=((Nat.lcm b d:Nat):Int):=by rw[<-lc];simp
 rw[mm] at m;generalize (2:Nat)^9000=P9 at*;clear fd;simp[cD,fE,cT,aK,gd,dv,m]
def lc:List Rat->Nat->Nat
 |[],b=>b
 |r::rs,b=>lc rs (Nat.lcm b r.den)
theorem Hq:∀(rs:List Rat) (b:Nat),b∣lc rs b/\∀r∈rs,r.den∣lc rs b
 |[],b=>⟨Nat.dvd_refl _,by simp⟩
 |r::rs,b=>by
  obtain ⟨h1,h2⟩:=Hq rs (Nat.lcm b r.den);simp only[lc];refine ⟨Nat.dvd_trans (Nat.dvd_lcm_left ..) h1,λ s hs=>?_⟩;rcases List.mem_cons.mp hs with rfl|hs
  ·exact Nat.dvd_trans (Nat.dvd_lcm_right ..) h1
  ·exact h2 s hs
theorem Ho:∀(rs:List Rat) (b:Nat),0<b->0<lc rs b
 |[],b,h=>h
 |r::rs,b,h=>Ho rs _ (Nat.lcm_pos h r.den_pos)
def lcm_le_mul{a b:Nat}(h:0<b)(ha:0<a):Nat.lcm a b<=a*b:=Nat.le_of_dvd (Nat.mul_pos ha h) (Nat.lcm_dvd_mul a b)
theorem Mr:∀(rs:List Rat) (b:Nat),0<b->(∀r∈rs,r.den<=8589934592)->lc rs b<=b*8589934592^rs.length
 |[],b,_,_=>by simp[lc]
 |r::rs,b,hb,h=>by have h1:=Mr rs (Nat.lcm b r.den) (Nat.lcm_pos hb r.den_pos) λ s hs=>h s (by simp[hs]);have h2:Nat.lcm b r.den<=b*8589934592:=Nat.le_trans (lcm_le_mul r.den_pos hb) (Nat.mul_le_mul_left _ (h r (by simp)));simp only[lc,List.length_cons];refine Nat.le_trans h1 (Nat.le_trans (Nat.mul_le_mul_right _ h2) ?_);rw[Nat.pow_succ,Nat.mul_assoc,Nat.mul_comm 8589934592];exact Nat.le_refl _
def p9:(8589934592:Nat)^8*8589934592<2^9000:=Nat.lt_of_lt_of_le (show (8589934592:Nat)^8*8589934592<2^300 by decide) (Nat.pow_le_pow_right (by decide) (by decide))
def KI{s0 s1 s2 s3 s4 s5:Slot}:∀{ds:List D} {rs:List Rat},FL ds rs->∀(b:Nat) (s7:Slot),0<b->(∀r∈rs,r.den<=8589934592)->b*8589934592^rs.length<=8589934592^8->∃t7,cS (aG 7) (fV 0) ds [s0,s1,s2,s3,s4,s5,.val (.int b),s7]= .nx [s0,s1,s2,s3,s4,s5,.val (.int (lc rs b)),t7]:=by
 intro ds rs fl;induction fl with
 |nil=>exact λ b s7 _ _ _=>⟨s7,rfl⟩
 | @cons d r ds rs hd _ ih=>intro b s7 hb h hl;have dr:=h r (by simp);have b8:b<=8589934592^8:=Nat.le_trans (Nat.le_mul_of_pos_right _ (Nat.pow_pos (by decide))) hl;have h9:=p9;have lm:=Ub (b:=b) (d:=r.den) hb (by omega) (by omega);have i1:=hd.i1;obtain ⟨t7,e⟩:=ih (Nat.lcm b r.den) (.val d) (Nat.lcm_pos hb r.den_pos) (λ s hs=>h s (by simp[hs])) (by have h2:Nat.lcm b r.den<=b*8589934592:=Nat.le_trans (lcm_le_mul r.den_pos hb) (Nat.mul_le_mul_left _ dr);refine Nat.le_trans (Nat.mul_le_mul_right _ h2) ?_;rw[List.length_cons,Nat.pow_succ] at hl;rw[Nat.mul_assoc,Nat.mul_comm 8589934592];exact hl);refine ⟨t7,?_⟩;rw[fB (Γ1:=[s0,s1,s2,s3,s4,s5,.val (.int b),.val d]) (Γ2:=[s0,s1,s2,s3,s4,s5,.val (.int (Nat.lcm b r.den)),.val d]) rfl (by simp[fV,i1,lm])];exact e
def E5(B:Nat)(rs:List Rat):List Int:=rs.map λ r=>r.num*((B/ r.den:Nat):Int)
def P4{B:Nat}{rs:List Rat}(h:∀r∈rs,r.den∣B)(j:Nat):((E5 B rs).getD j 0:Rat)=rs.getD j 0*B:=by
 unfold E5;simp only[List.getD_eq_getElem?_getD,List.getElem?_map];cases e:rs[j]? with
 |none=>simp
 |some r=>
  simp only[Option.map_some,Option.getD_some];obtain ⟨k,hk⟩:=h r (List.mem_of_getElem? e);have hd:B/ r.den=k:=by rw[hk];exact Nat.mul_div_cancel_left _ r.den_pos
  rw[hd];have n1:=fK r;simp only[Rat.intCast_mul];rw[<-n1,hk];simp only[Rat.natCast_mul,Rat.intCast_natCast]
  grind
def Lh{B:Nat}:∀{ds:List D} {rs:List Rat},FL ds rs->(∀r∈rs,r.den∣B/\r.den<=8589934592/\r.num.natAbs<2^1000)->0<B->B<=8589934592^8->bP (jQ (aG 0) fC (aO cX (aO bG (aj 0) (dC (.int 0))) (aO cF (aj 1) (aO bG (aj 0) (dC (.int 1))))) [.no,.val (.int B)]) ds= .ok ((E5 B rs).map D.int):=by
 intro ds rs fl;induction fl with
 |nil=>exact λ _ _ _=>rfl
 | @cons d r ds rs hd _ ih=>
  intro h b0 b8;obtain ⟨dv,ab8,n1⟩:=h r (by simp);have c:=ih (λ s hs=>h s (by simp[hs])) b0 b8;have i0:=hd.i0;have i1:=hd.i1;have dp:=r.den_pos;have h9:=p9;have dl:((r.den:Nat):Int).natAbs.log2<9000:=by rw[Int.natAbs_natCast];exact nY (by omega) (by omega)
  have fd:=eO (B:Int) (g:=(r.den:Int)) (by omega) dl;have fe:(B:Int).fdiv (r.den:Int)=((B/ r.den:Nat):Int):=by rw[Int.fdiv_eq_ediv_of_nonneg _ (by omega)];simp
  rw[fe] at fd;have m:=fj (x:=r.num) (y:=((B/ r.den:Nat):Int)) (bB n1 (by decide)) (bB (a:=9000) (by rw[Int.natAbs_natCast];have:=Nat.div_le_self B r.den;omega) (by decide));generalize hq:B/ r.den=q at*;have e1:jQ (aG 0) fC (aO cX (aO bG (aj 0) (dC (.int 0))) (aO cF (aj 1) (aO bG (aj 0) (dC (.int 1))))) [.no,.val (.int B)] d= .ok (some (.int (r.num*(q:Int)))):=by generalize (2:Nat)^9000=P9 at*;simp[jQ,i0,i1,fd,m]
  have eq:E5 B (r::rs)=(r.num*(q:Int))::E5 B rs:=by simp only[E5,List.map_cons,hq]
  rw[eq];simp only[bP,e1,Res.bnd,c,List.map_cons]
def AU{r:Rat}(h1: -1<=r)(h2:r<=1):r.num.natAbs<=r.den:=by
 have e:=fK r;have dp:(0:Rat)<(r.den:Rat):=by exact_mod_cast r.den_pos
 have a1:(r.num:Rat)<=(r.den:Rat):=by
  rw[<-e];have:=Rat.mul_le_mul_of_nonneg_right h2 (Rat.le_of_lt dp)
  grind
 have a2: -(r.den:Rat)<=(r.num:Rat):=by
  rw[<-e];have:=Rat.mul_le_mul_of_nonneg_right h1 (Rat.le_of_lt dp)
  grind
 have b1:r.num<=(r.den:Int):=by exact_mod_cast a1
 have b2: -(r.den:Int)<=r.num:=by
  have:((-(r.den:Int):Int):Rat)<=(r.num:Rat):=by rw[Rat.intCast_neg,Rat.intCast_natCast];exact a2
  exact_mod_cast this
 omega
def KW(r:Rat):jt ((r.den:Int)*r):=⟨r.num,by have:=fK r;simp only[Rat.intCast_natCast];grind⟩
def CT{k:Int}{s:Rat}:((k:Rat) - s).den<=s.den:=by
 have:jt (((s.den:Nat):Int)*((k:Rat) - s)):=by obtain ⟨z,hz⟩:=KW s;refine ⟨(s.den:Int)*k- z,?_⟩;simp only[Rat.intCast_sub,Rat.intCast_mul];rw[<-hz];grind
 have d:=m8 this;have:=Int.natAbs_dvd_natAbs.mpr d;simp only[Int.natAbs_natCast] at this;exact Nat.le_of_dvd s.den_pos this
structure Jg(s:Rat):Prop where
 lo:0<=s
 hi:s<=1
 de:s.den<=8589934592
def Jg.s7{s:Rat}(h:Jg s):S7 s:=⟨Nat.le_trans (AU (by have:=h.lo;grind) h.hi) h.de,h.de⟩
noncomputable def JO(n i:Nat)(c:Rat):List Rat:=(List.replicate n 0).set i 1++[c]
def uP(n i:Nat)(c:Rat):(JO n i c).length=n+1:=by simp[JO]
def F5{n i:Nat}{c:Rat}(hi:i<n){j:Nat}(hj:j<n):(JO n i c).getD j 0=if j=i then 1 else 0:=by
 unfold JO;simp only[List.getD_eq_getElem?_getD];rw[List.getElem?_append_left (by simpa using hj)];by_cases e:j=i
 ·subst e;simp[hj]
 ·rw[List.getElem?_set_ne (Ne.symm e)];simp[hj,e]
def SV{n i:Nat}{c:Rat}:(JO n i c).getD n 0=c:=by unfold JO;simp only[List.getD_eq_getElem?_getD];rw[List.getElem?_append_right (by simp)];simp
def lookup_none{T:List (Nat×Rat)}{n:Nat}(h:∀t∈T,t.1<n):T.lookup n=none:=by rw[List.lookup_eq_none_iff];intro u hu;have:=h u hu;simp;omega
theorem lookup_mem:∀{T:List (Nat×Rat)} {j:Nat} {s:Rat},T.lookup j=some s->(j,s)∈T
 |(i,t)::T,j,s,h=>by
  rw[List.lookup_cons] at h;split at h
  ·rename_i q;cases h;rw[eq_of_beq q];simp
  ·exact List.mem_cons_of_mem _ (lookup_mem h)
theorem FL.eu{ds:List D}{rs:List Rat}(h:FL ds rs):eu ds=true:=by
 induction h with
 |nil=>rfl
 |cons h1 _ ih=>simp[L4.eu,h1.nt,ih]
def ye:1000000<sizeLine:=by unfold sizeLine;decide
def CM{B:Nat}{rs:List Rat}{j:Nat}(hj:j<rs.length):((E5 B rs).getD j 0).natAbs=(rs.getD j 0).num.natAbs*(B/(rs.getD j 0).den):=by unfold E5;simp only[List.getD_eq_getElem?_getD,List.getElem?_map,List.getElem?_eq_getElem hj,Option.map_some,Option.getD_some];rw[Int.natAbs_mul,Int.natAbs_natCast]
def A7{n i:Nat}{T:List (Nat×Rat)}{c:Rat}(hi:i<n)(hn:n<=7)(nd:(T.map (·.1)).Nodup)(hT:∀t∈T,t.1<n/\Jg t.2)(hc:c.num.natAbs<2^200)(hcd:c.den<=8589934592):
  ∃(e:List Int) (B:Nat),bY [.val (.int i),.val (.tup [rq c,.lst (T.map tD)]),.val (.int n)]= .new (.l (e.map D.int))/\0<B/\e.length=n+1/\(∀j<n,(e.getD j 0).natAbs<=2^270)/\(e.getD n 0).natAbs<=2^470/\(∀j<n,cf e j=((if j=i then 1 else 0) -(T.lookup j).getD 0)*B)/\cf e n=c*B:=by
 obtain ⟨rs,hrs⟩:∃rs,T.foldl tk (JO n i c)=rs:=⟨_,rfl⟩;have len:rs.length=n+1:=by rw[<-hrs,tV,uP]
 have YO:∀j,rs.getD j 0=(JO n i c).getD j 0-(T.lookup j).getD 0:=λ j=>by rw[<-hrs];exact zu T _ j nd λ t ht=>by rw[uP];have:=(hT t ht).1;omega
 have YN:∀j<n,rs.getD j 0=(if j=i then 1 else 0) -(T.lookup j).getD 0:=λ j hj=>by rw[YO,F5 hi hj]
 have Wy:rs.getD n 0=c:=by rw[YO,SV,lookup_none λ t ht=>(hT t ht).1];simp;grind
 have lk:∀j,Jg ((T.lookup j).getD 0):=λ j=>by
  cases q:T.lookup j with
  |none=>exact ⟨by simp,by simp;grind,by decide⟩
  |some s=>exact (hT _ (lookup_mem q)).2
 have one:∀j<n, -1<=rs.getD j 0/\rs.getD j 0<=1/\(rs.getD j 0).den<=8589934592:=λ j hj=>by
  rw[YN j hj];have l:=lk j;have h1:=l.lo;have h2:=l.hi;split
  ·exact ⟨by grind,by grind,Nat.le_trans (CT (k:=1)) l.de⟩
  ·exact ⟨by grind,by grind,Nat.le_trans (CT (k:=0)) l.de⟩
 have mem:∀r∈rs,r.den<=8589934592/\r.num.natAbs<2^1000:=λ r hr=>by
  obtain ⟨k,hk,rfl⟩:=List.getElem_of_mem hr;have e1:rs.getD k 0=rs[k]:=by simp[hk]
  rw[<-e1];by_cases q:k<n
  ·obtain ⟨o1,o2,o3⟩:=one k q;exact ⟨o3,Nat.lt_of_le_of_lt (Nat.le_trans (AU o1 o2) o3) (Nat.lt_of_lt_of_le (show 8589934592<2^34 by decide) (Nat.pow_le_pow_right (by decide) (by decide)))⟩
  ·obtain rfl:k=n:=by omega
   rw[Wy];exact ⟨hcd,bB hc (by decide)⟩
 obtain ⟨B,hB⟩:∃B,lc rs 1=B:=⟨_,rfl⟩;have dv:∀r∈rs,r.den∣B:=by rw[<-hB];exact (Hq rs 1).2
 have b0:0<B:=by rw[<-hB];exact Ho rs 1 (by decide)
 have b8:B<=8589934592^8:=by rw[<-hB];refine Nat.le_trans (Mr rs 1 (by decide) λ r hr=>(mem r hr).1) ?_;rw[len,Nat.one_mul];exact Nat.pow_le_pow_right (by decide) (by omega)
 have ev:=P4 dv;refine ⟨E5 B rs,B,?_,b0,by simp[E5,len],λ j hj=>?_,?_,λ j hj=>by unfold cf;rw[ev j,YN j hj],by unfold cf;rw[ev n,Wy]⟩
 ·have f0:FL (List.replicate n (D.gt [.int 0,.int 1])) (List.replicate n 0):=FL.rep n (.gt 0);have f1:FL ((List.replicate n (D.gt [.int 0,.int 1])++[rq c]).set i (.gt [.int 1,.int 1])) (JO n i c):=by have:=(f0.set i (kB.gt 1)).app (.cons (kB.tup c) .nil);rw[List.set_append_left _ _ (by simpa using hi)];exact this
  obtain ⟨ds,u4,u5,fl,lp⟩:=BP (s0:= .val (.int i)) (s1:= .val (.tup [rq c,.lst (T.map tD)])) (s2:= .val (.int n)) (s6:= .no) (s7:= .no) T _ _ .no .no f1 nd λ t ht=>by
   have h:=hT t ht;refine ⟨by rw[uP];omega,?_,h.2.s7⟩;rw[F5 hi h.1];split
   ·exact ⟨by decide,by decide⟩
   ·exact ⟨by decide,by decide⟩
  rw[hrs] at fl;obtain ⟨t7,l2⟩:=KI (s0:= .val (.int i)) (s1:= .val (.tup [rq c,.lst (T.map tD)])) (s2:= .val (.int n)) (s3:= .val (.lst ds)) (s4:=u4) (s5:=u5) fl 1 .no (by decide) (λ r hr=>(mem r hr).1) (by rw[len,Nat.one_mul];exact Nat.pow_le_pow_right (by decide) (by omega));rw[hB] at l2;have cm:=Lh fl (λ r hr=>⟨dv r hr,mem r hr⟩) b0 b8;have rp:sA (.lst [.gt [.int 0,.int 1]]) (.int n)= .ok (List.replicate n (.gt [.int 0,.int 1])):=by
   have:(0:Int)<=n/\(n:Int)<=100000:=by omega
   simp[sA,qe,this]
  have ln:(List.replicate n (D.gt [.int 0,.int 1])).length+1<1000:=by simp;omega
  have ct:Ii (.lst (List.replicate n (.gt [.int 0,.int 1]))) (.lst [rq c])= .ok (List.replicate n (.gt [.int 0,.int 1])++[rq c]):=by
   have sl:=ye;have:n+1<=sizeLine:=by omega
   simp[Ii,qe,this]
  have VY:kr (.l ((E5 B rs).map D.int))=true:=by simp only[kr];exact dG _
  have dsl:ds.length<1000000:=by rw[fl.len,len];omega
  have il:i<(List.replicate n (D.gt [.int 0,.int 1])++[rq c]).length:=by simp;omega
  have ntW:eu (List.replicate n (D.gt [.int 0,.int 1])++[rq c])=true:=(f0.app (.cons (kB.tup c) .nil)).eu;generalize (E5 B rs).map D.int=R at*;generalize List.replicate n (D.gt [.int 0,.int 1])=Z at*;generalize rq c=C at*;generalize T.map tD=TT at*;clear ev mem YO YN Wy one lk f0 f1 fl dv;have is0:bG (.tup [C,.lst TT]) (.int 0)= .ok C:=rfl;have is1:bG (.tup [C,.lst TT]) (.int 1)= .ok (.lst TT):=rfl;have one':nt (D.gt [.int 1,.int 1])=true:=rfl;have six:mY (Z++[C]).length (i:Int)=some i:=by
   have:(i:Int)<((Z++[C]).length:Int):=by omega
   simp only[mY,this,if_true,Int.toNat_natCast,show (0:Int)<=(i:Int) by omega]
  have st:iB 3 (fR 3) (aj 0) (dC (.gt [.int 1,.int 1])) [.val (.int i),.val (.tup [C,.lst TT]),.val (.int n),.own (.l (Z++[C])),.no,.no,.no,.no]= .nx [.val (.int i),.val (.tup [C,.lst TT]),.val (.int n),.own (.l ((Z++[C]).set i (.gt [.int 1,.int 1]))),.no,.no,.no,.no]:=by generalize Z++[C]=W at*;simp[iB,fR,oQ,gi,eG,sZ,An,setM,six,one']
  simp only[Int.natCast_one] at l2;generalize Z++[C]=W at*;generalize W.set i (.gt [.int 1,.int 1])=V at*;simp[bY,iI,cT,rp,is0,is1,ct,ntW,st,lp,L3,l2,dsl,iK,lN,cm,VY]
 ·rw[CM (by omega)];obtain ⟨o1,o2,o3⟩:=one j hj;refine Nat.le_trans (Nat.mul_le_mul_right _ (AU o1 o2)) (Nat.le_trans (Nat.mul_div_le B _) (Nat.le_trans b8 ?_));exact show (8589934592:Nat)^8<=2^270 by decide
 ·rw[CM (by omega),Wy];refine Nat.le_trans (Nat.mul_le_mul (Nat.le_of_lt hc) (Nat.le_trans (Nat.div_le_self _ _) b8)) ?_;exact show (2:Nat)^200*8589934592^8<=2^470 by decide
def HP(t:Int)(b:Nat)(h:b≠0):(r6 t b,xN t b)=GO ((t:Rat)/(b:Rat)):=by rw[pX t b h,Rat.normalize_eq_mkRat,Rat.mkRat_eq_div]
def rF(t b:Int)(h:b≠0):(r6 t b,xN t b)=GO ((t:Rat)/(b:Rat)):=by
 rcases Int.lt_or_gt_of_ne h with hb|hb
 ·obtain ⟨n,hn⟩:=Int.eq_ofNat_of_zero_le (show 0<= -b by omega);have e1:r6 t b=r6 (-t) n/\xN t b=xN (-t) n:=by
   have hb':b= -(n:Int):=by omega
   subst hb';have g:Int.gcd t (-(n:Int))=Int.gcd (-t) (n:Int):=by rw[Int.gcd_neg,Int.neg_gcd]
   have n0:¬((n:Int)<0):=by omega
   unfold r6 xN r9;rw[if_pos hb,if_neg n0,g];constructor
   ·have:=Int.neg_fdiv_neg t (-(Int.gcd (-t) (n:Int):Int));rw[Int.neg_neg] at this;exact this.symm
   ·have:=Int.neg_fdiv_neg (n:Int) (Int.gcd (-t) (n:Int):Int);exact this
  have e2:=HP (-t) n (by omega);rw[e1.1,e1.2,e2];congr 1;have hb':b= -(n:Int):=by omega
  rw[hb',Rat.intCast_neg,Rat.intCast_neg,Rat.intCast_natCast];have n0:(n:Rat)≠0:=by exact_mod_cast (show n≠0 by omega)
  grind
 ·obtain ⟨n,rfl⟩:=Int.eq_ofNat_of_zero_le (show 0<=b by omega);rw[HP t n (by omega),Rat.intCast_natCast]
def pw(a b:Nat)(h:a<=b):(2:Nat)^a<=2^b:=Nat.pow_le_pow_right (by decide) h
def lC{x y:Nat}{a b:Nat}(hx:x<2^a)(hy:y<2^b):x*y<2^(a+b):=by rw[Nat.pow_add];exact Nat.mul_lt_mul'' hx hy
def Sb{f:List Int}{q:Nat}{x:Rat}{top:Int}{b jb jd:Nat}{s0 s2 s7:Slot}(hq:q<f.length)(f0:f.getD q 0≠0)(hb:0<b)(b9:b<2^4360)(d9:x.den<2^4360)(RB:b*jb=Nat.lcm b x.den)(RA:x.den*jd=Nat.lcm b x.den) (ht:top.natAbs<2^60000) (hn:x.num.natAbs<2^60000) (hf:(f.getD q 0).natAbs<2^4400) (hJ:Nat.lcm b x.den<2^4360):
  c7 0 [s0,.val (iL f),s2,.val (.int top),.val (.int b),.val (.int q),.val (rq x),s7]= .nx [s0,.val (iL f),s2,.val (.int (top*jb- f.getD q 0*x.num*jd)),.val (.int (Nat.lcm b x.den:Nat)),.val (.int q),.val (rq x),.val (.int (Nat.lcm b x.den:Nat))]:=by
 have ix:=jq hq;have lm:=Ub (b:=b) (d:=x.den) hb (bB b9 (by decide)) (bB d9 (by decide));have i0:=(kB.tup x).i0;have i1:=(kB.tup x).i1;have dp:=x.den_pos;have lg:∀m:Nat,0<m->m<2^4360->((m:Nat):Int).natAbs.log2<9000:=λ m h1 h2=>by rw[Int.natAbs_natCast];exact nY (by omega) (bB h2 (by decide))
 have fb:=eO ((Nat.lcm b x.den:Nat):Int) (g:=(b:Int)) (by omega) (lg b hb b9);have fd:=eO ((Nat.lcm b x.den:Nat):Int) (g:=(x.den:Int)) (by omega) (lg _ dp d9);have eb:((Nat.lcm b x.den:Nat):Int).fdiv (b:Int)=(jb:Int):=by rw[<-RB,Int.natCast_mul,Int.mul_comm];exact Int.mul_fdiv_cancel _ (by omega)
 have ed:((Nat.lcm b x.den:Nat):Int).fdiv (x.den:Int)=(jd:Int):=by rw[<-RA,Int.natCast_mul,Int.mul_comm];exact Int.mul_fdiv_cancel _ (by omega)
 rw[eb] at fb;rw[ed] at fd;have ZJ:jb<2^4360:=Nat.lt_of_le_of_lt (by rw[<-RB];exact Nat.le_mul_of_pos_left _ hb) hJ;have ZI:jd<2^4360:=Nat.lt_of_le_of_lt (by rw[<-RA];exact Nat.le_mul_of_pos_left _ dp) hJ;have nj:∀m:Nat,m<2^4360->((m:Nat):Int).natAbs<2^100000:=λ m h=>by rw[Int.natAbs_natCast];exact bB h (by decide)
 have m1:=fj (x:=top) (y:=(jb:Int)) (bB ht (by decide)) (nj _ ZJ);have m2:=fj (x:=f.getD q 0) (y:=x.num) (bB hf (by decide)) (bB hn (by decide));have m3:=fj (x:=f.getD q 0*x.num) (y:=(jd:Int)) (by rw[Int.natAbs_mul];exact bB (lC hf hn) (by decide)) (nj _ ZI);clear b9 d9 ht hn hf hJ ZJ ZI nj lg eb ed;generalize f.getD q 0=z at*;generalize (Nat.lcm b x.den:Nat)=J at*;generalize iL f=E at*;generalize rq x=R at*;simp[c7,ix,f0,i1,i0,lm,fb,fd,m1,m2,m3,fP]
def Sd{f:List Int}{q:Nat}{s0 s2 s3 s4 s6 s7:Slot}(hq:q<f.length)(f0:f.getD q 0=0):c7 0 [s0,.val (iL f),s2,s3,s4,.val (.int q),s6,s7]= .nx [s0,.val (iL f),s2,s3,s4,.val (.int q),s6,s7]:=by have ix:=jq hq;rw[f0] at ix;generalize iL f=E at*;simp[c7,ix]
def qD(X:Nat->Rat)(q:Nat):D:= .tup [.int q,rq (X q)]
theorem FE{d:Nat}(d0:0<d)(d9:d<2^4360){f:List Int}(hf:∀j,(f.getD j 0).natAbs<2^4400){X:Nat->Rat}{s0 s2:Slot}:∀(Q:List Nat) (k:Nat) (top:Int) (b:Nat) (v:Rat) (s5 s6 s7:Slot),(∀q∈Q,q<f.length/\(X q).den∣d/\(X q).num.natAbs<2^9000)->0<b->b∣d->(top:Rat)=b*v->top.natAbs<2^(18000+4361*k)->k+Q.length<=8->∃(top':Int) (b':Nat) (t5 t6 t7:Slot),cS (cL 2 (aS (aG 5) (aS (aG 6) cW))) (c7 0) (Q.map (qD X)) [s0,.val (iL f),s2,.val (.int top),.val (.int b),s5,s6,s7]= .nx [s0,.val (iL f),s2,.val (.int top'),.val (.int b'),t5,t6,t7]/\0<b'/\b'∣d/\(top':Rat)=b'*(v- sJ Q λ q=>cf f q*X q)
 |[],k,top,b,v,s5,s6,s7,_,hb,hd,ht,_,_=>⟨top,b,s5,s6,s7,rfl,hb,hd,by simp only[sJ];grind⟩
 |q::Q,k,top,b,v,s5,s6,s7,hQ,hb,hd,ht,hs,hk=>by
  obtain ⟨ql,xd,xn⟩:=hQ q (by simp);simp only[List.length_cons] at hk;by_cases f0:f.getD q 0=0
  ·have st:=Sd (s0:=s0) (s2:=s2) (s3:= .val (.int top)) (s4:= .val (.int b)) (s6:= .val (rq (X q))) (s7:=s7) ql f0;obtain ⟨top',b',t5,t6,t7,h1,h2,h3,h4⟩:=FE d0 d9 hf (X:=X) (s0:=s0) (s2:=s2) Q (k+1) top b v (.val (.int q)) (.val (rq (X q))) s7 (λ r hr=>hQ r (by simp[hr])) hb hd ht (Nat.lt_of_lt_of_le hs (pw _ _ (by omega))) (by omega);refine ⟨top',b',t5,t6,t7,?_,h2,h3,?_⟩
   ·rw[List.map_cons,fB (Γ1:=[s0,.val (iL f),s2,.val (.int top),.val (.int b),.val (.int q),.val (rq (X q)),s7]) rfl st];exact h1
   ·rw[h4];simp only[sJ];rw[show cf f q=0 by unfold cf;rw[f0];rfl]
    grind
  ·have dp:=(X q).den_pos;have Jd:Nat.lcm b (X q).den∣d:=Nat.lcm_dvd hd xd;have le:∀m,m∣d->m<2^4360:=λ m h=>Nat.lt_of_le_of_lt (Nat.le_of_dvd d0 h) d9;obtain ⟨jb,RB⟩:=Nat.dvd_lcm_left b (X q).den;obtain ⟨jd,RA⟩:=Nat.dvd_lcm_right b (X q).den;have k20:18000+4361*k<=60000:=by omega
   have st:=Sb (f:=f) (q:=q) (x:=X q) (top:=top) (b:=b) (jb:=jb) (jd:=jd) (s0:=s0) (s2:=s2) (s7:=s7) ql f0 hb (le b hd) (le _ xd) RB.symm RA.symm (Nat.lt_of_lt_of_le hs (pw _ _ k20)) (Nat.lt_of_lt_of_le xn (pw _ _ (by decide))) (hf q) (le _ Jd);have Jp:0<Nat.lcm b (X q).den:=Nat.lcm_pos hb dp;have jbl:jb<2^4360:=Nat.lt_of_le_of_lt (by rw[RB];exact Nat.le_mul_of_pos_left _ hb) (le _ Jd);have jdl:jd<2^4360:=Nat.lt_of_le_of_lt (by rw[RA];exact Nat.le_mul_of_pos_left _ dp) (le _ Jd);have sz:(top*jb- f.getD q 0*(X q).num*jd).natAbs<2^(18000+4361*(k+1)):=by
    have a1:(top*jb).natAbs<2^(18000+4361*k+4360):=by rw[Int.natAbs_mul,Int.natAbs_natCast];exact lC hs jbl
    have a2:(f.getD q 0*(X q).num*jd).natAbs<2^(4400+9000+4360):=by rw[Int.natAbs_mul,Int.natAbs_mul,Int.natAbs_natCast];exact lC (lC (hf q) xn) jdl
    have a3:=pw (4400+9000+4360) (18000+4361*k+4360) (by omega);have a4:(2:Nat)^(18000+4361*(k+1))=2^(18000+4361*k+4360)+2^(18000+4361*k+4360):=by rw[show 18000+4361*(k+1)=18000+4361*k+4360+1 by omega,Nat.pow_succ,Nat.mul_two]
    rw[a4];generalize (2:Nat)^(18000+4361*k+4360)=P at*;generalize (2:Nat)^(4400+9000+4360)=P' at*;omega
   have ev:((top*jb- f.getD q 0*(X q).num*jd:Int):Rat)=(Nat.lcm b (X q).den:Nat)*(v- cf f q*X q):=by
    have n1:=fK (X q);have c1:((Nat.lcm b (X q).den:Nat):Rat)=(b:Rat)*(jb:Rat):=by rw[<-Rat.natCast_mul, <-RB]
    have c2:((Nat.lcm b (X q).den:Nat):Rat)=((X q).den:Rat)*(jd:Rat):=by rw[<-Rat.natCast_mul, <-RA]
    simp only[Rat.intCast_mul,Rat.intCast_sub,Rat.intCast_natCast];rw[ht, <-n1];have e1:(b:Rat)*v*jb=(Nat.lcm b (X q).den:Nat)*v:=by rw[c1];grind
    have e2:((f.getD q 0:Int):Rat)*(X q*((X q).den:Rat))*jd=(Nat.lcm b (X q).den:Nat)*(cf f q*X q):=by rw[c2];unfold cf;grind
    rw[e1,e2];grind
   generalize top*jb- f.getD q 0*(X q).num*jd=W7 at*;obtain ⟨top',b',t5,t6,t7,h1,h2,h3,h4⟩:=FE d0 d9 hf (X:=X) (s0:=s0) (s2:=s2) Q (k+1) W7 (Nat.lcm b (X q).den) (v- cf f q*X q) (.val (.int q)) (.val (rq (X q))) (.val (.int (Nat.lcm b (X q).den:Nat))) (λ r hr=>hQ r (by simp[hr])) Jp Jd ev sz (by omega);refine ⟨top',b',t5,t6,t7,?_,h2,h3,?_⟩
   ·rw[List.map_cons,fB (Γ1:=[s0,.val (iL f),s2,.val (.int top),.val (.int b),.val (.int q),.val (rq (X q)),s7]) rfl st];exact h1
   ·rw[h4];simp only[sJ]
    grind
def vD(Q:List Nat)(X:Nat->Rat):D:= .lJ (.s (Q.map λ q:Nat=> .inl (q:Int))) (Q.map λ q=>rq (X q))
def KP(Q:List Nat)(X:Nat->Rat):rj (vD Q X)= .ok (Q.map (qD X)):=by
 have:(((Q.map λ q:Nat=>(Sum.inl (q:Int):zP)).zip (Q.map λ q=>rq (X q))).map λ p=>D.tup [kD p.1,p.2])=Q.map (qD X):=by
  induction Q with
  |nil=>rfl
  |cons q Q ih=>simp only[List.map_cons,List.zip_cons_cons,ih];rfl
 simp[vD,rj,this]
def KN{e:List Int}{n:Nat}(h:e.length=n+1):bG (iL e) (.int (-1))= .ok (.int (e.getD n 0)):=by
 have hn:n<e.length:=by omega
 have a1:mY (e.map D.int).length (-1)=some n:=by
  have:¬(0:Int)<= -1:=by decide
  have h2: -(((e.map D.int).length:Nat):Int)<= -1:=by simp;omega
  have h3:(-1+(((e.map D.int).length:Nat):Int)).toNat=n:=by simp[h];omega
  simp only[mY,this,if_false,h2,if_true,h3]
 simp only[bG,iL,um,a1,Option.bind_some,List.getElem?_map,List.getElem?_eq_getElem hn,Option.map_some];simp[hn]
def Jw{n p d:Nat}(d0:0<d)(d9:d<2^4360){f:List Int}(hl:f.length=n+1)(hp:p<n)(fp:f.getD p 0≠0)(hf:∀j,(f.getD j 0).natAbs<2^4400){X:Nat->Rat}{Q:List Nat}(hQ:∀q∈Q,q<n/\(X q).den∣d/\(X q).num.natAbs<2^9000)(h8:Q.length<=8):
  jl [.val (.int p),.val (iL f),.val (vD Q X)]= .ok (rq ((cf f n- sJ Q λ q=>cf f q*X q)/ cf f p)):=by
 obtain ⟨top,b,t5,t6,t7,h1,h2,h3,h4⟩:=FE d0 d9 hf (X:=X) (s0:= .val (.int p)) (s2:= .val (vD Q X)) Q 0 (f.getD n 0) 1 (cf f n) .no .no .no (λ q hq=>⟨by have:=(hQ q hq).1;omega,(hQ q hq).2⟩) (by decide) (Nat.one_dvd d) (by unfold cf;grind) (Nat.lt_of_lt_of_le (hf n) (pw _ _ (by decide))) (by omega);have il:=KN hl;have ip:=jq (e:=f) (p:=p) (by omega);have it:=KP Q X;have bl:b<2^4360:=Nat.lt_of_le_of_lt (Nat.le_of_dvd d0 h3) d9;have nz:(b:Int)*f.getD p 0≠0:=Int.mul_ne_zero (by omega) fp;have m:=fj (x:=(b:Int)) (y:=f.getD p 0) (by rw[Int.natAbs_natCast];exact bB bl (by decide)) (bB (hf p) (by decide));have fr:cZ [.val (.int top),.val (.int ((b:Int)*f.getD p 0))]= .ok (fq (r6 top ((b:Int)*f.getD p 0),xN top ((b:Int)*f.getD p 0))):=pB top ((b:Int)*f.getD p 0) nz (by rw[Int.natAbs_mul,Int.natAbs_natCast];exact bB (lC bl (hf p)) (by decide));have fe:=rF top ((b:Int)*f.getD p 0) nz;have fx:((top:Rat)/(((b:Int)*f.getD p 0:Int):Rat))=(cf f n- sJ Q λ q=>cf f q*X q)/ cf f p:=by
  have b0:(b:Rat)≠0:=by exact_mod_cast (show b≠0 by omega)
  have c0:cf f p≠0:=by unfold cf;exact_mod_cast fp
  rw[h4,Rat.intCast_mul,Rat.intCast_natCast];show _/((b:Rat)*cf f p)=_
  grind
 rw[fx] at fe;rw[fe] at fr;have rqe:∀r:Rat,fq (GO r)=rq r:=λ _=>rfl;rw[rqe] at fr;clear fe fx h4 bl nz hQ hf d9;simp only[Int.natCast_one] at h1;generalize rq ((cf f n- sJ Q λ q=>cf f q*X q)/ cf f p)=R at*;generalize f.getD n 0=zn at*;generalize f.getD p 0=zp at*;generalize vD Q X=V at*;generalize Q.map (qD X)=W at*;generalize iL f=E at*;generalize (b:Int)*zp=bz at*;have ng:pK (.int 1)= .ok (.int (-1)):=rfl;simp[jl,lO,cT,ng,il,it,h1,ip,m,fr]
theorem gA(g:Nat->Rat):∀A C:List Nat,sJ (A++C) g=sJ A g+sJ C g
 |[],C=>by simp only[List.nil_append,sJ];grind
 |a::A,C=>by simp only[List.cons_append,sJ];rw[gA g A C];grind
theorem Bt.off:∀{A C:List (Nat×List Int)},Bt (A++C)->∀a∈A,∀q∈C,q.2.getD a.1 0=0
 |(p,f)::A,C,h,a,ha,q,hq=>by
  rcases List.mem_cons.mp ha with rfl|ha
  ·exact h.2.1 q (by simp[hq])
  ·exact Bt.off h.2.2 a ha q hq
def D3{n p:Nat}{f:List Int}{A C:List (Nat×List Int)}{X:Nat->Rat}(t:Bt (A++(p,f)::C))(pr:((A++(p,f)::C).map (·.1)).Perm (List.range n)):
  dt (List.range n) (cf f) X=cf f p*X p+sJ (C.map (·.1)) λ q=>cf f q*X q:=by
 rw[<-CP pr];unfold dt;rw[List.map_append,gA,List.map_cons];simp only[sJ];rw[dU (J:=A.map (·.1)) λ j hj=>by obtain ⟨a,ha,rfl⟩:=List.mem_map.mp hj;have:=t.off a ha (p,f) (by simp);rw[show cf f a.1=0 by unfold cf;rw[this];rfl];grind]
 grind
def F1{n:Nat}{L:List (List Int)}{fs:List (Nat×List Int)}{X:Nat->Rat}(u:DK n L fs)(h:∀e∈L,dt (List.range n) (cf e) X=cf e n):∀q∈fs,dt (List.range n) (cf q.2) X=cf q.2 n:=by
 have key:∀e:List Int,dt (List.range (n+1)) (cf e) (λ j=>if j=n then -1 else X j)=dt (List.range n) (cf e) X- cf e n:=λ e=>by
  unfold dt;rw[List.range_succ,gA];simp only[sJ,if_true];rw[bF (h:=λ j=>cf e j*X j) λ j hj=>by rw[if_neg (by have:=List.mem_range.mp hj;omega)]]
  grind
 intro q hq;have:=(u.sol (List.range (n+1)) λ j=>if j=n then -1 else X j).mp (λ e he=>by rw[key,h e he];grind) q hq;rw[key] at this
 grind
def JZ{Q:List Nat}{X:Nat->Rat}{p:Nat}(h:p∉Q)(hl:Q.length<1000):mQ (.inl (p:Int)) (rq (X p)) (.k (.s (Q.map λ q:Nat=> .inl (q:Int))) (Q.map λ q=>rq (X q)))=some (.k (.s ((Q++[p]).map λ q:Nat=> .inl (q:Int))) ((Q++[p]).map λ q=>rq (X q))):=by
 have nt':nt (rq (X p))=true:=rfl;have an:((Q.map λ q:Nat=>(Sum.inl (q:Int):Sum Int Str)).any λ n=>decide (n=Sum.inl (p:Int)))=false:=by rw[List.any_eq_false];intro x hx;obtain ⟨q,hq,rfl⟩:=List.mem_map.mp hx;have:q≠p:=λ z=>h (z▸hq);simp;omega
 have hl':(Q.map λ q:Nat=>(Sum.inl (q:Int):Sum Int Str)).length<1000000:=by simp;omega
 simp only[mQ,nt',hl',and_self,if_true,yf,BR,an];simp
theorem BQ{n d:Nat}(d0:0<d)(d9:d<2^4360)(hn:n<=7){X:Nat->Rat}(hX:∀j<n,(X j).den∣d/\(X j).num.natAbs<2^9000){fs:List (Nat×List Int)}(t:Bt fs)(h1:∀q∈fs,q.1<n)(hlen:fs.length=n)(hb:∀q∈fs,q.2.length=n+1/\∀j,(q.2.getD j 0).natAbs<2^4400) (hs:∀q∈fs,dt (List.range n) (cf q.2) X=cf q.2 n) {s0 s1:Slot}:∀(l2 l1:List (Nat×List Int)) (s3 s4:Slot),fs.reverse=l1++l2->∃t3 t4,cS (cL 2 (aS (aG 3) (aS (aG 4) cW))) (kU 0) (l2.map fD) [s0,s1,.own (.k (.s ((l1.map (·.1)).map λ q:Nat=> .inl (q:Int))) ((l1.map (·.1)).map λ q=>rq (X q))),s3,s4]=.nx [s0,s1,.own (.k (.s (((l1++l2).map (·.1)).map λ q:Nat=> .inl (q:Int))) (((l1++l2).map (·.1)).map λ q=>rq (X q))),t3,t4]
 |[],l1,s3,s4,_=>⟨s3,s4,by simp⟩
 |(p,f)::l2,l1,s3,s4,e=>by
  have ef:fs=l2.reverse++(p,f)::l1.reverse:=by have:=congrArg List.reverse e;simpa using this
  have mem:(p,f)∈fs:=by rw[ef];simp
  have pr:(fs.map (·.1)).Perm (List.range n):=lu t.nd (λ j hj=>by obtain ⟨q,hq,rfl⟩:=List.mem_map.mp hj;exact h1 q hq) (by simpa using hlen);have nd:=t.nd;have sp:=D3 (X:=X) (ef▸t) (ef▸pr);rw[hs _ mem] at sp;have f0:=t.at mem;have c0:cf f p≠0:=by unfold cf;exact_mod_cast f0
  have perm:sJ (l1.reverse.map (·.1)) (λ q=>cf f q*X q)=sJ (l1.map (·.1)) (λ q=>cf f q*X q):=uM ((List.reverse_perm l1).map _);have vx:(cf f n- sJ (l1.map (·.1)) λ q=>cf f q*X q)/ cf f p=X p:=by rw[<-perm];have:cf f n=cf f p*X p+sJ (l1.reverse.map (·.1)) λ q=>cf f q*X q:=sp;rw[this];grind
  have ll:l1.length<=7:=by have:=congrArg List.length e;simp at this;omega
  have va:=Jw (n:=n) (p:=p) d0 d9 (f:=f) (hb _ mem).1 (h1 _ mem) f0 (hb _ mem).2 (X:=X) (Q:=l1.map (·.1)) (λ q hq=>by
   obtain ⟨g,hg,rfl⟩:=List.mem_map.mp hq;have hm:g∈fs:=by rw[ef];simp[hg]
   exact ⟨h1 g hm,hX _ (h1 g hm)⟩) (by simp;omega)
  rw[vx] at va;have nin:p∉l1.map (·.1):=λ z=>by rw[ef] at nd;simp only[List.map_append,List.map_cons,List.map_reverse] at nd;have:=(List.nodup_append.mp nd).2.1;rw[List.nodup_cons] at this;exact this.1 (by simpa using z)
  have pn:=JZ (X:=X) nin (by simp;omega);have pp:pl (rq (X p))=true:=rfl;have e':fs.reverse=(l1++[(p,f)])++l2:=by rw[e];simp
  obtain ⟨t3,t4,h⟩:=BQ d0 d9 hn hX t h1 hlen hb hs (s0:=s0) (s1:=s1) l2 (l1++[(p,f)]) (.val (.int p)) (.val (iL f)) e';refine ⟨t3,t4,?_⟩;rw[List.map_cons,fB (Γ1:=[s0,s1,.own (.k (.s ((l1.map (·.1)).map λ q:Nat=> .inl (q:Int))) ((l1.map (·.1)).map λ q=>rq (X q))),.val (.int p),.val (iL f)]) (Γ2:=[s0,s1,.own (.k (.s (((l1++[(p,f)]).map (·.1)).map λ q:Nat=> .inl (q:Int))) (((l1++[(p,f)]).map (·.1)).map λ q=>rq (X q))),.val (.int p),.val (iL f)]) rfl ?_]
  ·rw[h];simp
  ·rw[show (l1++[(p,f)]).map (·.1)=l1.map (·.1)++[p] by simp];unfold vD at va;clear h perm sp nd pr e e' hX hb hs mem vx ll;generalize l1.map (·.1)=Q at*;generalize ((Q++[p]).map λ q:Nat=>(Sum.inl (q:Int):Sum Int Str))=K2 at*;generalize ((Q++[p]).map λ q=>rq (X q))=V2 at*;generalize (Q.map λ q:Nat=>(Sum.inl (q:Int):Sum Int Str))=K1 at*;generalize (Q.map λ q=>rq (X q))=V1 at*;generalize rq (X p)=R at*;generalize iL f=E at*;simp[kU,yl,va,pp,F4,fR,AW,oQ,sZ,gi,eG,An,pn]
noncomputable abbrev Row:=Rat×List (Nat×Rat)
def rD(r:Row):D:= .tup [rq r.1,.lst (r.2.map tD)]
noncomputable def pS(S:Nat->Int):List Nat->Int
 |[]=>1
 |j::J=>S j*pS S J
structure Bv(n:Nat)(S:Nat->Int)(Q:Nat):Prop where
 lo:∀j,1<=S j
 hi:∀j,S j<=8589934592
 q0:0<Q
 q1:Q<=2^48
def Lf(n:Nat)(S:Nat->Int)(Q:Nat)(j:Nat):Int:=if j<n then Q*pS S ((List.range n).erase j) else pS S (List.range n)
theorem GF{n:Nat}{S:Nat->Int}{Q:Nat}(h:Bv n S Q):∀J:List Nat,1<=pS S J
 |[]=>by simp[pS]
 |j::J=>by have h1:=h.lo j;have h2:=GF h J;have:=Int.mul_le_mul h1 h2 (by decide) (by omega);simpa[pS] using this
theorem GH{n:Nat}{S:Nat->Int}{Q:Nat}(h:Bv n S Q):∀J:List Nat,(pS S J).natAbs<=8589934592^J.length
 |[]=>by simp[pS]
 |j::J=>by have h1:=h.lo j;have h3:=h.hi j;have h2:=GH h J;simp only[pS,List.length_cons];rw[Int.natAbs_mul,Nat.pow_succ,Nat.mul_comm];exact Nat.mul_le_mul h2 (by omega)
theorem yG(S:Nat->Int){p:Nat}:∀{J:List Nat},p∈J->pS S J=S p*pS S (J.erase p)
 |j::J,h=>by
  by_cases e:j=p
  ·subst e;simp[pS]
  ·have hp:p∈J:=by
    rcases List.mem_cons.mp h with q|q
    ·exact absurd q.symm e
    ·exact q
   rw[List.erase_cons_tail (by simpa using e)];simp only[pS];rw[yG S hp];grind
def Uc{n:Nat}{S:Nat->Int}{Q:Nat}(hn:n<=7)(h:Bv n S Q):LF n (Lf n S Q):=by
 have up:∀k:Nat,k<=7->(8589934592:Nat)^k<=2^231:=λ k hk=>Nat.le_trans (Nat.pow_le_pow_right (by decide) hk) (by decide);refine ⟨λ j hj=>?_,?_⟩
 ·unfold Lf;rw[if_pos hj,Int.natAbs_mul,Int.natAbs_natCast];refine Nat.le_trans (Nat.mul_le_mul h.q1 (Nat.le_trans (GH h _) (up _ ?_))) (by decide);have:=List.length_erase_of_mem (List.mem_range.mpr hj);simp at this;omega
 ·unfold Lf;rw[if_neg (by omega)];exact Nat.le_trans (Nat.le_trans (GH h _) (up _ (by simpa using hn))) (by decide)
structure zO(n:Nat)(S:Nat->Int)(Q:Nat)(r:Row):Prop where
 nd:(r.2.map (·.1)).Nodup
 tm:∀t∈r.2,t.1<n/\Jg t.2
 sh:∀t∈r.2,jt (S t.1*t.2)
 ct:r.1.num.natAbs<2^200
 cd:r.1.den<=97
 cq:jt ((Q:Int)*r.1)
structure LN(n:Nat)(S:Nat->Int)(Q:Nat)(i:Nat)(r:Row)(e:List Int):Prop where
 bd:Bd n (Lf n S Q) 0 e
 ev:∃B:Nat,0<B/\(∀j<n,cf e j=((if j=i then 1 else 0) -(r.2.lookup j).getD 0)*B)/\cf e n=r.1*B
def o6{u v w x:Rat}(hu:u≠0)(hv:v≠0):x*w=x/(u*v)*(w*u*v):=by
 have:u*v≠0:=yr hu hv
 grind
noncomputable def mC(n:Nat)(M:Nat->Int)(c:Int)(j:Nat):Int:=if j<n then M j else if j=n then c else 0
def U7{n i B:Nat}{S:Nat->Int}{Q:Nat}{r:Row}{e:List Int}(h:Bv n S Q)(ro:zO n S Q r)(b0:0<B)(el:e.length=n+1)(e1:∀j<n,(e.getD j 0).natAbs<=2^270)(e2:(e.getD n 0).natAbs<=2^470) (ev:∀j<n,cf e j=((if j=i then 1 else 0) -(r.2.lookup j).getD 0)*B) (en:cf e n=r.1*B):Bd n (Lf n S Q) 0 e:=by
 have B0:(B:Rat)≠0:=by exact_mod_cast (show B≠0 by omega)
 have Q0:((Q:Nat):Rat)≠0:=by have:=h.q0;exact_mod_cast (show Q≠0 by omega)
 have P1:=GF h (List.range n);have P0:(pS S (List.range n):Rat)≠0:=by exact_mod_cast (show pS S (List.range n)≠0 by omega)
 have lk:∀j,Jg ((r.2.lookup j).getD 0)/\jt (S j*(r.2.lookup j).getD 0):=λ j=>by
  cases q:r.2.lookup j with
  |none=>exact ⟨⟨by simp,by simp;grind,by decide⟩,⟨0,by simp⟩⟩
  |some s=>exact ⟨(ro.tm _ (lookup_mem q)).2,ro.sh _ (lookup_mem q)⟩
 have ex:∀j,∃z:Int,(z:Rat)=S j*((if j=i then 1 else 0) -(r.2.lookup j).getD 0)/\z.natAbs<=8589934592:=λ j=>by
  obtain ⟨s,z,hz⟩:=lk j;have s1:=h.lo j;have s2:=h.hi j;have l1:=s.lo;have l2:=s.hi;have sp:(0:Rat)<=(S j:Rat):=by exact_mod_cast (show (0:Int)<=S j by omega)
  have t1:=Rat.mul_le_mul_of_nonneg_left l2 sp;have t2:=Rat.mul_nonneg sp l1;rw[hz] at t1 t2;have z1:z<=S j:=by
   have:(z:Rat)<=(S j:Rat):=by grind
   exact_mod_cast this
  have z0:0<=z:=by exact_mod_cast t2
  by_cases q:j=i
  ·refine ⟨S j- z,?_,by omega⟩;rw[if_pos q,Rat.intCast_sub, <-hz];grind
  ·refine ⟨-z,?_,by omega⟩;rw[if_neg q,Rat.intCast_neg, <-hz];grind
 obtain ⟨M,hM⟩:∃M:Nat->Int,∀j,(M j:Rat)=S j*((if j=i then 1 else 0) -(r.2.lookup j).getD 0)/\(M j).natAbs<=8589934592:=⟨λ j=>Classical.choose (ex j),λ j=>Classical.choose_spec (ex j)⟩;obtain ⟨c,hc⟩:=ro.cq;have cl:c.natAbs<=2^248:=by
  have e3:c*(r.1.den:Int)=Q*r.1.num:=by
   have:(c:Rat)*(r.1.den:Rat)=((Q:Int):Rat)*(r.1.num:Rat):=by rw[<-hc, <-fK r.1];grind
   exact_mod_cast this
  have e4:=congrArg Int.natAbs e3;rw[Int.natAbs_mul,Int.natAbs_mul,Int.natAbs_natCast,Int.natAbs_natCast] at e4;have:c.natAbs<=c.natAbs*r.1.den:=Nat.le_mul_of_pos_right _ r.1.den_pos;rw[e4] at this;exact Nat.le_trans this (Nat.le_trans (Nat.mul_le_mul h.q1 (Nat.le_of_lt ro.ct)) (by decide))
 refine ⟨el,λ j hj=>Nat.le_trans (e1 j hj) (show (2:Nat)^270<=2^(34*2^0- 1)*2^280 by decide),Nat.le_trans e2 (show (2:Nat)^470<=2^(247+34*2^0)*2^240 by decide),⟨mC n M c,(B:Rat)/(Q*pS S (List.range n)),Mj (yr Q0 P0) B0,λ j=>?_,λ j hj=>?_,?_,λ j hj=>?_⟩⟩
 ·by_cases q:j<n
  ·have pe:=yG S (List.mem_range.mpr q);have m:=(hM j).1;rw[ev j q];unfold Lf mC;rw[if_pos q,if_pos q,Rat.intCast_mul,Rat.intCast_mul,m,Rat.intCast_natCast];have pr:(pS S (List.range n):Rat)=S j*pS S ((List.range n).erase j):=by rw[pe,Rat.intCast_mul]
   have t:=o6 (x:=(B:Rat)) (w:=(if j=i then 1 else 0) -(r.2.lookup j).getD 0) Q0 P0;rw[Rat.mul_comm,t];congr 1;rw[pr];grind
  ·by_cases q2:j=n
   ·subst q2;unfold Lf mC;rw[en,if_neg q,if_pos rfl,if_neg q,Rat.intCast_mul];have t:=o6 (x:=(B:Rat)) (w:=r.1) Q0 P0;rw[Rat.mul_comm,t];congr 1;rw[<-hc,Rat.intCast_natCast];grind
   ·have:cf e j=0:=by unfold cf;rw[List.getD_eq_getElem?_getD,List.getElem?_eq_none (by omega)];rfl
    unfold mC;rw[this,if_neg q,if_neg q2];simp
 ·simp only[mC,hj,if_true];exact Nat.le_trans (hM j).2 (show (8589934592:Nat)<=2^(34*2^0- 1) by decide)
 ·simp only[mC,Nat.lt_irrefl,if_false,if_true];exact Nat.le_trans cl (show (2:Nat)^248<=2^(247+34*2^0) by decide)
 ·unfold mC;rw[if_neg (by omega),if_neg (by omega)]
theorem zw{n:Nat}{S:Nat->Int}{Q:Nat}(hS':Bv n S Q)(hn:n<=7){G:D}:∀(R:List Row) (k:Nat),k+R.length=n->(∀r∈R,zO n S Q r)->c8 [G]= .ok (.int n)->∃L:List (List Int),bP (jQ (cL 2 (aS (aG 0) (aS (aG 1) cW))) fC (bu 3 bY (au (aj 0) (au (aj 1) (au (p6 c8 (au (aj 2) aM)) aM)))) [.no,.no,.val G]) (eT k (R.map rD))= .ok (L.map iL)/\L.length=R.length/\∀m r,R[m]? =some r->∃e,L[m]? =some e/\LN n S Q (k+m) r e
 |[],k,_,_,_=>⟨[],rfl,rfl,λ m r h=>by simp at h⟩
 |r::R,k,hk,hS,hl=>by
  obtain ⟨L,h1,h2,h3⟩:=zw hS' hn (G:=G) R (k+1) (by simp at hk;omega) (λ s hs=>hS s (by simp[hs])) hl;have ro:=hS r (by simp);obtain ⟨e,B,q1,q2,g1,g2,g3,q4,q5⟩:=A7 (n:=n) (i:=k) (T:=r.2) (c:=r.1) (by simp at hk;omega) hn ro.nd ro.tm ro.ct (Nat.le_trans ro.cd (by decide));have q3:=U7 hS' ro q2 g1 g2 g3 q4 q5;refine ⟨e::L,?_,by simp[h2],λ m s hs=>?_⟩
  ·have e1:eT k ((r::R).map rD)= .tup [.int k,rD r]::eT (k+1) (R.map rD):=rfl;have q1':bY [.val (.int k),.val (rD r),.val (.int n)]= .new (.l (e.map D.int)):=q1;have el:jQ (cL 2 (aS (aG 0) (aS (aG 1) cW))) fC (bu 3 bY (au (aj 0) (au (aj 1) (au (p6 c8 (au (aj 2) aM)) aM)))) [.no,.no,.val G] (.tup [.int k,rD r])= .ok (some (iL e)):=by have fz:vq (.l (e.map D.int))= .ok (iL e):=rfl;generalize iL e=E at*;generalize e.map D.int=EE at*;generalize rD r=RD at*;simp[jQ,hl,q1',lM,fz]
   rw[e1];simp only[bP,el,h1,Res.bnd,List.map_cons]
  ·cases m with
   |zero=>simp only[List.getElem?_cons_zero,Option.some.injEq] at hs;subst hs;exact ⟨e,rfl,q3,B,q2,q4,q5⟩
   |succ m=>rw[List.getElem?_cons_succ] at hs;obtain ⟨e',g1,g2⟩:=h3 m s hs;exact ⟨e',g1,by rw[show k+(m+1)=k+1+m by omega];exact g2⟩
def K9{Q:List Nat}{X:Nat->Rat}{j:Nat}(h:j∈Q)(tm:Bool):L4.getD (.lY tm (.s (Q.map λ q:Nat=> .inl (q:Int))) (Q.map λ q=>rq (X q))) (.int j)= .ok (rq (X j)):=by
 have:zj (Q.map λ q:Nat=> .inl (q:Int)) (Q.map λ q=>rq (X q)) (.inl (j:Int))=some (rq (X j)):=by
  unfold zj;induction Q with
  |nil=>simp at h
  |cons q Q ih=>
   by_cases e:q=j
   ·subst e;simp
   ·have hj:j∈Q:=by
     rcases List.mem_cons.mp h with z|z
     ·exact absurd z.symm e
     ·exact z
    have ne:¬((q:Int)=(j:Int)):=by omega
    simp only[List.map_cons,List.zip_cons_cons,List.find?_cons,Sum.inl.injEq,ne,decide_false];exact ih hj
 simp[L4.getD,Wq,AW,this]
def Sol(n:Nat)(R:List Row)(X:Nat->Rat):Prop:=∀i r,R[i]? =some r->X i- sJ (List.range n) (λ j=>(r.2.lookup j).getD 0*X j)=r.1
def A8{n i:Nat}{S:Nat->Int}{Q:Nat}{r:Row}{e:List Int}{X:Nat->Rat}(hi:i<n)(h:LN n S Q i r e):∃B:Nat,0<B/\cf e n=r.1*B/\dt (List.range n) (cf e) X=B*(X i- sJ (List.range n) λ j=>(r.2.lookup j).getD 0*X j):=by
 obtain ⟨B,b0,h1,h2⟩:=h.ev;refine ⟨B,b0,h2,?_⟩;have e1:dt (List.range n) (cf e) X=(B:Rat)*sJ (List.range n) (λ j=>(if j=i then (1:Rat) else 0)*X j) - B*sJ (List.range n) λ j=>(r.2.lookup j).getD 0*X j:=by unfold dt;rw[<-k6];refine bF λ j hj=>?_;rw[h1 j (List.mem_range.mp hj)];grind
 have e2:sJ (List.range n) (λ j=>(if j=i then (1:Rat) else 0)*X j)=X i:=by rw[jC _ (List.mem_range.mpr hi),dU (J:=(List.range n).erase i) λ j hj=>by rw[if_neg λ z=>((List.Nodup.mem_erase_iff List.nodup_range).mp hj).1 z];grind];rw[if_pos rfl];grind
 rw[e1,e2];grind
theorem ou{el:D->Res (Option D)}(g:Nat->D):∀{l:List Nat},(∀j∈l,el (nI j)= .ok (some (g j)))->bP el (l.map nI)= .ok (l.map g)
 |[],_=>rfl
 |j::l,h=>by have:=ou (el:=el) g (l:=l) λ y hy=>h y (by simp[hy]);simp only[List.map_cons,bP,h j (by simp),this,Res.bnd]
theorem AH{X:Nat->Rat}:∀l:List Nat,eu (l.map λ j=>rq (X j))=true
 |[]=>rfl
 |j::l=>by simp only[List.map_cons,eu,AH l];rfl
def yd{n d:Nat}{S:Nat->Int}{Q:Nat}(hS':Bv n S Q)(d0:0<d)(d9:d<2^4360)(hn:n<=7){R:List Row}(hl:R.length=n)(hR:∀r∈R,zO n S Q r):
  (dI [.val (.lst (R.map rD))]= .err "Loose"/\∃X:Nat->Rat,(∃j<n,X j≠0)/\∀i r,R[i]? =some r->X i- sJ (List.range n) (λ j=>(r.2.lookup j).getD 0*X j)=0)\/
  ((∀X:Nat->Rat,(∀i r,R[i]? =some r->X i- sJ (List.range n) (λ j=>(r.2.lookup j).getD 0*X j)=0)->∀j<n,X j=0)/\∃fs:List (Nat×List Int),Bt fs/\∀X:Nat->Rat,Sol n R X->(∀j<n,(X j).den∣d/\(X j).num.natAbs<2^9000)->dI [.val (.lst (R.map rD))]= .new (.l ((List.range n).map λ j=>rq (X j)))):=by
 have ln:c8 [.lst (R.map rD)]= .ok (.int n):=by simp[c8,hl]
 obtain ⟨L,c1,l1,c3⟩:=zw hS' hn (G:= .lst (R.map rD)) R 0 (by omega) hR ln;have el:(eT 0 (R.map rD)).length<1000000:=by
  have:∀(xs:List D) (k:Nat),(eT k xs).length=xs.length:=λ xs=>by
   induction xs with
   |nil=>exact λ _=>rfl
   |cons x xs ih=>exact λ k=>by simp[eT,ih]
  rw[this];simp;omega
 have bL:∀e∈L,∃i r,i<n/\R[i]? =some r/\LN n S Q i r e:=λ e he=>by
  obtain ⟨m,hm,rfl⟩:=List.getElem_of_mem he;have hr:m<R.length:=by omega
  obtain ⟨e',g1,g2⟩:=c3 m R[m] (List.getElem?_eq_getElem hr);rw[List.getElem?_eq_getElem hm] at g1;cases g1;exact ⟨m,R[m],by omega,List.getElem?_eq_getElem hr,by simpa using g2⟩
 have Yo:∀X:Nat->Rat,(∀e∈L,dt (List.range n) (cf e) X=0)↔ ∀i r,R[i]? =some r->X i- sJ (List.range n) (λ j=>(r.2.lookup j).getD 0*X j)=0:=λ X=>by
  constructor
  ·intro h i r hr;obtain ⟨e,g1,g2⟩:=c3 i r hr;have hi:i<n:=by have:=(List.getElem?_eq_some_iff.mp hr).1;omega
   obtain ⟨B,b0,_,q⟩:=A8 (X:=X) hi (show LN n S Q i r e by simpa using g2);rw[h e (List.mem_of_getElem? g1)] at q;have:(B:Rat)≠0:=by exact_mod_cast (show B≠0 by omega)
   grind
  ·intro h e he;obtain ⟨i,r,hi,hr,g⟩:=bL e he;obtain ⟨B,b0,_,q⟩:=A8 (X:=X) hi g;rw[q,h i r hr];grind
 have HM:vq (.l (L.map iL))= .ok (rL L):=rfl;have VZ:kr (.k (.s []) [])=true:=rfl;have en:A9 [.lst (R.map rD)]= .ok (eT 0 (R.map rD)):=rfl;rcases Aa (n:=n) (L:=L) (by omega) (by omega) (Uc hn hS') (λ e he=>(bL e he).elim λ i h=>h.elim λ r h=>h.2.2.bd) with ⟨lo,hu⟩|⟨fs,u,hb,hu⟩
 ·left;obtain ⟨X,h1,h2⟩:=lo.other (by omega);refine ⟨?_,X,h1,(Yo X).mp h2⟩;unfold rL at hu;clear HM;generalize L.map iL=LL at*;generalize eT 0 (R.map rD)=EE at*;generalize R.map rD=RR at*;simp[dI,nA,cT,rB,en,el,iK,lN,c1,hu,VZ,EF]
 ·right;obtain ⟨t,p1,p2⟩:=u.Zj;refine ⟨λ X hX=>u.only (by omega) ((Yo X).mpr hX),fs,t,λ X hX hd=>?_⟩;have hs:∀e∈L,dt (List.range n) (cf e) X=cf e n:=λ e he=>by obtain ⟨i,r,hi,hr,g⟩:=bL e he;obtain ⟨B,b0,q1,q⟩:=A8 (X:=X) hi g;rw[q,q1,hX i r hr];grind
  obtain ⟨t3,t4,lp⟩:=BQ d0 d9 hn hd t p1 (by omega) (λ q hq=>⟨(hb q hq).1,λ j=>by
   rcases iT q.2 j with z|z
   ·rw[z];exact Nat.pow_pos (by decide)
   ·exact (hb q hq).2 _ z⟩) (F1 u hs) (s0:= .val (.lst (R.map rD))) (s1:= .val (rL L)) fs.reverse [] .no .no rfl
  simp only[List.nil_append,List.map_nil] at lp;have mem:∀j∈List.range n,j∈fs.reverse.map (·.1):=λ j hj=>by have pr:=lu t.nd (λ j hj=>by obtain ⟨q,hq,rfl⟩:=List.mem_map.mp hj;exact p1 q hq) (by simp;omega);have:=pr.mem_iff.mpr hj;simpa using this
  have cm:=ou (el:=jQ (aG 0) fC (aO L4.getD (aj 1) (aj 0)) [.no,.val (.lY true (.s ((fs.reverse.map (·.1)).map λ q:Nat=> .inl (q:Int))) ((fs.reverse.map (·.1)).map λ q=>rq (X q)))]) (λ j=>rq (X j)) (l:=List.range n) λ j hj=>by have:=K9 (X:=X) (mem j hj) true;generalize D.lY true (.s ((fs.reverse.map (·.1)).map λ q:Nat=> .inl (q:Int))) ((fs.reverse.map (·.1)).map λ q=>rq (X q))=V at*;unfold nI;simp[jQ,this]
  have rg:=gK n (by omega);rw[iS] at rg;have rl:((List.range n).map nI).length<1000000:=by simp;omega
  have VY:kr (.l ((List.range n).map λ j=>rq (X j)))=true:=by simp only[kr];exact AH _
  unfold rL at hu lp;have fzF:vq (.l (fs.map fD))= .ok (.lst (fs.map fD)):=rfl;have rv:fs.reverse.map fD=(fs.map fD).reverse:=by simp
  rw[rv] at lp;have ld:lend (.k (.s ((fs.reverse.map (·.1)).map λ q:Nat=> .inl (q:Int))) ((fs.reverse.map (·.1)).map λ q=>rq (X q)))= .lY true (.s ((fs.reverse.map (·.1)).map λ q:Nat=> .inl (q:Int))) ((fs.reverse.map (·.1)).map λ q=>rq (X q)):=rfl;clear HM Yo bL c3 hX hd hs t p1 p2 u hb mem;generalize ((fs.reverse.map (·.1)).map λ q:Nat=>(Sum.inl (q:Int):Sum Int Str))=K2 at*;generalize ((fs.reverse.map (·.1)).map λ q=>rq (X q))=V2 at*;generalize ((List.range n).map λ j=>rq (X j))=OUT at*;generalize (List.range n).map nI=NN at*;generalize fs.map fD=FF at*;generalize L.map iL=LL at*;generalize eT 0 (R.map rD)=EE at*;generalize R.map rD=RR at*;simp[dI,nA,cT,rB,en,el,iK,lN,c1,hu,VZ,EF,fzF,lp,ln,rg,rl,ld,cm,VY]
def vG(zs:List Int)(k:Nat):bJ [.val (iL zs),.val (.int k)]= .ok (.int (zs.getD k 0)):=by
 have ln:c8 [iL zs]= .ok (.int zs.length):=by simp[c8,iL]
 by_cases h:k<zs.length
 ·have ix:=jq h;have hk:(k:Int)<zs.length:=by omega
  generalize iL zs=E at*;generalize zs.getD k 0=z at*;simp[bJ,iw,cT,ln,ltI,hk,ix]
 ·have hk:¬(k:Int)<zs.length:=by omega
  have e:zs.getD k 0=0:=by simp[List.getElem?_eq_none (show zs.length<=k by omega)]
  rw[e];generalize iL zs=E at*;simp[bJ,iw,cT,ln,ltI,hk]
def fm(x y:Int)(h:0<y):0<=x.fmod y/\x.fmod y<y:=⟨Int.fmod_nonneg_of_pos x h,Int.fmod_lt_of_pos x h⟩
def gM(G:List (List Int)):M:= .n (G.map λ r=> .l (r.map D.int))
def gv(G:List (List Int))(i j:Nat):Int:=(G.getD i []).getD j 0
def setG(G:List (List Int))(i j:Nat)(v:Int):List (List Int):=G.set i ((G.getD i []).set j v)
structure Sq(n:Nat)(G:List (List Int)):Prop where
 len:G.length=n
 row:∀r∈G,r.length=n
def Sq.set{n i j:Nat}{v:Int}{G:List (List Int)}(h:Sq n G)(hi:i<n):Sq n (setG G i j v):=by
 refine ⟨by simp[setG,h.len],λ r hr=>?_⟩;have li:i<G.length:=by rw[h.len];exact hi
 unfold setG at hr;rcases List.mem_or_eq_of_mem_set hr with z|z
 ·exact h.row r z
 ·subst z;rw[List.length_set,show G.getD i []=G[i] by simp[li]];exact h.row _ (List.getElem_mem li)
def HK{n i j:Nat}{v:Int}{G:List (List Int)}(h:Sq n G)(hi:i<n)(hj:j<n)(a b:Nat):gv (setG G i j v) a b=if a=i/\b=j then v else gv G a b:=by
 unfold gv setG;have li:i<G.length:=by rw[h.len];exact hi
 have lr:=h.row _ (List.getElem_mem li);by_cases e:a=i
 ·subst e;have e1:(G.set a ((G.getD a []).set j v)).getD a []=(G.getD a []).set j v:=by simp[li]
  rw[e1];by_cases e2:b=j
  ·subst e2;have:b<(G.getD a []).length:=by simp[li,lr,hj]
   rw[List.getD_eq_getElem?_getD,List.getElem?_set_self this];simp
  ·simp only[List.getD_eq_getElem?_getD,List.getElem?_set_ne (Ne.symm e2),e2,and_false,if_false]
 ·simp only[List.getD_eq_getElem?_getD,List.getElem?_set_ne (Ne.symm e),e,false_and,if_false]
def Nz{n i j:Nat}{v:Int}{G:List (List Int)}(R:Sq n G)(hi:i<n)(hj:j<n){Γ:Sg}{fy fx f:Sg->Res D}(h1:Γ[2]? =some (.own (gM G)))(ey:fy Γ= .ok (.int i))(ex:fx Γ= .ok (.int j))(ef:f Γ= .ok (.int v)):
  iB 2 (Ro 2 (fR 2) fy) fx f Γ= .nx (Γ.set 2 (.own (gM (setG G i j v)))):=by
 have ly:i<G.length:=by rw[R.len];omega
 have rl:=R.row _ (List.getElem_mem ly);have We:∀(m k:Nat),k<m->mY m (k:Int)=some k:=λ m k h=>by
  have:(k:Int)<(m:Int):=by omega
  simp[mY,this]
 have i1:mY (G.map λ r=>M.l (r.map D.int)).length (i:Int)=some i:=We _ _ (by simp;omega);have i2:mY (G[i].map D.int).length (j:Int)=some j:=We _ _ (by simp[rl];omega);have pv:fR 2 Γ= .ok []:=by simp[fR,h1,sZ]
 have pi:Ro 2 (fR 2) fy Γ= .ok [i]:=by unfold Ro;rw[pv,ey,h1];simp only[Res.iF,Option.bind_some,sZ,gi,gM,yX,i1];rfl
 have VZ:nt (D.int v)=true:=rfl;have gx:(G.map λ r=>M.l (r.map D.int))[i]? =some (M.l (G[i].map D.int)):=by rw[List.getElem?_map,List.getElem?_eq_getElem ly];rfl
 have up:oQ 2 [i] (setM j (.int v)) Γ=some (Γ.set 2 (.own (gM (setG G i j v)))):=by unfold oQ;rw[h1];simp only[Option.bind_some,sZ,gM,gi,gx,eG,setM,VZ,if_true,i2,Option.map_some,An];congr 4;rw[setG,List.map_set,List.map_set];congr 2;simp[List.getD,ly]
 unfold iB;rw[ef,pi,ex];simp[up]
def ints_get{G:List (List Int)}{n i j:Nat}(R:Sq n G)(hi:i<n)(hj:j<n):∃r,(G.map iL)[i]? =some (iL r)/\r.length=n/\r.getD j 0=gv G i j:=by
 have ly:i<G.length:=by rw[R.len];omega
 refine ⟨G[i],by rw[List.getElem?_map,List.getElem?_eq_getElem ly];rfl,R.row _ (List.getElem_mem ly),?_⟩;unfold gv;rw[show G.getD i []=G[i] by simp[ly]]
def g0(n:Nat):List (List Int):=List.replicate n (List.replicate n 0)
def sq0(n:Nat):Sq n (g0 n):=⟨by simp[g0],λ r hr=>by rw[List.eq_of_mem_replicate hr];simp⟩
def Z1(n i j:Nat):gv (g0 n) i j=0:=by
 unfold gv g0;by_cases h:i<n
 ·by_cases k:j<n
  ·simp[h,k]
  ·simp[h,k]
 ·simp[h]
structure Gd(n:Nat)(G:List (List Int)):Prop where
 sq:Sq n G
 lo:∀i j,0<=gv G i j
 hi:∀i j,gv G i j<=999999999
theorem pD{e:D->Res (Option M)}{d:M}:∀{xs:List D},(∀x∈xs,e x= .ok (some d))->gh e xs= .ok (List.replicate xs.length d)
 |[],_=>rfl
 |x::xs,h=>by simp only[gh];rw[h x (.head _),pD λ y hy=>h y (.tail _ hy)];rfl
def O7{n:Nat}(hn:n<=7){s0 s2 s3 s4 s5 s6:Slot}:mN (jo false (jr (au (aj 1) aM)) 1 [1] (aG 0) fC (mL (Ms sA (lX (om (au (dC (.int 0)) aM))) (aj 1)))) [s0,.val (.int n),s2,s3,s4,s5,s6]= .ok (gM (g0 n)):=by
 have rg:=gK n (by omega);have rp:sA (.lst [.int 0]) (.int n)= .ok (List.replicate n (.int 0)):=by
  have:(0:Int)<=n/\(n:Int)<=100000:=by omega
  simp[sA,qe,this]
 have c:=pD (e:=E6 (aG 0) fC (mL (Ms sA (lX (om (au (dC (.int 0)) aM))) (aj 1))) [.no,.val (.int n)]) (d:= .l (List.replicate n (.int 0))) (xs:=gU 0 n) λ x _=>by simp[E6,rp]
 rw[jY] at c;have ln:(gU 0 n).length<1000000:=by rw[jY];omega
 have e:gM (g0 n)= .n (List.replicate n (.l (List.replicate n (.int 0)))):=by simp[gM,g0]
 rw[e];generalize List.replicate n (M.l (List.replicate n (.int 0)))=R at*;generalize gU 0 n=N at*;simp[mN,jo,rg,ln,iK,lN,c]
def HS(a b:Nat):(a:Int).fdiv (b:Int)=((a/ b:Nat):Int):=by rw[Int.fdiv_eq_ediv_of_nonneg _ (by omega)];simp
def tW(a b:Nat):(a:Int).fmod (b:Int)=((a%b:Nat):Int):=by rw[Int.fmod_eq_emod_of_nonneg _ (by omega)];simp
def X4{n:Nat}(h:0<n)(hn:n<=100):(n:Int).natAbs.log2<9000:=by rw[Int.natAbs_natCast];exact nY (by omega) (Nat.lt_of_le_of_lt hn (Nat.lt_of_lt_of_le (show 100<2^7 by decide) (Nat.pow_le_pow_right (by decide) (by decide))))
theorem Gd.set{n i j:Nat}{G:List (List Int)}{v:Int}(g:Gd n G)(hi:i<n)(hj:j<n)(v0:0<=v)(v9:v<=999999999):Gd n (setG G i j v):=by
 refine ⟨g.sq.set hi,λ a b=>?_,λ a b=>?_⟩
 ·rw[HK g.sq hi hj];split
  ·exact v0
  ·exact g.lo a b
 ·rw[HK g.sq hi hj];split
  ·exact v9
  ·exact g.hi a b
def W0{n k:Nat}{zs:List Int}{G:List (List Int)}{s4 s5 s6:Slot}(h0:0<n)(hn:n<=7)(hk:2+k<zs.length)(g:Gd n G):
  ∃G' t4 t5 t6,cN 0 [.val (iL zs),.val (.int n),.own (gM G),.val (.int (2+(k:Int))),s4,s5,s6]= .nx [.val (iL zs),.val (.int n),.own (gM G'),.val (.int (2+(k:Int))),t4,t5,t6]/\Gd n G':=by
 have sb:fP (.int (2+(k:Int))) (.int 2)= .ok (.int k):=by simp only[fP,rA,if_true];rw[show 2+(k:Int) - 2=k by omega]
 have dv:=eO (k:Int) (g:=(n:Int)) (by omega) (X4 h0 (by omega));rw[HS] at dv;have m1:dD (.int ((k/ n:Nat):Int)) (.int n)= .ok (.int ((k/ n%n:Nat):Int)):=by rw[bO _ _ (by omega),tW]
 have m2:dD (.int (k:Int)) (.int n)= .ok (.int ((k%n:Nat):Int)):=by rw[bO _ _ (by omega),tW]
 have ri:k/ n%n<n:=Nat.mod_lt _ h0;have cj:k%n<n:=Nat.mod_lt _ h0;have ix:bG (iL zs) (.int (2+(k:Int)))= .ok (.int (zs.getD (2+k) 0)):=by have:=jq hk;rw[show ((2+k:Nat):Int)=2+(k:Int) by simp] at this;exact this
 generalize zs.getD (2+k) 0=z at*;have d3:=eO z (g:=3) (by decide) (by decide);have d15:=eO z (g:=15) (by decide) (by decide);have X0:dD (.int (z.fdiv 3)) (.int 10)= .ok (.int ((z.fdiv 3).fmod 10)):=bO _ _ (by decide);have m3:dD (.int z) (.int 3)= .ok (.int (z.fmod 3)):=bO _ _ (by decide);have m5:dD (.int (z.fdiv 3)) (.int 5)= .ok (.int ((z.fdiv 3).fmod 5)):=bO _ _ (by decide);have m9:dD (.int (z.fdiv 15)) (.int 1000000000)= .ok (.int ((z.fdiv 15).fmod 1000000000)):=bO _ _ (by decide);have po:Gb (.int 10) (.int 9)= .ok (.int 1000000000):=by rfl
 obtain ⟨a0,a1⟩:=fm (z.fdiv 3) 10 (by decide);obtain ⟨b0,b1⟩:=fm (z.fdiv 15) 1000000000 (by decide);generalize (z.fdiv 3).fmod 10=va at*;generalize (z.fdiv 15).fmod 1000000000=vb at*;generalize (z.fdiv 3).fmod 5=v5 at*;generalize z.fmod 3=v3 at*;generalize z.fdiv 15=z15 at*;generalize z.fdiv 3=z3 at*;have st:∀v:Int,iB 2 (Ro 2 (fR 2) (aj 5)) (aO dD (aO fP (aj 3) (dC (.int 2))) (aj 1)) (aj 6) [.val (iL zs),.val (.int n),.own (gM G),.val (.int (2+(k:Int))),.val (.int z),.val (.int ((k/ n%n:Nat):Int)),.val (.int v)]= .nx [.val (iL zs),.val (.int n),.own (gM (setG G (k/ n%n) (k%n) v)),.val (.int (2+(k:Int))),.val (.int z),.val (.int ((k/ n%n:Nat):Int)),.val (.int v)]:=λ v=>Nz (v:=v) (Γ:=[.val (iL zs),.val (.int n),.own (gM G),.val (.int (2+(k:Int))),.val (.int z),.val (.int ((k/ n%n:Nat):Int)),.val (.int v)]) (fy:=aj 5) (fx:=aO dD (aO fP (aj 3) (dC (.int 2))) (aj 1)) (f:=aj 6) g.sq ri cj rfl rfl (by simp[sb,m2]) rfl;by_cases c:v3=0/\v5=0
 ·obtain ⟨rfl,rfl⟩:=c;refine ⟨setG G (k/ n%n) (k%n) vb,.val (.int z),.val (.int ((k/ n%n:Nat):Int)),.val (.int vb),?_,g.set ri cj b0 (by omega)⟩;have s:=st vb;generalize gM (setG G (k/ n%n) (k%n) vb)=G2 at*;generalize ((k/ n%n:Nat):Int)=ro at*;generalize ((k/ n:Nat):Int)=kn at*;generalize gM G=G1 at*;generalize iL zs=Z at*;simp[cN,ix,sb,dv,m1,d3,X0,m3,m5,d15,po,m9,s]
 ·refine ⟨setG G (k/ n%n) (k%n) va,.val (.int z),.val (.int ((k/ n%n:Nat):Int)),.val (.int va),?_,g.set ri cj a0 (by omega)⟩;have s:=st va;generalize gM (setG G (k/ n%n) (k%n) va)=G2 at*;generalize ((k/ n%n:Nat):Int)=ro at*;generalize ((k/ n:Nat):Int)=kn at*;generalize gM G=G1 at*;generalize iL zs=Z at*;by_cases c3:v3=0
  ·have c5:¬v5=0:=λ w=>c ⟨c3,w⟩;subst c3;simp[cN,ix,sb,dv,m1,d3,X0,m3,m5,c5,s]
  ·simp[cN,ix,sb,dv,m1,d3,X0,m3,m5,c3,s]
theorem BE{n:Nat}{zs:List Int}(h0:0<n)(hn:n<=7):∀(ks:List Nat) (G:List (List Int)) (s3 s4 s5 s6:Slot),(∀k∈ks,2+k<zs.length)->Gd n G->∃G' t3 t4 t5 t6,cS (aG 3) (cN 0) (ks.map λ k:Nat=>D.int (2+(k:Int))) [.val (iL zs),.val (.int n),.own (gM G),s3,s4,s5,s6]= .nx [.val (iL zs),.val (.int n),.own (gM G'),t3,t4,t5,t6]/\Gd n G'
 |[],G,s3,s4,s5,s6,_,g=>⟨G,s3,s4,s5,s6,rfl,g⟩
 |k::ks,G,s3,s4,s5,s6,h,g=>by obtain ⟨G1,t4,t5,t6,e1,g1⟩:=W0 (s4:=s4) (s5:=s5) (s6:=s6) h0 hn (h k (by simp)) g;obtain ⟨G',u3,u4,u5,u6,e2,g2⟩:=BE h0 hn ks G1 (.val (.int (2+(k:Int)))) t4 t5 t6 (λ j hj=>h j (by simp[hj])) g1;refine ⟨G',u3,u4,u5,u6,?_,g2⟩;rw[List.map_cons,fB (Γ1:=[.val (iL zs),.val (.int n),.own (gM G),.val (.int (2+(k:Int))),s4,s5,s6]) rfl e1];exact e2
def OF(G:List (List Int)):kr (gM G)=true:=by
 have:∀G:List (List Int),yK (G.map λ r=>M.l (r.map D.int))=true:=λ G=>by
  induction G with
  |nil=>rfl
  |cons r G ih=>simp only[List.map_cons,yK,kr,dG,ih];rfl
 simp only[gM,kr,this]
def DQ{n:Nat}{zs:List Int}(hz:zs.length<=63)(hn:n<=7):∃G,eo [.val (iL zs),.val (.int n)]= .new (gM G)/\Gd n G:=by
 have Z3:Gd n (g0 n):=⟨sq0 n,λ i j=>by rw[Z1];omega,λ i j=>by rw[Z1];omega⟩;have ini:=O7 hn (s0:= .val (iL zs)) (s2:= .no) (s3:= .no) (s4:= .no) (s5:= .no) (s6:= .no);have n0:=OF (g0 n);by_cases h0:n=0
 ·subst h0;refine ⟨g0 0,?_,Z3⟩;generalize gM (g0 0)=M0 at*;generalize iL zs=Z at*;simp[eo,iu,cT,ini,n0,jn] at ini ⊢
 ·have ln:c8 [iL zs]= .ok (.int zs.length):=by simp[c8,iL]
  have mn:yS [.int zs.length,.int 63]= .ok (.int zs.length):=by
   have:¬(63:Int)<zs.length:=by omega
   simp[yS,this]
  have rg:uQ [.int 2,.int zs.length]= .ok ((List.range (zs.length- 2)).map λ k:Nat=>D.int (2+(k:Int))):=by
   have:((zs.length:Int) - 2).toNat=zs.length- 2:=by omega
   have h: -(2^62)<=(2:Int)/\(2:Int)<2^62/\ -(2^62)<=(zs.length:Int)/\(zs.length:Int)<2^62:=by omega
   simp only[uQ,h,and_self,if_true,this];rfl
  obtain ⟨G1,t3,t4,t5,t6,lp1,g1⟩:=BE (zs:=zs) (by omega) hn (List.range (zs.length- 2)) (g0 n) .no .no .no .no (λ k hk=>by have:=List.mem_range.mp hk;omega) Z3;refine ⟨G1,?_,g1⟩;have nz:¬((n:Int)=0):=by omega
  generalize gM (g0 n)=M0 at*;generalize gM G1=M1 at*;generalize (List.range (zs.length- 2)).map (λ k:Nat=>D.int (2+(k:Int)))=W1 at*;generalize iL zs=Z at*;simp[eo,iu,cT,ini,n0,h0,ln,mn,rg,lp1,jn]
def yT{a b:Int}(ha:0<=a)(hb:1<=b)(h9:b.natAbs<2^9000):dg [.val (.int a),.val (.int b)]= .ok (rq ((a:Rat)/(b:Rat))):=by
 have e:=rF a b (by omega);have d:r9 b (Int.gcd a b)=(Int.gcd a b:Int):=by unfold r9;rw[if_neg (by omega)]
 have h1:a.fdiv (Int.gcd a b)=r6 a b:=by unfold r6;rw[d]
 have h2:b.fdiv (Int.gcd a b)=xN a b:=by unfold xN;rw[d]
 have u:dg [.val (.int a),.val (.int b)]=if 0<=a/\1<=b/\b.natAbs<2^9000 then dN.ok (.tup [.int (a.fdiv (Int.gcd a b)),.int (b.fdiv (Int.gcd a b))]) else .bad:=rfl
 rw[u,if_pos ⟨ha,hb,h9⟩,h1,h2];show dN.ok (fq (r6 a b,xN a b))=_;rw[e];rfl
def Eo(zs:List Int)(G:List (List Int))(j:Nat):Int:=if 0<j/\0<gv G 0 j/\(zs.getD (j+1) 0).fmod 2=0 then 0 else 1+(zs.getD (j+1) 0).fmod 50
def Cm(zs:List Int)(G:List (List Int))(j:Nat):0<=Eo zs G j/\Eo zs G j<=50/\(1<=Eo zs G j\/(Eo zs G j=0/\0<j/\0<gv G 0 j)):=by
 obtain ⟨a,b⟩:=fm (zs.getD (j+1) 0) 50 (by decide);unfold Eo;split
 ·rename_i h;exact ⟨by omega,by omega,.inr ⟨rfl,h.1,h.2.1⟩⟩
 ·exact ⟨by omega,by omega,.inl (by omega)⟩
def OT{n j:Nat}{zs:List Int}{G:List (List Int)}(g:Gd n G)(hj:j<n):gX [.val (iL zs),.val (rL G),.val (.int j)]= .ok (.int (Eo zs G j)):=by
 have c:=vG zs (j+1);have ad:eU (.int j) (.int 1)= .ok (.int ((j+1:Nat):Int)):=by simp[eU]
 obtain ⟨r,q1,q2,q3⟩:=ints_get g.sq (show 0<n by omega) hj;have i1:bG (rL G) (.int 0)= .ok (iL r):=lF q1;have i2:=jq (e:=r) (p:=j) (by omega);rw[q3] at i2;have m2:dD (.int (zs.getD (j+1) 0)) (.int 2)= .ok (.int ((zs.getD (j+1) 0).fmod 2)):=bO _ _ (by decide);have XZ:dD (.int (zs.getD (j+1) 0)) (.int 50)= .ok (.int ((zs.getD (j+1) 0).fmod 50)):=bO _ _ (by decide);unfold Eo;generalize (zs.getD (j+1) 0).fmod 2=v2 at*;generalize (zs.getD (j+1) 0).fmod 50=Zi at*;generalize zs.getD (j+1) 0=z at*;generalize ((j+1:Nat):Int)=j1 at*;generalize gv G 0 j=w at*;generalize iL r=RR at*;generalize rL G=GG at*;generalize iL zs=Z at*;have YR:eU (.int 1) (.int Zi)= .ok (.int (1+Zi)):=by simp[eU]
 by_cases h1:0<j
 ·by_cases h2:0<w
  ·by_cases h3:v2=0
   ·subst h3;simp[gX,iU,cT,ad,c,Jb,h1,i1,i2,h2,m2]
   ·simp[gX,iU,cT,ad,c,Jb,h1,i1,i2,h2,m2,h3,XZ,YR]
  ·simp[gX,iU,cT,ad,c,Jb,h1,i1,i2,h2,XZ,YR]
 ·simp[gX,iU,cT,ad,c,Jb,h1,XZ,YR]
noncomputable def Bc(c:Int)(k:Nat):Rat:=if (c.fdiv 2+k).fmod 3=0 then 0 else ((((c+k*k)*48271*69621).fmod (10^60):Int):Rat)/((1+(c+k).fmod 97:Int):Rat)
def Be{k:Nat}(hk:k<100)(c:Int):eW [.val (.int c),.val (.int k)]= .ok (rq (Bc c k)):=by
 have d2:=eO c (g:=2) (by decide) (by decide);have a1:eU (.int (c.fdiv 2)) (.int k)= .ok (.int (c.fdiv 2+k)):=by simp[eU]
 have m3:dD (.int (c.fdiv 2+k)) (.int 3)= .ok (.int ((c.fdiv 2+k).fmod 3)):=bO _ _ (by decide);have kk:cX (.int k) (.int k)= .ok (.int ((k:Int)*k)):=El _ _ (by omega);have a2:eU (.int c) (.int ((k:Int)*k))= .ok (.int (c+k*k)):=by simp[eU]
 have mu1:cX (.int (c+k*k)) (.int 48271)= .ok (.int ((c+k*k)*48271)):=yP _ _ (by decide);have mu2:cX (.int ((c+k*k)*48271)) (.int 69621)= .ok (.int ((c+k*k)*48271*69621)):=yP _ _ (by decide);have po:Gb (.int 10) (.int 60)= .ok (.int (10^60)):=by rfl
 have md:dD (.int ((c+k*k)*48271*69621)) (.int (10^60))= .ok (.int (((c+k*k)*48271*69621).fmod (10^60))):=bO _ _ (by decide);have a3:eU (.int c) (.int k)= .ok (.int (c+k)):=by simp[eU]
 have m97:dD (.int (c+k)) (.int 97)= .ok (.int ((c+k).fmod 97)):=bO _ _ (by decide);have a4:eU (.int 1) (.int ((c+k).fmod 97))= .ok (.int (1+(c+k).fmod 97)):=by simp[eU]
 obtain ⟨b0,b1⟩:=fm (c+k) 97 (by decide);obtain ⟨t0,t1⟩:=fm ((c+k*k)*48271*69621) (10^60) (by decide);have lw:=yT t0 (show 1<=1+(c+k).fmod 97 by omega) (Nat.lt_of_le_of_lt (show (1+(c+k).fmod 97).natAbs<=97 by omega) (Nat.lt_of_lt_of_le (show 97<2^7 by decide) (Nat.pow_le_pow_right (by decide) (by decide))));have z:D.tup [.int 0,.int 1]=rq 0:=rfl;unfold Bc;by_cases h:(c.fdiv 2+k).fmod 3=0
 ·rw[if_pos h];rw[h] at m3;rw[<-z];generalize c.fdiv 2+k=q1 at*;generalize c.fdiv 2=q2 at*;simp[eW,gy,cT,d2,a1,m3]
 ·rw[if_neg h];generalize rq ((((c+k*k)*48271*69621).fmod (10^60):Int)/(1+(c+k).fmod 97:Int):Rat)=RQ at*;generalize (1+(c+k).fmod 97)=q8 at*;generalize (c+k).fmod 97=q9 at*;generalize ((c+k*k)*48271*69621).fmod (10^60)=q3 at*;generalize (c+k*k)*48271*69621=q4 at*;generalize (c+k*k)*48271=q5 at*;generalize c+k*k=q6 at*;generalize (k:Int)*k=q7 at*;generalize c+(k:Int)=qa at*;generalize (c.fdiv 2+k).fmod 3=qb at*;generalize c.fdiv 2+k=q1 at*;generalize c.fdiv 2=q2 at*;generalize (10:Int)^60=qc at*;simp[eW,gy,cT,d2,a1,m3,h,kk,a2,mu1,mu2,po,md,a3,m97,a4,lw]
def Qd{a b:Int}(hb:b≠0):((a:Rat)/(b:Rat)).num.natAbs<=a.natAbs:=by have e:=rF a b hb;have:r6 a b=((a:Rat)/(b:Rat)).num:=congrArg Prod.fst e;rw[<-this];exact Px hb
def zC(c:Int)(k:Nat):0<=Bc c k/\(Bc c k).num.natAbs<2^200/\(Bc c k).den<=97/\Bc c k<=((2^200:Nat):Rat):=by
 obtain ⟨b0,b1⟩:=fm (c+k) 97 (by decide);obtain ⟨t0,t1⟩:=fm ((c+k*k)*48271*69621) (10^60) (by decide);have P1:(0:Rat)<=((2^200:Nat):Rat):=by exact_mod_cast Nat.zero_le _
 unfold Bc;by_cases h:(c.fdiv 2+k).fmod 3=0
 ·rw[if_pos h];exact ⟨by grind,by decide,by decide,P1⟩
 ·rw[if_neg h];generalize ((c+k*k)*48271*69621).fmod (10^60)=a at*;obtain ⟨b,hb⟩:∃b,1+(c+k).fmod 97=b:=⟨_,rfl⟩;rw[hb];have hb1:1<=b:=by omega
  have hb2:b<=97:=by omega
  have bp:(0:Rat)<(b:Rat):=by exact_mod_cast (show (0:Int)<b by omega)
  have ip:=Rat.inv_pos.mpr bp;have a0:(0:Rat)<=(a:Rat):=by exact_mod_cast t0
  have nn:0<=(a:Rat)/(b:Rat):=by rw[Rat.div_def];exact Rat.mul_nonneg a0 (Rat.le_of_lt ip)
  have an:a.natAbs<2^200:=by
   have p:(10:Int)^60<2^200:=by decide
   have p':((2^200:Nat):Int)=2^200:=by decide
   omega
  refine ⟨nn,Nat.lt_of_le_of_lt (Qd (by omega)) an,?_,?_⟩
  ·have:jt ((b:Int)*((a:Rat)/(b:Rat))):=⟨a,by grind⟩;have:=Int.natAbs_dvd_natAbs.mpr (m8 this);simp only[Int.natAbs_natCast] at this;have:=Nat.le_of_dvd (by omega) this;omega
  ·have h1:(a:Rat)/(b:Rat)<=a:=by
    have b1:(1:Rat)<=(b:Rat):=by exact_mod_cast hb1
    have:=Rat.mul_le_mul_of_nonneg_left b1 nn;have e:(a:Rat)/(b:Rat)*(b:Rat)=a:=by grind
    rw[e] at this
    grind
   have h2:(a:Rat)<=((2^200:Nat):Rat):=by
    obtain ⟨P,hP⟩:∃P:Nat,2^200=P:=⟨_,rfl⟩;rw[hP] at an ⊢;have:a<=(P:Int):=by omega
    exact_mod_cast this
   exact Rat.le_trans h1 h2
def cs(G:List (List Int))(n j:Nat):Int:=((List.range n).map λ k=>gv G k j).sum
def Sj(zs:List Int)(G:List (List Int))(n j:Nat):Int:=cs G n j+Eo zs G j
def F0{n:Nat}{f:Nat->Int}{M:Int}(h:∀k,0<=f k/\f k<=M):0<=((List.range n).map f).sum/\((List.range n).map f).sum<=n*M:=by
 induction n with
 |zero=>simp
 |succ n ih=>
  rw[List.range_succ,List.map_append,List.sum_append];have:=h n;have e:((n+1:Nat):Int)*M=n*M+M:=by rw[Int.natCast_add,Int.add_mul];simp
  simp only[List.map_cons,List.map_nil,List.sum_cons,List.sum_nil,e];omega
def UZ{n j:Nat}{G:List (List Int)}(g:Gd n G)(hj:j<n):bP (jQ (aG 0) fC (aO bG (aO bG (aj 2) (aj 0)) (aj 1)) [.no,.val (.int j),.val (rL G)]) ((List.range n).map nI)= .ok (((List.range n).map λ k=>gv G k j).map D.int):=by
 have:=ou (el:=jQ (aG 0) fC (aO bG (aO bG (aj 2) (aj 0)) (aj 1)) [.no,.val (.int j),.val (rL G)]) (λ k=>D.int (gv G k j)) (l:=List.range n) λ k hk=>by obtain ⟨r,h1,h2,h3⟩:=ints_get g.sq (List.mem_range.mp hk) hj;have i1:bG (rL G) (.int k)= .ok (iL r):=lF h1;have i2:=jq (e:=r) (p:=j) (by omega);rw[h3] at i2;generalize rL G=GG at*;generalize iL r=RR at*;generalize gv G k j=z at*;unfold nI;simp[jQ,i1,i2]
 rw[this,List.map_map];rfl
def zf{n i j:Nat}{G:List (List Int)}(g:Gd n G)(hi:i<n):gv G i j<=cs G n j:=by
 unfold cs;have:∀m,i<m->gv G i j<=((List.range m).map λ k=>gv G k j).sum:=λ m=>by
  induction m with
  |zero=>intro h;omega
  |succ m ih=>
   intro h;rw[List.range_succ,List.map_append,List.sum_append];simp only[List.map_cons,List.map_nil,List.sum_cons,List.sum_nil];have h1:=g.lo m j;have h2:=(F0 (n:=m) (f:=λ k=>gv G k j) (M:=999999999) λ k=>⟨g.lo k j,g.hi k j⟩).1;by_cases q:i=m
   ·subst q;omega
   ·have:=ih (by omega);omega
 exact this n hi
def Pr{n i j:Nat}{G:List (List Int)}(g:Gd n G)(hi:n<=i):gv G i j=0:=by
 unfold gv;have:G.getD i []=[]:=by rw[List.getD_eq_getElem?_getD,List.getElem?_eq_none (by rw[g.sq.len];exact hi)];rfl
 rw[this];simp
def kF{n:Nat}{zs:List Int}{G:List (List Int)}(hn:n<=7)(g:Gd n G)(j:Nat):0<=cs G n j/\cs G n j<=6999999993/\1<=Sj zs G n j/\Sj zs G n j<=8589934592:=by
 have h:=F0 (n:=n) (f:=λ k=>gv G k j) (M:=999999999) λ k=>⟨g.lo k j,g.hi k j⟩;have:(n:Int)*999999999<=6999999993:=by omega
 obtain ⟨l1,l2,l3⟩:=Cm zs G j;have c0:0<=cs G n j:=h.1;have c1:cs G n j<=6999999993:=by unfold cs;omega
 unfold Sj;refine ⟨c0,c1,?_,by omega⟩;rcases l3 with q|⟨q1,q2,q3⟩
 ·omega
 ·by_cases z:0<n
  ·have:=zf (j:=j) g z;omega
  ·have:=Pr (i:=0) (j:=j) g (by omega);omega
def tm(zs:List Int)(G:List (List Int))(n i j:Nat):Nat×Rat:=(j,(gv G i j:Rat)/(Sj zs G n j:Rat))
def Xv{n i j:Nat}{zs:List Int}{G:List (List Int)}{T:List (Nat×Rat)}{s3 s7:Slot}(hn:n<=7)(g:Gd n G)(hi:i<n)(hj:j<n)(hT:T.length<1000):
  ∃t7,gD 0 [.val (iL zs),.val (.int n),.val (rL G),s3,.val (.int i),.own (.l (T.map tD)),.val (.int j),s7]=.nx [.val (iL zs),.val (.int n),.val (rL G),s3,.val (.int i),.own (.l ((T++if 0<gv G i j then [tm zs G n i j] else []).map tD)),.val (.int j),t7]:=by
 have rg:=gK n (by omega);rw[iS] at rg;have rl:((List.range n).map nI).length<1000000:=by simp;omega
 have cm:=UZ g hj;have sm:DX [.lst (((List.range n).map λ k=>gv G k j).map D.int)]= .ok (.int (cs G n j)):=by
  have a1:(((List.range n).map λ k=>gv G k j).all λ z=>decide (0<=z/\z<=1000000000000))=true:=by rw[List.all_eq_true];intro z hz;obtain ⟨k,_,rfl⟩:=List.mem_map.mp hz;have h1:=g.lo k j;have h2:=g.hi k j;simp only[decide_eq_true_eq];omega
  have a2:((List.range n).map λ k=>gv G k j).length<=100000:=by simp;omega
  have:(qe (.lst (((List.range n).map λ k=>gv G k j).map D.int))).bind gT=some ((List.range n).map λ k=>gv G k j):=by simp only[qe,Option.bind_some,lG]
  simp only[DX,this,a1,Bool.true_and,a2,decide_true,if_true];rfl
 have lf:=OT (zs:=zs) g hj;obtain ⟨r,q1,q2,q3⟩:=ints_get g.sq hi hj;have i1:bG (rL G) (.int i)= .ok (iL r):=lF q1;have i2:=jq (e:=r) (p:=j) (by omega);rw[q3] at i2;obtain ⟨b1,b2,b3,b4⟩:=kF (zs:=zs) hn g j;have lo:=g.lo i j;have Z8:eU (.int (cs G n j)) (.int (Eo zs G j))= .ok (.int (Sj zs G n j)):=by simp[eU,Sj]
 have T':(T.map tD).length<1000000:=by simp;omega
 have lw:=yT (a:=gv G i j) (b:=Sj zs G n j) lo b3 (Nat.lt_of_le_of_lt (show (Sj zs G n j).natAbs<=8589934592 by omega) (Nat.lt_of_lt_of_le (show 8589934592<2^34 by decide) (Nat.pow_le_pow_right (by decide) (by decide))));refine ⟨.val (.int (Sj zs G n j)),?_⟩;have Zl:tD (tm zs G n i j)= .tup [.int j,rq ((gv G i j:Rat)/(Sj zs G n j:Rat))]:=rfl;have app:(T++if 0<gv G i j then [tm zs G n i j] else []).map tD=T.map tD++if 0<gv G i j then [.tup [.int j,rq ((gv G i j:Rat)/(Sj zs G n j:Rat))]] else []:=by
  rw[List.map_append];by_cases p:0<gv G i j
  ·rw[if_pos p,if_pos p,List.map_cons,List.map_nil,Zl]
  ·rw[if_neg p,if_neg p,List.map_nil]
 rw[app];have I0:nt (D.tup [.int j,rq ((gv G i j:Rat)/(Sj zs G n j:Rat))])=true:=rfl;clear Zl app q1 q2 q3 g hT;generalize rq ((gv G i j:Rat)/(Sj zs G n j:Rat))=Q at*;generalize ((List.range n).map λ k=>gv G k j).map D.int=C at*;generalize (List.range n).map nI=N at*;generalize Sj zs G n j=S at*;generalize Eo zs G j=lfv at*;generalize cs G n j=c at*;generalize gv G i j=w at*;generalize T.map tD=TT at*;generalize rL G=GG at*;generalize iL r=RR at*;generalize iL zs=Z at*;by_cases p:0<w
 ·simp[gD,rg,rl,iK,lN,cm,sm,lf,Z8,i1,i2,Jb,p,lw,I0,rR,oQ,T',fR,jL,vm,gi,eG,sZ,An]
 ·simp[gD,rg,rl,iK,lN,cm,sm,lf,Z8,i1,i2,Jb,p]
def rZ(zs:List Int)(G:List (List Int))(n i:Nat):List Nat->List (Nat×Rat)
 |[]=>[]
 |j::js=>(if 0<gv G i j then [tm zs G n i j] else [])++rZ zs G n i js
theorem B4{n i:Nat}{zs:List Int}{G:List (List Int)}{s3:Slot}(hn:n<=7)(g:Gd n G)(hi:i<n):∀(js:List Nat) (T:List (Nat×Rat)) (s6 s7:Slot),(∀j∈js,j<n)->T.length+js.length<1000->∃t6 t7,cS (aG 6) (gD 0) (js.map nI) [.val (iL zs),.val (.int n),.val (rL G),s3,.val (.int i),.own (.l (T.map tD)),s6,s7]=.nx [.val (iL zs),.val (.int n),.val (rL G),s3,.val (.int i),.own (.l ((T++rZ zs G n i js).map tD)),t6,t7]
 |[],T,s6,s7,_,_=>⟨s6,s7,by simp[rZ]⟩
 |j::js,T,s6,s7,h,hl=>by simp only[List.length_cons] at hl;obtain ⟨t7,e1⟩:=Xv (zs:=zs) (T:=T) (s3:=s3) (s7:=s7) hn g hi (h j (by simp)) (by omega);obtain ⟨u6,u7,e2⟩:=B4 (zs:=zs) (s3:=s3) hn g hi js (T++if 0<gv G i j then [tm zs G n i j] else []) (.val (.int j)) t7 (λ k hk=>h k (by simp[hk])) (by rw[List.length_append];split<;>simp<;>omega);refine ⟨u6,u7,?_⟩;rw[List.map_cons,fB (Γ1:=[.val (iL zs),.val (.int n),.val (rL G),s3,.val (.int i),.own (.l (T.map tD)),.val (.int j),s7]) rfl e1,e2,rZ,List.append_assoc]
def Tr(zs:List Int)(G:List (List Int))(n i:Nat):List (Nat×Rat):=if (zs.getD 1 0).fmod 2=1 then (rZ zs G n i (List.range n)).reverse else rZ zs G n i (List.range n)
def eX(zs:List Int)(G:List (List Int))(n i:Nat):Row:=(Bc (zs.getD (i+2) 0) i,Tr zs G n i)
theorem qQ:∀T:List (Nat×Rat),eu (T.map tD)=true
 |[]=>rfl
 |t::T=>by simp only[List.map_cons,eu,qQ T];rfl
def Kq{a b:List D}:eu (a++b)=(eu a&&eu b):=by
 induction a with
 |nil=>simp[eu]
 |cons x a ih=>simp[eu,ih,Bool.and_assoc]
theorem Cg:∀a:List D,eu a.reverse=eu a
 |[]=>rfl
 |x::a=>by simp[Kq,eu,Cg a,Bool.and_comm]
def Xu{n i:Nat}{zs:List Int}{G:List (List Int)}{R:List Row}{s5 s6 s7:Slot}(hn:n<=7)(g:Gd n G)(hi:i<n)(hR:R.length<1000):
  ∃t5 t6 t7,gC 0 [.val (iL zs),.val (.int n),.val (rL G),.own (.l (R.map rD)),.val (.int i),s5,s6,s7]=.nx [.val (iL zs),.val (.int n),.val (rL G),.own (.l ((R++[eX zs G n i]).map rD)),.val (.int i),t5,t6,t7]:=by
 have rg:=gK n (by omega);rw[iS] at rg;obtain ⟨t6,t7,lp⟩:=B4 (zs:=zs) (s3:= .own (.l (R.map rD))) hn g hi (List.range n) [] s6 s7 (λ j hj=>List.mem_range.mp hj) (by simp;omega);have c1:bJ [.val (iL zs),.val (.int 1)]= .ok (.int (zs.getD 1 0)):=vG zs 1;have c2:=vG zs (i+2);have ad:eU (.int i) (.int 2)= .ok (.int ((i+2:Nat):Int)):=by simp[eU]
 have XU:dD (.int (zs.getD 1 0)) (.int 2)= .ok (.int ((zs.getD 1 0).fmod 2)):=bO _ _ (by decide);have cn:=Be (k:=i) (by omega) (zs.getD (i+2) 0);have R':(R.map rD).length<1000000:=by simp;omega
 have VO:rD (eX zs G n i)= .tup [rq (Bc (zs.getD (i+2) 0) i),.lst ((Tr zs G n i).map tD)]:=rfl;have app:(R++[eX zs G n i]).map rD=R.map rD++[.tup [rq (Bc (zs.getD (i+2) 0) i),.lst ((Tr zs G n i).map tD)]]:=by rw[List.map_append,List.map_cons,List.map_nil,VO]
 have I0:nt (D.tup [rq (Bc (zs.getD (i+2) 0) i),.lst ((Tr zs G n i).map tD)])=true:=by have:nt (rq (Bc (zs.getD (i+2) 0) i))=true:=rfl;simp only[nt,eu,qQ,this];rfl
 refine ⟨.val (.lst ((Tr zs G n i).map tD)),t6,t7,?_⟩;rw[app];simp only[List.nil_append,List.map_nil] at lp;have n1:=qQ (rZ zs G n i (List.range n));have n2:=Cg ((rZ zs G n i (List.range n)).map tD);unfold Tr at I0 ⊢;clear app VO hR g;have nr:nt (rq (Bc (zs.getD (i+2) 0) i))=true:=rfl;have nz:=Ml zs;generalize rq (Bc (zs.getD (i+2) 0) i)=RC at*;generalize zs.getD (i+2) 0=q3 at*;by_cases o:(zs.getD 1 0).fmod 2=1
 ·rw[if_pos o] at I0 ⊢;rw[o] at XU;rw[List.map_reverse] at I0 ⊢;rw[n1] at n2;generalize (rZ zs G n i (List.range n)).map tD=TT at*;generalize (List.range n).map nI=N at*;generalize zs.getD 1 0=q5 at*;generalize ((i+2:Nat):Int)=q7 at*;generalize R.map rD=RR at*;generalize rL G=GG at*;generalize iL zs=Z at*;have ld:lend (.l TT)= .bor true TT:=rfl;simp[gC,rg,lp,c1,c2,ad,XU,cn,nz,L3,I0,n2,ld,rR,oQ,R',fR,jL,vm,gi,eG,sZ,An]
 ·rw[if_neg o] at I0 ⊢;generalize (rZ zs G n i (List.range n)).map tD=TT at*;generalize (List.range n).map nI=N at*;generalize (zs.getD 1 0).fmod 2=q4 at*;generalize zs.getD 1 0=q5 at*;generalize ((i+2:Nat):Int)=q7 at*;generalize R.map rD=RR at*;generalize rL G=GG at*;generalize iL zs=Z at*;simp[gC,rg,lp,c1,c2,ad,XU,o,cn,nz,L3,I0,rR,oQ,R',fR,jL,vm,gi,eG,sZ,An]
theorem B3{n:Nat}{zs:List Int}{G:List (List Int)}(hn:n<=7)(g:Gd n G):∀(is:List Nat) (R:List Row) (s4 s5 s6 s7:Slot),(∀i∈is,i<n)->R.length+is.length<1000->∃t4 t5 t6 t7,cS (aG 4) (gC 0) (is.map nI) [.val (iL zs),.val (.int n),.val (rL G),.own (.l (R.map rD)),s4,s5,s6,s7]=.nx [.val (iL zs),.val (.int n),.val (rL G),.own (.l ((R++is.map (eX zs G n)).map rD)),t4,t5,t6,t7]
 |[],R,s4,s5,s6,s7,_,_=>⟨s4,s5,s6,s7,by simp⟩
 |i::is,R,s4,s5,s6,s7,h,hl=>by simp only[List.length_cons] at hl;obtain ⟨t5,t6,t7,e1⟩:=Xu (zs:=zs) (R:=R) (s5:=s5) (s6:=s6) (s7:=s7) hn g (h i (by simp)) (by omega);obtain ⟨u4,u5,u6,u7,e2⟩:=B3 (zs:=zs) hn g is (R++[eX zs G n i]) (.val (.int i)) t5 t6 t7 (λ k hk=>h k (by simp[hk])) (by simp;omega);refine ⟨u4,u5,u6,u7,?_⟩;rw[List.map_cons,fB (Γ1:=[.val (iL zs),.val (.int n),.val (rL G),.own (.l (R.map rD)),.val (.int i),s5,s6,s7]) rfl e1,e2];simp
def NH{n:Nat}{zs:List Int}{G:List (List Int)}(hn:n<=7)(g:Gd n G)(hG:eo [.val (iL zs),.val (.int n)]= .new (gM G)):
  nG [.val (iL zs),.val (.int n)]= .new (.l (((List.range n).map (eX zs G n)).map rD)):=by
 have rg:=gK n (by omega);rw[iS] at rg;have fg:vq (gM G)= .ok (rL G):=by
  have f1:∀G:List (List Int),m6 (G.map λ r=>M.l (r.map D.int))=G.map iL:=λ G=>by
   induction G with
   |nil=>rfl
   |cons r G ih=>simp only[List.map_cons,m6,zm,ih];rfl
  have f2:∀G:List (List Int),mZ (G.map λ r=>M.l (r.map D.int))=true:=λ G=>by
   induction G with
   |nil=>rfl
   |cons r G ih=>simp only[List.map_cons,mZ,rE,ih];rfl
  simp only[vq,gM,rE,f2,if_true,zm,f1,rL]
 obtain ⟨t4,t5,t6,t7,lp⟩:=B3 (zs:=zs) hn g (List.range n) [] .no .no .no .no (λ j hj=>List.mem_range.mp hj) (by simp;omega);simp only[List.nil_append,List.map_nil] at lp;generalize ((List.range n).map (eX zs G n)).map rD=OUT at*;generalize (List.range n).map nI=N at*;generalize gM G=M1 at*;generalize rL G=GG at*;generalize iL zs=Z at*;simp[nG,rP,cT,hG,fg,rg,lp,jn]
def kT(zs:List Int)(G:List (List Int))(n i j:Nat):Rat:=(gv G i j:Rat)/(Sj zs G n j:Rat)
theorem uF{n:Nat}{zs:List Int}{G:List (List Int)}(i:Nat):∀js:List Nat,(rZ zs G n i js).map (·.1)=js.filter λ j=>decide (0<gv G i j)
 |[]=>rfl
 |k::js=>by rw[rZ,List.map_append,uF i js,List.filter_cons];by_cases p:0<gv G i k<;>simp[p,tm]
theorem BN{n:Nat}{zs:List Int}{G:List (List Int)}{i:Nat}{t:Nat×Rat}:∀{js:List Nat},t∈rZ zs G n i js->∃j∈js,0<gv G i j/\t=(j,kT zs G n i j)
 |k::js,h=>by
  rw[rZ] at h;rcases List.mem_append.mp h with q|q
  ·by_cases p:0<gv G i k
   ·rw[if_pos p] at q;simp only[List.mem_singleton] at q;exact ⟨k,by simp,p,q⟩
   ·rw[if_neg p] at q;simp at q
  ·obtain ⟨j,h1,h2⟩:=BN q;exact ⟨j,by simp[h1],h2⟩
theorem xZ{n:Nat}{zs:List Int}{G:List (List Int)}(g:Gd n G)(i j:Nat):∀js:List Nat,((rZ zs G n i js).lookup j).getD 0=if j∈js then kT zs G n i j else 0
 |[]=>by simp[rZ]
 |k::js=>by
  have ih:=xZ (zs:=zs) g i j js;rw[rZ];by_cases p:0<gv G i k
  ·rw[if_pos p];by_cases e:j=k
   ·subst e;simp[tm,List.lookup,kT]
   ·have e':(j==k)=false:=by simpa using e
    simp only[List.cons_append,List.nil_append,tm,List.lookup_cons,e',ih,List.mem_cons,e,false_or]
  ·rw[if_neg p,List.nil_append,ih];by_cases e:j=k
   ·subst e;have z:gv G i j=0:=by have:=g.lo i j;omega
    have:kT zs G n i j=0:=by unfold kT;rw[z];simp;grind
    rw[this];simp
   ·simp[e]
theorem qU:∀{l:List (Nat×Rat)} {j:Nat} {s:Rat},(l.map (·.1)).Nodup->(j,s)∈l->l.lookup j=some s
 |(i,t)::l,j,s,nd,h=>by
  rw[List.map_cons,List.nodup_cons] at nd;rcases List.mem_cons.mp h with e|h
  ·cases e;simp[List.lookup]
  ·have ne:j≠i:=λ z=>nd.1 (List.mem_map.mpr ⟨(j,s),h,z⟩);have e':(j==i)=false:=by simpa using ne
   rw[List.lookup_cons,e'];exact qU nd.2 h
def Em{l l':List (Nat×Rat)}(h:l.Perm l')(nd:(l.map (·.1)).Nodup)(j:Nat):l.lookup j=l'.lookup j:=by
 have XO:(l'.map (·.1)).Nodup:=(h.map (·.1)).nodup nd;cases e:l.lookup j with
 |some s=>exact (qU XO (h.mem_iff.mp (lookup_mem e))).symm
 |none=>
  cases e':l'.lookup j with
  |none=>rfl
  |some s=>have:=qU nd (h.mem_iff.mpr (lookup_mem e'));rw[e] at this;cases this
def mE(zs:List Int)(G:List (List Int))(n i:Nat):(rZ zs G n i (List.range n)).Perm (Tr zs G n i):=by
 unfold Tr;split
 ·exact (List.reverse_perm _).symm
 ·exact .refl _
def FT(zs:List Int)(G:List (List Int))(n i:Nat):((rZ zs G n i (List.range n)).map (·.1)).Nodup:=by rw[uF];exact List.nodup_range.filter _
def Sh(zs:List Int)(G:List (List Int))(n i:Nat):((Tr zs G n i).map (·.1)).Nodup:=((mE zs G n i).map (·.1)).nodup (FT zs G n i)
def uD{n i:Nat}{zs:List Int}{G:List (List Int)}{t:Nat×Rat}(h:t∈Tr zs G n i):∃j,j<n/\0<gv G i j/\t=(j,kT zs G n i j):=by obtain ⟨j,h1,h2⟩:=BN ((mE zs G n i).mem_iff.mpr h);exact ⟨j,List.mem_range.mp h1,h2⟩
def BI{n:Nat}{zs:List Int}{G:List (List Int)}(g:Gd n G)(i:Nat){j:Nat}(hj:j<n):((Tr zs G n i).lookup j).getD 0=kT zs G n i j:=by rw[<-Em (mE zs G n i) (FT zs G n i),xZ g,if_pos (List.mem_range.mpr hj)]
theorem zI(S:Rat)(f:Nat->Int):∀n:Nat,sJ (List.range n) (λ i=>(f i:Rat)/ S)=(((List.range n).map f).sum:Int)/ S
 |0=>by simp[sJ];grind
 |n+1=>by
  rw[List.range_succ,gA,zI S f n,List.map_append,List.sum_append];simp only[sJ,List.map_cons,List.map_nil,List.sum_cons,List.sum_nil,Rat.intCast_add,Int.add_zero]
  grind
def CV{n j:Nat}{zs:List Int}{G:List (List Int)}:sJ (List.range n) (λ i=>kT zs G n i j)=(cs G n j:Rat)/(Sj zs G n j:Rat):=zI _ _ n
def MD{n j:Nat}{zs:List Int}{G:List (List Int)}:cs G n j<=Sj zs G n j:=by have:=(Cm zs G j).1;unfold Sj;omega
def vP{n i j:Nat}{zs:List Int}{G:List (List Int)}(hn:n<=7)(g:Gd n G)(hi:i<n):Jg (kT zs G n i j):=by
 obtain ⟨b1,_,sp,b4⟩:=kF (zs:=zs) hn g j;have le:gv G i j<=Sj zs G n j:=Int.le_trans (zf (j:=j) g hi) MD;have lo:=g.lo i j;unfold kT;generalize gv G i j=w at*;generalize Sj zs G n j=S at*;have s0:(0:Rat)<(S:Rat):=by exact_mod_cast (show (0:Int)<S by omega)
 have w0:(0:Rat)<=(w:Rat):=by exact_mod_cast lo
 have ws:(w:Rat)<=(S:Rat):=by exact_mod_cast le
 refine ⟨?_,?_,?_⟩
 ·rw[Rat.div_def];exact Rat.mul_nonneg w0 (Rat.le_of_lt (Rat.inv_pos.mpr s0))
 ·rw[Rat.div_def];have:=Rat.mul_le_mul_of_nonneg_right ws (Rat.le_of_lt (Rat.inv_pos.mpr s0));rw[Rat.mul_inv_cancel _ (by grind)] at this;exact this
 ·have:jt ((S:Int)*((w:Rat)/(S:Rat))):=⟨w,by grind⟩;have d:=m8 this;have:=Int.natAbs_dvd_natAbs.mpr d;simp only[Int.natAbs_natCast] at this;have:=Nat.le_of_dvd (by omega) this;omega
def Ls{n i j:Nat}{zs:List Int}{G:List (List Int)}(hn:n<=7)(g:Gd n G):jt (Sj zs G n j*kT zs G n i j):=by
 obtain ⟨_,_,sp,_⟩:=kF (zs:=zs) hn g j;have:(Sj zs G n j:Rat)≠0:=by exact_mod_cast (show Sj zs G n j≠0 by omega)
 exact ⟨gv G i j,by unfold kT;grind⟩
def ct(zs:List Int)(i:Nat):Rat:=Bc (zs.getD (i+2) 0) i
def Qn(zs:List Int):Nat->Nat
 |0=>1
 |n+1=>Qn zs n*(ct zs n).den
theorem Bu(zs:List Int):∀n,0<Qn zs n
 |0=>Nat.one_pos
 |n+1=>Nat.mul_pos (Bu zs n) (ct zs n).den_pos
theorem MY(zs:List Int):∀n,Qn zs n<=97^n
 |0=>Nat.le_refl 1
 |n+1=>by rw[Nat.pow_succ];exact Nat.mul_le_mul (MY zs n) (zC _ _).2.2.1
theorem xE(zs:List Int):∀n i,i<n->(ct zs i).den∣Qn zs n
 |n+1,i,h=>by
  by_cases e:i=n
  ·subst e;exact Nat.dvd_mul_left ..
  ·exact Nat.dvd_trans (xE zs n i (by omega)) (Nat.dvd_mul_right ..)
def lH{Q:Nat}{x:Rat}(h:x.den∣Q):jt ((Q:Int)*x):=by obtain ⟨k,rfl⟩:=h;refine ⟨k*x.num,?_⟩;rw[Rat.intCast_mul, <-fK x];simp only[Rat.intCast_natCast,Rat.natCast_mul];grind
def P7{n:Nat}{zs:List Int}{G:List (List Int)}(hn:n<=7)(g:Gd n G):Bv n (Sj zs G n) (Qn zs n):=⟨λ j=>(kF hn g j).2.2.1,λ j=>(kF hn g j).2.2.2,Bu zs n,Nat.le_trans (MY zs n) (Nat.le_trans (Nat.pow_le_pow_right (by decide) hn) (by decide))⟩
def Am{n i:Nat}{zs:List Int}{G:List (List Int)}(hn:n<=7)(g:Gd n G)(hi:i<n):zO n (Sj zs G n) (Qn zs n) (eX zs G n i):=by
 obtain ⟨_,c2,c3,_⟩:=zC (zs.getD (i+2) 0) i;refine ⟨Sh zs G n i,λ t ht=>?_,λ t ht=>?_,c2,c3,lH (xE zs n i hi)⟩
 ·obtain ⟨j,h1,_,rfl⟩:=uD ht;exact ⟨h1,vP hn g hi⟩
 ·obtain ⟨j,h1,_,rfl⟩:=uD ht;exact Ls hn g
def BZ{n i:Nat}{zs:List Int}{G:List (List Int)}{X:Nat->Rat}(g:Gd n G):sJ (List.range n) (λ j=>((eX zs G n i).2.lookup j).getD 0*X j)=sJ (List.range n) λ j=>kT zs G n i j*X j:=bF λ j hj=>by show ((Tr zs G n i).lookup j).getD 0*X j=_;rw[BI g i (List.mem_range.mp hj)]
def BY{n:Nat}{f:Nat->Row}{i:Nat}{r:Row}(h:((List.range n).map f)[i]? =some r):i<n/\r=f i:=by
 rw[List.getElem?_map] at h;have hi:i<n:=by refine Classical.byContradiction λ q=>?_;rw[List.getElem?_eq_none (by simp;omega)] at h;cases h
 rw[List.getElem?_eq_getElem (by simpa using hi)] at h;simp at h;exact ⟨hi,h.symm⟩
theorem pQ{g:Nat->Rat}:∀{J:List Nat} {j:Nat},(∀i∈J,0<=g i)->j∈J->g j<=sJ J g
 |i::J,j,h,hj=>by
  have h1:=h i (by simp);have h2:=tH (J:=J) λ k hk=>h k (by simp[hk]);simp only[sJ];rcases List.mem_cons.mp hj with rfl|hj
  ·grind
  ·have:=pQ (J:=J) (λ k hk=>h k (by simp[hk])) hj
   grind
structure xM(n:Nat)(A:Nat->Nat->Rat)(K:Rat):Prop where
 k1:1<=K
 a0:∀i<n,∀j<n,0<=A i j
 c1:∀j<n,sJ (List.range n) (λ i=>A i j)<=1
 c2:∀j<n,1<=K*(1- sJ (List.range n) λ i=>A i j)\/1<=K*A 0 j
 c0:0<n->1<=K*(1- sJ (List.range n) λ i=>A i 0)
def DY{n:Nat}{A:Nat->Nat->Rat}{Y b:Nat->Rat}:sJ (List.range n) (λ j=>(1- sJ (List.range n) λ i=>A i j)*Y j)+sJ (List.range n) (λ i=>sJ (List.range n) (λ j=>A i j*Y j)+b i- Y i)=sJ (List.range n) b:=by
 have e1:sJ (List.range n) (λ i=>sJ (List.range n) λ j=>A i j*Y j)=sJ (List.range n) (λ j=>sJ (List.range n) λ i=>A i j*Y j):=BV _ _ _;have z:sJ (List.range n) (λ j=>(1- sJ (List.range n) λ i=>A i j)*Y j)=1*sJ (List.range n) Y- 1*sJ (List.range n) (λ j=>sJ (List.range n) λ i=>A i j*Y j):=by
  rw[<-k6];refine bF λ j _=>?_;have:sJ (List.range n) (λ i=>A i j*Y j)=Y j*sJ (List.range n) (λ i=>A i j):=by rw[<-qA];exact bF λ i _=>by grind
  rw[this];grind
 have w:sJ (List.range n) (λ i=>sJ (List.range n) (λ j=>A i j*Y j)+b i- Y i)=1*sJ (List.range n) (λ i=>sJ (List.range n) (λ j=>A i j*Y j)+b i) - 1*sJ (List.range n) Y:=by rw[<-k6];exact bF λ i _=>by grind
 rw[Ak] at w;rw[z,w,e1];grind
def Ui{K c Y B:Rat}(k0:0<=K)(y0:0<=Y)(h:1<=K*c)(hb:c*Y<=B):Y<=K*B:=by
 have h1:=Rat.mul_le_mul_of_nonneg_right h y0;have h2:=Rat.mul_le_mul_of_nonneg_left hb k0
 grind
def xM.dom{n:Nat}{A:Nat->Nat->Rat}{K:Rat}{Y b:Nat->Rat}(F:xM n A K)(y0:∀i<n,0<=Y i)(b0:∀i<n,0<=b i)(hY:∀i<n,Y i<=sJ (List.range n) (λ j=>A i j*Y j)+b i):∀j<n,Y j<=K*(K+1)*sJ (List.range n) b:=by
 have sp:=DY (n:=n) (A:=A) (Y:=Y) (b:=b);have n1:∀j∈List.range n,0<=(1- sJ (List.range n) λ i=>A i j)*Y j:=λ j hj=>Rat.mul_nonneg (by have:=F.c1 j (List.mem_range.mp hj);grind) (y0 j (List.mem_range.mp hj));have n2:∀i∈List.range n,0<=sJ (List.range n) (λ j=>A i j*Y j)+b i- Y i:=λ i hi=>by have:=hY i (List.mem_range.mp hi);grind
 have s1:=tH n1;have s2:=tH n2;have B0:0<=sJ (List.range n) b:=tH λ i hi=>b0 i (List.mem_range.mp hi);have k1:=F.k1;have k0:(0:Rat)<=K:=by grind
 have Mz:∀j<n,1<=K*(1- sJ (List.range n) λ i=>A i j)->Y j<=K*sJ (List.range n) b:=λ j hj h=>by have t:=pQ n1 (List.mem_range.mpr hj);exact Ui k0 (y0 j hj) h (by grind)
 have kk:K*sJ (List.range n) b<=K*(K+1)*sJ (List.range n) b:=by
  have h1:=Rat.mul_nonneg (Rat.mul_nonneg k0 k0) B0
  grind
 intro j hj;rcases F.c2 j hj with h|h
 ·exact Rat.le_trans (Mz j hj h) kk
 ·have n0:0<n:=by omega
  have y:=Mz 0 n0 (F.c0 n0);have t:=pQ n2 (List.mem_range.mpr n0);have t2:=pQ (g:=λ k=>A 0 k*Y k) (J:=List.range n) (j:=j) (λ k hk=>Rat.mul_nonneg (F.a0 0 n0 k (List.mem_range.mp hk)) (y0 k (List.mem_range.mp hk))) (List.mem_range.mpr hj);have bb:=b0 0 n0;have:=Ui (c:=A 0 j) (Y:=Y j) (B:=(K+1)*sJ (List.range n) b) k0 (y0 j hj) h (by grind)
  grind
def xM.only{n:Nat}{A:Nat->Nat->Rat}{K:Rat}{X:Nat->Rat}(F:xM n A K)(hX:∀i<n,X i=sJ (List.range n) λ j=>A i j*X j):∀j<n,X j=0:=by
 have d:=F.dom (Y:=λ j=>ab (X j)) (b:=λ _=>0) (λ i _=>U9 _) (λ i _=>by grind) λ i hi=>by
  have:=IB (A i) X (J:=List.range n) λ j hj=>F.a0 i hi j (List.mem_range.mp hj);rw[<-hX i hi] at this
  grind
 rw[dU (J:=List.range n) (g:=λ _=>(0:Rat)) λ _ _=>rfl] at d;exact λ j hj=>Lx (by have:=d j hj;grind)
theorem xM.nn{n:Nat}{A:Nat->Nat->Rat}{K:Rat}{b X:Nat->Rat}(F:xM n A K)(b0:∀i<n,0<=b i)(hX:∀i<n,X i=sJ (List.range n) (λ j=>A i j*X j)+b i):∀j<n,0<=X j:=by
 have d:=F.dom (Y:=λ j=>if X j<0 then -X j else 0) (b:=λ _=>0) (λ i _=>by split<;>grind) (λ i _=>by grind) λ i hi=>by
  have nn:0<=sJ (List.range n) λ j=>A i j*(if X j<0 then -X j else 0):=tH λ j hj=>Rat.mul_nonneg (F.a0 i hi j (List.mem_range.mp hj)) (by split<;>grind);have le:sJ (List.range n) (λ j=>(-1)*(A i j*X j))<=sJ (List.range n) λ j=>A i j*(if X j<0 then -X j else 0):=L1 λ j hj=>by
   have a:=F.a0 i hi j (List.mem_range.mp hj);split
   ·grind
   ·rename_i q;have:=Rat.mul_nonneg a (show 0<=X j by grind)
    grind
  rw[qA] at le;have x:=hX i hi;have bi:=b0 i hi;split<;>grind
 rw[dU (J:=List.range n) (g:=λ _=>(0:Rat)) λ _ _=>rfl] at d;intro j hj;have:=d j hj;split at this<;>grind
def xM.le{n:Nat}{A:Nat->Nat->Rat}{K:Rat}{b X:Nat->Rat}(F:xM n A K)(b0:∀i<n,0<=b i)(hX:∀i<n,X i=sJ (List.range n) (λ j=>A i j*X j)+b i):∀j<n,X j<=K*(K+1)*sJ (List.range n) b:=F.dom (F.nn b0 hX) b0 λ i hi=>by rw[<-hX i hi];grind
def A6{n:Nat}{A:Nat->Nat->Rat}{b:Nat->Rat}(h0:∀X:Nat->Rat,(∀i<n,X i=sJ (List.range n) λ j=>A i j*X j)->∀j<n,X j=0):∃X:Nat->Rat,∀i<n,X i=sJ (List.range n) (λ j=>A i j*X j)+b i:=by
 obtain ⟨Y,⟨j,hj,y0⟩,_,hY⟩:=fL ((List.range n).map λ i j=>if j=n then b i else (if j=i then 1 else 0) - A i j) (List.range (n+1)) List.nodup_range (by simp);have key:∀i<n,Y i- sJ (List.range n) (λ j=>A i j*Y j)+b i*Y n=0:=λ i hi=>by
  have:=hY _ (List.mem_map.mpr ⟨i,List.mem_range.mpr hi,rfl⟩);unfold dt at this;rw[List.range_succ,gA] at this;simp only[sJ,if_true] at this;rw[bF (h:=λ j=>1*((if j=i then (1:Rat) else 0)*Y j) - 1*(A i j*Y j)) λ j hj=>by rw[if_neg (by have:=List.mem_range.mp hj;omega)];grind,k6] at this;have e2:sJ (List.range n) (λ j=>(if j=i then (1:Rat) else 0)*Y j)=Y i:=by rw[jC _ (List.mem_range.mpr hi),dU (J:=(List.range n).erase i) λ j hj=>by rw[if_neg λ z=>((List.Nodup.mem_erase_iff List.nodup_range).mp hj).1 z];grind];rw[if_pos rfl];grind
  rw[e2] at this
  grind
 have yn:Y n≠0:=λ z=>by
  have h:=h0 Y λ i hi=>by have:=key i hi;rw[z] at this;grind
  have hj':=List.mem_range.mp hj;by_cases q:j=n
  ·exact y0 (q▸z)
  ·exact y0 (h j (by omega))
 refine ⟨λ j=> -(Y j)/ Y n,λ i hi=>?_⟩;have k:=key i hi;have e:sJ (List.range n) (λ j=>A i j*(-(Y j)/ Y n))=(-1/ Y n)*sJ (List.range n) λ j=>A i j*Y j:=by rw[<-qA];exact bF λ j _=>by grind
 rw[e]
 grind
def bd7{n:Nat}(hn:n<=7):bd n 8589934592<2^4312:=by rcases (by omega:n=0\/n=1\/n=2\/n=3\/n=4\/n=5\/n=6\/n=7) with rfl|rfl|rfl|rfl|rfl|rfl|rfl|rfl<;>decide
def one_le{w S:Int}(hw:1<=w)(h1:1<=S)(h2:S<=8589934592):(1:Rat)<=8589934592*((w:Rat)/(S:Rat)):=by
 have s0:(0:Rat)<(S:Rat):=by exact_mod_cast (show (0:Int)<S by omega)
 have i0:=Rat.inv_pos.mpr s0;have w1:(1:Rat)<=(w:Rat):=by exact_mod_cast hw
 have hS:(S:Rat)<=8589934592:=by have h:=Rat.intCast_le_intCast.mpr h2;rw[show ((8589934592:Int):Rat)=8589934592 from rfl] at h;exact h
 have h3:=Rat.mul_le_mul_of_nonneg_right hS (Rat.le_of_lt i0);rw[Rat.mul_inv_cancel _ (by grind)] at h3;have h4:(0:Rat)<=8589934592*(S:Rat)⁻¹:=by grind
 have h5:=Rat.mul_le_mul_of_nonneg_left w1 h4;rw[Rat.div_def]
 grind
def vC{n:Nat}{zs:List Int}{G:List (List Int)}(hn:n<=7)(g:Gd n G):xM n (kT zs G n) 8589934592:=by
 have key:∀j,1<=Eo zs G j->(1:Rat)<=8589934592*(1- sJ (List.range n) λ i=>kT zs G n i j):=λ j h=>by
  obtain ⟨b1,b2,b3,b4⟩:=kF (zs:=zs) hn g j;have o:=one_le h b3 b4;have s0:(Sj zs G n j:Rat)≠0:=by exact_mod_cast (show Sj zs G n j≠0 by omega)
  have e:(1:Rat) - sJ (List.range n) (λ i=>kT zs G n i j)=(Eo zs G j:Rat)/(Sj zs G n j:Rat):=by
   rw[CV];have:(Sj zs G n j:Rat)=cs G n j+Eo zs G j:=by unfold Sj;rw[Rat.intCast_add]
   grind
  rw[e];exact o
 refine ⟨by grind,λ i hi j _=>(vP hn g hi).lo,λ j hj=>?_,λ j hj=>?_,λ _=>key 0 ?_⟩
 ·rw[CV];obtain ⟨b1,b2,b3,b4⟩:=kF (zs:=zs) hn g j;have le:=MD (zs:=zs) (G:=G) (n:=n) (j:=j);have s0:(0:Rat)<(Sj zs G n j:Rat):=by exact_mod_cast (show (0:Int)<Sj zs G n j by omega)
  have ws:(cs G n j:Rat)<=(Sj zs G n j:Rat):=by exact_mod_cast le
  rw[Rat.div_def];have:=Rat.mul_le_mul_of_nonneg_right ws (Rat.le_of_lt (Rat.inv_pos.mpr s0));rw[Rat.mul_inv_cancel _ (by grind)] at this;exact this
 ·rcases (Cm zs G j).2.2 with h|⟨_,_,h⟩
  ·exact .inl (key j h)
  ·obtain ⟨b1,b2,b3,b4⟩:=kF (zs:=zs) hn g j;exact .inr (one_le (by omega) b3 b4)
 ·rcases (Cm zs G 0).2.2 with h|⟨_,h,_⟩
  ·exact h
  ·omega
structure kh(n:Nat)(S:Nat->Int)(W:Nat->Nat->Int)(c:Nat->Rat)(X:Nat->Rat)(d:Nat):Prop where
 d0:0<d
 d9:d<2^4360
 nn:∀j<n,0<=X j
 eq:∀i<n,X i=sJ (List.range n) (λ j=>(W i j:Rat)/(S j:Rat)*X j)+c i
 ii:∀j<n,jt ((d:Int)*(X j/(S j:Rat)))
 ci:∀i<n,jt ((d:Int)*c i)
 dd:∀j<n,(X j).den∣d
 le:∀j<n,X j<=((2^280:Nat):Rat)
 nm:∀j<n,(X j).num.natAbs<2^9000
def Sy{n:Nat}(hn:n<=7){b:Nat->Rat}{M:Rat}(hM:0<=M)(h:∀i<n,b i<=M):sJ (List.range n) b<=7*M:=by
 have:∀m,m<=n->sJ (List.range m) b<=m*M:=λ m=>by
  induction m with
  |zero=>intro _;simp[sJ]
  |succ m ih=>
   intro hm;rw[List.range_succ,gA];have h1:=ih (by omega);have h2:=h m (by omega);simp only[sJ];have e:((m+1:Nat):Rat)=(m:Rat)+1:=by simp
   rw[e];grind
 have h1:=this n (Nat.le_refl _);have h2:(n:Rat)*M<=7*M:=Rat.mul_le_mul_of_nonneg_right (by exact_mod_cast hn) hM
 grind
def GR{x:Rat}{P d:Nat}(x0:0<=x)(hx:x<=(P:Rat))(hd:x.den<=d):x.num.natAbs<=P*d:=by
 have nm:x.num<=(P:Int)*(x.den:Int):=by
  have e:=fK x;have dp:(0:Rat)<=(x.den:Rat):=by exact_mod_cast Nat.zero_le _
  have:=Rat.mul_le_mul_of_nonneg_right hx dp;rw[e] at this
  exact_mod_cast this
 have n0:0<=x.num:=Rat.num_nonneg.mpr x0;have n1:x.num.natAbs<=P*x.den:=by
  have:(x.num.natAbs:Int)<=((P*x.den:Nat):Int):=by rw[Int.natAbs_of_nonneg n0,Int.natCast_mul];exact nm
  exact_mod_cast this
 exact Nat.le_trans n1 (Nat.mul_le_mul_left _ hd)
def HR{n:Nat}{zs:List Int}{G:List (List Int)}(hn:n<=7)(g:Gd n G):∃X d,kh n (Sj zs G n) (gv G) (ct zs) X d:=by
 have F:=vC (zs:=zs) hn g;have c0:∀i<n,0<=ct zs i:=λ i _=>(zC _ _).1;obtain ⟨X,hX⟩:=A6 (n:=n) (A:=kT zs G n) (b:=ct zs) λ X h=>F.only h;have sp:∀j,1<=Sj zs G n j:=λ j=>(kF hn g j).2.2.1;have sr:∀j,(Sj zs G n j:Rat)≠0:=λ j=>by have:=sp j;exact_mod_cast (show Sj zs G n j≠0 by omega)
 have TY:∀(i:Nat),i<n->∀Y:Nat->Rat,dt (List.range n) (λ j=>((if j=i then Sj zs G n i else 0) - gv G i j:Int)) Y=Sj zs G n i*Y i- sJ (List.range n) λ j=>gv G i j*Y j:=λ i hi Y=>by
  have e1:dt (List.range n) (λ j=>((if j=i then Sj zs G n i else 0) - gv G i j:Int)) Y=1*sJ (List.range n) (λ j=>(if j=i then (Sj zs G n i:Rat) else 0)*Y j) - 1*sJ (List.range n) λ j=>gv G i j*Y j:=by
   unfold dt;rw[<-k6];refine bF λ j _=>?_;show (((if j=i then Sj zs G n i else 0) - gv G i j:Int):Rat)*Y j=_;rw[Rat.intCast_sub];by_cases q:j=i
   ·simp only[q,if_true];grind
   ·simp only[q,if_false];simp;grind
  have e2:sJ (List.range n) (λ j=>(if j=i then (Sj zs G n i:Rat) else 0)*Y j)=Sj zs G n i*Y i:=by rw[jC _ (List.mem_range.mpr hi),dU (J:=(List.range n).erase i) λ j hj=>by rw[if_neg λ z=>((List.Nodup.mem_erase_iff List.nodup_range).mp hj).1 z];grind];rw[if_pos rfl];grind
  rw[e1,e2];grind
 obtain ⟨d,dn,dl,hd⟩:=CY n 8589934592 ((List.range n).map λ i j=>(if j=i then Sj zs G n i else 0) - gv G i j) (List.range n) (by simp) (by simp) List.nodup_range (λ e he j _=>by
   obtain ⟨i,_,rfl⟩:=List.mem_map.mp he;have h1:=g.lo i j;have h2:=g.hi i j;obtain ⟨_,_,b3,b4⟩:=kF (zs:=zs) hn g i;show (((if j=i then Sj zs G n i else 0) - gv G i j:Int)).natAbs<=8589934592;split<;>omega) (λ Y hY j hj=>by
   have:=F.only (X:=λ j=>Sj zs G n j*Y j) (λ i hi=>by
    have q:=hY _ (List.mem_map.mpr ⟨i,List.mem_range.mpr hi,rfl⟩);rw[TY i hi Y] at q;have e:sJ (List.range n) (λ j=>kT zs G n i j*(Sj zs G n j*Y j))=sJ (List.range n) λ j=>gv G i j*Y j:=bF λ j _=>by
     unfold kT;have:=sr j
     grind
    rw[e];grind) j (List.mem_range.mp hj)
   have s:=sr j;rcases Rat.mul_eq_zero.mp this with z|z
   ·exact absurd z s
   ·exact z)
 have iy:=hd (λ j=>(Qn zs n:Rat)*(X j/(Sj zs G n j:Rat))) λ e he=>by
  obtain ⟨i,hi,rfl⟩:=List.mem_map.mp he;have hi:=List.mem_range.mp hi;obtain ⟨z,hz⟩:=lH (xE zs n i hi);refine ⟨z,?_⟩;rw[TY i hi];have e:sJ (List.range n) (λ j=>gv G i j*((Qn zs n:Rat)*(X j/(Sj zs G n j:Rat))))=Qn zs n*sJ (List.range n) λ j=>kT zs G n i j*X j:=by rw[<-qA];exact bF λ j _=>by unfold kT;grind
  have h:=hX i hi;have s:=sr i;rw[e, <-hz];have:(Sj zs G n i:Rat)*((Qn zs n:Rat)*(X i/(Sj zs G n i:Rat)))=Qn zs n*X i:=by grind
  rw[this,Rat.intCast_natCast]
  grind
 obtain ⟨m,hm0⟩:∃m:Nat,m=d.natAbs:=⟨_,rfl⟩;have hm:(m:Int)=d\/(m:Int)= -d:=by omega
 have mi:∀q:Rat,jt (d*q)->jt (((m:Nat):Int)*q):=λ q ⟨z,hz⟩=>by
  rcases hm with h|h
  ·exact ⟨z,by rw[h];exact hz⟩
  ·exact ⟨-z,by rw[h,Rat.intCast_neg,Rat.intCast_neg, <-hz];grind⟩
 have ii:∀j<n,jt (((m*Qn zs n:Nat):Int)*(X j/(Sj zs G n j:Rat))):=λ j hj=>by obtain ⟨z,hz⟩:=mi _ (iy j (List.mem_range.mpr hj));refine ⟨z,?_⟩;rw[<-hz];simp only[Int.natCast_mul,Rat.intCast_mul,Rat.intCast_natCast];grind
 have ci:∀i<n,jt (((m*Qn zs n:Nat):Int)*ct zs i):=λ i hi=>by obtain ⟨z,hz⟩:=lH (xE zs n i hi);refine ⟨m*z,?_⟩;rw[Rat.intCast_mul, <-hz];simp only[Int.natCast_mul,Rat.intCast_mul,Rat.intCast_natCast];grind
 have qp:=Bu zs n;have mp:0<m*Qn zs n:=Nat.mul_pos (by omega) qp;have dd:∀j<n,(X j).den∣m*Qn zs n:=λ j hj=>by
  obtain ⟨z,hz⟩:=ii j hj;have:jt (((m*Qn zs n:Nat):Int)*X j):=⟨Sj zs G n j*z,by
   rw[Rat.intCast_mul, <-hz];have:=sr j
   grind⟩
  have:=Int.natAbs_dvd_natAbs.mpr (m8 this);rw[Int.natAbs_natCast,Int.natAbs_natCast] at this;exact this
 have m9:m*Qn zs n<2^4360:=by have h1:m<2^4312:=Nat.lt_of_le_of_lt (show m<=bd n 8589934592 by omega) (bd7 hn);have h2:=(P7 (zs:=zs) hn g).q1;rw[show (2:Nat)^4360=2^4312*2^48 by rw[<-Nat.pow_add]];exact Nat.lt_of_lt_of_le (Nat.mul_lt_mul_of_pos_right h1 qp) (Nat.mul_le_mul_left _ h2)
 have nn:=F.nn c0 hX;have le:∀j<n,X j<=((2^280:Nat):Rat):=λ j hj=>by
  have x1:=F.le c0 hX j hj;have cb:∀i,ct zs i<=((2^200:Nat):Rat):=λ i=>(zC _ _).2.2.2;obtain ⟨P,hP⟩:∃P:Nat,2^200=P:=⟨_,rfl⟩;rw[hP] at cb;have sb:=Sy (b:=ct zs) (M:=(P:Rat)) hn (by exact_mod_cast Nat.zero_le _) λ i _=>cb i;have k:(0:Rat)<=8589934592*(8589934592+1):=by grind
  have h1:=Rat.mul_le_mul_of_nonneg_left sb k;have e:((8589934592*(8589934592+1)*(7*P):Nat):Rat)=8589934592*(8589934592+1)*(7*(P:Rat)):=by simp only[Rat.natCast_mul,Rat.natCast_add];rfl
  have h2:((8589934592*(8589934592+1)*(7*P):Nat):Rat)<=((2^280:Nat):Rat):=by
   have:8589934592*(8589934592+1)*(7*P)<=2^280:=by rw[<-hP];decide
   obtain ⟨P2,hP2⟩:∃P2:Nat,2^280=P2:=⟨_,rfl⟩;rw[hP2] at this ⊢;generalize 8589934592*(8589934592+1)*(7*P)=P3 at*
   exact_mod_cast this
  rw[e] at h2;exact Rat.le_trans x1 (Rat.le_trans h1 h2)
 refine ⟨X,m*Qn zs n,mp,m9,nn,hX,ii,ci,dd,le,λ j hj=>?_⟩;have n1:=GR (nn j hj) (le j hj) (Nat.le_of_dvd mp (dd j hj));refine Nat.lt_of_le_of_lt n1 (Nat.lt_of_lt_of_le (Nat.mul_lt_mul_of_pos_left m9 (Nat.pow_pos (by decide))) ?_);rw[<-Nat.pow_add];exact Nat.pow_le_pow_right (by decide) (by decide)
def PF{n d:Nat}{zs:List Int}{G:List (List Int)}{X:Nat->Rat}(hn:n<=7)(g:Gd n G)(S:kh n (Sj zs G n) (gv G) (ct zs) X d):
  dI [.val (.lst (((List.range n).map (eX zs G n)).map rD))]= .new (.l ((List.range n).map λ j=>rq (X j))):=by
 have F:=vC (zs:=zs) hn g;rcases yd (n:=n) (P7 (zs:=zs) hn g) S.d0 S.d9 hn (R:=(List.range n).map (eX zs G n)) (by simp) (λ r hr=>by obtain ⟨i,hi,rfl⟩:=List.mem_map.mp hr;exact Am hn g (List.mem_range.mp hi)) with ⟨_,Y,⟨j,hj,y0⟩,hY⟩|⟨_,fs,_,h⟩
 ·exfalso;refine y0 (F.only (X:=Y) (λ i hi=>?_) j hj);have:=hY i (eX zs G n i) (by simp[hi]);rw[BZ g] at this
  grind
 ·refine h X (λ i r hr=>?_) λ j hj=>⟨S.dd j hj,S.nm j hj⟩;obtain ⟨hi,rfl⟩:=BY hr;rw[BZ g];have:=S.eq i hi;show X i- sJ (List.range n) (λ j=>kT zs G n i j*X j)=ct zs i;have e:sJ (List.range n) (λ j=>(gv G i j:Rat)/(Sj zs G n j:Rat)*X j)=sJ (List.range n) λ j=>kT zs G n i j*X j:=rfl;rw[e] at this
  grind
noncomputable def BL(n:Nat)(t:Nat×Rat):Nat×Rat:=(n- 1- t.1,t.2)
def uE(n:Nat)(r:Row):Row:=(r.1,r.2.map (BL n))
theorem BK{n:Nat}:∀{T:List (Nat×Rat)},(∀t∈T,t.1<n)->bP (jQ (cL 2 (aS (aG 0) (aS (aG 1) cW))) fC (ni (au (aO fP (aj 2) (aj 0)) (au (aj 1) aM))) [.no,.no,.val (.int ((n:Int) - 1))]) (T.map tD)= .ok ((T.map (BL n)).map tD)
 |[],_=>rfl
 |t::T,h=>by
  have c:=BK (n:=n) (T:=T) λ u hu=>h u (by simp[hu]);have ht:=h t (by simp);have sb:fP (.int ((n:Int) - 1)) (.int t.1)= .ok (.int ((n- 1- t.1:Nat):Int)):=by
   have:(n:Int) - 1- t.1=((n- 1- t.1:Nat):Int):=by omega
   simp only[fP,rA,if_true,this]
  have e1:tD t= .tup [.int t.1,rq t.2]:=rfl;have e2:tD (BL n t)= .tup [.int ((n- 1- t.1:Nat):Int),rq t.2]:=rfl;have el:jQ (cL 2 (aS (aG 0) (aS (aG 1) cW))) fC (ni (au (aO fP (aj 2) (aj 0)) (au (aj 1) aM))) [.no,.no,.val (.int ((n:Int) - 1))] (tD t)= .ok (some (tD (BL n t))):=by rw[e1,e2];generalize rq t.2=Q at*;generalize ((n- 1- t.1:Nat):Int)=q at*;generalize (n:Int) - 1=l at*;simp[jQ,sb]
  simp only[List.map_cons,bP,el,c,Res.bnd]
def JA{n:Nat}{r:Row}{A:List Row}{s0:Slot}(h:∀t∈r.2,t.1<n)(hl:r.2.length<1000)(hA:A.length<1000):
  gj 0 [s0,.val (.int ((n:Int) - 1)),.own (.l (A.map rD)),.val (rq r.1),.val (.lst (r.2.map tD))]= .nx [s0,.val (.int ((n:Int) - 1)),.own (.l ((A++[uE n r]).map rD)),.val (rq r.1),.val (.lst (r.2.map tD))]:=by
 have cm:=BK h;have sq:fX (.lst (r.2.map tD))= .ok (r.2.map tD):=rfl;have ln:(r.2.map tD).length<1000000:=by simp;omega
 have A':(A.map rD).length<1000000:=by simp;omega
 have VO:rD (uE n r)= .tup [rq r.1,.lst ((r.2.map (BL n)).map tD)]:=rfl;have app:(A++[uE n r]).map rD=A.map rD++[.tup [rq r.1,.lst ((r.2.map (BL n)).map tD)]]:=by rw[List.map_append,List.map_cons,List.map_nil,VO]
 have I0:nt (D.tup [rq r.1,.lst ((r.2.map (BL n)).map tD)])=true:=by have:nt (rq r.1)=true:=rfl;simp only[nt,eu,qQ,this];rfl
 have fz:vq (.l ((r.2.map (BL n)).map tD))= .ok (.lst ((r.2.map (BL n)).map tD)):=rfl;rw[app];generalize (r.2.map (BL n)).map tD=U at*;generalize r.2.map tD=T at*;generalize rq r.1=C at*;generalize A.map rD=AA at*;generalize (n:Int) - 1=l at*;simp[gj,sq,ln,iK,lN,cm,fz,I0,rR,oQ,A',fR,jL,vm,gi,eG,sZ,An]
theorem BJ{n:Nat}{s0:Slot}:∀(R A:List Row) (s3 s4:Slot),(∀r∈R,(∀t∈r.2,t.1<n)/\r.2.length<1000)->A.length+R.length<1000->∃t3 t4,cS (cL 2 (aS (aG 3) (aS (aG 4) cW))) (gj 0) (R.map rD) [s0,.val (.int ((n:Int) - 1)),.own (.l (A.map rD)),s3,s4]= .nx [s0,.val (.int ((n:Int) - 1)),.own (.l ((A++R.map (uE n)).map rD)),t3,t4]
 |[],A,s3,s4,_,_=>⟨s3,s4,by simp⟩
 |r::R,A,s3,s4,h,hl=>by simp only[List.length_cons] at hl;obtain ⟨h1,h2⟩:=h r (by simp);have st:=JA (A:=A) (s0:=s0) h1 h2 (by omega);obtain ⟨t3,t4,e⟩:=BJ (s0:=s0) R (A++[uE n r]) (.val (rq r.1)) (.val (.lst (r.2.map tD))) (λ q hq=>h q (by simp[hq])) (by simp;omega);refine ⟨t3,t4,?_⟩;rw[List.map_cons,fB (Γ1:=[s0,.val (.int ((n:Int) - 1)),.own (.l (A.map rD)),.val (rq r.1),.val (.lst (r.2.map tD))]) rfl st,e];simp
def Ni:(Tr zs G n i).length<=n:=by
 have h1:=(mE zs G n i).length_eq;have h2:((rZ zs G n i (List.range n)).map (·.1)).length<=n:=by rw[uF];have:=List.length_filter_le (λ j=>decide (0<gv G i j)) (List.range n);simpa using this
 simp at h2;omega
def JU{n:Nat}(f:Nat->Row):((List.range n).map f).reverse=(List.range n).map λ i=>f (n- 1- i):=by
 apply List.ext_getElem
 ·simp
 ·intro i h1 h2;simp at h1 h2 ⊢
def FJ{n:Nat}{zs:List Int}{G:List (List Int)}(hn:n<=7):jm [.val (.lst (((List.range n).map (eX zs G n)).map rD))]= .new (.l (((List.range n).map λ i=>uE n (eX zs G n (n- 1- i))).map rD)):=by
 have ln:c8 [.lst (((List.range n).map (eX zs G n)).map rD)]= .ok (.int n):=by simp[c8]
 have sb:fP (.int n) (.int 1)= .ok (.int ((n:Int) - 1)):=by simp[fP]
 have rv:NI [.lst (((List.range n).map (eX zs G n)).map rD)]= .ok (((List.range n).map λ i=>eX zs G n (n- 1- i)).map rD):=by rw[F6, <-List.map_reverse,JU]
 obtain ⟨t3,t4,lp⟩:=BJ (n:=n) (s0:= .val (.lst (((List.range n).map (eX zs G n)).map rD))) ((List.range n).map λ i=>eX zs G n (n- 1- i)) [] .no .no (λ r hr=>by
  obtain ⟨i,_,rfl⟩:=List.mem_map.mp hr;refine ⟨λ t ht=>?_,?_⟩
  ·obtain ⟨j,h1,_,rfl⟩:=uD ht;exact h1
  ·have:=Ni (zs:=zs) (G:=G) (n:=n) (i:=n- 1- i);show (Tr zs G n (n- 1- i)).length<1000;omega) (by simp;omega)
 simp only[List.nil_append,List.map_nil] at lp;have e:((List.range n).map λ i=>eX zs G n (n- 1- i)).map (uE n)=(List.range n).map λ i=>uE n (eX zs G n (n- 1- i)):=by rw[List.map_map];rfl
 rw[e] at lp;have VY:kr (.l (([]:List Row).map rD))=true:=rfl;generalize ((List.range n).map λ i=>uE n (eX zs G n (n- 1- i))).map rD=OUT at*;generalize ((List.range n).map λ i=>eX zs G n (n- 1- i)).map rD=RV at*;generalize ((List.range n).map (eX zs G n)).map rD=RR at*;generalize (n:Int) - 1=l at*;simp[jm,lP,cT,ln,sb,EF,rv,lp,jn]
def JI{n:Nat}(h:Nat->Rat):sJ (List.range n) (λ j=>h (n- 1- j))=sJ (List.range n) h:=by
 have e:∀J:List Nat,sJ J (λ j=>h (n- 1- j))=sJ (J.map λ j=>n- 1- j) h:=λ J=>by
  induction J with
  |nil=>rfl
  |cons j J ih=>simp only[sJ,List.map_cons,ih]
 rw[e];refine uM ?_;have:(List.range n).map (λ j=>n- 1- j)=(List.range n).reverse:=by
  apply List.ext_getElem
  ·simp
  ·intro i h1 h2;simp at h1 h2 ⊢
 rw[this];exact List.reverse_perm _
theorem tR{n j:Nat}(hj:j<n):∀{T:List (Nat×Rat)},(∀t∈T,t.1<n)->(T.map (BL n)).lookup j=T.lookup (n- 1- j)
 |[],_=>rfl
 |t::T,h=>by
  have ht:=h t (by simp);rw[List.map_cons];show ((n- 1- t.1,t.2)::T.map (BL n)).lookup j=((t.1,t.2)::T).lookup (n- 1- j);rw[List.lookup_cons,List.lookup_cons,tR hj λ u hu=>h u (by simp[hu])];by_cases e:j=n- 1- t.1
  ·have e1:(j==n- 1- t.1)=true:=by simpa using e
   have e2:(n- 1- j==t.1)=true:=by simp;omega
   rw[e1,e2]
  ·have e1:(j==n- 1- t.1)=false:=by simpa using e
   have e2:(n- 1- j==t.1)=false:=by simp;omega
   rw[e1,e2]
theorem LU{n:Nat}:∀{T:List (Nat×Rat)},(∀t∈T,t.1<n)->(T.map (·.1)).Nodup->((T.map (BL n)).map (·.1)).Nodup
 |[],_,_=>by simp
 |t::T,h,nd=>by rw[List.map_cons,List.nodup_cons] at nd;rw[List.map_cons,List.map_cons,List.nodup_cons];refine ⟨λ z=>?_,LU (λ u hu=>h u (by simp[hu])) nd.2⟩;obtain ⟨u',Ym,e⟩:=List.mem_map.mp z;obtain ⟨u,hu,rfl⟩:=List.mem_map.mp Ym;have h1:=h t (by simp);have h2:=h u (by simp[hu]);have e':n- 1- u.1=n- 1- t.1:=e;exact nd.1 (List.mem_map.mpr ⟨u,hu,by omega⟩)
def JP{n i:Nat}{zs:List Int}{G:List (List Int)}(hn:n<=7)(g:Gd n G)(hi:i<n):zO n (λ j=>Sj zs G n (n- 1- j)) (Qn zs n) (uE n (eX zs G n i)):=by
 have r:=Am (zs:=zs) hn g hi;have lt:∀t∈Tr zs G n i,t.1<n:=λ t ht=>(r.tm t ht).1;refine ⟨LU lt r.nd,λ t ht=>?_,λ t ht=>?_,r.ct,r.cd,r.cq⟩
 ·obtain ⟨u,hu,rfl⟩:=List.mem_map.mp ht;have:=lt u hu;exact ⟨show n- 1- u.1<n by omega,(r.tm u hu).2⟩
 ·obtain ⟨u,hu,rfl⟩:=List.mem_map.mp ht;have:=lt u hu;show jt (Sj zs G n (n- 1-(n- 1- u.1))*u.2);rw[show n- 1-(n- 1- u.1)=u.1 by omega];exact r.sh u hu
def yp{n i:Nat}{zs:List Int}{G:List (List Int)}{X:Nat->Rat}(hn:n<=7)(g:Gd n G)(hi:i<n):sJ (List.range n) (λ j=>((uE n (eX zs G n i)).2.lookup j).getD 0*X (n- 1- j))=sJ (List.range n) λ j=>kT zs G n i j*X j:=by have r:=Am (zs:=zs) hn g hi;rw[<-JI λ j=>kT zs G n i j*X j];refine bF λ j hj=>?_;have hj:=List.mem_range.mp hj;show (((Tr zs G n i).map (BL n)).lookup j).getD 0*_=_;rw[tR hj (T:=Tr zs G n i) λ t ht=>(r.tm t ht).1,BI g i (by omega)]
def FP{n d:Nat}{zs:List Int}{G:List (List Int)}{X:Nat->Rat}(hn:n<=7)(g:Gd n G)(S:kh n (Sj zs G n) (gv G) (ct zs) X d):
  dI [.val (.lst (((List.range n).map λ i=>uE n (eX zs G n (n- 1- i))).map rD))]= .new (.l ((List.range n).map λ j=>rq (X (n- 1- j)))):=by
 have F:=vC (zs:=zs) hn g;have D:=P7 (zs:=zs) hn g;rcases yd (n:=n) (S:=λ j=>Sj zs G n (n- 1- j)) (Q:=Qn zs n) ⟨λ j=>D.lo _,λ j=>D.hi _,D.q0,D.q1⟩ S.d0 S.d9 hn (R:=(List.range n).map λ i=>uE n (eX zs G n (n- 1- i))) (by simp) (λ r hr=>by obtain ⟨i,hi,rfl⟩:=List.mem_map.mp hr;have:=List.mem_range.mp hi;exact JP hn g (by omega)) with ⟨_,Y,⟨j,hj,y0⟩,hY⟩|⟨_,fs,_,h⟩
 ·exfalso;have z:=F.only (X:=λ k=>Y (n- 1- k)) (λ i hi=>by
   have q:=hY (n- 1- i) (uE n (eX zs G n i)) (by
    have:n- 1-(n- 1- i)=i:=by omega
    rw[List.getElem?_map,List.getElem?_range (by omega)];simp only[Option.map_some,this])
   have e:=yp (zs:=zs) (X:=λ k=>Y (n- 1- k)) hn g hi;have e2:sJ (List.range n) (λ j=>((uE n (eX zs G n i)).2.lookup j).getD 0*Y (n- 1-(n- 1- j)))=sJ (List.range n) λ j=>((uE n (eX zs G n i)).2.lookup j).getD 0*Y j:=bF λ k hk=>by have:=List.mem_range.mp hk;rw[show n- 1-(n- 1- k)=k by omega]
   rw[e2] at e;rw[e] at q
   grind) (n- 1- j) (by omega)
  rw[show n- 1-(n- 1- j)=j by omega] at z;exact y0 z
 ·refine h (λ j=>X (n- 1- j)) (λ i r hr=>?_) λ j hj=>⟨S.dd _ (by omega),S.nm _ (by omega)⟩;obtain ⟨hi,rfl⟩:=BY hr;have e:=yp (zs:=zs) (X:=X) hn g (show n- 1- i<n by omega);rw[e];have:=S.eq (n- 1- i) (by omega);show X (n- 1- i) - sJ (List.range n) (λ j=>kT zs G n (n- 1- i) j*X j)=ct zs (n- 1- i);have e2:sJ (List.range n) (λ j=>(gv G (n- 1- i) j:Rat)/(Sj zs G n j:Rat)*X j)=sJ (List.range n) λ j=>kT zs G n (n- 1- i) j*X j:=rfl;rw[e2] at this
  grind
structure O1(d:Nat)(r:Rat):Prop where
 nn:0<=r
 ii:jt ((d:Int)*r)
 le:r<=((2^280:Nat):Rat)
theorem O1.den{d:Nat}{r:Rat}(h:O1 d r)(d0:0<d):r.den<=d:=by have:=Int.natAbs_dvd_natAbs.mpr (m8 h.ii);simp only[Int.natAbs_natCast] at this;exact Nat.le_of_dvd d0 this
theorem O1.num{d:Nat}{r:Rat}(h:O1 d r)(d0:0<d)(d9:d<2^4360):0<=r.num/\r.num.natAbs<2^4640:=by refine ⟨Rat.num_nonneg.mpr h.nn,Nat.lt_of_le_of_lt (GR h.nn h.le (h.den d0)) (Nat.lt_of_lt_of_le (Nat.mul_lt_mul_of_pos_left d9 (Nat.pow_pos (by decide))) ?_)⟩;rw[<-Nat.pow_add];exact Nat.le_refl _
def N2{d:Nat}{v q:Rat}(d0:0<d)(d9:d<2^4360)(hv:O1 d v)(hq:O1 d q):nH [.val (rq v),.val (rq q)]= .ok (rq (v+q)):=by
 obtain ⟨v0,v1⟩:=hv.num d0 d9;obtain ⟨q0,q1⟩:=hq.num d0 d9;have vd:=hv.den d0;have qd:=hq.den d0;have dl:∀m:Nat,m<=d->((m:Nat):Int).natAbs<2^4360:=λ m hm=>by rw[Int.natAbs_natCast];exact Nat.lt_of_le_of_lt hm d9
 have up:∀{x:Int},x.natAbs<2^4640->x.natAbs<2^100000:=λ h=>bB h (by decide);have up':∀{x:Int},x.natAbs<2^4360->x.natAbs<2^100000:=λ h=>bB h (by decide);have m1:=fj (up v1) (up' (dl _ qd));have m2:=fj (up q1) (up' (dl _ vd));have m3:=fj (up' (dl _ vd)) (up' (dl _ qd));have vp:=v.den_pos;have qp:=q.den_pos;have ad:eU (.int (v.num*q.den)) (.int (q.num*v.den))= .ok (.int (v.num*q.den+q.num*v.den)):=by simp[eU]
 have b1:1<=(v.den:Int)*(q.den:Int):=by have:0<(v.den:Int)*(q.den:Int):=Int.mul_pos (by omega) (by omega);omega
 have lw:=yT (a:=v.num*q.den+q.num*v.den) (b:=(v.den:Int)*(q.den:Int)) (by
  have h1:=Int.mul_nonneg v0 (show 0<=(q.den:Int) by omega);have h2:=Int.mul_nonneg q0 (show 0<=(v.den:Int) by omega);omega) b1 (by
  rw[Int.natAbs_mul];exact bB (lC (dl _ vd) (dl _ qd)) (by decide))
 have e:=Ql v q;rw[rF _ _ (by omega)] at e;have e2:=Ce e;rw[e2] at lw;have i0:=(kB.tup v).i0;have i1:=(kB.tup v).i1;have j0:=(kB.tup q).i0;have j1:=(kB.tup q).i1;clear dl up up' e e2;generalize rq (v+q)=VQ at*;generalize rq v=V at*;generalize rq q=Q at*;generalize v.num*q.den=a1 at*;generalize q.num*v.den=a2 at*;generalize (v.den:Int)*(q.den:Int)=a3 at*;simp[nH,rQ,cT,i0,i1,j0,j1,m1,m2,m3,ad,lw]
def NZ{s x:Rat}(s0:Jg s)(x0:0<=x)(xn:x.num.natAbs<2^9000)(xd:x.den<2^4360):cX (.int s.num) (.int x.num)= .ok (.int (s.num*x.num))/\cX (.int s.den) (.int x.den)= .ok (.int ((s.den:Int)*x.den))/\dg [.val (.int (s.num*x.num)),.val (.int ((s.den:Int)*x.den))]= .ok (rq (s*x)):=by
 have s7:=s0.s7;have sn:s.num.natAbs<2^40:=Nat.lt_of_le_of_lt s7.n (by decide);have sd:(s.den:Int).natAbs<2^40:=by rw[Int.natAbs_natCast];exact Nat.lt_of_le_of_lt s7.d (by decide)
 have Y6:(x.den:Int).natAbs<2^4360:=by rw[Int.natAbs_natCast];exact xd
 have sp:=s.den_pos;have xp:=x.den_pos;have b1:1<=(s.den:Int)*(x.den:Int):=by have:0<(s.den:Int)*(x.den:Int):=Int.mul_pos (by omega) (by omega);omega
 refine ⟨fj (bB sn (by decide)) (bB xn (by decide)),fj (bB sd (by decide)) (bB Y6 (by decide)),?_⟩;have lw:=yT (a:=s.num*x.num) (b:=(s.den:Int)*(x.den:Int)) (Int.mul_nonneg (Rat.num_nonneg.mpr s0.lo) (Rat.num_nonneg.mpr x0)) b1 (by rw[Int.natAbs_mul];exact bB (lC sd Y6) (by decide));have e:=ON s x;rw[rF _ _ (by omega)] at e;rw[Ce e] at lw;exact lw
structure FO(n:Nat)(X:Nat->Rat)(F:D):Prop where
 ix:∀j<n,bG F (.int j)= .ok (rq (X j))
 sq:fX F= .ok ((List.range n).map λ j=>rq (X j))
 ln:c8 [F]= .ok (.int n)
 is:rm mt ["list"] F= .ok (.bl true)
def BD(z:Int):iV [.val (.int z)]= .ok (.bl true):=by
 have h1:rm mt ["int"] (.int z)= .ok (.bl true):=by rfl
 have h2:rm mt ["bool"] (.int z)= .ok (.bl false):=by rfl
 simp[iV,oA,cT,h1,h2]
def Kp(x:Rat):(x.num:Rat)/(((x.den:Nat):Int):Rat)=x:=by
 have e:=fK x;have d0:(x.den:Rat)≠0:=by exact_mod_cast x.den_nz
 rw[Rat.intCast_natCast, <-e];grind
def YF{x:Rat}{s0 s1 s3 s4 s5 s6:Slot}(x0:0<=x)(xd:x.den<2^4360):dR 0 [s0,s1,.val (rq x),s3,s4,s5,s6]= .nx [s0,s1,.val (rq x),s3,s4,s5,s6]:=by
 have it:rm mt ["tuple"] (rq x)= .ok (.bl true):=by rfl
 have ln:c8 [rq x]= .ok (.int 2):=by simp[c8,rq,fq]
 have i0:=(kB.tup x).i0;have i1:=(kB.tup x).i1;have w0:=BD x.num;have w1:=BD (x.den:Int);have n0:¬x.num<0:=by have:=Rat.num_nonneg.mpr x0;omega
 have dp:=x.den_pos;have d1:¬(x.den:Int)<1:=by omega
 have lw:=yT (a:=x.num) (b:=(x.den:Int)) (by omega) (by omega) (by rw[Int.natAbs_natCast];exact bB xd (by decide));rw[Kp] at lw;have ne:lU (rq x) (rq x)= .ok (.bl false):=by simp[rq,fq]
 clear xd;generalize rq x=R at*;generalize (x.den:Int)=b at*;generalize x.num=a at*;simp[dR,it,ln,i0,i1,w0,w1,ltI,n0,d1,lw,ne]
theorem CL{n:Nat}{X:Nat->Rat}{s0 s1 s3 s4 s5 s6:Slot}(hX:∀j<n,0<=X j/\(X j).den<2^4360):∀(js:List Nat) (s2:Slot),(∀j∈js,j<n)->∃t2,cS (aG 2) (dR 0) (js.map λ j=>rq (X j)) [s0,s1,s2,s3,s4,s5,s6]= .nx [s0,s1,t2,s3,s4,s5,s6]
 |[],s2,_=>⟨s2,rfl⟩
 |j::js,s2,h=>by obtain ⟨x0,xd⟩:=hX j (h j (by simp));obtain ⟨t2,e⟩:=CL (s0:=s0) (s1:=s1) (s3:=s3) (s4:=s4) (s5:=s5) (s6:=s6) hX js (.val (rq (X j))) λ k hk=>h k (by simp[hk]);refine ⟨t2,?_⟩;rw[List.map_cons,fB (Γ1:=[s0,s1,.val (rq (X j)),s3,s4,s5,s6]) rfl (YF x0 xd)];exact e
noncomputable def kj(X:Nat->Rat):List (Nat×Rat)->Rat
 |[]=>0
 |t::T=>t.2*X t.1+kj X T
theorem BH{X:Nat->Rat}:∀{T:List (Nat×Rat)},(∀t∈T,0<=t.2*X t.1)->0<=kj X T
 |[],_=>by simp only[kj];grind
 |t::T,h=>by have h1:=h t (by simp);have h2:=BH (T:=T) λ u hu=>h u (by simp[hu]);simp only[kj];grind
def DW{X:Nat->Rat}{T U:List (Nat×Rat)}(h:T.Perm U):kj X T=kj X U:=by
 induction h with
 |nil=>rfl
 |cons x _ ih=>simp only[kj];rw[ih]
 |swap x y l=>simp only[kj];grind
 |trans _ _ i1 i2=>rw[i1,i2]
def jt.add{d:Int}{x y:Rat}(hx:jt (d*x))(hy:jt (d*y)):jt (d*(x+y)):=by obtain ⟨a,ha⟩:=hx;obtain ⟨b,hb⟩:=hy;exact ⟨a+b,by rw[Rat.intCast_add, <-ha, <-hb];grind⟩
def YE{n j d:Nat}{X:Nat->Rat}{F:D}{s v:Rat}{s0 s2 s3:Slot}(fo:FO n X F)(d0:0<d)(d9:d<2^4360)(hj:j<n)(hs:Jg s)(x0:0<=X j)(xn:(X j).num.natAbs<2^9000)(xd:(X j).den∣d)(hv:O1 d v)(hq:O1 d (s*X j)):
  dQ 0 [s0,.val F,s2,s3,.val (rq v),.val (.int j),.val (rq s)]= .nx [s0,.val F,s2,s3,.val (rq (v+s*X j)),.val (.int j),.val (rq s)]:=by
 obtain ⟨p1,p2,p3⟩:=NZ hs x0 xn (Nat.lt_of_le_of_lt (Nat.le_of_dvd d0 xd) d9);have pl:=N2 d0 d9 hv hq;have ix:=fo.ix j hj;have i0:=(kB.tup s).i0;have i1:=(kB.tup s).i1;have j0:=(kB.tup (X j)).i0;have j1:=(kB.tup (X j)).i1;clear hv hq xn xd d9 fo;generalize rq (v+s*X j)=R1 at*;generalize rq (s*X j)=R2 at*;generalize rq v=R3 at*;generalize rq s=R4 at*;generalize rq (X j)=R5 at*;generalize s.num*(X j).num=a1 at*;generalize (s.den:Int)*((X j).den:Int)=a2 at*;simp[dQ,ix,i0,i1,j0,j1,p1,p2,p3,pl]
theorem CJ{n d:Nat}{X:Nat->Rat}{F:D}{s0 s2 s3:Slot}(fo:FO n X F)(d0:0<d)(d9:d<2^4360)(hX:∀j<n,0<=X j/\(X j).num.natAbs<2^9000/\(X j).den∣d):∀(T:List (Nat×Rat)) (v:Rat) (s5 s6:Slot),(∀t∈T,t.1<n/\Jg t.2/\jt ((d:Int)*(t.2*X t.1)))->0<=v->jt ((d:Int)*v)->v+kj X T<=((2^280:Nat):Rat)->∃t5 t6,cS (cL 2 (aS (aG 5) (aS (aG 6) cW))) (dQ 0) (T.map tD) [s0,.val F,s2,s3,.val (rq v),s5,s6]= .nx [s0,.val F,s2,s3,.val (rq (v+kj X T)),t5,t6]
 |[],v,s5,s6,_,_,_,_=>⟨s5,s6,by simp only[kj,Rat.add_zero];rfl⟩
 |t::T,v,s5,s6,h,v0,vi,le=>by obtain ⟨h1,h2,h3⟩:=h t (by simp);obtain ⟨x0,x1,x2⟩:=hX _ h1;have q0:0<=t.2*X t.1:=Rat.mul_nonneg h2.lo x0;have r0:0<=kj X T:=BH λ u hu=>Rat.mul_nonneg (h u (by simp[hu])).2.1.lo (hX _ (h u (by simp[hu])).1).1;simp only[kj] at le;generalize hP:((2^280:Nat):Rat)=P at*;have st:=YE (s0:=s0) (s2:=s2) (s3:=s3) fo d0 d9 h1 h2 x0 x1 x2 (v:=v) ⟨v0,vi,by rw[hP];grind⟩ ⟨q0,h3,by rw[hP];grind⟩;obtain ⟨t5,t6,e⟩:=CJ (s0:=s0) (s2:=s2) (s3:=s3) fo d0 d9 hX T (v+t.2*X t.1) (.val (.int t.1)) (.val (rq t.2)) (λ u hu=>h u (by simp[hu])) (by grind) (jt.add vi h3) (by rw[hP];grind);refine ⟨t5,t6,?_⟩;rw[List.map_cons,fB (Γ1:=[s0,.val F,s2,s3,.val (rq v),.val (.int t.1),.val (rq t.2)]) rfl st,e];simp only[kj];rw[Rat.add_assoc]
theorem xY{n:Nat}{zs:List Int}{G:List (List Int)}{X:Nat->Rat}(g:Gd n G)(i:Nat):∀js:List Nat,kj X (rZ zs G n i js)=sJ js λ j=>kT zs G n i j*X j
 |[]=>rfl
 |k::js=>by
  rw[rZ];simp only[sJ];rw[<-xY g i js];by_cases p:0<gv G i k
  ·rw[if_pos p];rfl
  ·rw[if_neg p,List.nil_append];have z:gv G i k=0:=by have:=g.lo i k;omega
   have:kT zs G n i k=0:=by unfold kT;rw[z];simp;grind
   rw[this];grind
def YD{n k d:Nat}{zs:List Int}{G:List (List Int)}{X:Nat->Rat}{F:D}{s2 s4 s5 s6:Slot}(hn:n<=7)(g:Gd n G)(fo:FO n X F)(S:kh n (Sj zs G n) (gv G) (ct zs) X d)(hk:k<n):
  ∃t4 t5 t6,dO 0 [.val (.lst (((List.range n).map (eX zs G n)).map rD)),.val F,s2,.val (.int k),s4,s5,s6]= .nx [.val (.lst (((List.range n).map (eX zs G n)).map rD)),.val F,s2,.val (.int k),t4,t5,t6]:=by
 have We:bG (.lst (((List.range n).map (eX zs G n)).map rD)) (.int k)= .ok (rD (eX zs G n k)):=lF (by simp[hk]);have ZM:bG (rD (eX zs G n k)) (.int 0)= .ok (rq (ct zs k)):=rfl;have ZL:bG (rD (eX zs G n k)) (.int 1)= .ok (.lst ((Tr zs G n k).map tD)):=rfl;have fx:=fo.ix k hk;have ev:ct zs k+kj X (Tr zs G n k)=X k:=by
  rw[<-DW (mE zs G n k),xY g];have:=S.eq k hk;have e:sJ (List.range n) (λ j=>(gv G k j:Rat)/(Sj zs G n j:Rat)*X j)=sJ (List.range n) λ j=>kT zs G n k j*X j:=rfl;rw[e] at this
  grind
 obtain ⟨t5,t6,lp⟩:=CJ (n:=n) (s0:= .val (.lst (((List.range n).map (eX zs G n)).map rD))) (s2:=s2) (s3:= .val (.int k)) fo S.d0 S.d9 (λ j hj=>⟨S.nn j hj,S.nm j hj,S.dd j hj⟩) (Tr zs G n k) (ct zs k) s5 s6 (λ t ht=>by
   obtain ⟨j,hj,_,rfl⟩:=uD ht;refine ⟨hj,vP hn g hk,?_⟩;obtain ⟨z,hz⟩:=S.ii j hj;refine ⟨gv G k j*z,?_⟩;rw[Rat.intCast_mul, <-hz];unfold kT
   grind) (zC _ _).1 (S.ci k hk) (by rw[ev];exact S.le k hk)
 rw[ev] at lp;have ne:lU (rq (X k)) (rq (X k))= .ok (.bl false):=by simp[rq,fq]
 refine ⟨.val (rq (X k)),t5,t6,?_⟩;clear ev S fo;generalize rq (ct zs k)=C at*;generalize rq (X k)=XK at*;generalize rD (eX zs G n k)=RK at*;generalize (Tr zs G n k).map tD=TT at*;generalize ((List.range n).map (eX zs G n)).map rD=RR at*;simp[dO,We,ZM,ZL,lp,fx,ne]
theorem CI{n d:Nat}{zs:List Int}{G:List (List Int)}{X:Nat->Rat}{F:D}{s2:Slot}(hn:n<=7)(g:Gd n G)(fo:FO n X F)(S:kh n (Sj zs G n) (gv G) (ct zs) X d):∀(ks:List Nat) (s3 s4 s5 s6:Slot),(∀k∈ks,k<n)->∃t3 t4 t5 t6,cS (aG 3) (dO 0) (ks.map nI) [.val (.lst (((List.range n).map (eX zs G n)).map rD)),.val F,s2,s3,s4,s5,s6]= .nx [.val (.lst (((List.range n).map (eX zs G n)).map rD)),.val F,s2,t3,t4,t5,t6]
 |[],s3,s4,s5,s6,_=>⟨s3,s4,s5,s6,rfl⟩
 |k::ks,s3,s4,s5,s6,h=>by obtain ⟨t4,t5,t6,e⟩:=YD (s2:=s2) (s4:=s4) (s5:=s5) (s6:=s6) hn g fo S (h k (by simp));obtain ⟨u3,u4,u5,u6,e2⟩:=CI (s2:=s2) hn g fo S ks (.val (.int k)) t4 t5 t6 λ j hj=>h j (by simp[hj]);refine ⟨u3,u4,u5,u6,?_⟩;rw[List.map_cons,fB (Γ1:=[.val (.lst (((List.range n).map (eX zs G n)).map rD)),.val F,s2,.val (.int k),s4,s5,s6]) rfl e];exact e2
def pA{n d:Nat}{zs:List Int}{G:List (List Int)}{X:Nat->Rat}{F:D}(hn:n<=7)(g:Gd n G)(fo:FO n X F)(S:kh n (Sj zs G n) (gv G) (ct zs) X d):
  dM [.val (.lst (((List.range n).map (eX zs G n)).map rD)),.val F]= .ok (.bl true):=by
 have rg:=gK n (by omega);rw[iS] at rg;obtain ⟨t2,X3⟩:=CL (n:=n) (X:=X) (s0:= .val (.lst (((List.range n).map (eX zs G n)).map rD))) (s1:= .val F) (s3:= .no) (s4:= .no) (s5:= .no) (s6:= .no) (λ j hj=>⟨S.nn j hj,Nat.lt_of_le_of_lt (Nat.le_of_dvd S.d0 (S.dd j hj)) S.d9⟩) (List.range n) .no λ k hk=>List.mem_range.mp hk;obtain ⟨t3,t4,t5,t6,lp⟩:=CI (s2:=t2) hn g fo S (List.range n) .no .no .no .no λ k hk=>List.mem_range.mp hk;have l1:c8 [.lst (((List.range n).map (eX zs G n)).map rD)]= .ok (.int n):=by simp[c8]
 have l2:=fo.ln;have sq:=fo.sq;have is:=fo.is;clear fo S;generalize ((List.range n).map (eX zs G n)).map rD=RR at*;generalize ((List.range n).map λ j=>rq (X j))=XX at*;generalize (List.range n).map nI=N at*;simp[dM,iH,cT,is,l1,l2,sq,X3,rg,lp]
theorem Lg{α:Type}(f:α->D)(h:∀a,(py (f a)).eqv (py (f a))=true):∀l:List α,PyData.eqvAll (sD (l.map f)) (sD (l.map f))=true
 |[]=>rfl
 |a::l=>by simp[sD,PyData.eqvAll,h a,Lg f h l]
def Ov{α:Type}(f:α->D)(n:Nat)(h:∀a,cM n (f a)=true)(l:List α):(l.map f).all (cM n)=true:=by simp[List.all_map,h]
def PY(t:Nat×Rat):(py (tD t)).eqv (py (tD t))=true:=by simp[tD,rq,fq,py,sD,PyData.eqv,PyData.eqvAll]
def PZ(r:Row):(py (rD r)).eqv (py (rD r))=true:=by have:=Lg tD PY r.2;simp[rD,rq,fq,py,sD,PyData.eqv,PyData.eqvAll,this]
def Ox(t:Nat×Rat)(n:Nat):cM (n+2) (tD t)=true:=by simp[tD,rq,fq,cM]
def Oz(r:Row):cM 11 (rD r)=true:=by have:=Ov tD 9 (λ t=>Ox t 7) r.2;simp only[rD,cM,List.all_cons,List.all_nil,this];simp[rq,fq,cM]
def NC(R:List Row):lU (.lst (R.map rD)) (.lst (R.map rD))= .ok (.bl false):=by have o:=Ov rD 11 Oz R;have e:=Lg rD PZ R;rw[lU,if_pos ⟨by simpa[cM] using o,by simpa[cM] using o⟩];simp[HZ,py,PyData.eqv,e]
def NB(l:List Rat):lU (.lst (l.map rq)) (.lst (l.map rq))= .ok (.bl false):=by have o:=Ov rq 11 (λ a=>by simp[rq,fq,cM]) l;have e:=Lg rq (λ a=>by simp[rq,fq,py,sD,PyData.eqv,PyData.eqvAll]) l;rw[lU,if_pos ⟨by simpa[cM] using o,by simpa[cM] using o⟩];simp[HZ,py,PyData.eqv,e]
theorem zF{α:Type}{el:D->Res (Option D)}(f:α->D):∀{l:List α},(∀a∈l,el (f a)= .ok (some (f a)))->bP el (l.map f)= .ok (l.map f)
 |[],_=>rfl
 |a::l,h=>by have:=zF (el:=el) f (l:=l) λ y hy=>h y (by simp[hy]);simp only[List.map_cons,bP,h a (by simp),this,Res.bnd]
def Py(n:Nat)(X:Nat->Rat):FO n X (.lst ((List.range n).map λ j=>rq (X j))):=⟨λ j hj=>lF (by simp[hj]),rfl,by simp[c8],by rfl⟩
def O3{ds:List D}{d:D}{p:Nat}{tm:Bool}(h:ds[p]? =some d):bG (.bor tm ds) (.int p)= .ok d:=by have hp:=(List.getElem?_eq_some_iff.mp h).1;simp[bG,um,mY,hp];exact (List.getElem?_eq_some_iff.mp h).2
def Pz(n:Nat)(X:Nat->Rat)(tm:Bool):FO n X (.bor tm ((List.range n).map λ j=>rq (X j))):=⟨λ j hj=>O3 (by simp[hj]),rfl,by simp[c8],by rfl⟩
theorem HW{X:Nat->Rat}:∀l:List Nat,lW (l.map λ j=>rq (X j))=l.map λ j=>rq (X j)
 |[]=>rfl
 |j::l=>by have:dn (rq (X j))=rq (X j):=rfl;simp only[List.map_cons,lW,this,HW l]
theorem HV:∀T:List (Nat×Rat),lW (T.map tD)=T.map tD
 |[]=>rfl
 |t::T=>by have:dn (tD t)=tD t:=rfl;simp only[List.map_cons,lW,this,HV T]
theorem HX:∀R:List Row,lW (R.map rD)=R.map rD
 |[]=>rfl
 |r::R=>by
  have h:dn (rD r)=rD r:=by have h1:dn (rq r.1)=rq r.1:=rfl;simp only[rD,dn,lW,h1,HV]
  simp only[List.map_cons,lW,h,HX R]
def Hr(ns:List Int)(hz:ns.length<=63):nF [.val (.lst (ns.map D.int))]= .ok (.bl true):=by
 have c0:bJ [.val (iL ns),.val (.int 0)]= .ok (.int (ns.getD 0 0)):=vG ns 0;have md:dD (.int (ns.getD 0 0)) (.int 8)= .ok (.int ((ns.getD 0 0).fmod 8)):=bO _ _ (by decide);obtain ⟨a1,a2⟩:=fm (ns.getD 0 0) 8 (by decide);obtain ⟨n,ha⟩:=Int.eq_ofNat_of_zero_le a1;rw[ha] at md a2;have hn:n<=7:=by omega
 obtain ⟨G,hG,g⟩:=DQ (zs:=ns) hz hn;have r0:=NH hn g hG;obtain ⟨X,d,S⟩:=HR (zs:=ns) hn g;have fs:=PF hn g S;have tr:=FJ (zs:=ns) (G:=G) hn;have ts:=FP hn g S;have f1:=pA hn g (Pz n X false) S;have f2:=pA hn g (Py n X) S;have sm:=NC ((List.range n).map (eX ns G n));have rx:(List.range n).map (λ j=>rq (X (n- 1- j)))=((List.range n).map λ j=>rq (X j)).reverse:=by
  apply List.ext_getElem
  ·simp
  ·intro i h1 h2;simp at h1 h2 ⊢
 rw[rx] at ts;have sx:lU (.lst ((List.range n).map λ j=>rq (X j)).reverse) (.lst ((List.range n).map λ j=>rq (X j)).reverse)= .ok (.bl false):=by
  have:=NB ((List.range n).map X).reverse;rw[<-List.map_reverse,List.map_map] at this;have e:((List.range n).map λ j=>rq (X j)).reverse=(List.range n).reverse.map (rq∘X):=by rw[<-List.map_reverse];rfl
  rw[e];exact this
 have cm:=zF (el:=jQ (cL 2 (aS (aG 0) (aS (aG 1) cW))) fC (ni (au (aj 0) (au (lX (OV yV (au (aj 1) aM))) aM))) [.no,.no]) rD (l:=(List.range n).map (eX ns G n)) λ r _=>by have e:rD r= .tup [rq r.1,.lst (r.2.map tD)]:=rfl;rw[e];generalize rq r.1=C;generalize r.2.map tD=T;simp[jQ,yV,F3]
 have cl:(((List.range n).map (eX ns G n)).map rD).length<1000000:=by simp;omega
 have dr:=HX ((List.range n).map (eX ns G n));have dq:=HW (X:=X) (List.range n);have nq:=AH (X:=X) (List.range n);have nr:eu (((List.range n).map (eX ns G n)).map rD)=true:=by
  have:∀R:List Row,eu (R.map rD)=true:=λ R=>by
   induction R with
   |nil=>rfl
   |cons r R ih=>
    have h:nt (rD r)=true:=by have:nt (rq r.1)=true:=rfl;simp only[rD,nt,eu,qQ,this];rfl
    simp only[List.map_cons,eu,h,ih];rfl
  exact this _
 have z0:vq (.l (((List.range n).map (eX ns G n)).map rD))= .ok (.lst (((List.range n).map (eX ns G n)).map rD)):=rfl;have z1:vq (.l (((List.range n).map λ i=>uE n (eX ns G n (n- 1- i))).map rD))= .ok (.lst (((List.range n).map λ i=>uE n (eX ns G n (n- 1- i))).map rD)):=rfl;have z2:vq (.l ((List.range n).map λ j=>rq (X j)))= .ok (.lst ((List.range n).map λ j=>rq (X j))):=rfl;have z3:vq (.l ((List.range n).map λ j=>rq (X j)).reverse)= .ok (.lst ((List.range n).map λ j=>rq (X j)).reverse):=rfl;show nF [.val (iL ns)]=_;clear hG g S a1 a2 ha rx;generalize ((List.range n).map (eX ns G n)).map rD=R0 at*;generalize ((List.range n).map λ i=>uE n (eX ns G n (n- 1- i))).map rD=R1 at*;generalize ((List.range n).map λ j=>rq (X j))=R2 at*;generalize ns.getD 0 0=q3 at*;generalize (n:Int)=N at*;generalize iL ns=Z at*;have ld:lend (.l R2)= .bor true R2:=rfl;have d2:lW [.lst R0,.bor true R2]=[.lst R0,.bor false R2]:=by simp only[lW,dn,dr,dq]
 have n1:Kv (.ok (.bl true))= .ok (.bl true):=rfl;simp[nF,Iw,cT,c0,md,r0,z0,cl,iK,cm,fs,ld,dq,f1,sm,tr,z1,ts,z3,sx,f2,z2,nq,nr,d2,n1,Al,Qh,fR,oQ,gi,eG,sZ,An]
end Vq
end
section
namespace Vq
open PySem PySem.Spec PyProof.Rows L2 L4
def top(i:Nat):Stmt:=PySem.Challenge.pw_beamtable_k28_rows_solved.main.body.getD i (.Pass ⟨0,0,0,0⟩)
abbrev oS:Stmt:=top 21
abbrev oR:Stmt:=top 25
abbrev yk:Stmt:=top 27
abbrev BU:Stmt:=top 23
abbrev mH:Stmt:=top 26
abbrev yi:Stmt:=top 28
abbrev gJ:Stmt:=top 7
abbrev qy:Stmt:=top 8
abbrev BS:Stmt:=top 9
abbrev iO:Stmt:=top 11
abbrev kJ:Stmt:=top 12
abbrev kG:Stmt:=top 15
abbrev kH:Stmt:=top 16
abbrev yh:Stmt:=top 13
abbrev tE:Stmt:=top 14
abbrev qw:Stmt:=top 17
abbrev qu:Stmt:=top 18
abbrev yg:Stmt:=top 19
abbrev tF:Stmt:=top 22
abbrev yj:Stmt:=top 24
abbrev kI:Stmt:=top 29
abbrev qx:Stmt:=top 30
abbrev L0:Stmt:=top 31
set_option genInjectivity false in
structure Td(K:W.Frag)(mg:Str->Option Value) where
 fG:Fx K mg "_law_cell_at" oS oW
 lS:Fx K mg "_law_weights" oR oV
 xK:Fx K mg "_law_left" yk yF
 oM:Fx K mg "_law_low" BU uX
 eg:Fx K mg "_law_constant" mH mT
 xH:Fx K mg "_law_rows" yi yD
 eV:Fx K mg "greatest_divisor" gJ dY
 oN:Fx K mg "fraction" qy qL
 oJ:Fx K mg "minus" BS Ca
 gc:Fx K mg "least_multiple" iO iQ
 jk:Fx K mg "equation_of" kJ kP
 jh:Fx K mg "times_named" kG kL
 gz:Fx K mg "least_named" kH kM
 kc:Fx K mg "lowest" yh yC
 rW:Fx K mg "without" tE tM
 j5:Fx K mg "unfolded" qw lz
 oH:Fx K mg "value_of" qu qJ
 j9:Fx K mg "solved" yg yz
 rX:Fx K mg "_law_whole" tF tN
 xJ:Fx K mg "_law_plus" yj yE
 dc:Fx K mg "_law_fulfilled" kI kO
 oK:Fx K mg "_law_turned" qx qK
 QE:Fx K mg "law" L0 Mf
 Vj:Gu K mg "ONE" (.gt [.int 1,.int 1])
 MX:Gu K mg "ZERO" (.gt [.int 0,.int 1])
 zR:Gc mg "NoFraction"
 Qz:Gc mg "Loose"
 jT:Tp K gz.y.fd
 pG:Tp K j5.y.fd
set_option genInjectivity false in
structure Ty(K:W.Frag)(mg:Str->Option Value)(cb:Cb)(D:Td K mg):Prop where
 By:mg "abs"=none
 z5:mg "bool"=none
 jy:mg "enumerate"=none
 E9:mg "int"=none
 c6:mg "isinstance"=none
 iM:mg "len"=none
 nJ:mg "list"=none
 Bx:mg "min"=none
 fH:mg "range"=none
 eY:mg "reversed"=none
 qh:mg "sorted"=none
 E8:mg "sum"=none
 ur:mg "tuple"=none
 E7:mg "zip"=none
 bm:Vw K mg
 iz:cb.xt D.jT.a=some (.EO ⟨62,28,62,70⟩ "least_named.<locals>.<lambda>")
 kZ:cb.xt D.pG.a=some (.EO ⟨67,32,67,67⟩ "unfolded.<locals>.<lambda>")
 ft:Y3 cb Yz
 iW:XC K mg cb "NoFraction" "NoFraction" D.zR.a
 uu:XC K mg cb "Loose" "Loose" D.Qz.a
 xt:WH K cb mt
 Pa:LJ K cb mt (.type "list") "list"
 K4:LJ K cb mt (.type "tuple") "tuple"
 Pb:LJ K cb mt (.type "bool") "bool"
 Up:LJ K cb mt (.type "int") "int"
set_option genInjectivity false in
structure Tx(K:W.Frag)(mg:Str->Option Value)(cb:Cb) extends Td K mg where
 p:Ty K mg cb toTd
section
variable{P:Program}{w:World}{K:W.Frag}{mg:Str->Option Value}{cb:Cb}{base:Heap}
def gq(M:Tx K mg cb):jj P w K mg base cb 1 M.fG.y.a M.fG.y.fd oW bJ:=by
 refine sf iw M.fG.y.f (λ as _ _=>⟨0,rfl⟩) (λ c cdv A outer s H E hcb hr g n=>?_);subst hcb;exact (ak (bQ (uw (aa 1) (gH M.p.iM (ai (aa 0) aA))) (aF (bq (aT (aa 0) (aa 1)))) bA)
  (aF (bq aD)))
def uY(M:Tx K mg cb):jj P w K mg base cb 1 M.lS.y.a M.lS.y.fd oV eo:=by
 refine sf iu M.lS.y.f (λ as _ _=>⟨0,rfl⟩) (λ c cdv A outer s H E hcb hr g n=>?_);subst hcb;have hu:=hr.units;exact (ak (DR (tm:=false) 2 (k:=1) (caps:=[1]) (N':=["_law_k","_law_many"]) g.nd rfl (λ B=>(gF M.p.fH (ai (aa 1) aA))) ⟨rfl,by decide+kernel,rfl,by decide+kernel,rfl,(rN (cz (ny rfl) fY))⟩ (by decide+kernel) (λ B C s₀ H₀ ex=>(aP 0 (by decide+kernel:(["_law_k","_law_many"]:List Str).Nodup))) (λ B C s₀ H₀ ex=>fJ) (λ B C s₀ H₀ ex=>(dF (Fg (bM (iX (ai aD aA))) (aa 1)))) (cg (by decide)))
  (ak (bQ (gG hu (aa 1) aD) (aF (jz 2)) bA)
  (ak (cK g (Fj M.p.fH (ai aD (ai (Ju rfl M.p.Bx (ai (gH M.p.iM (ai (aa 0) aA)) (ai aD aA))) aA))) (aP 3 g.nd) (ak (aR 4 g.nd (aT (aa 0) (aa 3)))
  (ak (aR 5 g.nd (dX (bZ (jA (aa 3) aD) (aa 1)) (aa 1)))
  (ak (aR 6 g.nd (dX (bZ (aa 4) aD) aD))
  (ak (bQ (sU (uv (gG hu (dX (aa 4) aD) aD) (xR (gG hu (dX (bZ (aa 4) aD) aD) aD)))) (aF (aR 6 g.nd (dX (bZ (aa 4) aD) (Fv aD aD)))) bA)
  (aF (nM (λ B=>(R7 (gk 2) (aa 5))) (λ B=>(dX (jA (aa 3) aD) (aa 1))) (λ B=>(aa 6)))))))))
  (aF (jz 2)))))
def Ec(M:Tx K mg cb):jj P w K mg base cb 2 M.xK.y.a M.xK.y.fd yF gX:=by
 refine sf iU M.xK.y.f (λ as _ _=>⟨0,rfl⟩) (λ c cdv A outer s H E hcb hr g n=>?_);subst hcb;have hu:=hr.units;exact (ak (aR 3 g.nd (bx (gq M) hr (ai (aa 0) (ai (i6 (aa 2) aD) aA))))
  (ak (bQ (sU (uv (z7 (aa 2) aD) (uv (z7 (aT (aT (aa 1) aD) (aa 2)) aD) (xR (gG hu (dX (aa 3) aD) aD))))) (aF (bq aD)) bA)
  (aF (bq (i6 aD (dX (aa 3) aD))))))
def jH(M:Tx K mg cb):jj P w K mg base cb 1 M.oM.y.a M.oM.y.fd uX dg:=by
 refine sf vN M.oM.y.f K8 (λ c cdv A outer s H E hcb hr g n=>?_);subst hcb;have hu:=hr.units;exact (ak (aR 2 g.nd (aa 0))
  (ak (aR 3 g.nd (aa 1))
  (ak (kX n g (fW hu (aa 3) aD) (aF (Jr 2 3 g.calm g.nd (ai (aa 3) (ai (dX (aa 2) (aa 3)) aA)))))
  (aF (bq (iZ (ai (bZ (aa 0) (aa 2)) (ai (bZ (aa 1) (aa 2)) aA))))))))
def sE(M:Tx K mg cb):jj P w K mg base cb 2 M.eg.y.a M.eg.y.fd mT eW:=by
 refine sf gy M.eg.y.f (λ as _ _=>⟨0,rfl⟩) (λ c cdv A outer s H E hcb hr g n=>?_);subst hcb;have hu:=hr.units;exact (ak (bQ (gG hu (dX (i6 (bZ (aa 0) aD) (aa 1)) aD) aD) (aF (bq (iZ (ai aD (ai aD aA))))) bA)
  (aF (bq (bx (jH M) hr (ai (dX (cH (cH (i6 (aa 0) (cH (aa 1) (aa 1))) aD) aD) (Fv aD aD)) (ai (i6 aD (dX (i6 (aa 0) (aa 1)) aD)) aA))))))
def Ea(M:Tx K mg cb):jj P w K mg base cb 3 M.xH.y.a M.xH.y.fd yD nG:=by
 refine sf rP M.xH.y.f (λ as _ _=>⟨0,rfl⟩) (λ c cdv A outer s H E hcb hr g n=>?_);subst hcb;have hu:=hr.units;exact (ak (aR 2 g.nd (bx (uY M) hr (ai (aa 0) (ai (aa 1) aA))))
  (ak (fO 3 g.nd (λ B=>(dF (iX aA))))
  (ak (cK g (gF M.p.fH (ai (aa 1) aA)) (aP 4 g.nd) (ak (fO 5 g.nd (λ B=>(dF (iX aA))))
  (ak (cK g (gF M.p.fH (ai (aa 1) aA)) (aP 6 g.nd) (ak (aR 7 g.nd (i6 (Js g.calm M.p.E8 (ai (bM (gE (tm:=false) (k:=1) (caps:=[6,2]) (N':=["_law_k","_law_j","_law_weights_here"]) (λ h=>nomatch h) rfl (gF M.p.fH (ai (aa 1) aA)) ⟨rfl,by decide+kernel,rfl,by decide+kernel,rfl,(rN (cz (ny rfl) (cz (ny rfl) fY)))⟩ (by decide+kernel) (λ C s₀ H₀ ex=>(aP 0 (by decide+kernel:(["_law_k","_law_j","_law_weights_here"]:List Str).Nodup))) (λ C s₀ H₀ ex=>fJ) (λ C s₀ H₀ ex=>(aT (aT (aa 2) (aa 0)) (aa 1))) (cg (by decide)))) aA)) (bx (Ec M) hr (ai (aa 0) (ai (aa 2) (ai (aa 6) aA))))))
  (aF (bQ (z7 (aT (aT (aa 2) (aa 4)) (aa 6)) aD) (aF (iY (λ B=>(gk 5)) (λ B=>(iZ (ai (aa 6) (ai (z9 (jH M) (hr.mono (by decide)) M.oM.m M.oM.y.f.kp M.oM.y.b (ai (aT (aT (aa 2) (aa 4)) (aa 6)) (ai (aa 7) aA))) aA)))))) bA))))
  (ak (bQ (gG hu (dX (bx (gq M) hr (ai (aa 0) (ai aD aA))) aD) aD) (aF (fO 5 g.nd (λ B=>(dF (qi g.calm M.p.nJ M.p.eY (ai (pP 5) aA)))))) bA)
  (aF (Fq 5 (iY (λ B=>(gk 3)) (λ B=>(iZ (ai (z9 (sE M) (hr.mono (by decide)) M.eg.m M.eg.y.f.kp M.eg.y.b (ai (z9 (gq M) (hr.mono (by decide)) M.fG.m M.fG.y.f.kp M.fG.y.b (ai (aa 0) (ai (i6 (aa 4) aD) aA))) (ai (aa 4) aA))) (ai (aa 5) aA)))))))))))
  (aF (jz 3)))))
def cy(M:Tx K mg cb):jj P w K mg base cb 1 M.eV.y.a M.eV.y.fd dY aK:=by
 refine sf d7 M.eV.y.f lI (λ c cdv A outer s H E hcb hr g n=>?_);subst hcb;have hu:=hr.units;exact (ak (aR 2 g.nd (FD M.p.By (ai (aa 0) aA)))
  (ak (aR 3 g.nd (FD M.p.By (ai (aa 1) aA)))
  (ak (kX n g (fW hu (aa 3) aD) (ak (aR 4 g.nd (dX (aa 2) (aa 3)))
  (ak (aR 2 g.nd (aa 3))
  (aF (aR 3 g.nd (aa 4))))))
  (aF (bq (aa 2))))))
def oX(M:Tx K mg cb):jj P w K mg base cb 2 M.oN.y.a M.oN.y.fd qL cZ:=by
 refine sf jg M.oN.y.f (λ as _ _=>⟨0,rfl⟩) (λ c cdv A outer s H E hcb hr g n=>?_);subst hcb;have hu:=hr.units;exact (ak (bQ (gG hu (aa 1) aD) (aF (sV g M.p.iW (ai Ft aA))) bA)
  (ak (aR 2 g.nd (bx (cy M) hr (ai (aa 0) (ai (aa 1) aA))))
  (ak (bQ (uw (aa 1) aD) (aF (aR 2 g.nd (z8 (aa 2)))) bA)
  (aF (bq (iZ (ai (bZ (aa 0) (aa 2)) (ai (bZ (aa 1) (aa 2)) aA))))))))
def GK(M:Tx K mg cb):jj P w K mg base cb 3 M.oJ.y.a M.oJ.y.fd Ca qg:=by refine sf vM M.oJ.y.f (λ as _ _=>⟨0,rfl⟩) (λ c cdv A outer s H E hcb hr g n=>?_);subst hcb;exact (aF (bq (bx (oX M) hr (ai (jA (cH (aT (aa 0) aD) (aT (aa 1) aD)) (cH (aT (aa 1) aD) (aT (aa 0) aD))) (ai (cH (aT (aa 0) aD) (aT (aa 1) aD)) aA)))))
def g7(M:Tx K mg cb):jj P w K mg base cb 2 M.gc.y.a M.gc.y.fd iQ cD:=by refine sf fE M.gc.y.f (λ as _ _=>⟨0,rfl⟩) (λ c cdv A outer s H E hcb hr g n=>?_);subst hcb;exact (aF (bq (cH (bZ (aa 0) (bx (cy M) hr (ai (aa 0) (ai (aa 1) aA)))) (aa 1))))
def qP(M:Tx K mg cb):jj P w K mg base cb 4 M.jk.y.a M.jk.y.fd kP bY:=by
 refine sf iI M.jk.y.f (λ as _ _=>⟨0,rfl⟩) (λ c cdv A outer s H E hcb hr g n=>?_);subst hcb;exact (ak (fO 3 g.nd (λ B=>(dF (M6 (bM (Fg (bM (iX (ai (xU M.MX.v M.MX.g) aA))) (aa 2))) (bM (iX (ai (aT (aa 1) aD) aA)))))))
  (ak (nM (λ B=>(gk 3)) (λ B=>(aa 0)) (λ B=>(xU M.Vj.v M.Vj.g)))
  (ak (cK g (cV (aT (aa 1) aD)) (gm rfl (bw (aP 4 g.nd) (bw (aP 5 g.nd) eB))) (aF (nM (λ B=>(gk 3)) (λ B=>(aa 4)) (λ B=>(Fw (GK M) (hr.mono (by decide)) M.oJ.m M.oJ.y.f.kp M.oJ.y.b (ai (aT (pP 3) (aa 4)) (ai (aa 5) aA)))))))
  (ak (aR 6 g.nd aD)
  (ak (Fq 3 (cK g (cV (aa 3)) (aP 7 g.nd) (aF (aR 6 g.nd (bx (g7 M) hr (ai (aa 6) (ai (aT (aa 7) aD) aA)))))))
  (aF (mq (λ B=>(dF (gE (tm:=false) (k:=1) (caps:=[6]) (N':=["part","bottom"]) (λ h=>nomatch h) rfl (cV (aa 3)) ⟨rfl,by decide+kernel,rfl,by decide+kernel,rfl,(rN (cz (ny rfl) fY))⟩ (by decide+kernel) (λ C s₀ H₀ ex=>(aP 0 (by decide+kernel:(["part","bottom"]:List Str).Nodup))) (λ C s₀ H₀ ex=>fJ) (λ C s₀ H₀ ex=>(cH (aT (aa 0) aD) (bZ (aa 1) (aT (aa 0) aD)))) (cg (by decide))))))))))))
def qM(M:Tx K mg cb):jj P w K mg base cb 1 M.jh.y.a M.jh.y.fd kL bI:=by refine sf iG M.jh.y.f (λ as _ _=>⟨0,rfl⟩) (λ c cdv A outer s H E hcb hr g n=>?_);subst hcb;have hu:=hr.units;exact (aF (bq (gH M.p.iM (ai (bM (gE (tm:=false) (k:=1) (caps:=[0]) (N':=["equation","number"]) (λ h=>nomatch h) rfl (cV (aa 1)) ⟨rfl,by decide+kernel,rfl,by decide+kernel,rfl,(rN (cz (ny rfl) fY))⟩ (by decide+kernel) (λ C s₀ H₀ ex=>(aP 0 (by decide+kernel:(["equation","number"]:List Str).Nodup))) (λ C s₀ H₀ ex=>(BB (fW hu (aT (aa 0) (aa 1)) aD))) (λ C s₀ H₀ ex=>aD) (cg (by decide)))) aA))))
def qN(M:Tx K mg cb):jj P w K mg base cb 4 M.gz.y.a M.gz.y.fd kM cQ:=by
 refine Zh fN M.gz.y.f (λ as _ _=>⟨0,rfl⟩) M.jT.c (λ c cdv A outer s H E hcb hcd hr g n=>?_);subst hcb;have hu:=hr.units;exact (ak (mj 2 (k:=1) (caps:=[0]) (N':=["number","equation"]) g.nd rfl (gF M.p.fH (ai (jA (gH M.p.iM (ai (aa 0) aA)) aD) aA)) ⟨rfl,by decide+kernel,rfl,by decide+kernel,rfl,(rN (cz (ny rfl) fY))⟩ (by decide+kernel) (λ C s₀ H₀ ex=>(aP 0 (by decide+kernel:(["number","equation"]:List Str).Nodup))) (λ C s₀ H₀ ex=>(BB (fW hu (aT (aa 1) (aa 0)) aD))) (λ C s₀ H₀ ex=>(aa 0)) (cg (by decide)))
  (ak (bQ (gG hu (aa 2) (bM (iX aA))) (aF (sV g M.p.uu (ai Ft aA))) bA)
  (aF (bq (Jt (Mp (k:=1) (caps:=[1]) (N':=["number","others"]) hcd M.p.bm M.p.iz hr (λ f c' A s H hr=>(bx (qM M) hr (ai (aa 0) (ai (aa 1) aA)))) ⟨rfl,rfl,rfl,rfl,rfl,rfl,by decide+kernel,JG rfl rfl rfl⟩) M.p.Bx (ai (aa 2) aA))))))
def D9(M:Tx K mg cb):jj P w K mg base cb 2 M.kc.y.a M.kc.y.fd yC dJ:=by
 refine sf jR M.kc.y.f (λ as _ _=>⟨0,rfl⟩) (λ c cdv A outer s H E hcb hr g n=>?_);subst hcb;have hu:=hr.units;exact (ak (aR 1 g.nd aD)
  (ak (cK g (cV (aa 0)) (aP 2 g.nd) (ak (bQ (gG hu (aa 1) aD) (aF (bq (aa 0))) bA)
  (aF (aR 1 g.nd (bx (cy M) hr (ai (aa 2) (ai (aa 1) aA)))))))
  (ak (bQ (gG hu (aa 1) aD) (aF (bq (aa 0))) bA)
  (aF (mq (λ B=>(dF (gE (tm:=false) (k:=1) (caps:=[1]) (N':=["part","divisor"]) (λ h=>nomatch h) rfl (cV (aa 0)) ⟨rfl,by decide+kernel,rfl,by decide+kernel,rfl,(rN (cz (ny rfl) fY))⟩ (by decide+kernel) (λ C s₀ H₀ ex=>(aP 0 (by decide+kernel:(["part","divisor"]:List Str).Nodup))) (λ C s₀ H₀ ex=>fJ) (λ C s₀ H₀ ex=>(bZ (aa 0) (aa 1))) (cg (by decide))))))))))
def AG(M:Tx K mg cb):jj P w K mg base cb 3 M.rW.y.a M.rW.y.fd tM cP:=by
 refine sf j4 M.rW.y.f (λ as _ _=>⟨0,rfl⟩) (λ c cdv A outer s H E hcb hr g n=>?_);subst hcb;have hu:=hr.units;exact (ak (bQ (gG hu (aT (aa 1) (aa 0)) aD) (aF (bq (aa 1))) bA)
  (ak (aR 3 g.nd (bx (cy M) hr (ai (aT (aa 1) (aa 0)) (ai (aT (aa 2) (aa 0)) aA))))
  (ak (aR 4 g.nd (bZ (aT (aa 2) (aa 0)) (aa 3)))
  (ak (aR 5 g.nd (bZ (aT (aa 1) (aa 0)) (aa 3)))
  (aF (mq (λ B=>(Fe (D9 M) (hr.mono (by decide)) M.kc.m M.kc.y.f.kp M.kc.y.b (ai (bM (gE (tm:=false) (k:=2) (caps:=[4,5]) (N':=["one","other","keep","take"]) (λ h=>nomatch h) rfl (Jo M.p.E7 (ai (aa 1) (ai (aa 2) aA))) ⟨rfl,by decide+kernel,rfl,by decide+kernel,rfl,(rN (cz (ny rfl) (cz (ny rfl) fY)))⟩ (by decide+kernel) (λ C s₀ H₀ ex=>(gm rfl (bw (aP 0 (by decide+kernel:(["one","other","keep","take"]:List Str).Nodup)) (bw (aP 1 (by decide+kernel:(["one","other","keep","take"]:List Str).Nodup)) eB)))) (λ C s₀ H₀ ex=>fJ) (λ C s₀ H₀ ex=>(jA (cH (aa 2) (aa 0)) (cH (aa 3) (aa 1)))) (uH (gZ (cg (by decide)) (gZ (cg (by decide)) uI))))) aA)))))))))
def yI(M:Tx K mg cb):jj P w K mg base cb 5 M.j5.y.a M.j5.y.fd lz cY:=by
 refine Zh gW M.j5.y.f A1 M.pG.c (λ c cdv A outer s H E hcb hcd hr g n=>?_);subst hcb;have hu:=hr.units;exact (ak (fO 1 g.nd (λ B=>(dF (iX aA))))
  (ak (aR 2 g.nd (aa 0))
  (ak (kX n g (fW hu (aa 2) (bM (iX aA))) (ak (aR 2 g.nd (bM (Ff (Mp (k:=0) (caps:=[]) (N':=["equation"]) hcd M.p.bm M.p.kZ hr (λ f c' A s H hr=>(z8 (FA (aa 0) aD))) ⟨rfl,rfl,rfl,rfl,rfl,rfl,by decide+kernel,JH⟩) M.p.qh (ai (aa 2) aA))))
  (ak (aR 3 g.nd (aT (aa 2) aD))
  (ak (aR 4 g.nd (bx (qN M) hr (ai (aa 3) (ai (bM (Fi (aa 2) (xS aD) xT)) aA))))
  (ak (mj 2 (k:=1) (caps:=[4,3]) (N':=["equation","number","first"]) g.nd rfl (cV (bM (Fi (aa 2) (xS aD) xT))) ⟨rfl,by decide+kernel,rfl,by decide+kernel,rfl,(rN (cz (ny rfl) (cz (ny rfl) fY)))⟩ (by decide+kernel) (λ C s₀ H₀ ex=>(aP 0 (by decide+kernel:(["equation","number","first"]:List Str).Nodup))) (λ C s₀ H₀ ex=>fJ) (λ C s₀ H₀ ex=>(bx (AG M) hr (ai (aa 1) (ai (aa 0) (ai (aa 2) aA))))) (cg (by decide)))
  (aF (iY (λ B=>(gk 1)) (λ B=>(iZ (ai (aa 4) (ai (aa 3) aA)))))))))))
  (aF (jz 1)))))
def yH(M:Tx K mg cb):jj P w K mg base cb 3 M.oH.y.a M.oH.y.fd qJ jl:=by
 refine sf lO M.oH.y.f (λ as _ _=>⟨0,rfl⟩) (λ c cdv A outer s H E hcb hr g n=>?_);subst hcb;have hu:=hr.units;exact (ak (aR 3 g.nd (aT (aa 1) (z8 aD)))
  (ak (aR 4 g.nd aD)
  (ak (cK g (DO (aa 2)) (gm rfl (bw (aP 5 g.nd) (bw (aP 6 g.nd) eB))) (aF (bQ (fW hu (aT (aa 1) (aa 5)) aD) (ak (aR 7 g.nd (bx (g7 M) hr (ai (aa 4) (ai (aT (aa 6) aD) aA))))
  (ak (aR 3 g.nd (jA (cH (aa 3) (bZ (aa 7) (aa 4))) (cH (cH (aT (aa 1) (aa 5)) (aT (aa 6) aD)) (bZ (aa 7) (aT (aa 6) aD)))))
  (aF (aR 4 g.nd (aa 7))))) bA)))
  (aF (bq (bx (oX M) hr (ai (aa 3) (ai (cH (aa 4) (aT (aa 1) (aa 0))) aA))))))))
def nX(M:Tx K mg cb):jj P w K mg base cb 6 M.j9.y.a M.j9.y.fd yz dI:=by
 refine sf nA M.j9.y.f (λ as _ _=>⟨0,rfl⟩) (λ c cdv A outer s H E hcb hr g n=>?_);subst hcb;have hu1:=hU1 hr.units;exact (ak (mj 1 (k:=2) (caps:=[0]) (N':=["number","row","rows"]) g.nd rfl (DP M.p.jy (ai (aa 0) aA)) ⟨rfl,by decide+kernel,rfl,by decide+kernel,rfl,(rN (cz (ny rfl) fY))⟩ (by decide+kernel) (λ C s₀ H₀ ex=>(gm rfl (bw (aP 0 (by decide+kernel:(["number","row","rows"]:List Str).Nodup)) (bw (aP 1 (by decide+kernel:(["number","row","rows"]:List Str).Nodup)) eB)))) (λ C s₀ H₀ ex=>fJ) (λ C s₀ H₀ ex=>(bx (qP M) hr (ai (aa 0) (ai (aa 1) (ai (gH M.p.iM (ai (aa 2) aA)) aA))))) (uH (gZ (cg (by decide)) (gZ (cg (by decide)) uI))))
  (ak (fO 2 g.nd (λ B=>Jl))
  (ak (cK g (BC M.p.eY (ai (bx (yI M) hr (ai (aa 1) aA)) aA)) (gm rfl (bw (aP 3 g.nd) (bw (aP 4 g.nd) eB))) (aF (Fl hu1 (λ B=>(gk 2)) (λ B=>(aa 3)) (bx (yH M) hr (ai (aa 3) (ai (aa 4) (ai (aa 2) aA)))))))
  (aF (mq (λ B=>(dF (gE (tm:=true) (k:=1) (caps:=[2]) (N':=["number","values"]) (λ _=>rfl) rfl (gF M.p.fH (ai (gH M.p.iM (ai (aa 0) aA)) aA)) ⟨rfl,by decide+kernel,rfl,by decide+kernel,rfl,(rN (cz (ny rfl) fY))⟩ (by decide+kernel) (λ C s₀ H₀ ex=>(aP 0 (by decide+kernel:(["number","values"]:List Str).Nodup))) (λ C s₀ H₀ ex=>fJ) (λ C s₀ H₀ ex=>(M9 hu1 (aa 1) (aa 0))) (cg (by decide))))))))))
def qO(M:Tx K mg cb):jj P w K mg base cb 1 M.rX.y.a M.rX.y.fd tN iV:=by refine sf oA M.rX.y.f (λ as _ _=>⟨0,rfl⟩) (λ c cdv A outer s H E hcb hr g n=>?_);subst hcb;exact (aF (bq (Na (uz M.p.c6 M.p.xt M.p.Up (p7 M.p.E9 Qi (by decide)) (aa 0)) (M7 (M8 (uz M.p.c6 M.p.xt M.p.Pb (p7 M.p.z5 Lq (by decide)) (aa 0)))))))
def Eb(M:Tx K mg cb):jj P w K mg base cb 2 M.xJ.y.a M.xJ.y.fd yE nH:=by refine sf rQ M.xJ.y.f (λ as _ _=>⟨0,rfl⟩) (λ c cdv A outer s H E hcb hr g n=>?_);subst hcb;exact (aF (bq (bx (jH M) hr (ai (i6 (cH (aT (aa 0) aD) (aT (aa 1) aD)) (cH (aT (aa 1) aD) (aT (aa 0) aD))) (ai (cH (aT (aa 0) aD) (aT (aa 1) aD)) aA)))))
def jI(M:Tx K mg cb):jj P w K mg base cb 3 M.dc.y.a M.dc.y.fd kO dM:=by
 refine sf iH M.dc.y.f (λ as _ _=>⟨0,rfl⟩) (λ c cdv A outer s H E hcb hr g n=>?_);subst hcb;have hu:=hr.units;exact (ak (bQ (sU (kW (mh (lZ (uz M.p.c6 M.p.xt M.p.Pa (p7 M.p.nJ Lp (by decide)) (aa 1)))) (pO (fW hu (gH M.p.iM (ai (aa 1) aA)) (gH M.p.iM (ai (aa 0) aA)))))) (aF (bq qj)) bA)
  (ak (cK g (cV (aa 1)) (aP 2 g.nd) (ak (bQ (sU (kW (mh (lZ (uz M.p.c6 M.p.xt M.p.K4 (p7 M.p.ur Iq (by decide)) (aa 2)))) (kW (fW hu (gH M.p.iM (ai (aa 2) aA)) aD) (kW (mh (lZ (bx (qO M) hr (ai (aT (aa 2) aD) aA)))) (pO (mh (lZ (bx (qO M) hr (ai (aT (aa 2) aD) aA))))))))) (aF (bq qj)) bA)
  (aF (bQ (sU (kW (uw (aT (aa 2) aD) aD) (kW (uw (aT (aa 2) aD) aD) (pO (fW hu (bx (jH M) hr (ai (aT (aa 2) aD) (ai (aT (aa 2) aD) aA))) (aa 2)))))) (aF (bq qj)) bA))))
  (ak (cK g (gF M.p.fH (ai (gH M.p.iM (ai (aa 0) aA)) aA)) (aP 3 g.nd) (ak (aR 4 g.nd (aT (aT (aa 0) (aa 3)) aD))
  (ak (cK g (cV (aT (aT (aa 0) (aa 3)) aD)) (gm rfl (bw (aP 5 g.nd) (bw (aP 6 g.nd) eB))) (aF (aR 4 g.nd (bx (Eb M) hr (ai (aa 4) (ai (bx (jH M) hr (ai (cH (aT (aa 6) aD) (aT (aT (aa 1) (aa 5)) aD)) (ai (cH (aT (aa 6) aD) (aT (aT (aa 1) (aa 5)) aD)) aA))) aA))))))
  (aF (bQ (fW hu (aa 4) (aT (aa 1) (aa 3))) (aF (bq qj)) bA)))))
  (aF (bq qj)))))
def yJ(M:Tx K mg cb):jj P w K mg base cb 1 M.oK.y.a M.oK.y.fd qK jm:=by
 refine sf lP M.oK.y.f (λ as _ _=>⟨0,rfl⟩) (λ c cdv A outer s H E hcb hr g n=>?_);subst hcb;exact (ak (aR 1 g.nd (jA (gH M.p.iM (ai (aa 0) aA)) aD))
  (ak (fO 2 g.nd (λ B=>(dF (iX aA))))
  (ak (cK g (BC M.p.eY (ai (aa 0) aA)) (gm rfl (bw (aP 3 g.nd) (bw (aP 4 g.nd) eB))) (aF (iY (λ B=>(gk 2)) (λ B=>(iZ (ai (aa 3) (ai (bM (gE (tm:=false) (k:=2) (caps:=[1]) (N':=["_law_number","_law_share","_law_last"]) (λ h=>nomatch h) rfl (cV (aa 4)) ⟨rfl,by decide+kernel,rfl,by decide+kernel,rfl,(rN (cz (ny rfl) fY))⟩ (by decide+kernel) (λ C s₀ H₀ ex=>(gm rfl (bw (aP 0 (by decide+kernel:(["_law_number","_law_share","_law_last"]:List Str).Nodup)) (bw (aP 1 (by decide+kernel:(["_law_number","_law_share","_law_last"]:List Str).Nodup)) eB)))) (λ C s₀ H₀ ex=>fJ) (λ C s₀ H₀ ex=>(iZ (ai (jA (aa 2) (aa 0)) (ai (aa 1) aA)))) (uH (gZ (cg (by decide)) (gZ (cg (by decide)) uI))))) aA)))))))
  (aF (jz 2)))))
def OB(M:Tx K mg cb):jj P w K mg base cb 7 M.QE.y.a M.QE.y.fd Mf nF:=by
 refine sf Iw M.QE.y.f (λ as _ _=>⟨0,rfl⟩) (λ c cdv A outer s H E hcb hr g n=>?_);subst hcb;have hu:=hr.units;exact (ak (aR 1 g.nd (dX (bx (gq M) hr (ai (aa 0) (ai aD aA))) aD))
  (ak (aR 2 g.nd (bx (Ea M) hr (ai (aa 0) (ai (aa 1) aA))))
  (ak (mj 3 (k:=2) (caps:=[]) (N':=["_law_constant_here","_law_terms"]) g.nd rfl (cV (aa 2)) ⟨rfl,by decide+kernel,rfl,by decide+kernel,rfl,(λ i c y h=>by simp at h)⟩ (by decide+kernel) (λ C s₀ H₀ ex=>(gm rfl (bw (aP 0 (by decide+kernel:(["_law_constant_here","_law_terms"]:List Str).Nodup)) (bw (aP 1 (by decide+kernel:(["_law_constant_here","_law_terms"]:List Str).Nodup)) eB)))) (λ C s₀ H₀ ex=>fJ) (λ C s₀ H₀ ex=>(iZ (ai (aa 0) (ai (bM (Jm M.p.nJ (ai (aa 1) aA))) aA)))) (uH (gZ (cg (by decide)) (gZ (cg (by decide)) uI))))
  (ak (fO 4 g.nd (λ B=>(Fe (nX M) (hr.mono (by decide)) M.j9.m M.j9.y.f.kp M.j9.y.b (ai (aa 3) aA))))
  (ak (Fo (λ B=>(sU (kW (mh (lZ (Fw (jI M) (hr.mono (by decide)) M.dc.m M.dc.y.f.kp M.dc.y.b (ai (aa 2) (ai (pP 4) aA))))) (pO (fW hu (aa 3) (aa 2)))))) (aF (bq qj)) bA)
  (ak (aR 5 g.nd (bx (nX M) hr (ai (bx (yJ M) hr (ai (aa 2) aA)) aA)))
  (ak (Fo (λ B=>(fW hu (aa 5) (bM (qi g.calm M.p.nJ M.p.eY (ai (pP 4) aA))))) (aF (bq qj)) bA)
  (ak (DS (λ B=>(gk 4)))
  (aF (bq (bx (jI M) hr (ai (aa 2) (ai (bx (nX M) hr (ai (aa 2) aA)) aA)))))))))))))
end
def all_mk{P:Program}{w:World}{K:W.Frag}{h:Heap}{mg:Str->Option Value}{fa:Addr}(X:K.In h)(G:h.Ns mainGlobals mg)(hfa:mg "law"=some (.ref fa)) (m7:W.nsIn K mainGlobals "NoFraction"=some (some (.ref dh))) (CN:W.nsIn K mainGlobals "Loose"=some (some (.ref ki))) (zN:Gx K "_law_cell_at" oS MB) (zM:Gx K "_law_weights" oR MA) (IL:Gx K "_law_left" yk UH) (Lz:Gx K "_law_low" BU Wi) (vQ:Gx K "_law_constant" mH Le) (IJ:Gx K "_law_rows" yi UE) (lQ:Gx K "greatest_divisor" gJ A5) (Bs:Gx K "fraction" qy PN) (Ly:Gx K "minus" BS Wh) (oB:Gx K "least_multiple" iO EJ) (sP:Gx K "equation_of" kJ Jf) (sN:Gx K "times_named" kG Jc) (kR:Gx K "least_named" kH sL) (IG:Gx K "lowest" yh UC) (EX:Gx K "without" tE RH) (rS:Gx K "unfolded" qw A4) (Bp:Gx K "value_of" qu PJ) (IF:Gx K "solved" yg UB) (EY:Gx K "_law_whole" tF RJ) (IK:Gx K "_law_plus" yj UG) (sO:Gx K "_law_fulfilled" kI Je) (Br:Gx K "_law_turned" qx PK) (II:Gx K "law" L0 UD) (By:W.nsIn K mainGlobals "abs"=some none) (z5:W.nsIn K mainGlobals "bool"=some none) (jy:W.nsIn K mainGlobals "enumerate"=some none) (E9:W.nsIn K mainGlobals "int"=some none) (c6:W.nsIn K mainGlobals "isinstance"=some none) (iM:W.nsIn K mainGlobals "len"=some none) (nJ:W.nsIn K mainGlobals "list"=some none) (Bx:W.nsIn K mainGlobals "min"=some none) (fH:W.nsIn K mainGlobals "range"=some none) (eY:W.nsIn K mainGlobals "reversed"=some none) (qh:W.nsIn K mainGlobals "sorted"=some none) (E8:W.nsIn K mainGlobals "sum"=some none) (ur:W.nsIn K mainGlobals "tuple"=some none) (E7:W.nsIn K mainGlobals "zip"=some none) (Pu:W.nsIn K mainGlobals "ONE"=some (some (.ref DM))) (Hv:K.lookup DM=some ⟨.type "tuple",OD,.seq [.int 1 VC,.int 1 VB].toArray OJ,Ny⟩) (Lc:W.nsIn K mainGlobals "ZERO"=some (some (.ref zU))) (Er:K.lookup zU=some ⟨.type "tuple",Mh,.seq [.int 0 Sl,.int 1 Sk].toArray Mm,LY⟩) (iz:tabIn K sL cO=true) (kZ:tabIn K A4 fF=true) (iN:fF≠cO) (bm:Qk K=true) (iW:W.excIn K dh Ir "ValueError.__new__"=true) (se:XT K dh) (uu:W.excIn K ki Ir "ValueError.__new__"=true) (Fd:XT K ki) (ik:isAll K mt [("NoFraction",dh),("Loose",ki)] ([]:rY) [(.type "list","list"),(.type "tuple","tuple"),(.type "bool","bool"),(.type "int","int")]=true):
  ∃(cb:Cb) (fd:FuncData),cb.xt=(E1 [(cO,⟨62,28,62,70⟩,"least_named.<locals>.<lambda>"),(fF,⟨67,32,67,67⟩,"unfolded.<locals>.<lambda>")])/\(∀(s:Shared) (u:Value),BindsTo s fd ⟨[u],[]⟩ [("_law_script",u)])/\∀base:Heap,jj P w K mg base cb 7 fa fd ["_law_script"] nF:=by
 have e:fa=UD:=Value.ref.inj (Option.some.inj (hfa.symm.trans (W.mg_of X G II.s)));rw[e];obtain ⟨_,nF⟩:=id II.e;obtain ⟨_,_,_,_,_,_,_,_,_,rfl,_,_⟩:=id nF.ex;let M:Tx K mg (Ln [("NoFraction",dh),("Loose",ki)] ([]:rY) (E1 [(cO,⟨62,28,62,70⟩,"least_named.<locals>.<lambda>"),(fF,⟨67,32,67,67⟩,"unfolded.<locals>.<lambda>")])):=⟨⟨pY X G zN nD,pY X G zM nD,pY X G IL Lu,pY X G Lz nD,pY X G vQ nD,pY X G IJ nD,pY X G lQ nD,pY X G Bs nD,pY X G Ly nD,pY X G oB nD,pY X G sP Lu,pY X G sN nD,pY X G kR nD,pY X G IG Bm,pY X G EX Lu,pY X G rS Bm,pY X G Bp Lu,pY X G IF Bm,pY X G EY Bm,pY X G IK nD,pY X G sO nD,pY X G Br Bm,⟨⟨_,_,nF,nF.binds Bm⟩,W.mg_of X G II.s⟩,⟨.ref DM,W.mg_of X G Pu,(CC Hv (by simp) (jZ pZ (jZ pZ zh)))⟩,⟨.ref zU,W.mg_of X G Lc,(CC Er (by simp) (jZ pZ (jZ pZ zh)))⟩,⟨_,W.mg_of X G m7⟩,⟨_,W.mg_of X G CN⟩,⟨cO,yc (pY X G kR nD).y.f iz⟩,⟨fF,yc (pY X G rS Bm).y.f kZ⟩⟩,⟨W.mg_none_of X G By,W.mg_none_of X G z5,W.mg_none_of X G jy,W.mg_none_of X G E9,W.mg_none_of X G c6,W.mg_none_of X G iM,W.mg_none_of X G nJ,W.mg_none_of X G Bx,W.mg_none_of X G fH,W.mg_none_of X G eY,W.mg_none_of X G qh,W.mg_none_of X G E8,W.mg_none_of X G ur,W.mg_none_of X G E7,Lr X G bm,RX,WR iN RX,λ c C full h=>(nomatch h),⟨W.mg_of X G m7,iW,rfl⟩,⟨W.mg_of X G CN,uu,rfl⟩,⟨λ c C hc _=>PX (E:=[("NoFraction",dh),("Loose",ki)]) (P:=λ _ C=>XT K C) (cz se (cz Fd fY)) hc,λ c C ns h=>(nomatch h)⟩,Cz ik (vg 0 rfl),Cz ik (vg 1 rfl),Cz ik (vg 2 rfl),Cz ik (vg 3 rfl)⟩⟩
 refine ⟨(Ln [("NoFraction",dh),("Loose",ki)] ([]:rY) (E1 [(cO,⟨62,28,62,70⟩,"least_named.<locals>.<lambda>"),(fF,⟨67,32,67,67⟩,"unfolded.<locals>.<lambda>")])),_,rfl,?_,λ base=>OB M⟩;exact λ s v=> .of_eq rfl
end Vq
end
open PySem PySem.W PyProof.Rows
theorem PySem.Challenge.cw_beamtable_k28_rows_solved_holds : PySem.Challenge.rw_beamtable_k28_rows_solved.Holds := by
 refine KO.looked λ said=>?_
 refine W.holds_openX (q:=W.view PySem.Challenge.pw_beamtable_k28_rows_solved [31]) (loose:=KO.LZ) (Xt:=λ _=>true) (XP:=λ _ _=>True) (Yf:=W.X.obsZ KO.AF)
  (Ya:=W.X.valZ KO.KF 193 431) (N:=2798) KO.hl (λ _ _=>trivial) (λ _ _ _ _ _=>trivial) (by rfl) (by rfl) (by rfl)
  (λ _ _=>W.recFacts_nil rfl) (by rfl) said (by decide+kernel) ⟨rfl,rfl,rfl,rfl,rfl,by decide+kernel⟩ ?hw ?hc
 case hw=>w_witness2
 k_fill
 refine L4.Jv (KG:=KO.KG) (ZX:=λ _=>by kernel_rfl) (l:=PySem.Challenge.rw_beamtable_k28_rows_solved) (k:=7) [(103,⟨62,28,62,70⟩,"least_named.<locals>.<lambda>"),(108,⟨67,32,67,67⟩,"unfolded.<locals>.<lambda>")] [(105,103),(110,108)] rfl rfl (by decide) (by decide) (λ _=>by kernel_rfl) (λ _=>by kernel_rfl) rfl ?F Vq.Hr
 case F=>
  k_fill
  intro w mg fa h KX G hmg
  apply Vq.all_mk (cO:=103) (fF:=108) KX G hmg
  any_goals first|k_is|kernel_rfl|decide|exact ⟨by k_is,_,L2.HN (by k_is) (by k_is) (by k_is)⟩|exact ⟨by k_is,⟨_,L2.HN (by k_is) (by k_is) (by k_is)⟩,by kernel_rfl⟩|(constructor<;>first|k_is|kernel_rfl|(constructor<;>first|k_is|kernel_rfl))
