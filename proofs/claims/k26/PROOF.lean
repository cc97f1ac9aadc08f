import PyProof.Rows.All
import Wide.All
import OpenK.AllK
import Wide.FinOn
import Lean
import PyProof.EqAt
import PyProof.EqKinds
import PyProof.TupleCall
import PyProof.P3Statements
import PyProof.NoPylong
import PySem.Builtin.Int.W1All
import PyProof.StrBlockI
import KE.KSortTup
import PyProof.EnumMake
import PyProof.Draws
import KE.KSortAsk
import KE.KItemsList
import PySem.Challenge.RW_beamtable_k26_joined_scaled
set_option Elab.async false
set_option linter.all false
section
set_option maxRecDepth 100000
set_option maxHeartbeats 0
theorem KO.looked (h : PySem.Challenge.rw_beamtable_k26_joined_scaled.row.wellSaid = true → PySem.Challenge.rw_beamtable_k26_joined_scaled.row.Holds) : PySem.Challenge.rw_beamtable_k26_joined_scaled.Holds := by
  w_on; o_law
  exact h (by assumption)
namespace KO
open PySem PySem.W PySem.Calls
noncomputable abbrev pq : Program := PySem.W.Fast.tw10829039203480194453
noncomputable def bE : List Stmt := behindTheImports pq
noncomputable def g0 (l : List Stmt) (i : Nat) : Stmt := (List.drop i l).headD (.Pass ⟨0, 0, 0, 0⟩)
noncomputable def g1 (i : Nat) : Stmt := g0 pq.main.body i
noncomputable def gb : Stmt → List Stmt | .ClassDef _ _ _ b _ _ _ _ _ _ _ => b | .FunctionDef _ _ b _ _ _ _ _ _ _ => b | _ => []
noncomputable def g2 (i j : Nat) : Stmt := g0 (gb (g1 i)) j
noncomputable def fo (s : Stmt) (q : Str) (g : Addr) (cl : List (Str × Addr)) (d kd doc md : Value) (an : Option Addr) (code ct : Value) (b : Addr) : Data := match s with | .FunctionDef n a bd _ _ _ sc _ _ _ => .func ⟨n, q, a, .stmts bd, sc, g, cl, d, kd, doc, md, an, code, ct, b⟩ | _ => .plain
noncomputable def e (P : Params) (s : Str) (t : Nat) (v : Value) : DictEntry := ⟨PySem.PyData.keyHash P s, .str s t, v⟩
noncomputable def ud (o : Obj) (ch : List (Nat × DictEntry)) (m : List DictEntry) (n : Nat) : Obj := match o with | ⟨c, d, .dict es _, s⟩ => ⟨c, d, .dict ⟨(ch.foldl (fun l p => l.set p.1 p.2) es.toList) ++ m⟩ n, s⟩ | o => o
noncomputable abbrev r (a : Nat) : Value := .ref a
noncomputable abbrev z : Value := .int 0 0
noncomputable abbrev v : Value := .none
noncomputable abbrev s (x : Str) (t : Nat) : Value := .str x t
noncomputable abbrev y (x : String) : Value := .type x
noncomputable abbrev F (c : Value) (xs : Array Value) : Obj := ⟨c, none, .fields xs, #[]⟩
noncomputable abbrev Q (c : Value) (xs : Array Value) : Obj := ⟨c, none, .seq xs 0, #[]⟩
noncomputable abbrev lf : Life := ⟨[], [], [], 0, [], [], false, #[], [], 0, false, false, false, 0, [2000, 10, 10], false, 0, true, [], [], 0, false⟩
noncomputable abbrev I := BT.ins
noncomputable def x0 : Str := ⟨⟨[60,109,111,100,117,108,101,62]⟩⟩
noncomputable def x1 : Str := ⟨⟨[47,99,108,97,105,109,47,99,117,116,46,112,121]⟩⟩
noncomputable def x2 : Str := ⟨⟨[95,95,109,97,105,110,95,95]⟩⟩
noncomputable def x3 : Str := ⟨⟨[95,95,110,97,109,101,95,95]⟩⟩
noncomputable def x4 : Str := ⟨⟨[98,101,97,109,116,97,98,108,101,46,101,114,114,111,114,115]⟩⟩
noncomputable def x5 : Str := ⟨⟨[66,101,97,109,69,114,114,111,114]⟩⟩
noncomputable def x6 : Str := ⟨⟨[95,95,109,111,100,117,108,101,95,95]⟩⟩
noncomputable def x7 : Str := ⟨⟨[95,95,113,117,97,108,110,97,109,101,95,95]⟩⟩
noncomputable def x8 : Str := ⟨⟨[95,95,102,105,114,115,116,108,105,110,101,110,111,95,95]⟩⟩
noncomputable def x9 : Str := ⟨⟨[95,95,115,116,97,116,105,99,95,97,116,116,114,105,98,117,116,101,115,95,95]⟩⟩
noncomputable def x10 : Str := ⟨⟨[95,95,119,101,97,107,114,101,102,95,95]⟩⟩
noncomputable def x11 : Str := ⟨⟨[95,95,100,111,99,95,95]⟩⟩
noncomputable def x12 : Str := ⟨⟨[78,111,70,114,97,99,116,105,111,110]⟩⟩
noncomputable def x13 : Str := ⟨⟨[78,111,80,97,115,115]⟩⟩
noncomputable def x14 : Str := ⟨⟨[98,101,97,109,116,97,98,108,101,46,102,108,111,119,115]⟩⟩
noncomputable def x15 : Str := ⟨⟨[78,111,83,116,114,101,110,103,116,104]⟩⟩
noncomputable def x16 : Str := ⟨⟨[90,69,82,79]⟩⟩
noncomputable def x17 : Str := ⟨⟨[103,114,101,97,116,101,115,116,95,100,105,118,105,115,111,114]⟩⟩
noncomputable def x18 : Str := ⟨⟨[102,114,97,99,116,105,111,110]⟩⟩
noncomputable def x19 : Str := ⟨⟨[112,108,117,115]⟩⟩
noncomputable def x20 : Str := ⟨⟨[116,105,109,101,115]⟩⟩
noncomputable def x21 : Str := ⟨⟨[117,110,100,101,114]⟩⟩
noncomputable def x22 : Str := ⟨⟨[111,110,101]⟩⟩
noncomputable def x23 : Str := ⟨⟨[111,116,104,101,114]⟩⟩
noncomputable def x24 : Str := ⟨⟨[108,97,114,103,101,114]⟩⟩
noncomputable def x25 : Str := ⟨⟨[115,109,97,108,108,101,114]⟩⟩
noncomputable def x26 : Str := ⟨⟨[114,101,115,116]⟩⟩
noncomputable def x27 : Str := ⟨⟨[98,101,97,109,116,97,98,108,101,46,114,97,116,105,111,115]⟩⟩
noncomputable def x28 : Str := ⟨⟨[116,111,112]⟩⟩
noncomputable def x29 : Str := ⟨⟨[98,111,116,116,111,109]⟩⟩
noncomputable def x30 : Str := ⟨⟨[100,105,118,105,115,111,114]⟩⟩
noncomputable def x31 : Str := ⟨⟨[108,97,119,95,98,101,97,109,116,97,98,108,101,95,107,50,54,95,106,111,105,110,101,100,95,115,99,97,108,101,100]⟩⟩
noncomputable def x32 : Str := ⟨⟨[99,104,101,99,107,95,115,116,114,101,110,103,116,104]⟩⟩
noncomputable def x33 : Str := ⟨⟨[103,97,116,104,101,114,101,100]⟩⟩
noncomputable def x34 : Str := ⟨⟨[115,117,109,95,111,102]⟩⟩
noncomputable def x35 : Str := ⟨⟨[106,111,105,110,101,100]⟩⟩
noncomputable def x36 : Str := ⟨⟨[115,99,97,108,101,100]⟩⟩
noncomputable def x37 : Str := ⟨⟨[95,108,97,119,95,99,101,108,108,95,97,116]⟩⟩
noncomputable def x38 : Str := ⟨⟨[95,108,97,119,95,108,111,119]⟩⟩
noncomputable def x39 : Str := ⟨⟨[95,108,97,119,95,112,108,117,115]⟩⟩
noncomputable def x40 : Str := ⟨⟨[95,108,97,119,95,115,116,114,101,110,103,116,104]⟩⟩
noncomputable def x41 : Str := ⟨⟨[95,108,97,119,95,112,97,115,115]⟩⟩
noncomputable def x42 : Str := ⟨⟨[95,108,97,119,95,108,105,103,104,116]⟩⟩
noncomputable def x43 : Str := ⟨⟨[95,108,97,119,95,98,111,116,104]⟩⟩
noncomputable def x44 : Str := ⟨⟨[95,108,97,119,95,114,101,102,117,115,101,100]⟩⟩
noncomputable def x45 : Str := ⟨⟨[115,116,114,101,110,103,116,104]⟩⟩
noncomputable def x46 : Str := ⟨⟨[112,97,105,114,115]⟩⟩
noncomputable def x47 : Str := ⟨⟨[115,116,114,101,110,103,116,104,115]⟩⟩
noncomputable def x48 : Str := ⟨⟨[112]⟩⟩
noncomputable def x49 : Str := ⟨⟨[108,105,103,104,116]⟩⟩
noncomputable def x50 : Str := ⟨⟨[119,104,111,108,101]⟩⟩
noncomputable def x51 : Str := ⟨⟨[95,108,97,119,95,115,99,114,105,112,116]⟩⟩
noncomputable def x52 : Str := ⟨⟨[95,108,97,119,95,107]⟩⟩
noncomputable def x53 : Str := ⟨⟨[95,108,97,119,95,116,111,112]⟩⟩
noncomputable def x54 : Str := ⟨⟨[95,108,97,119,95,98,111,116,116,111,109]⟩⟩
noncomputable def x55 : Str := ⟨⟨[95,108,97,119,95,111,110,101]⟩⟩
noncomputable def x56 : Str := ⟨⟨[95,108,97,119,95,111,116,104,101,114]⟩⟩
noncomputable def x57 : Str := ⟨⟨[95,108,97,119,95,99,101,108,108]⟩⟩
noncomputable def x58 : Str := ⟨⟨[95,108,97,119,95,108,105,103,104,116,95,104,101,114,101]⟩⟩
noncomputable def x59 : Str := ⟨⟨[95,108,97,119,95,98,121]⟩⟩
noncomputable def x60 : Str := ⟨⟨[95,108,97,119,95,114,101,102,117,115,101,100,95,104,101,114,101]⟩⟩
noncomputable def x61 : Str := ⟨⟨[101]⟩⟩
noncomputable def x62 : Str := ⟨⟨[108,97,119]⟩⟩
noncomputable def x63 : Str := ⟨⟨[95,108,97,119,95,102,105,114,115,116]⟩⟩
noncomputable def x64 : Str := ⟨⟨[95,108,97,119,95,99,101,108,108,115]⟩⟩
noncomputable def x65 : Str := ⟨⟨[95,108,97,119,95,99,117,116]⟩⟩
noncomputable def x66 : Str := ⟨⟨[95,108,97,119,95,100,117,101]⟩⟩
noncomputable def x67 : Str := ⟨⟨[95,108,97,119,95,104,97,110,100,101,100]⟩⟩
noncomputable def x68 : Str := ⟨⟨[95,108,97,119,95,102,111,117,110,100]⟩⟩
noncomputable def x69 : Str := ⟨⟨[95,108,97,119,95,115,116,114,111,110,103]⟩⟩
noncomputable def x70 : Str := ⟨⟨[95,108,97,119,95,109,111,114,101]⟩⟩
noncomputable def x71 : Str := ⟨⟨[95,108,97,119,95,112]⟩⟩
noncomputable def x72 : Str := ⟨⟨[95,108,97,119,95,115,116,114,101,110,103,116,104,95,104,101,114,101]⟩⟩
noncomputable def x73 : Str := ⟨⟨[95,108,97,119,95,116,111,116,97,108]⟩⟩
noncomputable abbrev l0 : String := PySem.W.SL.s2766695959194262286x5
noncomputable abbrev l1 : String := PySem.W.SL.s5856160107412720595x4
noncomputable abbrev l2 : String := PySem.W.SL.s658472552662922059x5
noncomputable abbrev l3 : String := PySem.W.SL.s6070975301684473832x10
noncomputable abbrev l4 : String := PySem.W.SL.s10062305145149207511x16
noncomputable abbrev l5 : String := PySem.W.SL.s17162191345867700912x4
noncomputable abbrev l6 : String := PySem.W.SL.s11030030927630378310x26
noncomputable abbrev l7 : String := PySem.W.SL.s14018661285674007319x4
noncomputable abbrev l8 : String := PySem.W.SL.s5946037652744460706x9
noncomputable abbrev l9 : String := PySem.W.SL.s4278001404047624695x13
noncomputable abbrev l10 : String := PySem.W.SL.s2742458400755230247x6
noncomputable abbrev l11 : String := PySem.W.SL.s4209523147560561109x18
noncomputable abbrev l12 : String := PySem.W.SL.s10220274742760427390x26
noncomputable abbrev l13 : String := PySem.W.SL.s14755015743595814543x17
noncomputable abbrev l14 : String := PySem.W.SL.s4290257624100764138x5
noncomputable abbrev l15 : String := PySem.W.SL.s4860613602091757760x24
noncomputable abbrev l16 : String := PySem.W.SL.s7174869446012820540x8
noncomputable def a11_0 : Obj := Q (y l0) #[]
noncomputable def a12_0 : Obj := F v #[]
noncomputable def a13_0 : Obj := F (y l1) #[(s x0 182), (s x0 183), (s x1 184), (.int 1 0), z, z, z, z, (r 11), (.bool false), (.int 181 0), (r 12), v, v, v, v, (.int 185 0), (.int 1 0), (s x1 186)]
noncomputable def a14_0 : Obj := ⟨(y l2), none, .plain, #[(some (r 13)), (some (r 3)), (some (r 3)), none, (some (s x2 164)), none, (some (r 0))]⟩
noncomputable def T0 (P : Params) : BT := (.node (boot_o_0 P) (.node (boot_o_1 P) (.node (boot_o_3 P) (.node (boot_o_7 P) .nil .nil) (.node a11_0 .nil .nil)) (.node (boot_o_5 P) (.node (boot_o_9 P) .nil .nil) (.node a13_0 .nil .nil))) (.node (boot_o_2 P) (.node (boot_o_4 P) (.node (boot_o_8 P) .nil .nil) (.node a12_0 .nil .nil)) (.node (boot_o_6 P) (.node (boot_o_10 P) .nil .nil) (.node a14_0 .nil .nil))))
noncomputable def S0 (P : Params) (os : OsState) : SharedT := ⟨T0 P, 15, lf, #[], ⟨0, 0, 0, 0⟩, 187, os⟩
noncomputable def T1 (P : Params) : BT := (T0 P)
noncomputable def S1 (P : Params) (os : OsState) : SharedT := ⟨T1 P, 15, lf, #[], ⟨0, 0, 0, 0⟩, 187, os⟩
noncomputable def a3_0 (P : Params) : Obj := ud (boot_o_3 P) [(0, e P x3 165 (s x4 187))] [e P x5 206 (r 24)] 10
noncomputable def a12_1 : Obj := F v #[(.int 2 0), z, (r 20)]
noncomputable def a15_0 : Obj := Q (y l0) #[(y l3)]
noncomputable def a16_0 : Obj := F (y l6) #[(.builtin l4), (y l5)]
noncomputable def a17_0 (P : Params) : Obj := ⟨(y l7), none, (.dict #[e P x6 196 (s x4 187), e P x7 198 (s x5 197), e P x8 200 (.int 2 199), e P x9 201 (r 22)] 4), #[]⟩
noncomputable def a18_0 : Obj := Q (y l0) #[]
noncomputable def a19_0 : Obj := F v #[]
noncomputable def a20_0 : Obj := F (y l1) #[(s x5 191), (s x5 192), (s x1 193), (.int 2 0), z, z, z, z, (r 18), (.bool false), (.int 181 0), (r 19), v, v, v, v, (.int 194 0), (.int 2 0), (s x1 195)]
noncomputable def a21_0 : Obj := ⟨(y l2), none, .plain, #[(some (r 20)), (some (r 3)), (some (r 17)), none, (some (s x4 187)), none, (some (r 0))]⟩
noncomputable def a22_0 : Obj := Q (y l0) #[]
noncomputable def a23_0 (P : Params) : Obj := ⟨(y l7), none, (.dict #[e P x6 196 (s x4 187), e P x8 200 (.int 2 199), e P x9 201 (r 22), e P x10 203 (r 25), e P x11 204 v] 3), #[]⟩
noncomputable def a24_0 : Obj := ⟨(y l5), none, (.cls ⟨x5, [(y l3)], [(r 24), (y l3), (y l8), (y l9), (y l10)], 23, x5, true, [], [], false, none, false⟩), #[(some (r 15)), none, (some (s x5 189)), (some (s x5 197)), (some (.builtin l11)), (some (.bool true))]⟩
noncomputable def a25_0 : Obj := F (y l13) #[(s x10 202), (r 24), (.builtin l12), v]
noncomputable def a26_0 : Obj := F (y l14) #[(r 24), (r 24), (r 24)]
noncomputable def a27_0 : Obj := F (y l6) #[(.builtin l15), (r 24)]
noncomputable def T2 (P : Params) : BT := (I (I (I (I (I (I (I (I (I (I (I (I (I (I (I (T1 P) 3 (a3_0 P)) 12 a12_1) 15 a15_0) 16 a16_0) 17 (a17_0 P)) 18 a18_0) 19 a19_0) 20 a20_0) 21 a21_0) 22 a22_0) 23 (a23_0 P)) 24 a24_0) 25 a25_0) 26 a26_0) 27 a27_0)
noncomputable def S2 (P : Params) (os : OsState) : SharedT := ⟨T2 P, 28, lf, #[], ⟨0, 0, 0, 0⟩, 207, os⟩
noncomputable def a3_1 (P : Params) : Obj := ud (a3_0 P) [] [e P x12 222 (r 37)] 11
noncomputable def a12_2 : Obj := F v #[(.int 2 0), z, (r 20), (.int 4 0), z, (r 33)]
noncomputable def a24_1 : Obj := ⟨(y l5), none, (.cls ⟨x5, [(y l3)], [(r 24), (y l3), (y l8), (y l9), (y l10)], 23, x5, true, [], [(r 37)], false, none, false⟩), #[(some (r 15)), none, (some (s x5 189)), (some (s x5 197)), (some (.builtin l11)), (some (.bool true))]⟩
noncomputable def a28_0 : Obj := Q (y l0) #[(r 24)]
noncomputable def a29_0 : Obj := F (y l6) #[(.builtin l4), (y l5)]
noncomputable def a30_0 (P : Params) : Obj := ⟨(y l7), none, (.dict #[e P x6 214 (s x4 187), e P x7 216 (s x12 215), e P x8 218 (.int 4 217), e P x9 219 (r 35)] 4), #[]⟩
noncomputable def a31_0 : Obj := Q (y l0) #[]
noncomputable def a32_0 : Obj := F v #[]
noncomputable def a33_0 : Obj := F (y l1) #[(s x12 209), (s x12 210), (s x1 211), (.int 4 0), z, z, z, z, (r 31), (.bool false), (.int 181 0), (r 32), v, v, v, v, (.int 212 0), (.int 4 0), (s x1 213)]
noncomputable def a34_0 : Obj := ⟨(y l2), none, .plain, #[(some (r 33)), (some (r 3)), (some (r 30)), none, (some (s x4 187)), none, (some (r 0))]⟩
noncomputable def a35_0 : Obj := Q (y l0) #[]
noncomputable def a36_0 (P : Params) : Obj := ⟨(y l7), none, (.dict #[e P x6 214 (s x4 187), e P x8 218 (.int 4 217), e P x9 219 (r 35), e P x11 220 v] 2), #[]⟩
noncomputable def a37_0 : Obj := ⟨(y l5), none, (.cls ⟨x12, [(r 24)], [(r 37), (r 24), (y l3), (y l8), (y l9), (y l10)], 36, x12, true, [], [], false, none, false⟩), #[(some (r 28)), none, (some (s x12 207)), (some (s x12 215)), (some (.builtin l11)), (some (.bool true))]⟩
noncomputable def a38_0 : Obj := F (y l14) #[(r 37), (r 37), (r 37)]
noncomputable def a39_0 : Obj := F (y l6) #[(.builtin l15), (r 37)]
noncomputable def T3 (P : Params) : BT := (I (I (I (I (I (I (I (I (I (I (I (I (I (I (I (T2 P) 3 (a3_1 P)) 12 a12_2) 24 a24_1) 28 a28_0) 29 a29_0) 30 (a30_0 P)) 31 a31_0) 32 a32_0) 33 a33_0) 34 a34_0) 35 a35_0) 36 (a36_0 P)) 37 a37_0) 38 a38_0) 39 a39_0)
noncomputable def S3 (P : Params) (os : OsState) : SharedT := ⟨T3 P, 40, lf, #[], ⟨0, 0, 0, 0⟩, 223, os⟩
noncomputable def a3_2 (P : Params) : Obj := ud (a3_1 P) [] [e P x13 238 (r 49)] 12
noncomputable def a12_3 : Obj := F v #[(.int 2 0), z, (r 20), (.int 4 0), z, (r 33), (.int 6 0), z, (r 45)]
noncomputable def a24_2 : Obj := ⟨(y l5), none, (.cls ⟨x5, [(y l3)], [(r 24), (y l3), (y l8), (y l9), (y l10)], 23, x5, true, [], [(r 37), (r 49)], false, none, false⟩), #[(some (r 15)), none, (some (s x5 189)), (some (s x5 197)), (some (.builtin l11)), (some (.bool true))]⟩
noncomputable def a40_0 : Obj := Q (y l0) #[(r 24)]
noncomputable def a41_0 : Obj := F (y l6) #[(.builtin l4), (y l5)]
noncomputable def a42_0 (P : Params) : Obj := ⟨(y l7), none, (.dict #[e P x6 230 (s x4 187), e P x7 232 (s x13 231), e P x8 234 (.int 6 233), e P x9 235 (r 47)] 4), #[]⟩
noncomputable def a43_0 : Obj := Q (y l0) #[]
noncomputable def a44_0 : Obj := F v #[]
noncomputable def a45_0 : Obj := F (y l1) #[(s x13 225), (s x13 226), (s x1 227), (.int 6 0), z, z, z, z, (r 43), (.bool false), (.int 181 0), (r 44), v, v, v, v, (.int 228 0), (.int 6 0), (s x1 229)]
noncomputable def a46_0 : Obj := ⟨(y l2), none, .plain, #[(some (r 45)), (some (r 3)), (some (r 42)), none, (some (s x4 187)), none, (some (r 0))]⟩
noncomputable def a47_0 : Obj := Q (y l0) #[]
noncomputable def a48_0 (P : Params) : Obj := ⟨(y l7), none, (.dict #[e P x6 230 (s x4 187), e P x8 234 (.int 6 233), e P x9 235 (r 47), e P x11 236 v] 2), #[]⟩
noncomputable def a49_0 : Obj := ⟨(y l5), none, (.cls ⟨x13, [(r 24)], [(r 49), (r 24), (y l3), (y l8), (y l9), (y l10)], 48, x13, true, [], [], false, none, false⟩), #[(some (r 40)), none, (some (s x13 223)), (some (s x13 231)), (some (.builtin l11)), (some (.bool true))]⟩
noncomputable def a50_0 : Obj := F (y l14) #[(r 49), (r 49), (r 49)]
noncomputable def a51_0 : Obj := F (y l6) #[(.builtin l15), (r 49)]
noncomputable def T4 (P : Params) : BT := (I (I (I (I (I (I (I (I (I (I (I (I (I (I (I (T3 P) 3 (a3_2 P)) 12 a12_3) 24 a24_2) 40 a40_0) 41 a41_0) 42 (a42_0 P)) 43 a43_0) 44 a44_0) 45 a45_0) 46 a46_0) 47 a47_0) 48 (a48_0 P)) 49 a49_0) 50 a50_0) 51 a51_0)
noncomputable def S4 (P : Params) (os : OsState) : SharedT := ⟨T4 P, 52, lf, #[], ⟨0, 0, 0, 0⟩, 239, os⟩
noncomputable def a3_3 (P : Params) : Obj := ud (a3_2 P) [(0, e P x3 165 (s x14 304))] [e P x15 254 (r 61), e P x16 259 (r 64), e P x17 270 (r 71), e P x18 279 (r 78), e P x19 287 (r 85), e P x20 295 (r 92), e P x21 303 (r 99)] 19
noncomputable def a12_4 : Obj := F v #[(.int 2 0), z, (r 20), (.int 4 0), z, (r 33), (.int 6 0), z, (r 45), (.int 8 0), z, (r 57), (.int 12 0), z, (r 70), (.int 20 0), z, (r 77), (.int 27 0), z, (r 84), (.int 29 0), z, (r 91), (.int 31 0), z, (r 98)]
noncomputable def a24_3 : Obj := ⟨(y l5), none, (.cls ⟨x5, [(y l3)], [(r 24), (y l3), (y l8), (y l9), (y l10)], 23, x5, true, [], [(r 37), (r 49), (r 61)], false, none, false⟩), #[(some (r 15)), none, (some (s x5 189)), (some (s x5 197)), (some (.builtin l11)), (some (.bool true))]⟩
noncomputable def a52_0 : Obj := Q (y l0) #[(r 24)]
noncomputable def a53_0 : Obj := F (y l6) #[(.builtin l4), (y l5)]
noncomputable def a54_0 (P : Params) : Obj := ⟨(y l7), none, (.dict #[e P x6 246 (s x4 187), e P x7 248 (s x15 247), e P x8 250 (.int 8 249), e P x9 251 (r 59)] 4), #[]⟩
noncomputable def a55_0 : Obj := Q (y l0) #[]
noncomputable def a56_0 : Obj := F v #[]
noncomputable def a57_0 : Obj := F (y l1) #[(s x15 241), (s x15 242), (s x1 243), (.int 8 0), z, z, z, z, (r 55), (.bool false), (.int 181 0), (r 56), v, v, v, v, (.int 244 0), (.int 8 0), (s x1 245)]
noncomputable def a58_0 : Obj := ⟨(y l2), none, .plain, #[(some (r 57)), (some (r 3)), (some (r 54)), none, (some (s x4 187)), none, (some (r 0))]⟩
noncomputable def a59_0 : Obj := Q (y l0) #[]
noncomputable def a60_0 (P : Params) : Obj := ⟨(y l7), none, (.dict #[e P x6 246 (s x4 187), e P x8 250 (.int 8 249), e P x9 251 (r 59), e P x11 252 v] 2), #[]⟩
noncomputable def a61_0 : Obj := ⟨(y l5), none, (.cls ⟨x15, [(r 24)], [(r 61), (r 24), (y l3), (y l8), (y l9), (y l10)], 60, x15, true, [], [], false, none, false⟩), #[(some (r 52)), none, (some (s x15 239)), (some (s x15 247)), (some (.builtin l11)), (some (.bool true))]⟩
noncomputable def a62_0 : Obj := F (y l14) #[(r 61), (r 61), (r 61)]
noncomputable def a63_0 : Obj := F (y l6) #[(.builtin l15), (r 61)]
noncomputable def a64_0 : Obj := Q (y l0) #[(.int 0 257), (.int 1 258)]
noncomputable def a65_0 : Obj := Q (y l0) #[]
noncomputable def a66_0 : Obj := F v #[]
noncomputable def a67_0 : Obj := Q (y l0) #[(s x22 263), (s x23 264), (s x24 265), (s x25 266), (s x26 267)]
noncomputable def a68_0 : Obj := Q (y l0) #[]
noncomputable def a69_0 : Obj := ⟨v, none, (fo (g1 7) x17 0 [] v v v v none v v 0), #[]⟩
noncomputable def a70_0 : Obj := F (y l1) #[(s x17 260), (s x17 261), (s x1 262), (.int 12 0), (.int 2 0), z, z, (.int 3 0), (r 65), (.bool true), (.int 181 0), (r 66), v, (r 67), (r 68), (r 69), (.int 268 0), (.int 12 0), (s x1 269)]
noncomputable def a71_0 : Obj := ⟨(y l16), none, (fo (g1 7) x17 3 [] v v v (s x27 255) none (r 70) v 0), #[]⟩
noncomputable def a72_0 : Obj := Q (y l0) #[]
noncomputable def a73_0 : Obj := F v #[]
noncomputable def a74_0 : Obj := Q (y l0) #[(s x28 274), (s x29 275), (s x30 276)]
noncomputable def a75_0 : Obj := Q (y l0) #[]
noncomputable def a76_0 : Obj := ⟨v, none, (fo (g1 8) x18 0 [] v v v v none v v 0), #[]⟩
noncomputable def a77_0 : Obj := F (y l1) #[(s x18 271), (s x18 272), (s x1 273), (.int 20 0), (.int 2 0), z, z, (.int 3 0), (r 72), (.bool true), (.int 181 0), (r 73), v, (r 74), (r 75), (r 76), (.int 277 0), (.int 20 0), (s x1 278)]
noncomputable def a78_0 : Obj := ⟨(y l16), none, (fo (g1 8) x18 3 [] v v v (s x27 255) none (r 77) v 0), #[]⟩
noncomputable def a79_0 : Obj := Q (y l0) #[]
noncomputable def a80_0 : Obj := F v #[]
noncomputable def a81_0 : Obj := Q (y l0) #[(s x22 283), (s x23 284)]
noncomputable def a82_0 : Obj := Q (y l0) #[]
noncomputable def a83_0 : Obj := ⟨v, none, (fo (g1 9) x19 0 [] v v v v none v v 0), #[]⟩
noncomputable def a84_0 : Obj := F (y l1) #[(s x19 280), (s x19 281), (s x1 282), (.int 27 0), (.int 2 0), z, z, (.int 3 0), (r 79), (.bool true), (.int 181 0), (r 80), v, (r 81), (r 82), (r 83), (.int 285 0), (.int 27 0), (s x1 286)]
noncomputable def a85_0 : Obj := ⟨(y l16), none, (fo (g1 9) x19 3 [] v v v (s x27 255) none (r 84) v 0), #[]⟩
noncomputable def a86_0 : Obj := Q (y l0) #[]
noncomputable def a87_0 : Obj := F v #[]
noncomputable def a88_0 : Obj := Q (y l0) #[(s x22 291), (s x23 292)]
noncomputable def a89_0 : Obj := Q (y l0) #[]
noncomputable def a90_0 : Obj := ⟨v, none, (fo (g1 10) x20 0 [] v v v v none v v 0), #[]⟩
noncomputable def a91_0 : Obj := F (y l1) #[(s x20 288), (s x20 289), (s x1 290), (.int 29 0), (.int 2 0), z, z, (.int 3 0), (r 86), (.bool true), (.int 181 0), (r 87), v, (r 88), (r 89), (r 90), (.int 293 0), (.int 29 0), (s x1 294)]
noncomputable def a92_0 : Obj := ⟨(y l16), none, (fo (g1 10) x20 3 [] v v v (s x27 255) none (r 91) v 0), #[]⟩
noncomputable def a93_0 : Obj := Q (y l0) #[]
noncomputable def a94_0 : Obj := F v #[]
noncomputable def a95_0 : Obj := Q (y l0) #[(s x22 299), (s x23 300)]
noncomputable def a96_0 : Obj := Q (y l0) #[]
noncomputable def a97_0 : Obj := ⟨v, none, (fo (g1 11) x21 0 [] v v v v none v v 0), #[]⟩
noncomputable def a98_0 : Obj := F (y l1) #[(s x21 296), (s x21 297), (s x1 298), (.int 31 0), (.int 2 0), z, z, (.int 3 0), (r 93), (.bool true), (.int 181 0), (r 94), v, (r 95), (r 96), (r 97), (.int 301 0), (.int 31 0), (s x1 302)]
noncomputable def a99_0 : Obj := ⟨(y l16), none, (fo (g1 11) x21 3 [] v v v (s x27 255) none (r 98) v 0), #[]⟩
noncomputable def T5 (P : Params) : BT := (I (I (I (I (I (I (I (I (I (I (I (I (I (I (I (I (I (I (I (I (I (I (I (I (I (I (I (I (I (I (I (I (I (I (I (I (I (I (I (I (I (I (I (I (I (I (I (I (I (I (I (T4 P) 3 (a3_3 P)) 12 a12_4) 24 a24_3) 52 a52_0) 53 a53_0) 54 (a54_0 P)) 55 a55_0) 56 a56_0) 57 a57_0) 58 a58_0) 59 a59_0) 60 (a60_0 P)) 61 a61_0) 62 a62_0) 63 a63_0) 64 a64_0) 65 a65_0) 66 a66_0) 67 a67_0) 68 a68_0) 69 a69_0) 70 a70_0) 71 a71_0) 72 a72_0) 73 a73_0) 74 a74_0) 75 a75_0) 76 a76_0) 77 a77_0) 78 a78_0) 79 a79_0) 80 a80_0) 81 a81_0) 82 a82_0) 83 a83_0) 84 a84_0) 85 a85_0) 86 a86_0) 87 a87_0) 88 a88_0) 89 a89_0) 90 a90_0) 91 a91_0) 92 a92_0) 93 a93_0) 94 a94_0) 95 a95_0) 96 a96_0) 97 a97_0) 98 a98_0) 99 a99_0)
noncomputable def S5 (P : Params) (os : OsState) : SharedT := ⟨T5 P, 100, lf, #[], ⟨0, 0, 0, 0⟩, 306, os⟩
noncomputable def a3_4 (P : Params) : Obj := ud (a3_3 P) [(0, e P x3 165 (s x31 347))] [e P x32 312 (r 106), e P x33 322 (r 113), e P x34 332 (r 120), e P x35 340 (r 127), e P x36 346 (r 132), e P x37 356 (r 139), e P x38 366 (r 146), e P x39 374 (r 153), e P x40 381 (r 160), e P x41 388 (r 167), e P x42 394 (r 172), e P x43 400 (r 177), e P x44 410 (r 184)] 32
noncomputable def a12_5 : Obj := F v #[(.int 2 0), z, (r 20), (.int 4 0), z, (r 33), (.int 6 0), z, (r 45), (.int 8 0), z, (r 57), (.int 12 0), z, (r 70), (.int 20 0), z, (r 77), (.int 27 0), z, (r 84), (.int 29 0), z, (r 91), (.int 31 0), z, (r 98), (.int 34 0), z, (r 105), (.int 37 0), z, (r 112), (.int 42 0), z, (r 119), (.int 47 0), z, (r 126), (.int 49 0), z, (r 131), (.int 53 0), z, (r 138), (.int 57 0), z, (r 145), (.int 63 0), z, (r 152), (.int 65 0), z, (r 159), (.int 67 0), z, (r 166), (.int 71 0), z, (r 171), (.int 76 0), z, (r 176), (.int 81 0), z, (r 183)]
noncomputable def a100_0 : Obj := Q (y l0) #[]
noncomputable def a101_0 : Obj := F v #[]
noncomputable def a102_0 : Obj := Q (y l0) #[(s x45 309)]
noncomputable def a103_0 : Obj := Q (y l0) #[]
noncomputable def a104_0 : Obj := ⟨v, none, (fo (g1 13) x32 0 [] v v v v none v v 0), #[]⟩
noncomputable def a105_0 : Obj := F (y l1) #[(s x32 306), (s x32 307), (s x1 308), (.int 34 0), (.int 1 0), z, z, (.int 3 0), (r 100), (.bool true), (.int 181 0), (r 101), v, (r 102), (r 103), (r 104), (.int 310 0), (.int 34 0), (s x1 311)]
noncomputable def a106_0 : Obj := ⟨(y l16), none, (fo (g1 13) x32 3 [] v v v (s x14 304) none (r 105) v 0), #[]⟩
noncomputable def a107_0 : Obj := Q (y l0) #[]
noncomputable def a108_0 : Obj := F v #[]
noncomputable def a109_0 : Obj := Q (y l0) #[(s x46 316), (s x47 317), (s x48 318), (s x45 319)]
noncomputable def a110_0 : Obj := Q (y l0) #[]
noncomputable def a111_0 : Obj := ⟨v, none, (fo (g1 14) x33 0 [] v v v v none v v 0), #[]⟩
noncomputable def a112_0 : Obj := F (y l1) #[(s x33 313), (s x33 314), (s x1 315), (.int 37 0), (.int 1 0), z, z, (.int 3 0), (r 107), (.bool true), (.int 181 0), (r 108), v, (r 109), (r 110), (r 111), (.int 320 0), (.int 37 0), (s x1 321)]
noncomputable def a113_0 : Obj := ⟨(y l16), none, (fo (g1 14) x33 3 [] v v v (s x14 304) none (r 112) v 0), #[]⟩
noncomputable def a114_0 : Obj := Q (y l0) #[]
noncomputable def a115_0 : Obj := F v #[]
noncomputable def a116_0 : Obj := Q (y l0) #[(s x49 326), (s x50 327), (s x48 328), (s x45 329)]
noncomputable def a117_0 : Obj := Q (y l0) #[]
noncomputable def a118_0 : Obj := ⟨v, none, (fo (g1 15) x34 0 [] v v v v none v v 0), #[]⟩
noncomputable def a119_0 : Obj := F (y l1) #[(s x34 323), (s x34 324), (s x1 325), (.int 42 0), (.int 1 0), z, z, (.int 3 0), (r 114), (.bool true), (.int 181 0), (r 115), v, (r 116), (r 117), (r 118), (.int 330 0), (.int 42 0), (s x1 331)]
noncomputable def a120_0 : Obj := ⟨(y l16), none, (fo (g1 15) x34 3 [] v v v (s x14 304) none (r 119) v 0), #[]⟩
noncomputable def a121_0 : Obj := Q (y l0) #[]
noncomputable def a122_0 : Obj := F v #[]
noncomputable def a123_0 : Obj := Q (y l0) #[(s x22 336), (s x23 337)]
noncomputable def a124_0 : Obj := Q (y l0) #[]
noncomputable def a125_0 : Obj := ⟨v, none, (fo (g1 16) x35 0 [] v v v v none v v 0), #[]⟩
noncomputable def a126_0 : Obj := F (y l1) #[(s x35 333), (s x35 334), (s x1 335), (.int 47 0), (.int 2 0), z, z, (.int 3 0), (r 121), (.bool true), (.int 181 0), (r 122), v, (r 123), (r 124), (r 125), (.int 338 0), (.int 47 0), (s x1 339)]
noncomputable def a127_0 : Obj := ⟨(y l16), none, (fo (g1 16) x35 3 [] v v v (s x14 304) none (r 126) v 0), #[]⟩
noncomputable def a128_0 : Obj := Q (y l0) #[]
noncomputable def a129_0 : Obj := F v #[]
noncomputable def a130_0 : Obj := ⟨v, none, (fo (g1 17) x36 0 [] v v v v none v v 0), #[]⟩
noncomputable def a131_0 : Obj := F (y l1) #[(s x36 341), (s x36 342), (s x1 343), (.int 49 0), (.int 2 0), z, z, (.int 3 0), (r 128), (.bool true), (.int 181 0), (r 129), v, v, v, (r 130), (.int 344 0), (.int 49 0), (s x1 345)]
noncomputable def a132_0 : Obj := ⟨(y l16), none, (fo (g1 17) x36 3 [] v v v (s x14 304) none (r 131) v 0), #[]⟩
noncomputable def a133_0 : Obj := Q (y l0) #[]
noncomputable def a134_0 : Obj := F v #[]
noncomputable def a135_0 : Obj := Q (y l0) #[(s x51 352), (s x52 353)]
noncomputable def a136_0 : Obj := Q (y l0) #[]
noncomputable def a137_0 : Obj := ⟨v, none, (fo (g1 19) x37 0 [] v v v v none v v 0), #[]⟩
noncomputable def a138_0 : Obj := F (y l1) #[(s x37 349), (s x37 350), (s x1 351), (.int 53 0), (.int 2 0), z, z, (.int 3 0), (r 133), (.bool true), (.int 181 0), (r 134), v, (r 135), (r 136), (r 137), (.int 354 0), (.int 53 0), (s x1 355)]
noncomputable def a139_0 : Obj := ⟨(y l16), none, (fo (g1 19) x37 3 [] v v v (s x31 347) none (r 138) v 0), #[]⟩
noncomputable def a140_0 : Obj := Q (y l0) #[]
noncomputable def a141_0 : Obj := F v #[]
noncomputable def a142_0 : Obj := Q (y l0) #[(s x53 360), (s x54 361), (s x55 362), (s x56 363)]
noncomputable def a143_0 : Obj := Q (y l0) #[]
noncomputable def a144_0 : Obj := ⟨v, none, (fo (g1 20) x38 0 [] v v v v none v v 0), #[]⟩
noncomputable def a145_0 : Obj := F (y l1) #[(s x38 357), (s x38 358), (s x1 359), (.int 57 0), (.int 2 0), z, z, (.int 3 0), (r 140), (.bool true), (.int 181 0), (r 141), v, (r 142), (r 143), (r 144), (.int 364 0), (.int 57 0), (s x1 365)]
noncomputable def a146_0 : Obj := ⟨(y l16), none, (fo (g1 20) x38 3 [] v v v (s x31 347) none (r 145) v 0), #[]⟩
noncomputable def a147_0 : Obj := Q (y l0) #[]
noncomputable def a148_0 : Obj := F v #[]
noncomputable def a149_0 : Obj := Q (y l0) #[(s x55 370), (s x56 371)]
noncomputable def a150_0 : Obj := Q (y l0) #[]
noncomputable def a151_0 : Obj := ⟨v, none, (fo (g1 21) x39 0 [] v v v v none v v 0), #[]⟩
noncomputable def a152_0 : Obj := F (y l1) #[(s x39 367), (s x39 368), (s x1 369), (.int 63 0), (.int 2 0), z, z, (.int 3 0), (r 147), (.bool true), (.int 181 0), (r 148), v, (r 149), (r 150), (r 151), (.int 372 0), (.int 63 0), (s x1 373)]
noncomputable def a153_0 : Obj := ⟨(y l16), none, (fo (g1 21) x39 3 [] v v v (s x31 347) none (r 152) v 0), #[]⟩
noncomputable def a154_0 : Obj := Q (y l0) #[]
noncomputable def a155_0 : Obj := F v #[]
noncomputable def a156_0 : Obj := Q (y l0) #[(s x57 378)]
noncomputable def a157_0 : Obj := Q (y l0) #[]
noncomputable def a158_0 : Obj := ⟨v, none, (fo (g1 22) x40 0 [] v v v v none v v 0), #[]⟩
noncomputable def a159_0 : Obj := F (y l1) #[(s x40 375), (s x40 376), (s x1 377), (.int 65 0), (.int 1 0), z, z, (.int 3 0), (r 154), (.bool true), (.int 181 0), (r 155), v, (r 156), (r 157), (r 158), (.int 379 0), (.int 65 0), (s x1 380)]
noncomputable def a160_0 : Obj := ⟨(y l16), none, (fo (g1 22) x40 3 [] v v v (s x31 347) none (r 159) v 0), #[]⟩
noncomputable def a161_0 : Obj := Q (y l0) #[]
noncomputable def a162_0 : Obj := F v #[]
noncomputable def a163_0 : Obj := Q (y l0) #[(s x57 385)]
noncomputable def a164_0 : Obj := Q (y l0) #[]
noncomputable def a165_0 : Obj := ⟨v, none, (fo (g1 23) x41 0 [] v v v v none v v 0), #[]⟩
noncomputable def a166_0 : Obj := F (y l1) #[(s x41 382), (s x41 383), (s x1 384), (.int 67 0), (.int 1 0), z, z, (.int 3 0), (r 161), (.bool true), (.int 181 0), (r 162), v, (r 163), (r 164), (r 165), (.int 386 0), (.int 67 0), (s x1 387)]
noncomputable def a167_0 : Obj := ⟨(y l16), none, (fo (g1 23) x41 3 [] v v v (s x31 347) none (r 166) v 0), #[]⟩
noncomputable def a168_0 : Obj := Q (y l0) #[]
noncomputable def a169_0 : Obj := F v #[]
noncomputable def a170_0 : Obj := ⟨v, none, (fo (g1 24) x42 0 [] v v v v none v v 0), #[]⟩
noncomputable def a171_0 : Obj := F (y l1) #[(s x42 389), (s x42 390), (s x1 391), (.int 71 0), (.int 1 0), z, z, (.int 3 0), (r 168), (.bool true), (.int 181 0), (r 169), v, v, v, (r 170), (.int 392 0), (.int 71 0), (s x1 393)]
noncomputable def a172_0 : Obj := ⟨(y l16), none, (fo (g1 24) x42 3 [] v v v (s x31 347) none (r 171) v 0), #[]⟩
noncomputable def a173_0 : Obj := Q (y l0) #[]
noncomputable def a174_0 : Obj := F v #[]
noncomputable def a175_0 : Obj := ⟨v, none, (fo (g1 25) x43 0 [] v v v v none v v 0), #[]⟩
noncomputable def a176_0 : Obj := F (y l1) #[(s x43 395), (s x43 396), (s x1 397), (.int 76 0), (.int 2 0), z, z, (.int 3 0), (r 173), (.bool true), (.int 181 0), (r 174), v, v, v, (r 175), (.int 398 0), (.int 76 0), (s x1 399)]
noncomputable def a177_0 : Obj := ⟨(y l16), none, (fo (g1 25) x43 3 [] v v v (s x31 347) none (r 176) v 0), #[]⟩
noncomputable def a178_0 : Obj := Q (y l0) #[]
noncomputable def a179_0 : Obj := F v #[]
noncomputable def a180_0 : Obj := Q (y l0) #[(s x58 404), (s x59 405), (s x60 406), (s x61 407)]
noncomputable def a181_0 : Obj := Q (y l0) #[]
noncomputable def a182_0 : Obj := ⟨v, none, (fo (g1 26) x44 0 [] v v v v none v v 0), #[]⟩
noncomputable def a183_0 : Obj := F (y l1) #[(s x44 401), (s x44 402), (s x1 403), (.int 81 0), (.int 2 0), z, z, (.int 3 0), (r 178), (.bool true), (.int 181 0), (r 179), v, (r 180), (r 181), (r 182), (.int 408 0), (.int 81 0), (s x1 409)]
noncomputable def a184_0 : Obj := ⟨(y l16), none, (fo (g1 26) x44 3 [] v v v (s x31 347) none (r 183) v 0), #[]⟩
noncomputable def T6 (P : Params) : BT := (I (I (I (I (I (I (I (I (I (I (I (I (I (I (I (I (I (I (I (I (I (I (I (I (I (I (I (I (I (I (I (I (I (I (I (I (I (I (I (I (I (I (I (I (I (I (I (I (I (I (I (I (I (I (I (I (I (I (I (I (I (I (I (I (I (I (I (I (I (I (I (I (I (I (I (I (I (I (I (I (I (I (I (I (I (I (I (T5 P) 3 (a3_4 P)) 12 a12_5) 100 a100_0) 101 a101_0) 102 a102_0) 103 a103_0) 104 a104_0) 105 a105_0) 106 a106_0) 107 a107_0) 108 a108_0) 109 a109_0) 110 a110_0) 111 a111_0) 112 a112_0) 113 a113_0) 114 a114_0) 115 a115_0) 116 a116_0) 117 a117_0) 118 a118_0) 119 a119_0) 120 a120_0) 121 a121_0) 122 a122_0) 123 a123_0) 124 a124_0) 125 a125_0) 126 a126_0) 127 a127_0) 128 a128_0) 129 a129_0) 130 a130_0) 131 a131_0) 132 a132_0) 133 a133_0) 134 a134_0) 135 a135_0) 136 a136_0) 137 a137_0) 138 a138_0) 139 a139_0) 140 a140_0) 141 a141_0) 142 a142_0) 143 a143_0) 144 a144_0) 145 a145_0) 146 a146_0) 147 a147_0) 148 a148_0) 149 a149_0) 150 a150_0) 151 a151_0) 152 a152_0) 153 a153_0) 154 a154_0) 155 a155_0) 156 a156_0) 157 a157_0) 158 a158_0) 159 a159_0) 160 a160_0) 161 a161_0) 162 a162_0) 163 a163_0) 164 a164_0) 165 a165_0) 166 a166_0) 167 a167_0) 168 a168_0) 169 a169_0) 170 a170_0) 171 a171_0) 172 a172_0) 173 a173_0) 174 a174_0) 175 a175_0) 176 a176_0) 177 a177_0) 178 a178_0) 179 a179_0) 180 a180_0) 181 a181_0) 182 a182_0) 183 a183_0) 184 a184_0)
noncomputable def S6 (P : Params) (os : OsState) : SharedT := ⟨T6 P, 185, lf, #[], ⟨0, 0, 0, 0⟩, 411, os⟩
noncomputable def a3_5 (P : Params) : Obj := ud (a3_4 P) [] [e P x62 431 (r 191)] 33
noncomputable def a12_6 : Obj := F v #[(.int 2 0), z, (r 20), (.int 4 0), z, (r 33), (.int 6 0), z, (r 45), (.int 8 0), z, (r 57), (.int 12 0), z, (r 70), (.int 20 0), z, (r 77), (.int 27 0), z, (r 84), (.int 29 0), z, (r 91), (.int 31 0), z, (r 98), (.int 34 0), z, (r 105), (.int 37 0), z, (r 112), (.int 42 0), z, (r 119), (.int 47 0), z, (r 126), (.int 49 0), z, (r 131), (.int 53 0), z, (r 138), (.int 57 0), z, (r 145), (.int 63 0), z, (r 152), (.int 65 0), z, (r 159), (.int 67 0), z, (r 166), (.int 71 0), z, (r 171), (.int 76 0), z, (r 176), (.int 81 0), z, (r 183), (.int 88 0), z, (r 190)]
noncomputable def a185_0 : Obj := Q (y l0) #[]
noncomputable def a186_0 : Obj := F v #[]
noncomputable def a187_0 : Obj := Q (y l0) #[(s x51 414), (s x63 415), (s x64 416), (s x65 417), (s x55 418), (s x56 419), (s x66 420), (s x67 421), (s x68 422), (s x59 423), (s x69 424), (s x70 425), (s x71 426), (s x72 427), (s x73 428)]
noncomputable def a188_0 : Obj := Q (y l0) #[]
noncomputable def a189_0 : Obj := ⟨v, none, (fo (g1 27) x62 0 [] v v v v none v v 0), #[]⟩
noncomputable def a190_0 : Obj := F (y l1) #[(s x62 411), (s x62 412), (s x1 413), (.int 88 0), (.int 1 0), z, z, (.int 3 0), (r 185), (.bool true), (.int 181 0), (r 186), v, (r 187), (r 188), (r 189), (.int 429 0), (.int 88 0), (s x1 430)]
noncomputable def a191_0 : Obj := ⟨(y l16), none, (fo (g1 27) x62 3 [] v v v (s x31 347) none (r 190) v 0), #[]⟩
noncomputable def T7 (P : Params) : BT := (I (I (I (I (I (I (I (I (I (T6 P) 3 (a3_5 P)) 12 a12_6) 185 a185_0) 186 a186_0) 187 a187_0) 188 a188_0) 189 a189_0) 190 a190_0) 191 a191_0)
noncomputable def S7 (P : Params) (os : OsState) : SharedT := ⟨T7 P, 192, lf, #[], ⟨0, 0, 0, 0⟩, 432, os⟩
noncomputable def HF (P : Params) : Heap := ⟨⟨[(boot_o_0 P), (boot_o_1 P), (boot_o_2 P), (a3_5 P), (boot_o_4 P), (boot_o_5 P), (boot_o_6 P), (boot_o_7 P), (boot_o_8 P), (boot_o_9 P), (boot_o_10 P), a11_0, a12_6, a13_0, a14_0, a15_0, a16_0, (a17_0 P), a18_0, a19_0, a20_0, a21_0, a22_0, (a23_0 P), a24_3, a25_0, a26_0, a27_0, a28_0, a29_0, (a30_0 P), a31_0, a32_0, a33_0, a34_0, a35_0, (a36_0 P), a37_0, a38_0, a39_0, a40_0, a41_0, (a42_0 P), a43_0, a44_0, a45_0, a46_0, a47_0, (a48_0 P), a49_0, a50_0, a51_0, a52_0, a53_0, (a54_0 P), a55_0, a56_0, a57_0, a58_0, a59_0, (a60_0 P), a61_0, a62_0, a63_0, a64_0, a65_0, a66_0, a67_0, a68_0, a69_0, a70_0, a71_0, a72_0, a73_0, a74_0, a75_0, a76_0, a77_0, a78_0, a79_0, a80_0, a81_0, a82_0, a83_0, a84_0, a85_0, a86_0, a87_0, a88_0, a89_0, a90_0, a91_0, a92_0, a93_0, a94_0, a95_0, a96_0, a97_0, a98_0, a99_0, a100_0, a101_0, a102_0, a103_0, a104_0, a105_0, a106_0, a107_0, a108_0, a109_0, a110_0, a111_0, a112_0, a113_0, a114_0, a115_0, a116_0, a117_0, a118_0, a119_0, a120_0, a121_0, a122_0, a123_0, a124_0, a125_0, a126_0, a127_0, a128_0, a129_0, a130_0, a131_0, a132_0, a133_0, a134_0, a135_0, a136_0, a137_0, a138_0, a139_0, a140_0, a141_0, a142_0, a143_0, a144_0, a145_0, a146_0, a147_0, a148_0, a149_0, a150_0, a151_0, a152_0, a153_0, a154_0, a155_0, a156_0, a157_0, a158_0, a159_0, a160_0, a161_0, a162_0, a163_0, a164_0, a165_0, a166_0, a167_0, a168_0, a169_0, a170_0, a171_0, a172_0, a173_0, a174_0, a175_0, a176_0, a177_0, a178_0, a179_0, a180_0, a181_0, a182_0, a183_0, a184_0, a185_0, a186_0, a187_0, a188_0, a189_0, a190_0, a191_0]⟩, lf⟩
noncomputable def KF (P : Params) : Frag := (nat_lit 0, (boot_o_0 P)) :: (nat_lit 1, (boot_o_1 P)) :: (nat_lit 2, (boot_o_2 P)) :: (nat_lit 3, (a3_5 P)) :: (nat_lit 4, (boot_o_4 P)) :: (nat_lit 5, (boot_o_5 P)) :: (nat_lit 6, (boot_o_6 P)) :: (nat_lit 7, (boot_o_7 P)) :: (nat_lit 8, (boot_o_8 P)) :: (nat_lit 9, (boot_o_9 P)) :: (nat_lit 10, (boot_o_10 P)) :: (nat_lit 11, a11_0) :: (nat_lit 12, a12_6) :: (nat_lit 13, a13_0) :: (nat_lit 14, a14_0) :: (nat_lit 15, a15_0) :: (nat_lit 22, a22_0) :: (nat_lit 23, (a23_0 P)) :: (nat_lit 24, a24_3) :: (nat_lit 25, a25_0) :: (nat_lit 28, a28_0) :: (nat_lit 35, a35_0) :: (nat_lit 36, (a36_0 P)) :: (nat_lit 37, a37_0) :: (nat_lit 40, a40_0) :: (nat_lit 47, a47_0) :: (nat_lit 48, (a48_0 P)) :: (nat_lit 49, a49_0) :: (nat_lit 52, a52_0) :: (nat_lit 59, a59_0) :: (nat_lit 60, (a60_0 P)) :: (nat_lit 61, a61_0) :: (nat_lit 64, a64_0) :: (nat_lit 65, a65_0) :: (nat_lit 66, a66_0) :: (nat_lit 67, a67_0) :: (nat_lit 68, a68_0) :: (nat_lit 69, a69_0) :: (nat_lit 70, a70_0) :: (nat_lit 71, a71_0) :: (nat_lit 72, a72_0) :: (nat_lit 73, a73_0) :: (nat_lit 74, a74_0) :: (nat_lit 75, a75_0) :: (nat_lit 76, a76_0) :: (nat_lit 77, a77_0) :: (nat_lit 78, a78_0) :: (nat_lit 79, a79_0) :: (nat_lit 80, a80_0) :: (nat_lit 81, a81_0) :: (nat_lit 82, a82_0) :: (nat_lit 83, a83_0) :: (nat_lit 84, a84_0) :: (nat_lit 85, a85_0) :: (nat_lit 86, a86_0) :: (nat_lit 87, a87_0) :: (nat_lit 88, a88_0) :: (nat_lit 89, a89_0) :: (nat_lit 90, a90_0) :: (nat_lit 91, a91_0) :: (nat_lit 92, a92_0) :: (nat_lit 93, a93_0) :: (nat_lit 94, a94_0) :: (nat_lit 95, a95_0) :: (nat_lit 96, a96_0) :: (nat_lit 97, a97_0) :: (nat_lit 98, a98_0) :: (nat_lit 99, a99_0) :: (nat_lit 100, a100_0) :: (nat_lit 101, a101_0) :: (nat_lit 102, a102_0) :: (nat_lit 103, a103_0) :: (nat_lit 104, a104_0) :: (nat_lit 105, a105_0) :: (nat_lit 106, a106_0) :: (nat_lit 107, a107_0) :: (nat_lit 108, a108_0) :: (nat_lit 109, a109_0) :: (nat_lit 110, a110_0) :: (nat_lit 111, a111_0) :: (nat_lit 112, a112_0) :: (nat_lit 113, a113_0) :: (nat_lit 114, a114_0) :: (nat_lit 115, a115_0) :: (nat_lit 116, a116_0) :: (nat_lit 117, a117_0) :: (nat_lit 118, a118_0) :: (nat_lit 119, a119_0) :: (nat_lit 120, a120_0) :: (nat_lit 121, a121_0) :: (nat_lit 122, a122_0) :: (nat_lit 123, a123_0) :: (nat_lit 124, a124_0) :: (nat_lit 125, a125_0) :: (nat_lit 126, a126_0) :: (nat_lit 127, a127_0) :: (nat_lit 128, a128_0) :: (nat_lit 129, a129_0) :: (nat_lit 130, a130_0) :: (nat_lit 131, a131_0) :: (nat_lit 132, a132_0) :: (nat_lit 133, a133_0) :: (nat_lit 134, a134_0) :: (nat_lit 135, a135_0) :: (nat_lit 136, a136_0) :: (nat_lit 137, a137_0) :: (nat_lit 138, a138_0) :: (nat_lit 139, a139_0) :: (nat_lit 140, a140_0) :: (nat_lit 141, a141_0) :: (nat_lit 142, a142_0) :: (nat_lit 143, a143_0) :: (nat_lit 144, a144_0) :: (nat_lit 145, a145_0) :: (nat_lit 146, a146_0) :: (nat_lit 147, a147_0) :: (nat_lit 148, a148_0) :: (nat_lit 149, a149_0) :: (nat_lit 150, a150_0) :: (nat_lit 151, a151_0) :: (nat_lit 152, a152_0) :: (nat_lit 153, a153_0) :: (nat_lit 154, a154_0) :: (nat_lit 155, a155_0) :: (nat_lit 156, a156_0) :: (nat_lit 157, a157_0) :: (nat_lit 158, a158_0) :: (nat_lit 159, a159_0) :: (nat_lit 160, a160_0) :: (nat_lit 161, a161_0) :: (nat_lit 162, a162_0) :: (nat_lit 163, a163_0) :: (nat_lit 164, a164_0) :: (nat_lit 165, a165_0) :: (nat_lit 166, a166_0) :: (nat_lit 167, a167_0) :: (nat_lit 168, a168_0) :: (nat_lit 169, a169_0) :: (nat_lit 170, a170_0) :: (nat_lit 171, a171_0) :: (nat_lit 172, a172_0) :: (nat_lit 173, a173_0) :: (nat_lit 174, a174_0) :: (nat_lit 175, a175_0) :: (nat_lit 176, a176_0) :: (nat_lit 177, a177_0) :: (nat_lit 178, a178_0) :: (nat_lit 179, a179_0) :: (nat_lit 180, a180_0) :: (nat_lit 181, a181_0) :: (nat_lit 182, a182_0) :: (nat_lit 183, a183_0) :: (nat_lit 184, a184_0) :: (nat_lit 185, a185_0) :: (nat_lit 186, a186_0) :: (nat_lit 187, a187_0) :: (nat_lit 188, a188_0) :: (nat_lit 189, a189_0) :: (nat_lit 190, a190_0) :: (nat_lit 191, a191_0) :: []
noncomputable def AF : List Nat := [0,1,2,3,4,5,6,7,8,9,10,11,12,13,14,15,22,23,24,25,28,35,36,37,40,47,48,49,52,59,60,61,64,65,66,67,68,69,70,71,72,73,74,75,76,77,78,79,80,81,82,83,84,85,86,87,88,89,90,91,92,93,94,95,96,97,98,99,100,101,102,103,104,105,106,107,108,109,110,111,112,113,114,115,116,117,118,119,120,121,122,123,124,125,126,127,128,129,130,131,132,133,134,135,136,137,138,139,140,141,142,143,144,145,146,147,148,149,150,151,152,153,154,155,156,157,158,159,160,161,162,163,164,165,166,167,168,169,170,171,172,173,174,175,176,177,178,179,180,181,182,183,184,185,186,187,188,189,190,191]
noncomputable def LZ : List Str := [x5, x12, x13, x15, x16, x17, x18, x19, x20, x21, x32, x33, x34, x35, x36, x37, x38, x39, x40, x41, x42, x43, x44]
noncomputable def ev : Env := { scope := pq.main.scope, locals := mainNs, globals := mainNs, cells := [], code := (.ref 13), frame := some 14 }
noncomputable abbrev cE : Code := .body bE ev
noncomputable abbrev Bq : List Frame := [topFrame ⟨0, 0, 0, 0⟩]
noncomputable def sl (i n : Nat) : List Stmt := (bE.drop i).take n
noncomputable abbrev an : Option Value := (some (.ref 6))
theorem lg {w : World} {n : Nat} {s s' : SharedT} {t : Thread} {f : Flow} {c : Code} {q : Pos} (h : PySem.W.Fast.tw10110043849684766642 PySem.W.Fast.tw14364793385576792824 pq w 11 an 1 n s t = some (f, s', c, q)) : segRun treeTable pq w 11 an 1 n s.abs t = some (f, s'.abs, c, q) :=
  segRun_of (by rw [PySem.W.Fast.te10110043849684766642, PySem.W.Fast.te14364793385576792824]; exact h)
theorem lt {w : World} {n : Nat} {s : Shared} {t : Thread} {r : Option Shared} (h : PySem.W.Fast.tw14082659384304107361 PySem.W.Fast.tw14364793385576792824 pq w 11 an n s t = r) : topRun treeTable pq w 11 an n s t = r := by
  rw [PySem.W.Fast.te14082659384304107361, PySem.W.Fast.te14364793385576792824]; exact h
theorem lp {w : World} {n : Nat} {s s' : Shared} {p : Pos} (h : PySem.W.Fast.tw15667345088766844465 PySem.W.Fast.tw14364793385576792824 pq w 11 an n s (PySem.W.topStub pq) = some (s', ⟨PySem.W.Fast.tw11892475500146522536 PySem.W.Fast.tw14364793385576792824 cE, cE, p, Bq⟩)) : topGo treeTable pq w 11 an n s (topStub pq) = some (s', ⟨denote treeTable cE, cE, p, Bq⟩) := by
  rw [PySem.W.Fast.te15667345088766844465, PySem.W.Fast.te11892475500146522536, PySem.W.Fast.te14364793385576792824]; exact h
theorem pre (w : World) (os : OsState) : topGo treeTable pq w 11 an 12 ⟨boot_heap w.params, Array.mk [], boot_drawn, boot_toks, os⟩ (topStub pq) = some ((S0 w.params os).abs, ⟨denote treeTable cE, cE, ⟨0, 0, 0, 0⟩, Bq⟩) := lp (by kernel_rfl)
theorem blk (w : World) (os : OsState) : segRun treeTable pq w 11 an 1 1 (S0 w.params os).abs (blockOf bE ev cE ⟨0, 0, 0, 0⟩ Bq) = some (.next, (S1 w.params os).abs, cE, ⟨0, 0, 0, 0⟩) := lg (by kernel_rfl)
theorem g_1 (w : World) (os : OsState) : segRun treeTable pq w 11 an 1 196 (S1 w.params os).abs (piecesOf (sl 0 2) ev cE ⟨0, 0, 0, 0⟩ Bq) = some (.next, (S2 w.params os).abs, cE, ⟨2, 0, 3, 8⟩) := lg (by kernel_rfl)
theorem g_2 (w : World) (os : OsState) : segRun treeTable pq w 11 an 1 214 (S2 w.params os).abs (piecesOf (sl 2 1) ev cE ⟨2, 0, 3, 8⟩ Bq) = some (.next, (S3 w.params os).abs, cE, ⟨4, 0, 5, 8⟩) := lg (by kernel_rfl)
theorem g_3 (w : World) (os : OsState) : segRun treeTable pq w 11 an 1 214 (S3 w.params os).abs (piecesOf (sl 3 1) ev cE ⟨4, 0, 5, 8⟩ Bq) = some (.next, (S4 w.params os).abs, cE, ⟨6, 0, 7, 8⟩) := lg (by kernel_rfl)
theorem g_4 (w : World) (os : OsState) : segRun treeTable pq w 11 an 1 398 (S4 w.params os).abs (piecesOf (sl 4 9) ev cE ⟨6, 0, 7, 8⟩ Bq) = some (.next, (S5 w.params os).abs, cE, ⟨33, 0, 33, 8⟩) := lg (by kernel_rfl)
theorem g_5 (w : World) (os : OsState) : segRun treeTable pq w 11 an 1 393 (S5 w.params os).abs (piecesOf (sl 13 14) ev cE ⟨33, 0, 33, 8⟩ Bq) = some (.next, (S6 w.params os).abs, cE, ⟨81, 0, 87, 28⟩) := lg (by kernel_rfl)
theorem g_6 (w : World) (os : OsState) : segRun treeTable pq w 11 an 1 44 (S6 w.params os).abs (piecesOf (sl 27 1) ev cE ⟨81, 0, 87, 28⟩ Bq) = some (.next, (S7 w.params os).abs, cE, ⟨88, 0, 118, 105⟩) := lg (by kernel_rfl)
theorem fin (w : World) (os : OsState) : topRun treeTable pq w 11 an 2 (S7 w.params os).abs ⟨doneF .next, cE, ⟨88, 0, 118, 105⟩, Bq⟩ = some ⟨HF w.params, #[], ⟨0, 0, 0, 0⟩, 432, os⟩ := lt (by kernel_rfl)
theorem bE_eq : bE = sl 0 2 ++ (sl 2 1 ++ (sl 3 1 ++ (sl 4 9 ++ (sl 13 14 ++ (sl 27 1 ++ []))))) := by kernel_rfl
theorem rest (w : World) (os : OsState) : topRun treeTable pq w 11 an (196 + (214 + (214 + (398 + (393 + (44 + (2))))))) (S1 w.params os).abs (restOf bE ev cE ⟨0, 0, 0, 0⟩ Bq) = some ⟨HF w.params, #[], ⟨0, 0, 0, 0⟩, 432, os⟩ :=
  (congrArg (fun l => topRun treeTable pq w 11 an (196 + (214 + (214 + (398 + (393 + (44 + (2))))))) (S1 w.params os).abs (restOf l ev cE ⟨0, 0, 0, 0⟩ Bq)) bE_eq).trans (piece_app (g_1 w os) (piece_app (g_2 w os) (piece_app (g_3 w os) (piece_app (g_4 w os) (piece_app (g_5 w os) (piece_app (g_6 w os) (piece_nil (fin w os))))))))
theorem run (w : World) (os : OsState) : topRun treeTable pq w 11 an (12 + (1 + (196 + (214 + (214 + (398 + (393 + (44 + (2))))))))) ⟨boot_heap w.params, Array.mk [], boot_drawn, boot_toks, os⟩ (topStub pq) = some ⟨HF w.params, #[], ⟨0, 0, 0, 0⟩, 432, os⟩ :=
  go_top (pre w os) (piece_block (blk w os) (rest w os))
noncomputable abbrev qv : Program := view pq [27]
theorem lk1 (w : World) (os : OsState) : (staticsOk (importedModules pq.main.body) (boot_heap w.params) (HF w.params) && namesBound pq (HF w.params) && gensDone (Shared.mk (HF w.params) #[] ⟨0, 0, 0, 0⟩ 432 os) && laidKept (boot_heap w.params) (HF w.params)) = true := by
  kernel_rfl
theorem lk2 (w : World) (os : OsState) : openSeen qv LZ (importedModules pq.main.body) (fun _ => true) true (Shared.mk (HF w.params) #[] ⟨0, 0, 0, 0⟩ 432 os) = openGood qv LZ := by
  rw [PySem.W.Fast.te4187177175401517315]; kernel_rfl
theorem lk3 (w : World) (os : OsState) : X.obsZ AF (Shared.mk (HF w.params) #[] ⟨0, 0, 0, 0⟩ 432 os) = X.valZ KF 192 432 w := by kernel_rfl
theorem hl1 : LeftO pq qv LZ (fun _ => true) (X.obsZ AF) (X.valZ KF 192 432) 3032 :=
  LeftO.of_pieces (boot_open (by kernel_rfl) (by kernel_rfl) (fun s => by kernel_rfl)) (m₀ := 11) (ann := an) (fun w => by kernel_rfl) run (by kernel_rfl) (fun w => funext fun os => looks_pair (lk1 w os) (looks_pair (lk2 w os) (lk3 w os)))
theorem hl : LeftO PySem.Challenge.pw_beamtable_k26_joined_scaled (view PySem.Challenge.pw_beamtable_k26_joined_scaled [27]) LZ (fun _ => true) (X.obsZ AF) (X.valZ KF 192 432) 3032 := by
  rw [PySem.W.Fast.te10829039203480194453]; exact hl1
end KO
end
section
set_option Elab.async false
set_option linter.all false
set_option maxRecDepth 100000
namespace L2
open PySem PySem.Spec PyProof.Rows
abbrev Key := Sum Int Str
def keyIs : Key → Value → Bool
  | .inl k, v => Value.isInt k v
  | .inr x, v => Value.isStrOf x v
def keyH (w : World) : Key → Int
  | .inl k => hashInt k
  | .inr x => hashStr w x
theorem keyIs_shape : ∀ {k : Key} {v : Value}, keyIs k v = true → (∃ i t, k = Sum.inl i ∧ v = Value.int i t) ∨ (∃ x t, k = Sum.inr x ∧ v = Value.str x t)
  | .inl i, v, h => by
    obtain ⟨t, e⟩ := Value.isInt_shape (k := i) (v := v) h
    exact .inl ⟨i, t, rfl, e⟩
  | .inr x, v, h => by
    obtain ⟨t, e⟩ := Value.isStrOf_shape (x := x) (v := v) h
    exact .inr ⟨x, t, rfl, e⟩
theorem keyIs_int (i : Int) (t : Tok) : keyIs (.inl i) (.int i t) = true := by simp [keyIs, Value.isInt]
theorem keyIs_str (x : Str) (t : Tok) : keyIs (.inr x) (.str x t) = true := by simp [keyIs, Value.isStrOf]
theorem key_ll (a b : Int) : decide ((Sum.inl a : Key) = Sum.inl b) = (a == b) := by
  by_cases e : a = b
  · subst e; simp
  · have h : ¬ (Sum.inl a : Key) = Sum.inl b := fun q => e (Sum.inl.inj q)
    rw [decide_eq_false h]
    exact (beq_eq_false_iff_ne.mpr e).symm
theorem key_rr (a b : Str) : decide ((Sum.inr a : Key) = Sum.inr b) = decide (a = b) := by
  by_cases e : a = b
  · subst e; simp
  · have h : ¬ (Sum.inr a : Key) = Sum.inr b := fun q => e (Sum.inr.inj q)
    rw [decide_eq_false h, decide_eq_false e]
theorem key_lr (a : Int) (b : Str) : decide ((Sum.inl a : Key) = Sum.inr b) = false := decide_eq_false (fun q => nomatch q)
theorem key_rl (a : Str) (b : Int) : decide ((Sum.inr a : Key) = Sum.inl b) = false := decide_eq_false (fun q => nomatch q)
def mixKind (prog : Program) (w : World) : PySem.KeyKind prog w Key where
  is := keyIs
  hash := keyH w
  inj := fun v a b ha hb => by
    rcases keyIs_shape ha with ⟨i, t, rfl, rfl⟩ | ⟨x, t, rfl, rfl⟩
    · rcases keyIs_shape hb with ⟨j, u, rfl, e⟩ | ⟨y, u, rfl, e⟩
      · injection e with e1 _; rw [e1]
      · exact nomatch e
    · rcases keyIs_shape hb with ⟨j, u, rfl, e⟩ | ⟨y, u, rfl, e⟩
      · exact nomatch e
      · injection e with e1 _; rw [e1]
  byValue := fun k v h => by
    rcases keyIs_shape h with ⟨i, t, rfl, rfl⟩ | ⟨x, t, rfl, rfl⟩ <;> rfl
  pyHash := fun hv h => by
    rcases keyIs_shape hv with ⟨i, t, rfl, rfl⟩ | ⟨x, t, rfl, rfl⟩
    · exact wpAny_pyHash_int h
    · exact wpAny_pyHash_str h
  eqBool := fun hu hv h => by
    rcases keyIs_shape hu with ⟨i, t, rfl, rfl⟩ | ⟨x, t, rfl, rfl⟩
    · rcases keyIs_shape hv with ⟨j, u, rfl, rfl⟩ | ⟨y, u, rfl, rfl⟩
      · rw [key_ll] at h; exact wpAny_eqBool_int h
      · rw [key_lr] at h; exact SeqAt.EqAt.int_str i t y u _ _ _ _ h
    · rcases keyIs_shape hv with ⟨j, u, rfl, rfl⟩ | ⟨y, u, rfl, rfl⟩
      · rw [key_rl] at h; exact SeqAt.EqAt.str_int x t j u _ _ _ _ h
      · rw [key_rr] at h; exact wpAny_eqBool_str h
  «strs» := fun k x t v h => by
    rcases keyIs_shape h with ⟨i, u, rfl, e⟩ | ⟨y, u, rfl, e⟩
    · exact nomatch e
    · injection e with e1 _
      subst e1
      cases v <;> rfl
theorem mixKind_int (prog : Program) (w : World) (i : Int) (t : Tok) : (mixKind prog w).is (.inl i) (.int i t) = true := keyIs_int i t
theorem mixKind_str (prog : Program) (w : World) (x : Str) (t : Tok) : (mixKind prog w).is (.inr x) (.str x t) = true := keyIs_str x t
end L2
namespace L2
open PySem PySem.Spec PyProof.Rows
inductive V where
  | non | bl (b : Bool) | int (i : Int) | str (x : Str) | byt (b : Array UInt8) | flt (b : UInt64) | ref (a : Addr) | ty (n : String)
  deriving DecidableEq
def RelV : V → Value → Prop
  | .non, u => u = Value.none
  | .bl b, u => u = Value.bool b
  | .int i, u => ∃ t, u = Value.int i t
  | .str x, u => ∃ t, u = Value.str x t
  | .byt b, u => ∃ t, u = Value.bytes b t
  | .flt b, u => ∃ t, u = Value.float b t
  | .ref a, u => u = Value.ref a
  | .ty n, u => u = Value.type n
abbrev Vals : List V → List Value → Prop := Paired RelV
theorem Vals.length {xs : List V} {us : List Value} (r : Vals xs us) : xs.length = us.length := Paired.length r
theorem Vals.get : ∀ {xs : List V} {us : List Value} {i : Nat} {x : V}, Vals xs us → xs[i]? = some x → ∃ u, us[i]? = some u ∧ RelV x u
  | _, _, _, _, .nil, e => by simp at e
  | _, _, 0, _, .cons r _, e => by simp at e; subst e; exact ⟨_, rfl, r⟩
  | _, _, i + 1, x, .cons _ t, e => by
    obtain ⟨u, h1, h2⟩ := Vals.get (i := i) (x := x) t (by simpa using e)
    exact ⟨u, by simpa using h1, h2⟩
theorem Vals.set {x : V} {u : Value} (r : RelV x u) : ∀ {xs : List V} {us : List Value} (i : Nat), Vals xs us → Vals (xs.set i x) (us.set i u)
  | _, _, _, .nil => .nil
  | _, _, 0, .cons _ t => .cons r t
  | _, _, i + 1, .cons q t => .cons q (Vals.set r i t)
theorem Vals.append : ∀ {xs ys : List V} {us ws : List Value}, Vals xs us → Vals ys ws → Vals (xs ++ ys) (us ++ ws)
  | _, _, _, _, .nil, s => s
  | _, _, _, _, .cons r t, s => .cons r (Vals.append t s)
theorem Vals.take : ∀ {xs : List V} {us : List Value} (n : Nat), Vals xs us → Vals (xs.take n) (us.take n)
  | _, _, 0, _ => .nil
  | _, _, _ + 1, .nil => .nil
  | _, _, n + 1, .cons r t => .cons r (Vals.take n t)
theorem Vals.drop : ∀ {xs : List V} {us : List Value} (n : Nat), Vals xs us → Vals (xs.drop n) (us.drop n)
  | _, _, 0, r => r
  | _, _, _ + 1, .nil => .nil
  | _, _, n + 1, .cons _ t => Vals.drop n t
def RelO : Option V → Option Value → Prop
  | some v, some u => RelV v u
  | none, none => True
  | _, _ => False
def KV {κ : Type} : List (κ × V) → List (κ × Value) → Prop := Paired fun (p : κ × V) (q : κ × Value) => p.1 = q.1 ∧ RelV p.2 q.2
def kV : Key → V
  | .inl i => .int i
  | .inr x => .str x
inductive HO where
  /-- a list -/
  | lst (xs : List V)
  /-- a tuple (never changes) -/
  | tup (xs : List V)
  /-- a dict whose keys are ints and texts; one whose keys are tuples of ints and texts (the empty one is both) -/
  | dK (kvs : List (Key × V)) | dT (kvs : List (List Key × V))
  /-- a set of ints: its members, its size -/
  | set (S : Int → Bool) (n : Nat)
  /-- an instance of the class at C, its dict at dx, its attributes -/
  | ins (C dx : Addr) (fs : List (Str × V))
  /-- the dict of the instance at x -/
  | own (x : Addr)
  /-- the dict of an exception -/
  | xd (fs : List (Str × V))
  /-- a bound method, f of x -/
  | met (f x : Addr)
  /-- a range object lo, lo + 1, .. below hi -/
  | rng (lo hi : Int)
  /-- a thing that is known to the object (the script; a dict while a loop walks it): read, never written while it is so -/
  | frz (o : Obj) (u : HO)
  /-- a code object's table -/
  | tbl (ps : Array Value)
  /-- any other thing, by what is true of its one object (a def of one's own: SetO a S n := HO.ext fun h => ..) -/
  | ext (φ : Heap → Prop)
abbrev Hp := Addr → Option HO
def upd (H : Hp) (a : Addr) (o : HO) : Hp := fun b => if b = a then some o else H b
theorem upd_same {H : Hp} {a : Addr} {o : HO} : upd H a o a = some o := by unfold upd; rw [if_pos rfl]
theorem upd_ne {H : Hp} {a b : Addr} {o : HO} (h : b ≠ a) : upd H a o b = H b := by unfold upd; rw [if_neg h]
theorem ne_of {H : Hp} {a b : Addr} {o u : HO} (h : H a = some o) (h' : H b = some u) (d : o ≠ u) : a ≠ b := by
  intro e; subst e; rw [h] at h'; exact d (Option.some.inj h')
theorem ne_of_none {H : Hp} {a b : Addr} {o : HO} (h : H a = some o) (h' : H b = none) : a ≠ b := by
  intro e; subst e; rw [h] at h'; cases h'
section
variable (P : Program) (w : World)
def ObjOk (H : Hp) (h : Heap) (a : Addr) : HO → Prop
  | .lst xs => xs.length ≤ sizeLine ∧ ∃ (its : List Value) (n : Nat), Vals xs its ∧ h.get? a = some { cls := .type "list", data := .seq its.toArray n }
  | .tup xs => xs.length ≤ sizeLine ∧ ∃ its : List Value, Vals xs its ∧ IsTup h a its.toArray
  | .dK kvs => kvs.length ≤ sizeLine ∧ (a == sysModules) = false ∧ ∃ vs, KV kvs vs ∧ h.DictOf (mixKind P w) a vs
  | .dT kvs => kvs.length ≤ sizeLine ∧ (a == sysModules) = false ∧ ∃ xs : List (List Key × Addr × Value),
      Paired (fun (p : List Key × V) (q : List Key × Addr × Value) => p.1 = q.1 ∧ H q.2.1 = some (.tup (p.1.map kV)) ∧ RelV p.2 q.2.2) kvs xs ∧
      ∃ o es ep, h.get? a = some o ∧ o.ExactDict ∧ o.data = .dict es ep ∧ es.toList = xs.map (entryOfKey (tupleKind (mixKind P w))) ∧ (xs.map (·.1)).Nodup
  | .set S n => h.SetOf (intKind P w) a S n
  | .ins C dx fs => H dx = some (.own a) ∧ fs.length ≤ 1000 ∧ dx ≠ a ∧ h.get? a = some (PySem.W.instObj C dx) ∧
      ∃ mA, h.Ns1 dx mA ∧ (∀ f, RelO (fs.lookup f) (mA f)) ∧ PySem.Within mA (fs.map (·.1))
  | .own _ => ∃ o, h.get? a = some o
  | .xd fs => ∃ mA, h.Ns1 a mA ∧ ∀ f, RelO (fs.lookup f) (mA f)
  | .rng lo hi => ∃ t u v, h.get? a = some { cls := .type "range", data := .fields #[.int lo t, .int hi u, .int 1 v] }
  | .frz o u => h.get? a = some o ∧ ObjOk H h a u
  | .tbl ps => h.get? a = some { cls := .none, data := .fields ps }
  | .met f x => h.get? a = some (PySem.W.methodObj (.ref f) (.ref x))
  | .ext φ => φ h ∧ (∃ o, h.get? a = some o) ∧ ∀ h1 h2 : Heap, φ h1 → (∀ o, h1.get? a = some o → h2.get? a = some o) → φ h2
def HOk (H : Hp) (h : Heap) : Prop := ∀ a o, H a = some o → ObjOk P w H h a o
end
section
variable {P : Program} {w : World} {H H' : Hp} {h h' : Heap} {a : Addr} {o : HO}
theorem ObjOk.lt (x : ObjOk P w H h a o) : a < h.objs.size := by
  cases o with
  | lst xs => obtain ⟨_, _, _, _, e⟩ := x; exact Heap.lt_size e
  | tup xs => obtain ⟨_, _, _, p⟩ := x; exact p.lt
  | dK kvs => obtain ⟨_, _, _, _, o, _, _, e, _⟩ := x; exact Heap.lt_size e
  | dT kvs => obtain ⟨_, _, _, _, o, _, _, e, _⟩ := x; exact Heap.lt_size e
  | set S n => obtain ⟨o, _, _, _, e, _⟩ := x; exact Heap.lt_size e
  | ins C dx fs => obtain ⟨_, _, _, e, _⟩ := x; exact Heap.lt_size e
  | own y => obtain ⟨_, e⟩ := x; exact Heap.lt_size e
  | xd fs => obtain ⟨_, ⟨_, _, _, e, _⟩, _⟩ := x; exact Heap.lt_size e
  | rng lo hi => obtain ⟨_, _, _, e⟩ := x; exact Heap.lt_size e
  | frz ob u => obtain ⟨e, _⟩ := x; exact Heap.lt_size e
  | tbl ps => exact Heap.lt_size (show h.get? a = some _ from x)
  | met f y => exact Heap.lt_size (show h.get? a = some _ from x)
  | ext φ => obtain ⟨_, ⟨_, e⟩, _⟩ := x; exact Heap.lt_size e
theorem Paired.mapP {α β : Type} {F G : α → β → Prop} : ∀ {l₁ : List α} {l₂ : List β}, Paired F l₁ l₂ → (∀ a b, F a b → G a b) → Paired G l₁ l₂
  | _, _, .nil, _ => .nil
  | _, _, .cons r t, f => .cons (f _ _ r) (Paired.mapP t f)
theorem ObjOk.stay (x : ObjOk P w H h a o) (k : ∀ b u, (b = a ∨ H b = some (.own a)) → h.get? b = some u → h'.get? b = some u)
    (ho : ∀ b, H b = some (.own a) → H' b = some (.own a)) (ht : ∀ b xs, H b = some (.tup xs) → H' b = some (.tup xs)) : ObjOk P w H' h' a o := by
  induction o with
  | lst xs => obtain ⟨z, its, n, r, e⟩ := x; exact ⟨z, its, n, r, k _ _ (.inl rfl) e⟩
  | tup xs => obtain ⟨z, its, r, ob, e, c⟩ := x; exact ⟨z, its, r, ob, k _ _ (.inl rfl) e, c⟩
  | dK kvs => obtain ⟨z, y, vs, r, ob, es, ep, e, c⟩ := x; exact ⟨z, y, vs, r, ob, es, ep, k _ _ (.inl rfl) e, c⟩
  | dT kvs =>
    obtain ⟨z, y, xs, r, ob, es, ep, e, c⟩ := x
    exact ⟨z, y, xs, Paired.mapP r fun p q z => ⟨z.1, ht _ _ z.2.1, z.2.2⟩, ob, es, ep, k _ _ (.inl rfl) e, c⟩
  | set S n => obtain ⟨ob, es, ep, t, e, c⟩ := x; exact ⟨ob, es, ep, t, k _ _ (.inl rfl) e, c⟩
  | ins C dx fs =>
    obtain ⟨d, z, ne, e, mA, ⟨od, es, ep, e2, c⟩, r⟩ := x
    exact ⟨ho _ d, z, ne, k _ _ (.inl rfl) e, mA, ⟨od, es, ep, k _ _ (.inr d) e2, c⟩, r⟩
  | own y => obtain ⟨ob, e⟩ := x; exact ⟨ob, k _ _ (.inl rfl) e⟩
  | xd fs => obtain ⟨mA, ⟨od, es, ep, e, c⟩, r⟩ := x; exact ⟨mA, ⟨od, es, ep, k _ _ (.inl rfl) e, c⟩, r⟩
  | rng lo hi => obtain ⟨t, u, v, e⟩ := x; exact ⟨t, u, v, k _ _ (.inl rfl) e⟩
  | frz ob u ih => obtain ⟨e, q⟩ := x; exact ⟨k _ _ (.inl rfl) e, ih q⟩
  | tbl ps =>
    have e : h.get? a = some { cls := .none, data := .fields ps } := x
    show h'.get? a = some { cls := .none, data := .fields ps }
    exact k a _ (.inl rfl) e
  | met f y =>
    have e : h.get? a = some (PySem.W.methodObj (.ref f) (.ref y)) := x
    show h'.get? a = some (PySem.W.methodObj (.ref f) (.ref y))
    exact k a _ (.inl rfl) e
  | ext φ => obtain ⟨p, ⟨o, e⟩, st⟩ := x; exact ⟨st _ _ p fun o q => k _ _ (.inl rfl) q, ⟨o, k _ _ (.inl rfl) e⟩, st⟩
theorem HOk.lt (x : HOk P w H h) (e : H a = some o) : a < h.objs.size := (x a o e).lt
theorem HOk.fresh (x : HOk P w H h) (e : h.objs.size ≤ a) : H a = none := by
  cases q : H a with
  | none => rfl
  | some u => exact absurd (Nat.lt_of_lt_of_le (x.lt q) e) (Nat.lt_irrefl _)
theorem HOk.kept (x : HOk P w H h) (k : ∀ b u, h.get? b = some u → h'.get? b = some u) : HOk P w H h' := fun a o e =>
  (x a o e).stay (fun b u _ q => k b u q) (fun _ q => q) fun _ _ q => q
theorem HOk.laid (x : HOk P w H h) (k : ∀ b u, h.get? b = some u → h'.get? b = some u) (hp : h.objs.size ≤ a) (new : ObjOk P w (upd H a o) h' a o) : HOk P w (upd H a o) h' := fun b u e => by
  have hn := x.fresh hp
  by_cases hb : b = a
  · subst hb; rw [upd_same] at e; cases e; exact new
  · rw [upd_ne hb] at e
    exact (x b u e).stay (fun c v _ q => k c v q) (fun c q => by rw [upd_ne (ne_of_none q hn)]; exact q) fun c xs q => by rw [upd_ne (ne_of_none q hn)]; exact q
end
def Rd (H : Hp) (a : Addr) (u : HO) : Prop := H a = some u ∨ ∃ o, H a = some (.frz o u)
theorem Rd.of {H : Hp} {a : Addr} {u : HO} (h : H a = some u) : Rd H a u := .inl h
theorem Rd.ok {P : Program} {w : World} {H : Hp} {h : Heap} {a : Addr} {u : HO} (r : Rd H a u) (x : HOk P w H h) : ObjOk P w H h a u := by
  rcases r with r | ⟨o, r⟩
  · exact x a u r
  · obtain ⟨_, q⟩ := x a _ r
    exact q
def Mut : Option HO → Prop
  | some (.lst _) => True
  | some (.dK _) => True
  | some (.dT _) => True
  | some (.set _ _) => True
  | some (.ins _ _ _) => True
  | some (.ext _) => True
  | _ => False
section
variable {P : Program} {w : World} {H : Hp} {h h' : Heap} {x e : Addr} {o' : HO}
theorem HOk.write (ok : HOk P w H h) (mu : Mut (H x)) (he : e = x ∨ H e = some (.own x)) (k : ∀ b u, b ≠ e → h.get? b = some u → h'.get? b = some u) (heo : ∃ u, h'.get? e = some u)
    (new : ObjOk P w (upd H x o') h' x o') : HOk P w (upd H x o') h' := fun b u q => by
  have nown : ∀ c y, H c = some (.own y) → c ≠ x := fun c y r z => by subst z; rw [r] at mu; exact mu
  have ntup : ∀ c xs, H c = some (.tup xs) → c ≠ x := fun c xs r z => by subst z; rw [r] at mu; exact mu
  by_cases hb : b = x
  · subst hb; rw [upd_same] at q; cases q; exact new
  · rw [upd_ne hb] at q
    by_cases hbe : b = e
    · have q' : H b = some (.own x) := by
        rcases he with z | z
        · exact absurd (hbe.trans z) hb
        · rw [hbe]; exact z
      rw [q] at q'; cases q'
      obtain ⟨v, hv⟩ := heo
      exact ⟨v, by rw [hbe]; exact hv⟩
    · refine (ok b u q).stay (fun c v hc r => k c v ?_ r) (fun c r => by rw [upd_ne (nown c b r)]; exact r) fun c xs r => by rw [upd_ne (ntup c xs r)]; exact r
      rcases hc with rfl | hc
      · exact hbe
      · rintro rfl
        rcases he with z | z
        · exact nown c b hc z
        · rw [hc] at z; cases z; exact hb rfl
end
structure Un (fs ex : List Addr) (H H' : Hp) (h h' : Heap) : Prop where
  keep : ∀ b o, h.get? b = some o → H b = none → b ∉ fs → b ∉ ex → h'.get? b = some o
  slot : ∀ b o, h.get? b = some o → H b = none → b ∈ fs → b ∉ ex → ∃ sl, h'.get? b = some { o with slots := sl }
  free : ∀ b o, h.get? b = some o → H b = none → b ∉ ex → H' b = none
  there : ∀ b o, h.get? b = some o → b ∉ ex → ∃ o', h'.get? b = some o'
  tups : ∀ b xs, H b = some (.tup xs) → H' b = some (.tup xs)
  frzs : ∀ b o u, H b = some (.frz o u) → H' b = some (.frz o u)
  tbls : ∀ b ps, H b = some (.tbl ps) → ∃ more, H' b = some (.tbl (ps ++ more))
section
variable {fs fs' ex ex' : List Addr} {H H1 H2 : Hp} {h h1 h2 h' : Heap} {a x e : Addr} {o : HO}
theorem Un.any (u : Un fs ex H H1 h h1) {b : Addr} {ob : Obj} (q : h.get? b = some ob) (n : H b = none) (hx : b ∉ ex) : ∃ sl, h1.get? b = some { ob with slots := sl } := by
  by_cases hb : b ∈ fs
  · exact u.slot b ob q n hb hx
  · exact ⟨ob.slots, u.keep b ob q n hb hx⟩
theorem Un.trans (a : Un fs ex H H1 h h1) (b : Un fs ex H1 H2 h1 h2) : Un fs ex H H2 h h2 where
  keep := fun c ob q n hc hx => b.keep c ob (a.keep c ob q n hc hx) (a.free c ob q n hx) hc hx
  slot := fun c ob q n hc hx => by
    obtain ⟨sl, e1⟩ := a.slot c ob q n hc hx
    obtain ⟨sl', e2⟩ := b.slot c _ e1 (a.free c ob q n hx) hc hx
    exact ⟨sl', e2⟩
  free := fun c ob q n hx => by
    obtain ⟨o', e1⟩ := a.there c ob q hx
    exact b.free c o' e1 (a.free c ob q n hx) hx
  there := fun c ob q hx => by
    obtain ⟨o', e1⟩ := a.there c ob q hx
    exact b.there c o' e1 hx
  tups := fun c xs q => b.tups c xs (a.tups c xs q)
  frzs := fun c ob xs q => b.frzs c ob xs (a.frzs c ob xs q)
  tbls := fun c ps q => by
    obtain ⟨m1, e1⟩ := a.tbls c ps q
    obtain ⟨m2, e2⟩ := b.tbls c _ e1
    exact ⟨m1 ++ m2, by rw [e2, Array.append_assoc]⟩
theorem Un.kept (k : ∀ b u, h.get? b = some u → h'.get? b = some u) : Un fs ex H H h h' :=
  ⟨fun b ob q _ _ _ => k b ob q, fun b ob q _ _ _ => ⟨ob.slots, k b ob q⟩, fun _ _ _ n _ => n, fun b ob q _ => ⟨ob, k b ob q⟩, fun _ _ q => q, fun _ _ _ q => q, fun _ ps q => ⟨#[], by rw [q]; simp⟩⟩
theorem Un.refl : Un fs ex H H h h := Un.kept fun _ _ q => q
theorem Un.laid (k : ∀ b u, h.get? b = some u → h'.get? b = some u) (hp : h.objs.size ≤ a) (hn : H a = none) : Un fs ex H (upd H a o) h h' where
  keep := fun b u q _ _ _ => k b u q
  slot := fun b u q _ _ _ => ⟨u.slots, k b u q⟩
  free := fun b u q n _ => by rw [upd_ne (Nat.ne_of_lt (Nat.lt_of_lt_of_le (Heap.lt_size q) hp))]; exact n
  there := fun b u q _ => ⟨u, k b u q⟩
  tups := fun b xs q => by rw [upd_ne (ne_of_none q hn)]; exact q
  frzs := fun b u xs q => by rw [upd_ne (ne_of_none q hn)]; exact q
  tbls := fun b ps q => ⟨#[], by rw [upd_ne (ne_of_none q hn), q]; simp⟩
theorem Un.write (mu : Mut (H x)) (he : e = x ∨ H e = some (.own x)) (k : ∀ b u, b ≠ e → h.get? b = some u → h'.get? b = some u) (heo : ∃ u, h'.get? e = some u) : Un fs ex H (upd H x o) h h' := by
  have hx : ∀ b, H b = none → b ≠ x := fun b n z => by subst z; rw [n] at mu; exact mu
  have hb : ∀ b, H b = none → b ≠ e := fun b n z => by
    subst z
    rcases he with r | r
    · exact hx b n r
    · rw [n] at r; cases r
  have hm : ∀ b u, H b = some u → ¬ Mut (some u) → b ≠ x := fun b u q nm z => by subst z; rw [q] at mu; exact nm mu
  refine ⟨fun b u q n _ _ => k b u (hb b n) q, fun b u q n _ _ => ⟨u.slots, k b u (hb b n) q⟩, fun b u q n _ => by rw [upd_ne (hx b n)]; exact n, fun b u q _ => ?_,
    fun b xs q => by rw [upd_ne (hm b _ q fun z => z)]; exact q, fun b u xs q => by rw [upd_ne (hm b _ q fun z => z)]; exact q, fun b ps q => ⟨#[], by rw [upd_ne (hm b _ q fun z => z), q]; simp⟩⟩
  by_cases hbe : b = e
  · subst hbe; exact heo
  · exact ⟨u, k b u hbe q⟩
theorem Un.mono (u : Un fs ex H H1 h h1) (hs : ∀ b ∈ fs, b ∈ fs') (hx : ∀ b ∈ ex, b ∈ ex') : Un fs' ex' H H1 h h1 :=
  ⟨fun b ob q n hb he => u.keep b ob q n (fun z => hb (hs b z)) fun z => he (hx b z), fun _ _ q n _ he => u.any q n fun z => he (hx _ z), fun b ob q n he => u.free b ob q n fun z => he (hx b z), fun b ob q he => u.there b ob q fun z => he (hx b z), u.tups, u.frzs, u.tbls⟩
end
def trk (h : Heap) (H : Hp) : List Addr := (List.range h.objs.size).filter fun a => (H a).isSome
def hidT (h : Heap) (H : Hp) : Heap := PySem.W.hideAll h (trk h H)
theorem hidT_size (h : Heap) (H : Hp) : (hidT h H).objs.size = h.objs.size := PySem.W.hideAll_size _ _
theorem hidT_get {h : Heap} {H : Hp} {b : Addr} {o : Obj} (e : h.get? b = some o) (n : H b = none) : (hidT h H).get? b = some o :=
  PySem.W.hideAll_get _ e fun hm => by
    have q : (H b).isSome = true := (List.mem_filter.mp hm).2
    rw [n] at q; simp at q
theorem of_hidT {h : Heap} {H : Hp} {b : Addr} {o : Obj} (e : (hidT h H).get? b = some o) : h.get? b = some o ∧ H b = none := by
  have e' : h.get? b = some o := PySem.W.of_hideAll (trk h H) e
  refine ⟨e', ?_⟩
  cases q : H b with
  | none => rfl
  | some x =>
    have hm : b ∈ trk h H := List.mem_filter.mpr ⟨List.mem_range.mpr (Heap.lt_size e'), by simp [q]⟩
    have z : (hidT h H).get? b = none := PySem.W.hideAll_none (trk h H) hm
    rw [z] at e; cases e
def allNews (g h : Heap) (L : Addr) : List (Addr × Obj) := (List.range h.objs.size).filterMap fun a => if a = L ∨ (g.get? a).isSome = true then none else (h.get? a).map fun o => (a, o)
def rest (g h : Heap) (L d : Addr) : List (Addr × Obj) := (allNews g h L).filter fun p => decide (p.1 ≠ d)
end L2
namespace L2
open PySem PySem.Spec PyProof.Rows
structure Mod (K : PySem.W.Frag) (mg : Str → Option Value) (base : Heap) : Prop where
  kin : K.In base
  glob : base.Ns mainGlobals mg
  blt : ∃ mb, base.Ns builtinsNs mb ∧ ∀ x : Str, x ≠ "__name__" → mb x = bootBuiltins x
  nolimit : base.NoLimit
structure Cx where
  prog : Program
  w : World
  K : PySem.W.Frag
  mg : Str → Option Value
  base : Heap
  A : Around
  N : List Str
  s₀ : Shared
  H₀ : Hp
  env : Env
  outer : List Env
  stack : List Env
  ex : List Addr
  fn : Str → Bool
  calm : Bool
  pn : List (Addr × Obj)
  xe : Value → Shared → Prop
def frs (l : List Env) : List Addr := l.filterMap (·.frame)
abbrev Cx.fs (X : Cx) : List Addr := frs X.outer
def Vis (sc : Scope) (x : Str) : Prop := sc.names.lookup x = some .local ∨ sc.names.lookup x = some .cell ∨ sc.names.lookup x = some .free
def Loc (sc : Scope) (x : Str) : Prop := sc.names.lookup x = some .local ∨ sc.names.lookup x = some .cell
def Look (env : Env) (h : Heap) (m : Str → Option Value) (x : Str) (u : Value) : Prop :=
  (env.kindOf x = some .local ∧ m x = some u) ∨ ((env.kindOf x = some .cell ∨ env.kindOf x = some .free) ∧ ∃ c, env.cells.lookup x = some c ∧ h.IsCell c (some u))
structure Cx.Ok (X : Cx) : Prop where
  mod : Mod X.K X.mg X.base
  kind : X.env.scope.kind = .function
  glob : X.env.globals = mainGlobals
  blt : X.env.builtins = builtinsNs
  above : X.s₀.heap.objs.size ≤ X.env.locals
  inj : ∀ x y c, X.env.cells.lookup x = some c → X.env.cells.lookup y = some c → x = y
  has : ∀ x, (X.env.kindOf x = some .cell ∨ X.env.kindOf x = some .free) → ∃ c, X.env.cells.lookup x = some c
  cab : ∀ x c, X.fn x = true → X.env.cells.lookup x = some c → X.s₀.heap.objs.size ≤ c
  hd : X.calm = true → X.A.handled = none
  frames : X.A.frames = some X.stack
  stk : X.stack = X.outer ∨ (X.stack = X.env :: X.outer ∧ X.env.frame = some X.env.locals)
  exf : ∀ b ∈ X.ex, b ≠ X.env.locals ∧ ∀ x c, X.env.cells.lookup x = some c → c ≠ b
  bs : ∀ b o, X.base.get? b = some o → X.s₀.heap.get? b = some o ∧ X.H₀ b = none
  bsz : X.base.objs.size ≤ X.s₀.heap.objs.size
  noex : ∀ b o, X.base.get? b = some o → b ∉ X.ex
  exfs : ∀ b ∈ X.ex, b ∉ X.fs
  funs : X.s₀.heap.FunFrames X.base X.outer
  frf : ∀ b ∈ X.fs, X.H₀ b = none
structure Inv (X : Cx) (pins : List (Addr × Obj)) (σ : List (Option V)) (H : Hp) (s : Shared) : Prop where
  ok : X.Ok
  os : s.os = X.s₀.os
  bare : AllBare s.gens
  base : Un X.fs X.ex X.H₀ H X.s₀.heap s.heap
  loc : ∃ m, s.heap.Ns X.env.locals m ∧ ∀ (i : Nat) (x : Str) (v : V), X.N[i]? = some x → σ[i]? = some (some v) → Vis X.env.scope x → ∃ u, RelV v u ∧ Look X.env s.heap m x u
  cell : ∀ x c, X.env.cells.lookup x = some c → ∃ v, s.heap.IsCell c v
  free : H X.env.locals = none
  freeC : ∀ x c, X.env.cells.lookup x = some c → H c = none
  pin : ∀ p ∈ X.pn ++ pins, s.heap.get? p.1 = some p.2 ∧ H p.1 = none ∧ p.1 ≠ X.env.locals ∧ p.1 ∉ X.fs ∧ ∀ v, p.2.data ≠ .cell v
  hok : HOk X.prog X.w H s.heap
  len : σ.length = X.N.length
section
variable {X : Cx} {pins : List (Addr × Obj)} {σ : List (Option V)} {H H' : Hp} {s : Shared} {h' : Heap}
theorem Cx.Ok.nofr (ok : X.Ok) {b : Addr} {o : Obj} (e : X.base.get? b = some o) : b ∉ X.fs := fun hb => by
  have := (ok.funs.mem hb).1
  rw [e] at this; cases this
theorem Inv.bs (I : Inv X pins σ H s) : ∀ b o, X.base.get? b = some o → s.heap.get? b = some o ∧ H b = none := fun b o e =>
  ⟨I.base.keep b o (I.ok.bs b o e).1 (I.ok.bs b o e).2 (I.ok.nofr e) (I.ok.noex b o e), I.base.free b o (I.ok.bs b o e).1 (I.ok.bs b o e).2 (I.ok.noex b o e)⟩
theorem Inv.bk (I : Inv X pins σ H s) : ∀ b o, X.base.get? b = some o → s.heap.get? b = some o := fun b o e => (I.bs b o e).1
theorem Inv.mod (I : Inv X pins σ H s) : Mod X.K X.mg X.base := I.ok.mod
theorem Inv.kIn (I : Inv X pins σ H s) : X.K.In s.heap := I.ok.mod.kin.keeps I.bk
theorem Inv.nolimit (I : Inv X pins σ H s) : s.heap.NoLimit := I.ok.mod.nolimit.keeps I.bk
theorem Inv.fr (I : Inv X pins σ H s) : ∃ m, Fr X.base X.env.locals s.heap m :=
  let ⟨m, hn, _⟩ := I.loc
  ⟨m, hn, I.bk, Nat.le_trans I.ok.bsz I.ok.above⟩
theorem Inv.lt (I : Inv X pins σ H s) : X.env.locals < s.heap.objs.size := let ⟨_, hn, _⟩ := I.loc; hn.lt
theorem Inv.sz (I : Inv X pins σ H s) : X.s₀.heap.objs.size ≤ s.heap.objs.size := Nat.le_trans I.ok.above (Nat.le_of_lt I.lt)
theorem Inv.nofs (I : Inv X pins σ H s) {a : Addr} (h : s.heap.objs.size ≤ a) : a ∉ X.fs := fun hb => by
  obtain ⟨_, o, ho, _⟩ := I.ok.funs.mem hb
  exact absurd (Nat.lt_of_lt_of_le (Heap.lt_size ho) (Nat.le_trans I.sz h)) (Nat.lt_irrefl _)
theorem Inv.cne (I : Inv X pins σ H s) : ∀ x c, X.env.cells.lookup x = some c → c ≠ X.env.locals := fun x c e z => by
  obtain ⟨v, o, ho, hd⟩ := I.cell x c e
  obtain ⟨m, ⟨o', es, ep, ho', hd', _⟩, _⟩ := I.loc
  rw [z, ho'] at ho; cases ho; rw [hd'] at hd; cases hd
theorem Inv.funs (I : Inv X pins σ H s) : s.heap.FunFrames X.base X.outer := by
  have all : ∀ (l : List Env), (∀ b ∈ frs l, b ∈ X.fs) → X.s₀.heap.FunFrames X.base l → s.heap.FunFrames X.base l := by
    intro l
    induction l with
    | nil => intro _ _; trivial
    | cons env r ih =>
      intro hs hl
      obtain ⟨hk, ⟨L, o, hf, hn, ho, hd⟩, hr⟩ := hl
      have hL : L ∈ X.fs := hs L (by unfold frs; rw [List.filterMap_cons, hf]; exact List.mem_cons_self)
      obtain ⟨sl, e⟩ := I.base.slot L o ho (I.ok.frf L hL) hL fun z => I.ok.exfs L z hL
      exact ⟨hk, ⟨L, _, hf, hn, e, hd⟩, ih (fun b hb => hs b (by unfold frs; rw [List.filterMap_cons, hf]; exact List.mem_cons_of_mem _ hb)) hr⟩
  exact all X.outer (fun _ hb => hb) I.ok.funs
theorem Inv.stack (I : Inv X pins σ H s) : s.heap.FunFrames X.base X.stack := by
  rcases I.ok.stk with e | ⟨e, hf⟩
  · rw [e]; exact I.funs
  · rw [e]
    obtain ⟨m, hn, _⟩ := I.loc
    refine .cons (by rw [I.ok.kind]; decide) hf hn ?_ I.funs
    exact Heap.get?_none_of_le (Nat.le_trans I.ok.bsz I.ok.above)
theorem Inv.stkSub (I : Inv X pins σ H s) : ∀ b ∈ frs X.stack, b ∈ X.env.locals :: X.fs := fun b hb => by
  rcases I.ok.stk with e | ⟨e, hf⟩
  · rw [e] at hb; exact List.mem_cons_of_mem _ hb
  · rw [e] at hb
    unfold frs at hb
    rw [List.filterMap_cons, hf] at hb
    exact hb
theorem Inv.stkFree (I : Inv X pins σ H s) : ∀ b ∈ frs X.stack, H b = none := fun b hb => by
  rcases List.mem_cons.mp (I.stkSub b hb) with e | hb
  · rw [e]; exact I.free
  · obtain ⟨_, o, ho, _⟩ := I.ok.funs.mem hb
    exact I.base.free b o ho (I.ok.frf b hb) fun z => I.ok.exfs b z hb
theorem Inv.step {g' : Array GenState} {t' : Nat} {d' : Drawn} {ch : List Addr} (I : Inv X pins σ H s)
    (hch : ∀ b ∈ ch, (b ∈ X.ex ∨ X.s₀.heap.objs.size ≤ b) ∧ b ≠ X.env.locals ∧ (∀ x c, X.env.cells.lookup x = some c → c ≠ b) ∧ ∀ p ∈ X.pn ++ pins, p.1 ≠ b)
    (keep : ∀ b o, b ≠ X.env.locals → b ∉ X.fs → b ∉ ch → s.heap.get? b = some o → H b = none → h'.get? b = some o)
    (slot : ∀ b o, b ≠ X.env.locals → b ∈ X.fs → b ∉ ch → s.heap.get? b = some o → H b = none → ∃ sl, h'.get? b = some { o with slots := sl }) (free : ∀ b o, b ∉ ch → s.heap.get? b = some o → H b = none → H' b = none)
    (there : ∀ b o, b ∉ ch → s.heap.get? b = some o → ∃ o', h'.get? b = some o')
    (tups : ∀ b xs, H b = some (.tup xs) → H' b = some (.tup xs)) (frzs : ∀ b o u, H b = some (.frz o u) → H' b = some (.frz o u)) (tbls : ∀ b ps, H b = some (.tbl ps) → ∃ more, H' b = some (.tbl (ps ++ more)))
    (ns : ∀ m, s.heap.Ns X.env.locals m → h'.Ns X.env.locals m) (hok : HOk X.prog X.w H' h') (hg : AllBare g') :
    Inv X pins σ H' { s with heap := h', gens := g', drawn := d', toks := t' } := by
  have neL : ∀ b o, X.s₀.heap.get? b = some o → b ≠ X.env.locals := fun b o e => Nat.ne_of_lt (Nat.lt_of_lt_of_le (Heap.lt_size e) I.ok.above)
  have neC : ∀ b o, X.s₀.heap.get? b = some o → b ∉ X.ex → b ∉ ch := fun b o e hx hb => by
    rcases (hch b hb).1 with z | z
    · exact hx z
    · exact absurd (Nat.lt_of_lt_of_le (Heap.lt_size e) z) (Nat.lt_irrefl _)
  have cellK : ∀ x c, X.env.cells.lookup x = some c → ∀ v, s.heap.IsCell c v → h'.IsCell c v := fun x c e v ⟨o, ho, hd⟩ => by
    have nch : c ∉ ch := fun z => (hch c z).2.2.1 x c e rfl
    by_cases hc : c ∈ X.fs
    · obtain ⟨sl, q⟩ := slot c o (I.cne x c e) hc nch ho (I.freeC x c e)
      exact ⟨_, q, hd⟩
    · exact ⟨o, keep c o (I.cne x c e) hc nch ho (I.freeC x c e), hd⟩
  refine ⟨I.ok, I.os, hg, ⟨fun b o e n hb hx => ?_, fun b o e n hb hx => ?_, fun b o e n hx => ?_, fun b o e hx => ?_, fun b xs e => tups b xs (I.base.tups b xs e), fun b o xs e => frzs b o xs (I.base.frzs b o xs e), fun b ps e => ?_⟩, ?_, fun x c e => ?_, ?_, fun x c e => ?_, fun p hp => ?_, hok, I.len⟩
  · exact keep b o (neL b o e) hb (neC b o e hx) (I.base.keep b o e n hb hx) (I.base.free b o e n hx)
  · obtain ⟨sl, e1⟩ := I.base.slot b o e n hb hx
    obtain ⟨sl', e2⟩ := slot b _ (neL b o e) hb (neC b o e hx) e1 (I.base.free b o e n hx)
    exact ⟨sl', e2⟩
  · obtain ⟨o', e1⟩ := I.base.there b o e hx
    exact free b o' (neC b o e hx) e1 (I.base.free b o e n hx)
  · obtain ⟨o', e1⟩ := I.base.there b o e hx
    exact there b o' (neC b o e hx) e1
  · obtain ⟨m1, e1⟩ := I.base.tbls b ps e
    obtain ⟨m2, e2⟩ := tbls b _ e1
    exact ⟨m1 ++ m2, by rw [e2, Array.append_assoc]⟩
  · obtain ⟨m, hn, hl⟩ := I.loc
    refine ⟨m, ns m hn, fun i x v e1 e2 e3 => ?_⟩
    obtain ⟨u, r, l⟩ := hl i x v e1 e2 e3
    refine ⟨u, r, ?_⟩
    rcases l with l | ⟨k, c, e, z⟩
    · exact .inl l
    · exact .inr ⟨k, c, e, cellK x c e _ z⟩
  · obtain ⟨v, z⟩ := I.cell x c e
    exact ⟨v, cellK x c e v z⟩
  · obtain ⟨m, ⟨o, _, _, ho, _⟩, _⟩ := I.loc
    exact free _ o (fun z => (hch _ z).2.1 rfl) ho I.free
  · obtain ⟨v, o, ho, hd⟩ := I.cell x c e
    exact free c o (fun z => (hch c z).2.2.1 x c e rfl) ho (I.freeC x c e)
  · obtain ⟨e, n, ne, nf, d⟩ := I.pin p hp
    have nch : p.1 ∉ ch := fun z => (hch p.1 z).2.2.2 p hp rfl
    exact ⟨keep p.1 p.2 ne nf nch e n, free p.1 p.2 nch e n, ne, nf, d⟩
theorem Inv.un {t' : Nat} (I : Inv X pins σ H s) (u : Un X.fs [] H H' s.heap h') (hok : HOk X.prog X.w H' h') : Inv X pins σ H' { s with heap := h', toks := t' } := by
  obtain ⟨m, ⟨o, es, ep, ho, r⟩, _⟩ := id I.loc
  obtain ⟨sl, hL⟩ := u.any ho I.free (by simp)
  exact I.step (g' := s.gens) (d' := s.drawn) (ch := []) (fun _ z => nomatch z) (fun b o _ hb _ e n => u.keep b o e n hb (by simp)) (fun b o _ hb _ e n => u.slot b o e n hb (by simp)) (fun b o _ e n => u.free b o e n (by simp)) (fun b o _ e => u.there b o e (by simp)) u.tups u.frzs u.tbls (fun m' hm => by
    obtain ⟨o', es', ep', ho', r'⟩ := hm
    rw [ho] at ho'; cases ho'
    exact ⟨_, es', ep', hL, r'⟩) hok I.bare
theorem Inv.call {g' : Array GenState} {t' : Nat} {d' : Drawn} {ch : List Addr} (I : Inv X pins σ H s) (u : Un (frs X.stack) ch H H' s.heap h') (hok : HOk X.prog X.w H' h') (hg : AllBare g')
    (hch : ∀ b ∈ ch, (b ∈ X.ex ∨ X.s₀.heap.objs.size ≤ b) ∧ b ≠ X.env.locals ∧ (∀ x c, X.env.cells.lookup x = some c → c ≠ b) ∧ ∀ p ∈ X.pn ++ pins, p.1 ≠ b) :
    Inv X pins σ H' { s with heap := h', gens := g', drawn := d', toks := t' } := by
  obtain ⟨m, ⟨o, es, ep, ho, r⟩, _⟩ := id I.loc
  obtain ⟨sl, hL⟩ := u.any ho I.free fun z => (hch _ z).2.1 rfl
  exact I.step (ch := ch) hch (fun b o hL hb hc e n => u.keep b o e n (fun z => (List.mem_cons.mp (I.stkSub b z)).elim hL hb) hc) (fun b o _ _ hc e n => u.any e n hc) (fun b o hc e n => u.free b o e n hc) (fun b o hc e => u.there b o e hc) u.tups u.frzs u.tbls (fun m' hm => by
    obtain ⟨o', es', ep', ho', r'⟩ := hm
    rw [ho] at ho'; cases ho'
    exact ⟨_, es', ep', hL, r'⟩) hok hg
theorem Inv.turned {t' : Nat} {it : Addr} (I : Inv X pins σ H s) (k : ∀ b o, b ≠ it → s.heap.get? b = some o → h'.get? b = some o) (hn : H it = none) (hL : it ≠ X.env.locals)
    (h1 : it ∈ X.ex ∨ X.s₀.heap.objs.size ≤ it) (h2 : ∀ x c, X.env.cells.lookup x = some c → c ≠ it) (h3 : ∀ p ∈ X.pn ++ pins, p.1 ≠ it) : Inv X pins σ H { s with heap := h', toks := t' } := by
  have nit : ∀ b u, H b = some u → b ≠ it := fun b u e z => by rw [z, hn] at e; cases e
  refine I.step (g' := s.gens) (d' := s.drawn) (ch := [it]) (fun b hb => ?_) (fun b o _ _ hc e _ => k b o (fun z => hc (by simp [z])) e) (fun b o _ _ hc e _ => ⟨o.slots, k b o (fun z => hc (by simp [z])) e⟩) (fun _ _ _ _ n => n)
    (fun b o hc e => ⟨o, k b o (fun z => hc (by simp [z])) e⟩) (fun _ _ e => e) (fun _ _ _ e => e) (fun b ps e => ⟨#[], by rw [e]; simp⟩) (fun m hm => ?_) (fun b u e => ?_) I.bare
  · have e : b = it := by simpa using hb
    subst e
    exact ⟨h1, hL, h2, h3⟩
  · obtain ⟨o, es, ep, ho, r⟩ := hm
    exact ⟨o, es, ep, k _ o (Ne.symm hL) ho, r⟩
  · refine (I.hok b u e).stay (fun c v hc q => k c v ?_ q) (fun _ q => q) fun _ _ q => q
    rcases hc with z | z
    · rw [z]; exact nit b u e
    · exact nit c _ z
theorem Inv.tok (I : Inv X pins σ H s) (t : Nat) : Inv X pins σ H { s with toks := t } := I.un (h' := s.heap) (t' := t) Un.refl I.hok
theorem Inv.kept {t' : Nat} (I : Inv X pins σ H s) (k : ∀ b u, s.heap.get? b = some u → h'.get? b = some u) : Inv X pins σ H { s with heap := h', toks := t' } := I.un (Un.kept k) (I.hok.kept k)
theorem Inv.laid {a : Addr} {o : HO} {t' : Nat} (I : Inv X pins σ H s) (k : ∀ b u, s.heap.get? b = some u → h'.get? b = some u) (hp : s.heap.objs.size ≤ a) (new : ObjOk X.prog X.w (upd H a o) h' a o) :
    Inv X pins σ (upd H a o) { s with heap := h', toks := t' } := I.un (Un.laid k hp (I.hok.fresh hp)) (I.hok.laid k hp new)
theorem Inv.write {x e : Addr} {o : HO} {t' : Nat} (I : Inv X pins σ H s) (mu : Mut (H x)) (he : e = x ∨ H e = some (.own x)) (k : ∀ b u, b ≠ e → s.heap.get? b = some u → h'.get? b = some u) (heo : ∃ u, h'.get? e = some u)
    (new : ObjOk X.prog X.w (upd H x o) h' x o) : Inv X pins σ (upd H x o) { s with heap := h', toks := t' } := I.un (Un.write mu he k heo) (I.hok.write mu he k heo new)
theorem Inv.weak {σ' : List (Option V)} (I : Inv X pins σ H s) (hl : σ'.length = σ.length) (w : ∀ (i : Nat) v, σ'[i]? = some (some v) → σ[i]? = some (some v)) : Inv X pins σ' H s :=
  ⟨I.ok, I.os, I.bare, I.base, let ⟨m, hn, hl'⟩ := I.loc; ⟨m, hn, fun i x v e1 e2 e3 => hl' i x v e1 (w i v e2) e3⟩, I.cell, I.free, I.freeC, I.pin, I.hok, hl.trans I.len⟩
theorem Inv.pins_of {pins' : List (Addr × Obj)} (I : Inv X pins σ H s) (h : ∀ p ∈ pins', s.heap.get? p.1 = some p.2 ∧ H p.1 = none ∧ p.1 ≠ X.env.locals ∧ p.1 ∉ X.fs ∧ ∀ v, p.2.data ≠ .cell v) : Inv X pins' σ H s :=
  ⟨I.ok, I.os, I.bare, I.base, I.loc, I.cell, I.free, I.freeC, fun p hp => (List.mem_append.mp hp).elim (fun z => I.pin p (List.mem_append_left _ z)) (h p), I.hok, I.len⟩
theorem nodup_ix {N : List Str} (hN : N.Nodup) {i j : Nat} {x : Str} (a : N[i]? = some x) (b : N[j]? = some x) : i = j := by
  obtain ⟨h1, e1⟩ := List.getElem?_eq_some_iff.mp a
  obtain ⟨h2, e2⟩ := List.getElem?_eq_some_iff.mp b
  exact (List.getElem_inj hN).mp (e1.trans e2.symm)
theorem store_ok2 {M : Model} {A : Around} {E : Value → Shared → Prop} {i : Nat} {x : Str} {v : V} {u : Value} {Q : Unit → Shared → Prop} (I : Inv X pins σ H s) (hN : X.N.Nodup) (hi : X.N[i]? = some x) (hx : Loc X.env.scope x) (r : RelV v u)
    (h : ∀ s', Inv X pins (σ.set i (some v)) H s' → (∃ a, Heap.SameBut a s.heap s'.heap ∧ (a = X.env.locals ∨ X.env.cells.lookup x = some a)) → Q () s') (hf : X.fn x = true ∨ X.env.scope.names.lookup x = some .local := by first | exact .inl rfl | exact .inr rfl | assumption) : wpAny M A (storeName X.env x u) Q E s := by
  obtain ⟨m, hn, hl⟩ := id I.loc
  have hcls : (X.env.scope.kind == .class || (X.env.scope.kind == .module && X.env.locals != X.env.globals)) = false := by rw [I.ok.kind]; rfl
  have hiσ : i < σ.length := by rw [I.len]; exact (List.getElem?_eq_some_iff.mp hi).1
  have cne := I.cne
  have tracked : ∀ {a : Addr} {h' : Heap}, (∃ o, s.heap.get? a = some o ∧ H a = none) → Heap.SameBut a s.heap h' → HOk X.prog X.w H h' := fun {a h'} ha hs b ob e => by
    obtain ⟨_, _, hfree⟩ := ha
    refine (I.hok b ob e).stay (fun c w' hc q => (hs.2 c ?_).trans q) (fun _ q => q) fun _ _ q => q
    rintro rfl
    rcases hc with rfl | hc
    · rw [hfree] at e; cases e
    · rw [hfree] at hc; cases hc
  rcases hx with hk | hk
  · refine wpAny_storeName_local hk hn (fun h' hn' hs => ?_) hcls
    obtain ⟨oL, _, _, hoL, _⟩ := id hn
    refine h _ ⟨I.ok, I.os, I.bare, ⟨fun b o e n hb hx => ?_, fun b o e n hb hx => ?_, I.base.free, fun b o e hx => ?_, I.base.tups, I.base.frzs, I.base.tbls⟩, ⟨_, hn', fun j y v' e1 e2 e3 => ?_⟩, fun y c e => ?_, I.free, I.freeC, fun p hp => ?_, tracked ⟨oL, hoL, I.free⟩ hs, by simpa using I.len⟩ ⟨_, hs, .inl rfl⟩
    · exact (hs.2 b (Nat.ne_of_lt (Nat.lt_of_lt_of_le (Heap.lt_size e) I.ok.above))).trans (I.base.keep b o e n hb hx)
    · obtain ⟨sl, e1⟩ := I.base.slot b o e n hb hx
      exact ⟨sl, (hs.2 b (Nat.ne_of_lt (Nat.lt_of_lt_of_le (Heap.lt_size e) I.ok.above))).trans e1⟩
    · obtain ⟨o', e1⟩ := I.base.there b o e hx
      exact ⟨o', (hs.2 b (Nat.ne_of_lt (Nat.lt_of_lt_of_le (Heap.lt_size e) I.ok.above))).trans e1⟩
    · by_cases hj : j = i
      · subst hj
        rw [hi] at e1; cases e1
        rw [List.getElem?_set_self hiσ] at e2
        cases e2
        exact ⟨u, r, .inl ⟨hk, by simp⟩⟩
      · rw [List.getElem?_set_ne (Ne.symm hj)] at e2
        obtain ⟨u', r', q⟩ := hl j y v' e1 e2 e3
        refine ⟨u', r', ?_⟩
        rcases q with ⟨k, e⟩ | ⟨k, c, e, z⟩
        · refine .inl ⟨k, ?_⟩
          have : y ≠ x := fun e => hj (nodup_ix hN e1 (e ▸ hi))
          simp [this, e]
        · exact .inr ⟨k, c, e, z.sameBut hs (cne y c e)⟩
    · obtain ⟨w', z⟩ := I.cell y c e
      exact ⟨w', z.sameBut hs (cne y c e)⟩
    · obtain ⟨e, n, ne, nf, d⟩ := I.pin p hp
      exact ⟨(hs.2 p.1 ne).trans e, n, ne, nf, d⟩
  · have hfn : X.fn x = true := by
      rcases hf with z | z
      · exact z
      · rw [z] at hk; cases hk
    obtain ⟨c, hc⟩ := I.ok.has x (.inl hk)
    obtain ⟨w', z⟩ := I.cell x c hc
    refine wpAny_storeName_cell I.ok.kind hk hc z (fun h' hc' hs => ?_)
    obtain ⟨oc, hoc, hocd⟩ := id z
    refine h { s with heap := h' } ⟨I.ok, I.os, I.bare, ⟨fun b o e n hb hx => ?_, fun b o e n hb hx => ?_, I.base.free, fun b o e hx => ?_, I.base.tups, I.base.frzs, I.base.tbls⟩, ⟨m, hn.sameBut hs (Ne.symm (cne x c hc)), fun j y v' e1 e2 e3 => ?_⟩, fun y c' e => ?_, I.free, I.freeC, fun p hp => ?_, tracked ⟨oc, hoc, I.freeC x c hc⟩ hs, by simpa using I.len⟩ ⟨c, hs, .inr hc⟩
    · exact (hs.2 b (Nat.ne_of_lt (Nat.lt_of_lt_of_le (Heap.lt_size e) (I.ok.cab x c hfn hc)))).trans (I.base.keep b o e n hb hx)
    · obtain ⟨sl, e1⟩ := I.base.slot b o e n hb hx
      exact ⟨sl, (hs.2 b (Nat.ne_of_lt (Nat.lt_of_lt_of_le (Heap.lt_size e) (I.ok.cab x c hfn hc)))).trans e1⟩
    · obtain ⟨o', e1⟩ := I.base.there b o e hx
      exact ⟨o', (hs.2 b (Nat.ne_of_lt (Nat.lt_of_lt_of_le (Heap.lt_size e) (I.ok.cab x c hfn hc)))).trans e1⟩
    · by_cases hj : j = i
      · subst hj
        rw [hi] at e1; cases e1
        rw [List.getElem?_set_self hiσ] at e2
        cases e2
        exact ⟨u, r, .inr ⟨.inl hk, c, hc, hc'⟩⟩
      · rw [List.getElem?_set_ne (Ne.symm hj)] at e2
        obtain ⟨u', r', q⟩ := hl j y v' e1 e2 e3
        refine ⟨u', r', ?_⟩
        rcases q with q | ⟨k, c', e, z'⟩
        · exact .inl q
        · refine .inr ⟨k, c', e, z'.sameBut hs ?_⟩
          rintro rfl
          exact hj (nodup_ix hN e1 (I.ok.inj _ _ _ e hc ▸ hi))
    · by_cases hcc : c' = c
      · subst hcc; exact ⟨_, hc'⟩
      · obtain ⟨w2, z2⟩ := I.cell y c' e
        exact ⟨w2, z2.sameBut hs hcc⟩
    · obtain ⟨e, n, ne, nf, d⟩ := I.pin p hp
      refine ⟨(hs.2 p.1 ?_).trans e, n, ne, nf, d⟩
      intro q
      rw [q, hoc] at e
      have q' : oc = p.2 := Option.some.inj e
      exact d w' (by rw [← q']; exact hocd)
theorem store_ok {M : Model} {A : Around} {E : Value → Shared → Prop} {i : Nat} {x : Str} {v : V} {u : Value} {Q : Unit → Shared → Prop} (I : Inv X pins σ H s) (hN : X.N.Nodup) (hi : X.N[i]? = some x) (hx : Loc X.env.scope x) (r : RelV v u)
    (h : ∀ s', Inv X pins (σ.set i (some v)) H s' → Q () s') (hf : X.fn x = true ∨ X.env.scope.names.lookup x = some .local := by first | exact .inl rfl | exact .inr rfl | assumption) : wpAny M A (storeName X.env x u) Q E s :=
  store_ok2 I hN hi hx r (fun s' I' _ => h s' I') hf
theorem Inv.call' {s' : Shared} {ch : List Addr} (I : Inv X pins σ H s) (ho : s'.os = s.os) (u : Un (frs X.stack) ch H H' s.heap s'.heap) (hok : HOk X.prog X.w H' s'.heap) (hg : AllBare s'.gens)
    (hch : ∀ b ∈ ch, (b ∈ X.ex ∨ X.s₀.heap.objs.size ≤ b) ∧ b ≠ X.env.locals ∧ (∀ x c, X.env.cells.lookup x = some c → c ≠ b) ∧ ∀ p ∈ X.pn ++ pins, p.1 ≠ b) : Inv X pins σ H' s' := by
  obtain ⟨h', g', d', t', o'⟩ := s'
  have e : o' = s.os := ho
  subst e
  exact I.call (g' := g') (t' := t') (d' := d') u hok hg hch
end
abbrev XK := Value → Option Addr → Hp → Prop
abbrev St := List (Option V)
abbrev VK := V → Hp → Prop
abbrev TE := St → Hp → VK → Prop
abbrev TT := St → Hp → (Bool → Hp → Prop) → Prop
abbrev TA := St → Hp → (List V → Hp → Prop) → Prop
structure Ends where
  nx : St → Hp → Prop
  rt : VK
  bk : St → Hp → Prop := fun _ _ => False
  ct : St → Hp → Prop := fun _ _ => False
abbrev TS := Ends → St → Hp → Prop
def EP (X : Cx) (pins : List (Addr × Obj)) (σ : St) (Q : VK) (u : Value) (s' : Shared) : Prop := ∃ v H', Inv X pins σ H' s' ∧ RelV v u ∧ Q v H'
def TP (X : Cx) (pins : List (Addr × Obj)) (σ : St) (Q : Bool → Hp → Prop) (b : Bool) (s' : Shared) : Prop := ∃ H', Inv X pins σ H' s' ∧ Q b H'
def AP (X : Cx) (pins : List (Addr × Obj)) (σ : St) (Q : List V → Hp → Prop) (us : List Value) (s' : Shared) : Prop := ∃ vs H', Inv X pins σ H' s' ∧ Vals vs us ∧ Q vs H'
def SP (X : Cx) (pins : List (Addr × Obj)) (D : Ends) (f : Flow) (s' : Shared) : Prop :=
  match f with
  | .next => ∃ σ' H', Inv X pins σ' H' s' ∧ D.nx σ' H'
  | .brk => ∃ σ' H', Inv X pins σ' H' s' ∧ D.bk σ' H'
  | .cont => ∃ σ' H', Inv X pins σ' H' s' ∧ D.ct σ' H'
  | .ret u => ∃ v σ' H', Inv X pins σ' H' s' ∧ RelV v u ∧ D.rt v H'
def PE (X : Cx) (e : Expr) (t : TE) : Prop :=
  ∀ (pins : List (Addr × Obj)) (s : Shared) (σ : St) (H : Hp) (Q : VK), Inv X pins σ H s → t σ H Q → wpAny (model X.prog X.w) X.A (eval e X.env) (EP X pins σ Q) X.xe s
def PT (X : Cx) (e : Expr) (t : TT) : Prop :=
  ∀ (pins : List (Addr × Obj)) (s : Shared) (σ : St) (H : Hp) (Q : Bool → Hp → Prop), Inv X pins σ H s → t σ H Q → wpAny (model X.prog X.w) X.A (isTrue e X.env (eval e X.env)) (TP X pins σ Q) X.xe s
def PW (X : Cx) (e : Expr) (t : TT) : Prop :=
  ∀ (whole : Sem Value) (pins : List (Addr × Obj)) (s : Shared) (σ : St) (H : Hp) (Q : Bool → Hp → Prop), Inv X pins σ H s → t σ H Q → wpAny (model X.prog X.w) X.A (isTrue e X.env whole) (TP X pins σ Q) X.xe s
theorem PW.pt {X : Cx} {e : Expr} {t : TT} (h : PW X e t) : PT X e t := h _
def PA (X : Cx) (es : List Expr) (t : TA) : Prop :=
  ∀ (pos : Pos) (pins : List (Addr × Obj)) (s : Shared) (σ : St) (H : Hp) (Q : List V → Hp → Prop), Inv X pins σ H s → t σ H Q → wpAny (model X.prog X.w) X.A (spliced (backTo pos (starEach es X.env))) (AP X pins σ Q) X.xe s
def PS (X : Cx) (st : Stmt) (t : TS) : Prop :=
  ∀ (pins : List (Addr × Obj)) (s : Shared) (σ : St) (H : Hp) (D : Ends), Inv X pins σ H s → t D σ H → wpAny (model X.prog X.w) X.A (exec st X.env) (SP X pins D) X.xe s
def PSs (X : Cx) (st : List Stmt) (t : TS) : Prop :=
  ∀ (pins : List (Addr × Obj)) (s : Shared) (σ : St) (H : Hp) (D : Ends), Inv X pins σ H s → t D σ H → wpAny (model X.prog X.w) X.A (execs st X.env) (SP X pins D) X.xe s
theorem thn {α : Type} {t : Sem α} {Q Q' : α → Shared → Prop} {M : Model} {A : Around} {E : Value → Shared → Prop} {s : Shared} (h : wpAny M A t Q E s) (hQ : ∀ a s, Q a s → Q' a s) : wpAny M A t Q' E s := wpAny_mono h hQ fun _ _ x => x
end L2
namespace L2
open PySem PySem.Spec PyProof.Rows
section
variable {X : Cx}
def tVar (i : Nat) : TE := fun σ H Q => ∃ v, σ[i]? = some (some v) ∧ Q v H
def tC (v : V) : TE := fun _ H Q => Q v H
theorem pe_var {i : Nat} {x : Str} {pos : Pos} (hN : X.N[i]? = some x) (hv : Vis X.env.scope x) (hd : (x == ("__debug__" : Str)) = false := by decide) (hcd : (x == ("__classdict__" : Str)) = false := by decide) : PE X (.Name x pos) (tVar i) := by
  intro pins s σ H Q I h
  obtain ⟨v, e, h⟩ := h
  obtain ⟨m, hn, hl⟩ := I.loc
  obtain ⟨u, r, l⟩ := hl i x v hN e hv
  have fin : EP X pins σ Q u s := ⟨v, H, I, r, h⟩
  rcases l with ⟨hk, hm⟩ | ⟨hk, c, hc, hcell⟩
  · exact wpAny_Name (wpAny_loadName_local I.ok.kind hk hn hm fin) hd
  · rcases hk with hk | hk
    · exact wpAny_Name (wpAny_loadName_cell I.ok.kind hk hc hcell fin) hd
    · exact wpAny_Name (wpAny_loadName_free I.ok.kind hk hc hcell fin hcd) hd
theorem pe_int {i j pos} : PE X (.Constant (.int i) j pos) (tC (.int i)) := fun _ _ _ H _ I h => wpAny_Constant_int ⟨.int i, H, I.tok _, ⟨_, rfl⟩, h⟩
theorem pe_bl {b j pos} : PE X (.Constant (.bool b) j pos) (tC (.bl b)) := fun _ _ _ H _ I h => Constant_bool ⟨.bl b, H, I, rfl, h⟩
theorem pe_str {x j pos} : PE X (.Constant (.str x) j pos) (tC (.str x)) := fun _ _ _ H _ I h => Calls.Constant_str ⟨.str x, H, I.tok _, ⟨_, rfl⟩, h⟩
def Gl (X : Cx) (x : Str) : Prop := X.env.kindOf x = some .globalImplicit
theorem ld_glob {E : Value → Shared → Prop} {pins : List (Addr × Obj)} {s : Shared} {σ : St} {H : Hp} {x : Str} {u : Value} {pos : Pos} {Q : Value → Shared → Prop} (I : Inv X pins σ H s) (hg : Gl X x) (hm : X.mg x = some u) (h : Q u s)
    (hd : (x == ("__debug__" : Str)) = false := by decide) : wpAny (model X.prog X.w) X.A (eval (.Name x pos) X.env) Q E s :=
  Calls.Name_function_global I.ok.kind hg (Calls.loadGlobal_global (by rw [I.ok.glob]; exact I.mod.glob.keeps I.bk) hm h) hd
theorem ld_blt {E : Value → Shared → Prop} {pins : List (Addr × Obj)} {s : Shared} {σ : St} {H : Hp} {x : Str} {u : Value} {pos : Pos} {Q : Value → Shared → Prop} (I : Inv X pins σ H s) (hg : Gl X x) (hm : X.mg x = none) (hv : bootBuiltins x = some u) (h : Q u s)
    (hn : x ≠ "__name__" := by decide) (hd : (x == ("__debug__" : Str)) = false := by decide) : wpAny (model X.prog X.w) X.A (eval (.Name x pos) X.env) Q E s := by
  obtain ⟨mb, h1, h2⟩ := I.mod.blt
  exact Calls.Name_function_global I.ok.kind hg (Calls.loadGlobal_builtin (by rw [I.ok.glob]; exact I.mod.glob.keeps I.bk) hm (by rw [I.ok.blt]; exact h1.keeps I.bk) ((h2 x hn).trans hv) h) hd
theorem pe_glob {x : Str} {v : V} {u : Value} {pos : Pos} (hg : Gl X x) (hm : X.mg x = some u) (r : RelV v u) (hd : (x == ("__debug__" : Str)) = false := by decide) : PE X (.Name x pos) (tC v) :=
  fun _ _ _ H _ I h => ld_glob I hg hm ⟨v, H, I, r, h⟩ hd
theorem pe_bltn {x : Str} {v : V} {u : Value} {pos : Pos} (hg : Gl X x) (hm : X.mg x = none) (hv : bootBuiltins x = some u) (r : RelV v u) (hn : x ≠ "__name__" := by decide) (hd : (x == ("__debug__" : Str)) = false := by decide) : PE X (.Name x pos) (tC v) :=
  fun _ _ _ H _ I h => ld_blt I hg hm hv ⟨v, H, I, r, h⟩ hn hd
variable {a b : Expr} {ta tb : TE} {pos : Pos}
def tB (t : TE) : TT := fun σ H Q => t σ H fun x H1 => ∃ c, x = .bl c ∧ Q c H1
theorem pt_val {e : Expr} {t : TE} (h : PE X e t) (he : ∀ whole, isTrue e X.env whole = (do let v ← whole; standAt e.pos; holding [v] (truthy v)) := by intro _; rfl) : PT X e (tB t) := by
  intro pins s σ H Q I hw
  refine isTrue_plain (thn (h pins s σ H _ I hw) fun v s1 ⟨x, H1, I1, r1, q1⟩ => ?_) (he _)
  obtain ⟨d, rfl, q⟩ := q1
  cases r1
  exact wpAny_truthy_bool ⟨H1, I1, q⟩
variable {tA tB' : TT} {rest : List Expr}
def tOr (t u : TT) : TT := fun σ H Q => t σ H fun c H1 => if c = true then Q true H1 else u σ H1 Q
def tNot (t : TT) : TT := fun σ H Q => t σ H fun c H1 => Q (!c) H1
theorem pw_or1 (ha : PT X a tA) : PW X (.BoolOp .Or [a] pos) tA := by
  intro wh pins s σ H Q I h
  refine isTrue_or (thn (ha pins s σ H Q I h) fun c s1 e => ?_)
  cases c with
  | false => exact isTrue_or_nil e
  | true => exact e
theorem pw_or (ha : PT X a tA) (hb : PW X (.BoolOp .Or (b :: rest) pos) tB') : PW X (.BoolOp .Or (a :: b :: rest) pos) (tOr tA tB') := by
  intro wh pins s σ H Q I h
  refine isTrue_or (thn (ha pins s σ H _ I h) fun c s1 ⟨H1, I1, q1⟩ => ?_)
  cases c with
  | true => exact ⟨H1, I1, q1⟩
  | false => exact hb wh pins s1 σ H1 Q I1 q1
theorem pt_not (ha : PT X a tA) : PT X (.UnaryOp .Not a pos) (tNot tA) := by
  intro pins s σ H Q I h
  exact isTrue_not (ha pins s σ H (fun c H1 => Q (!c) H1) I h)
def tAndV (ta tb : TE) : TE := fun σ H Q => ta σ H fun x H1 => ∃ c, x = .bl c ∧ if c = true then tb σ H1 Q else Q (.bl false) H1
def tNotV (ta : TE) : TE := fun σ H Q => ta σ H fun x H1 => ∃ c, x = .bl c ∧ Q (.bl (!c)) H1
theorem pe_one {op} {t : TE} (h : PE X a t) : PE X (.BoolOp op [a] pos) t := fun pins s σ H Q I hw => BoolOp_one (h pins s σ H Q I hw)
theorem pe_and (ha : PE X a ta) (hb : PE X (.BoolOp .And (b :: rest) pos) tb) : PE X (.BoolOp .And (a :: b :: rest) pos) (tAndV ta tb) := by
  intro pins s σ H Q I h
  refine BoolOp_and (thn (ha pins s σ H _ I h) fun v s1 ⟨x, H1, I1, r1, q1⟩ => ?_)
  obtain ⟨c, rfl, q1⟩ := q1
  cases r1
  refine wpAny_truthy_bool ?_
  cases c with
  | true => exact hb pins s1 σ H1 Q I1 q1
  | false => exact ⟨.bl false, H1, I1, rfl, q1⟩
theorem pe_not (ha : PE X a ta) : PE X (.UnaryOp .Not a pos) (tNotV ta) := by
  intro pins s σ H Q I h
  refine UnaryOp_ (thn (ha pins s σ H _ I h) fun v s1 ⟨x, H1, I1, r1, q1⟩ => ?_)
  obtain ⟨c, rfl, q1⟩ := q1
  cases r1
  exact not_of (wpAny_truthy_bool ⟨.bl (!c), H1, I1, rfl, q1⟩)
end
end L2
namespace L2
open PySem PySem.Spec PyProof.Rows
def SqL (K : PySem.W.Frag) (H : Hp) (a : Addr) (xs : List V) : Prop :=
  Rd H a (.lst xs) ∨
    ∃ (o : Obj) (its : Array Value) (n : Nat), K.lookup a = some o ∧ o.cls = .type "list" ∧ o.dict = none ∧ o.data = .seq its n ∧ its.size ≤ sizeLine ∧ Vals xs its.toList
def SqT (K : PySem.W.Frag) (H : Hp) (a : Addr) (xs : List V) : Prop :=
  Rd H a (.tup xs) ∨
    ∃ (o : Obj) (its : Array Value) (n : Nat), K.lookup a = some o ∧ o.cls = .type "tuple" ∧ o.data = .seq its n ∧ its.size ≤ sizeLine ∧ Vals xs its.toList
def absV : Value → Option V
  | .none => some .non
  | .bool b => some (.bl b)
  | .int i _ => some (.int i)
  | .str x _ => some (.str x)
  | .bytes b _ => some (.byt b)
  | .float b _ => some (.flt b)
  | .ref a => some (.ref a)
  | .type n => some (.ty n)
  | _ => none
theorem RelV.abs {x : V} {u : Value} (r : RelV x u) : absV u = some x := by
  cases x with
  | non => cases r; rfl
  | bl _ => cases r; rfl
  | int _ => obtain ⟨t, rfl⟩ := r; rfl
  | str _ => obtain ⟨t, rfl⟩ := r; rfl
  | byt _ => obtain ⟨t, rfl⟩ := r; rfl
  | flt _ => obtain ⟨t, rfl⟩ := r; rfl
  | ref _ => cases r; rfl
  | ty _ => cases r; rfl
theorem RelV.inj {x y : V} {u : Value} (r : RelV x u) (q : RelV y u) : x = y := Option.some.inj (r.abs.symm.trans q.abs)
theorem Vals.inj : ∀ {xs ys : List V} {us : List Value}, Vals xs us → Vals ys us → xs = ys
  | _, _, _, .nil, .nil => rfl
  | _, _, _, .cons r t, .cons r' t' => by rw [r.inj r', Vals.inj t t']
section
variable {X : Cx} {pins : List (Addr × Obj)} {σ : St} {H : Hp} {s : Shared} {a : Addr} {xs ys : List V}
theorem SqL.of {K : PySem.W.Frag} (h : H a = some (.lst xs)) : SqL K H a xs := .inl (.inl h)
theorem SqT.of {K : PySem.W.Frag} (h : H a = some (.tup xs)) : SqT K H a xs := .inl (.inl h)
theorem Inv.list (I : Inv X pins σ H s) (h : SqL X.K H a xs) : ∃ its : List Value, Vals xs its ∧ PlainL s.heap a its.toArray ∧ xs.length ≤ sizeLine := by
  rcases h with h | ⟨o, its, n, hk, hc, hd, hs, hz, r⟩
  · obtain ⟨z, its, n, r, e⟩ := h.ok I.hok
    exact ⟨its, r, ⟨_, n, e, rfl, rfl, rfl⟩, z⟩
  · refine ⟨its.toList, r, ⟨o, n, I.kIn a o hk, hc, hd, by simpa using hs⟩, ?_⟩
    have e := r.length
    simp only [Array.length_toList] at e
    omega
theorem Inv.tuple (I : Inv X pins σ H s) (h : SqT X.K H a xs) : ∃ its : List Value, Vals xs its ∧ IsTup s.heap a its.toArray ∧ xs.length ≤ sizeLine := by
  rcases h with h | ⟨o, its, n, hk, hc, hs, hz, r⟩
  · obtain ⟨z, its, r, p⟩ := h.ok I.hok
    exact ⟨its, r, p, z⟩
  · refine ⟨its.toList, r, ⟨o, I.kIn a o hk, hc, n, by simpa using hs⟩, ?_⟩
    have e := r.length
    simp only [Array.length_toList] at e
    omega
theorem Inv.list_inj (I : Inv X pins σ H s) (h : SqL X.K H a xs) (h' : SqL X.K H a ys) : xs = ys := by
  obtain ⟨its, r, ⟨o, n, e, _, _, d⟩, _⟩ := I.list h
  obtain ⟨its', r', ⟨o', n', e', _, _, d'⟩, _⟩ := I.list h'
  rw [e] at e'; cases e'
  rw [d] at d'
  injection d' with d1 _
  have : its = its' := by simpa using congrArg Array.toList d1
  subst this
  exact r.inj r'
theorem Inv.tuple_inj (I : Inv X pins σ H s) (h : SqT X.K H a xs) (h' : SqT X.K H a ys) : xs = ys := by
  obtain ⟨its, r, ⟨o, e, _, n, d⟩, _⟩ := I.tuple h
  obtain ⟨its', r', ⟨o', e', _, n', d'⟩, _⟩ := I.tuple h'
  rw [e] at e'; cases e'
  rw [d] at d'
  injection d' with d1 _
  have : its = its' := by simpa using congrArg Array.toList d1
  subst this
  exact r.inj r'
end
abbrev Cx.wish (X : Cx) (E : Value → Shared → Prop) : Cx := { X with xe := E }
abbrev Cx.nox (X : Cx) : Cx := X.wish fun _ _ => False
theorem Cx.Ok.wish {X : Cx} (ok : X.Ok) (E : Value → Shared → Prop) : (X.wish E).Ok :=
  ⟨ok.mod, ok.kind, ok.glob, ok.blt, ok.above, ok.inj, ok.has, ok.cab, ok.hd, ok.frames, ok.stk, ok.exf, ok.bs, ok.bsz, ok.noex, ok.exfs, ok.funs, ok.frf⟩
theorem Cx.Ok.unwish {X : Cx} {E : Value → Shared → Prop} (ok : (X.wish E).Ok) : X.Ok :=
  ⟨ok.mod, ok.kind, ok.glob, ok.blt, ok.above, ok.inj, ok.has, ok.cab, ok.hd, ok.frames, ok.stk, ok.exf, ok.bs, ok.bsz, ok.noex, ok.exfs, ok.funs, ok.frf⟩
section
variable {X : Cx} {pins : List (Addr × Obj)} {σ : St} {H : Hp} {s : Shared} {E : Value → Shared → Prop}
theorem Inv.wish (I : Inv X pins σ H s) (E : Value → Shared → Prop) : Inv (X.wish E) pins σ H s := ⟨I.ok.wish E, I.os, I.bare, I.base, I.loc, I.cell, I.free, I.freeC, I.pin, I.hok, I.len⟩
theorem Inv.unwish (I : Inv (X.wish E) pins σ H s) : Inv X pins σ H s := ⟨I.ok.unwish, I.os, I.bare, I.base, I.loc, I.cell, I.free, I.freeC, I.pin, I.hok, I.len⟩
theorem SP.unwish {D : Ends} {f : Flow} {s' : Shared} (h : SP (X.wish E) pins D f s') : SP X pins D f s' := by
  cases f with
  | next => obtain ⟨σ', H', I, q⟩ := h; exact ⟨σ', H', I.unwish, q⟩
  | brk => obtain ⟨σ', H', I, q⟩ := h; exact ⟨σ', H', I.unwish, q⟩
  | cont => obtain ⟨σ', H', I, q⟩ := h; exact ⟨σ', H', I.unwish, q⟩
  | ret u => obtain ⟨v, σ', H', I, r, q⟩ := h; exact ⟨v, σ', H', I.unwish, r, q⟩
theorem PE.nox {e : Expr} {t : TE} (h : PE X.nox e t) : PE X e t := fun pins s σ H Q I hw =>
  wpAny_mono (h pins s σ H Q (I.wish _) hw) (fun _ _ ⟨v, H', I', r, q⟩ => ⟨v, H', I'.unwish, r, q⟩) fun _ _ z => False.elim z
theorem PT.nox {e : Expr} {t : TT} (h : PT X.nox e t) : PT X e t := fun pins s σ H Q I hw =>
  wpAny_mono (h pins s σ H Q (I.wish _) hw) (fun _ _ ⟨H', I', q⟩ => ⟨H', I'.unwish, q⟩) fun _ _ z => False.elim z
theorem PSs.nox {st : List Stmt} {t : TS} (h : PSs X.nox st t) : PSs X st t := fun pins s σ H D I hw =>
  wpAny_mono (h pins s σ H D (I.wish _) hw) (fun _ _ q => q.unwish) fun _ _ z => False.elim z
end
section
variable {X : Cx} {st : Stmt} {rest : List Stmt} {t u : TS} {e : Expr} {te : TE} {pos : Pos}
def tNext : TS := fun D σ H => D.nx σ H
def tSeq (t u : TS) : TS := fun D σ H => t { D with nx := u D } σ H
theorem pss_nil : PSs X [] tNext := fun _ _ σ H _ I h => wpAny_execs_nil ⟨σ, H, I, h⟩
theorem pss_cons (h1 : PS X st t) (h2 : PSs X rest u) : PSs X (st :: rest) (tSeq t u) := by
  intro pins s σ H D I h
  refine wpAny_execs_cons (thn (h1 pins s σ H { D with nx := u D } I h) fun f s1 q => ?_)
  cases f with
  | next =>
    obtain ⟨σ', H', I', q⟩ := q
    exact h2 pins s1 σ' H' D I' q
  | ret v => exact q
  | brk => exact q
  | cont => exact q
theorem pss_one (h1 : PS X st t) : PSs X [st] t := by
  intro pins s σ H D I h
  refine wpAny_execs_cons (thn (h1 pins s σ H D I h) fun f s1 q => ?_)
  cases f with
  | next => exact wpAny_execs_nil q
  | ret v => exact q
  | brk => exact q
  | cont => exact q
theorem Inv.quiet {pins : List (Addr × Obj)} {σ : St} {H : Hp} {s : Shared} (I : Inv X pins σ H s) : interactive X.env = false := by simp [interactive, I.ok.kind]
def tDrop (te : TE) : TS := fun D σ H => te σ H fun _ H1 => D.nx σ H1
theorem ps_expr (he : PE X e te) (hs : swapsWith e none pos.line X.env = pure false := by rfl) : PS X (.Expr e pos) (tDrop te) := by
  intro pins s σ H D I h
  exact wpAny_Expr_any (thn (he pins s σ H _ I h) fun v s1 ⟨x, H1, I1, r1, q1⟩ => ⟨σ, H1, I1, q1⟩) I.quiet hs
def tRet (te : TE) : TS := fun D σ H => te σ H D.rt
theorem ps_ret (he : PE X e te) : PS X (.Return (some e) pos) (tRet te) := by
  intro pins s σ H D I h
  exact wpAny_Return_some (thn (he pins s σ H _ I h) fun v s1 ⟨x, H1, I1, r1, q1⟩ => ⟨x, σ, H1, I1, r1, q1⟩)
def tIfS (c : TT) (t u : TS) : TS := fun D σ H => c σ H fun b H1 => if b = true then t D σ H1 else u D σ H1
theorem ps_if {c : Expr} {a b : List Stmt} {tc : TT} (hc : PT X c tc) (ha : PSs X a t) (hb : PSs X b u) : PS X (.If c a b pos) (tIfS tc t u) := by
  intro pins s σ H D I h
  refine wpAny_If (thn (hc pins s σ H _ I h) fun d s1 ⟨H1, I1, q1⟩ => ?_)
  cases d with
  | true => exact ha pins s1 σ H1 D I1 q1
  | false => exact hb pins s1 σ H1 D I1 q1
end
abbrev TG := V → St → Hp → (St → Hp → Prop) → Prop
abbrev TGs := List V → St → Hp → (St → Hp → Prop) → Prop
def PG (X : Cx) (target : Expr) (t : TG) : Prop :=
  ∀ (pins : List (Addr × Obj)) (s : Shared) (σ : St) (H : Hp) (v : V) (u : Value) (Q : St → Hp → Prop), Inv X pins σ H s → RelV v u → t v σ H Q →
    wpAny (model X.prog X.w) X.A (assign target X.env u) (fun _ s' => ∃ σ' H', Inv X pins σ' H' s' ∧ Q σ' H') X.xe s
def PGs (X : Cx) (ts : List Expr) (t : TGs) : Prop :=
  ∀ (pins : List (Addr × Obj)) (s : Shared) (σ : St) (H : Hp) (vs : List V) (us : List Value) (Q : St → Hp → Prop), Inv X pins σ H s → Vals vs us → t vs σ H Q →
    wpAny (model X.prog X.w) X.A (assignInOrder ((assignEach ts X.env).map (·.2)) us) (fun _ s' => ∃ σ' H', Inv X pins σ' H' s' ∧ Q σ' H') X.xe s
section
variable {X : Cx} {pos : Pos}
def gName (i : Nat) : TG := fun v σ H Q => Q (σ.set i (some v)) H
theorem pg_name {i : Nat} {x : Str} (hN : X.N.Nodup) (hi : X.N[i]? = some x) (hx : Loc X.env.scope x) (hf : X.fn x = true ∨ X.env.scope.names.lookup x = some .local := by first | exact .inl rfl | exact .inr rfl | assumption) : PG X (.Name x pos) (gName i) := by
  intro pins s σ H v u Q I r h
  exact wpAny_assign_Name (store_ok I hN hi hx r (fun s' I' => ⟨_, H, I', h⟩) hf)
def gNil : TGs := fun vs σ H Q => vs = [] ∧ Q σ H
def gCons (t : TG) (u : TGs) : TGs := fun vs σ H Q => ∃ v r, vs = v :: r ∧ t v σ H fun σ' H' => u r σ' H' Q
theorem pgs_nil : PGs X [] gNil := by
  intro pins s σ H vs us Q I r h
  obtain ⟨e, h⟩ := h
  subst e
  cases r
  exact assignInOrder_nil ⟨σ, H, I, h⟩
theorem pgs_cons {e : Expr} {es : List Expr} {t : TG} {u : TGs} (h1 : PG X e t) (h2 : PGs X es u)
    (hs : (assignEach (e :: es) X.env).map (·.2) = assign e X.env :: (assignEach es X.env).map (·.2) := by rfl) : PGs X (e :: es) (gCons t u) := by
  intro pins s σ H vs us Q I r h
  obtain ⟨v, vr, e1, h⟩ := h
  subst e1
  cases r with
  | cons r rr =>
    rw [hs]
    refine assignInOrder_cons (thn (h1 pins s σ H _ _ _ I r h) fun _ s1 ⟨σ1, H1, I1, q1⟩ => ?_)
    exact h2 pins s1 σ1 H1 _ _ Q I1 rr q1
def gTup (K : PySem.W.Frag) (n : Nat) (t : TGs) : TG := fun v σ H Q => ∃ a xs, v = .ref a ∧ SqT K H a xs ∧ xs.length = n ∧ t xs σ H Q
theorem pg_tup {es : List Expr} {k : Nat} {t : TGs} {n : Nat} (hc : X.calm = true) (h : PGs X es t)
    (hn : (assignEach es X.env).length = n := by rfl) (hst : (assignEach es X.env).findIdx? (·.1) = none := by rfl) : PG X (.Tuple es k pos) (gTup X.K n t) := by
  intro pins s σ H v u Q I r hw
  obtain ⟨a, xs, e1, hq, hl, hw⟩ := hw
  subst e1
  cases r
  obtain ⟨its, rv, ht, hz⟩ := I.tuple hq
  refine assign_Tuple_tuple (I.ok.hd hc) ht (by simp [hn, ← hl, rv.length]) hst fun h' hx => ?_
  have I1 : Inv X pins σ H { s with heap := h' } := I.kept (t' := s.toks) fun b o e => hx b o (Nat.ne_of_lt (Heap.lt_size e)) e
  exact h pins _ σ H xs _ Q I1 (by simpa using rv) hw
def tAsg (te : TE) (g : TG) : TS := fun D σ H => te σ H fun x H1 => g x σ H1 D.nx
theorem ps_set {i : Nat} {x : Str} {e : Expr} {te : TE} {pos' : Pos} (hN : X.N.Nodup) (hi : X.N[i]? = some x) (hx : Loc X.env.scope x) (he : PE X e te) (hs : swapsWith e (some (.Name x pos')) pos.line X.env = pure false := by rfl) (hf : X.fn x = true ∨ X.env.scope.names.lookup x = some .local := by first | exact .inl rfl | exact .inr rfl | assumption) :
    PS X (.Assign [.Name x pos'] e pos) (tAsg te (gName i)) := by
  intro pins s σ H D I h
  refine wpAny_Assign_Name (thn (he pins s σ H _ I h) fun v s1 ⟨y, H1, I1, r1, q1⟩ => ?_) hs
  exact store_ok I1 hN hi hx r1 (fun s2 I2 => ⟨_, H1, I2, q1⟩) hf
def tPar (i j : Nat) (ta : TA) : TS := fun D σ H => ta σ H fun vs H1 => ∃ v w, vs = [v, w] ∧ D.nx ((σ.set i (some v)).set j (some w)) H1
theorem ps_par {i j : Nat} {x y : Str} {a b : Expr} {ta : TA} {px py pt : Pos} {kt k2 pt2} (hc : X.calm = true) (hN : X.N.Nodup) (hi : X.N[i]? = some x) (hj : X.N[j]? = some y) (hij : i ≠ j)
    (hx : X.env.scope.names.lookup x = some .local) (hy : X.env.scope.names.lookup y = some .local) (ha : PA X [a, b] ta)
    (hw : swappedStores [.Tuple [.Name x px, .Name y py] kt pt] (.Tuple [a, b] k2 pt2) X.env = pure (some [x, y]))
    (hs : swapsWithSole [.Tuple [.Name x px, .Name y py] kt pt] (.Tuple [a, b] k2 pt2) pos.line X.env = pure false := by rfl) :
    PS X (.Assign [.Tuple [.Name x px, .Name y py] kt pt] (.Tuple [a, b] k2 pt2) pos) (tPar i j ta) := by
  intro pins s σ H D I h
  rw [exec_Assign_arm]
  refine wpAny_bind (wpAny_standAt ?_)
  rw [hs]
  refine wpAny_bind (wpAny_pure ?_)
  rw [if_neg (by decide)]
  refine wpAny_bind (Tuple_ (thn (ha _ pins s σ H _ I h) fun us s1 ⟨vs, H1, I1, r1, q1⟩ => ?_))
  obtain ⟨v, w, e1, q1⟩ := q1
  subst e1
  obtain ⟨u1, u2, rfl, rv, rw'⟩ : ∃ u1 u2, us = [u1, u2] ∧ RelV v u1 ∧ RelV w u2 := by
    cases r1 with
    | cons p q =>
      cases q with
      | cons p' q' =>
        cases q'
        exact ⟨_, _, rfl, p, p'⟩
  refine wpAny_newObj_type ?_ (by show 2 ≤ sizeLine; decide)
  have I2 : Inv X pins σ H1 { s1 with heap := s1.heap.push { cls := .type "tuple", data := .seq [u1, u2].toArray } } := I1.kept (t' := s1.toks) fun b o e => Heap.get?_push_of_some _ e
  rw [hw]
  refine wpAny_bind (wpAny_pure ?_)
  show wpAny (model X.prog X.w) X.A (do rule "assign.swapped-stores"; let items ← unpackItems (.ref s1.heap.objs.size) 2 none; assignInOrder [fun v => bindName X.env y v, fun v => bindName X.env x v] items.reverse; pure Flow.next) _ _ _
  refine wpAny_bind (wpAny_rule (wpAny_bind (unpackItems_tuple (items := #[u1, u2]) (I.ok.hd hc) (IsTup.new s1.heap _) fun h' hx' => ?_)))
  have I3 := I2.kept (h' := h') (t' := s1.toks) fun b o e => hx' b o (Nat.ne_of_lt (Heap.lt_size e)) e
  show wpAny _ _ (assignInOrder [fun v => bindName X.env y v, fun v => bindName X.env x v] [u2, u1] >>= fun _ => pure Flow.next) _ _ _
  refine wpAny_bind (assignInOrder_cons (wpAny_bindName (store_ok I3 hN hj (.inl hy) rw' (fun s2 I4 => ?_) (.inr hy))))
  refine assignInOrder_cons (wpAny_bindName (store_ok I4 hN hi (.inl hx) rv (fun s3 I5 => assignInOrder_nil (wpAny_pure ?_)) (.inr hx)))
  rw [List.set_comm _ _ (Ne.symm hij)] at I5
  exact ⟨_, H1, I5, q1⟩
end
section
variable {X : Cx} {pos : Pos}
def tWhile (c : TT) (tb : TS) : TS := fun D σ H => ∃ W : Nat → St → Hp → Prop, (∃ m, W m σ H) ∧ ∀ m σ H, W m σ H →
  c σ H fun b H1 => if b = true then ∃ N : St → Hp → Prop, (∀ σ' H', N σ' H' → ∃ m', m' < m ∧ W m' σ' H') ∧ tb { D with nx := N, ct := N, bk := D.nx } σ H1 else D.nx σ H1
theorem ps_while {c : Expr} {body : List Stmt} {tc : TT} {tb : TS} (hp : PassesOwn (model X.prog X.w) X.A X.env X.xe) (hc : PT X c tc) (hb : PSs X body tb) : PS X (.While c body [] pos) (tWhile tc tb) := by
  intro pins s σ H D I h
  obtain ⟨W, ⟨m0, w0⟩, turn⟩ := h
  refine wpAny_While (codeAny_whileLoop (fun n s' => ∃ σ' H', Inv X pins σ' H' s' ∧ W n σ' H') ?_ m0 ⟨σ, H, I, w0⟩)
  rintro n s1 ⟨σ1, H1, I1, w1⟩
  refine wpAny_passesOwn hp (thn (hc pins s1 σ1 H1 _ I1 (turn n σ1 H1 w1)) fun b s2 ⟨H2, I2, q2⟩ => ?_)
  cases b with
  | true =>
    obtain ⟨N, hN, q2⟩ := q2
    rw [if_pos rfl]
    refine wpAny_passesOwn hp (thn (hb pins s2 σ1 H2 _ I2 q2) fun f s3 q3 => ?_)
    cases f with
    | next =>
      obtain ⟨σ3, H3, I3, n3⟩ := q3
      obtain ⟨m', hm, w3⟩ := hN σ3 H3 n3
      exact ⟨m', hm, σ3, H3, I3, w3⟩
    | cont =>
      obtain ⟨σ3, H3, I3, n3⟩ := q3
      obtain ⟨m', hm, w3⟩ := hN σ3 H3 n3
      exact ⟨m', hm, σ3, H3, I3, w3⟩
    | brk => exact q3
    | ret v => exact q3
  | false =>
    rw [if_neg Bool.false_ne_true]
    exact wpAny_execs_nil ⟨σ1, H2, I2, q2⟩
end
structure It where
  go : Nat → Hp → Prop
  yld : Nat → Hp → V → Hp → Prop
  stop : Nat → Hp → Prop
def FpOk (X : Cx) (pins : List (Addr × Obj)) (H : Hp) (b : Addr) : Prop :=
  H b = none ∧ b ≠ X.env.locals ∧ b ∉ X.fs ∧ (b ∈ X.ex ∨ X.s₀.heap.objs.size ≤ b) ∧ (∀ x c, X.env.cells.lookup x = some c → c ≠ b) ∧ ∀ p ∈ X.pn ++ pins, p.1 ≠ b
theorem Inv.fpOk {X : Cx} {pins : List (Addr × Obj)} {σ : St} {H H' : Hp} {s : Shared} {b : Addr} (I : Inv X pins σ H s) (hb : s.heap.objs.size ≤ b) (hn : H' b = none) : FpOk X pins H' b := by
  refine ⟨hn, Nat.ne_of_gt (Nat.lt_of_lt_of_le I.lt hb), I.nofs hb, .inr (Nat.le_trans I.sz hb), fun x c e z => ?_, fun p hp z => ?_⟩
  · obtain ⟨v, q⟩ := I.cell x c e
    exact absurd (Nat.lt_of_lt_of_le q.lt (by rw [z]; exact hb)) (Nat.lt_irrefl _)
  · exact absurd (Nat.lt_of_lt_of_le (Heap.lt_size (I.pin p hp).1) (by rw [z]; exact hb)) (Nat.lt_irrefl _)
structure Turn (P : Program) (w : World) (K : PySem.W.Frag) (tg : Expr) (J : It) (fp : List Addr) (it : Addr) (tn : Nat → Heap → Prop) : Prop where
  mem : it ∈ fp
  obj : ∀ i h, tn i h → ∀ b ∈ fp, ∃ o, h.get? b = some o ∧ ∀ v, o.data ≠ .cell v
  keep : ∀ i h h', tn i h → (∀ b ∈ fp, ∀ o, h.get? b = some o → h'.get? b = some o) → tn i h'
  item : ∀ (X : Cx), X.prog = P → X.w = w → X.K = K → X.calm = true → ∀ (i : Nat) (pins : List (Addr × Obj)) (s : Shared) (σ : St) (H : Hp) (E : Value → Shared → Prop), Inv X pins σ H s → (∀ b ∈ fp, FpOk X pins H b) → tn i s.heap → J.go i H →
    wpAny (model P w) X.A (pyNext (.ref it)) (fun r s1 => ∃ u, r = some u ∧
      wpAny (model P w) X.A (letOwnedTupleGo tg (.ref it) u) (fun _ s2 => ∃ x H', Inv X pins σ H' s2 ∧ RelV x u ∧ J.yld i H x H' ∧ tn (i + 1) s2.heap ∧ ∀ b ∈ fp, H' b = none) E s1) E s
  done : ∀ (X : Cx), X.prog = P → X.w = w → X.K = K → X.calm = true → ∀ (i : Nat) (pins : List (Addr × Obj)) (s : Shared) (σ : St) (H : Hp) (E : Value → Shared → Prop), Inv X pins σ H s → (∀ b ∈ fp, FpOk X pins H b) → tn i s.heap → J.stop i H →
    wpAny (model P w) X.A (pyNext (.ref it)) (fun r s1 => r = none ∧ Inv X pins σ H s1) E s
  self : ∀ (A : Around) (i : Nat) (s : Shared) (Q : Value → Shared → Prop) (E : Value → Shared → Prop), tn i s.heap → Q (.ref it) s → wpAny (model P w) A (pyIter (.ref it)) Q E s
abbrev TI := St → Hp → (It → Hp → Prop) → Prop
def PIE (X : Cx) (pins : List (Addr × Obj)) (σ : St) (tg : Expr) (R : It → Hp → Prop) (itv : Value) (s2 : Shared) : Prop :=
  ∃ (it : Addr) (fp : List Addr) (tn : Nat → Heap → Prop) (J : It) (H' : Hp), itv = .ref it ∧ Inv X pins σ H' s2 ∧ Turn X.prog X.w X.K tg J fp it tn ∧ tn 0 s2.heap ∧ (∀ b ∈ fp, FpOk X pins H' b) ∧ R J H'
def PI (X : Cx) (tg iter : Expr) (wi : TI) : Prop :=
  ∀ (pins : List (Addr × Obj)) (s : Shared) (σ : St) (H : Hp) (R : It → Hp → Prop), Inv X pins σ H s → wi σ H R →
    wpAny (model X.prog X.w) X.A (eval iter X.env) (fun v s1 => wpAny (model X.prog X.w) X.A (pyIter v) (PIE X pins σ tg R) X.xe s1) X.xe s
theorem go_of {M : Model} {A : Around} {E : Value → Shared → Prop} {s : Shared} {tg : Expr} {it : Addr} {u : Value} {o : Obj} {n : String} {vs : Array Value} {Q : Unit → Shared → Prop} (ho : s.heap.get? it = some o) (hc : o.cls = .type n) (hd : o.data = .fields vs)
    (hn : ["enumerate", "zip", "dict_itemiterator", "dict_reverseitemiterator", "odict_iterator", "itertools.zip_longest", "itertools.pairwise"].contains n = false) (hQ : Q () s) : wpAny M A (letOwnedTupleGo tg (.ref it) u) Q E s := by
  unfold letOwnedTupleGo
  cases tg <;> first
    | exact wpAny_pure hQ
    | (cases u <;> first
        | exact wpAny_pure hQ
        | (refine wpAny_bind (wpAny_load ho ?_)
           rw [hc, hd]
           show wpAny M A (if (["enumerate", "zip", "dict_itemiterator", "dict_reverseitemiterator", "odict_iterator", "itertools.zip_longest", "itertools.pairwise"].contains n && vs[0]? == some (rawInt _)) = true then _ else _) Q E s
           rw [if_neg (by intro h; rw [hn, Bool.false_and] at h; cases h)]
           exact wpAny_pure hQ))
def Itl (K : PySem.W.Frag) (a : Addr) : It :=
  ⟨fun i H => ∃ xs x, SqL K H a xs ∧ xs[i]? = some x, fun i H x H' => H' = H ∧ ∀ xs, SqL K H a xs → xs[i]? = some x, fun i H => ∃ xs, SqL K H a xs ∧ xs.length ≤ i⟩
def Itt (K : PySem.W.Frag) (a : Addr) : It :=
  ⟨fun i H => ∃ xs x, SqT K H a xs ∧ xs[i]? = some x, fun i H x H' => H' = H ∧ ∀ xs, SqT K H a xs → xs[i]? = some x, fun i H => ∃ xs, SqT K H a xs ∧ xs.length ≤ i⟩
def Itr (lo : Int) (n : Nat) : It := ⟨fun i _ => i < n, fun i H x H' => H' = H ∧ x = .int (lo + i), fun i _ => n ≤ i⟩
theorem turn_list {P : Program} {w : World} {K : PySem.W.Frag} {tg : Expr} (a it : Addr) : Turn P w K tg (Itl K a) [it] it (fun i h => h.IsListIter it a i) where
  mem := by simp
  obj := fun i h st b hb => by
    have e : b = it := by simpa using hb
    subst e
    obtain ⟨o, e, c, d⟩ := st
    exact ⟨o, e, fun v z => by rw [d] at z; cases z⟩
  keep := fun i h h' st k => st.at fun o e => k it (by simp) o e
  item := by
    intro X hP hw hK hc i pins s σ H E I hf st hg
    subst hP hw hK
    obtain ⟨xs, x, hq, hx⟩ := hg
    obtain ⟨its, rv, p, hz⟩ := I.list hq
    obtain ⟨u, hu, ru⟩ := rv.get hx
    obtain ⟨f0, f1, f2, f3, f4, f5⟩ := hf it (by simp)
    refine wpAny_pyNext_list_item st p.isList (x := u) (by simpa using hu) fun h' st' sb => ?_
    have I1 : Inv X pins σ H { s with heap := h' } := I.turned (t' := s.toks) (fun b o hb e => (sb.2 b hb).trans e) f0 f1 f3 f4 f5
    obtain ⟨o, e, c, d⟩ := id st'
    exact ⟨u, rfl, go_of (s := { s with heap := h' }) e c d (by decide) ⟨x, H, I1, ru, ⟨rfl, fun ys hy => by rw [I.list_inj hy hq]; exact hx⟩, st', fun b hb => (hf b hb).1⟩⟩
  done := by
    intro X hP hw hK hc i pins s σ H E I hf st hg
    subst hP hw hK
    obtain ⟨xs, hq, hx⟩ := hg
    obtain ⟨its, rv, p, hz⟩ := I.list hq
    obtain ⟨f0, f1, f2, f3, f4, f5⟩ := hf it (by simp)
    have hl := rv.length
    exact wpAny_pyNext_list_end (I.ok.hd hc) st p.isList (by simp; omega) fun h' eb => ⟨rfl, I.turned (t' := s.toks) (fun b o hb e => eb b o hb e) f0 f1 f3 f4 f5⟩
  self := fun _ _ _ _ _ st h => wpAny_pyIter_listiter st h
theorem turn_tuple {P : Program} {w : World} {K : PySem.W.Frag} {tg : Expr} (a it : Addr) : Turn P w K tg (Itt K a) [it] it (fun i h => h.IsTupleIter it a i) where
  mem := by simp
  obj := fun i h st b hb => by
    have e : b = it := by simpa using hb
    subst e
    obtain ⟨o, e, c, d⟩ := st
    exact ⟨o, e, fun v z => by rw [d] at z; cases z⟩
  keep := fun i h h' st k => st.at fun o e => k it (by simp) o e
  item := by
    intro X hP hw hK hc i pins s σ H E I hf st hg
    subst hP hw hK
    obtain ⟨xs, x, hq, hx⟩ := hg
    obtain ⟨its, rv, p, hz⟩ := I.tuple hq
    obtain ⟨u, hu, ru⟩ := rv.get hx
    obtain ⟨f0, f1, f2, f3, f4, f5⟩ := hf it (by simp)
    refine wpAny_pyNext_tuple_item st (show s.heap.IsTuple a its.toArray from p) (x := u) (by simpa using hu) fun h' st' sb => ?_
    have I1 : Inv X pins σ H { s with heap := h' } := I.turned (t' := s.toks) (fun b o hb e => (sb.2 b hb).trans e) f0 f1 f3 f4 f5
    obtain ⟨o, e, c, d⟩ := id st'
    exact ⟨u, rfl, go_of (s := { s with heap := h' }) e c d (by decide) ⟨x, H, I1, ru, ⟨rfl, fun ys hy => by rw [I.tuple_inj hy hq]; exact hx⟩, st', fun b hb => (hf b hb).1⟩⟩
  done := by
    intro X hP hw hK hc i pins s σ H E I hf st hg
    subst hP hw hK
    obtain ⟨xs, hq, hx⟩ := hg
    obtain ⟨its, rv, p, hz⟩ := I.tuple hq
    obtain ⟨f0, f1, f2, f3, f4, f5⟩ := hf it (by simp)
    have hl := rv.length
    exact wpAny_pyNext_tuple_end (I.ok.hd hc) st (show s.heap.IsTuple a its.toArray from p) (by simp; omega) fun h' eb => ⟨rfl, I.turned (t' := s.toks) (fun b o hb e => eb b o hb e) f0 f1 f3 f4 f5⟩
  self := fun _ _ _ _ _ st h => wpAny_pyIter_tupleiter st h
end L2
namespace L2
open PySem PySem.Spec PyProof.Rows
section
variable {X : Cx} {tg : Expr}
def iList (K : PySem.W.Frag) (tl : TE) : TI := fun σ H R => tl σ H fun x H1 => ∃ a, x = .ref a ∧ (∃ xs, SqL K H1 a xs) ∧ R (Itl K a) H1
def iTup (K : PySem.W.Frag) (tl : TE) : TI := fun σ H R => tl σ H fun x H1 => ∃ a, x = .ref a ∧ (∃ xs, SqT K H1 a xs) ∧ R (Itt K a) H1
theorem pi_list {l : Expr} {tl : TE} (hl : PE X l tl) : PI X tg l (iList X.K tl) := by
  intro pins s σ H R I h
  refine thn (hl pins s σ H _ I h) fun v s1 ⟨x, H1, I1, r1, q1⟩ => ?_
  obtain ⟨a, e, ⟨xs, hq⟩, q⟩ := q1
  subst e
  cases r1
  obtain ⟨its, rv, p, hz⟩ := I1.list hq
  refine wpAny_pyIter_list p.isList ?_
  refine ⟨s1.heap.objs.size, [s1.heap.objs.size], _, _, H1, rfl, I1.kept (t' := s1.toks) fun b o e => Heap.get?_push_of_some _ e, turn_list a _, ⟨_, Heap.get?_push_size _ rfl, rfl, rfl⟩, fun b hb => ?_, q⟩
  have e : b = s1.heap.objs.size := by simpa using hb
  subst e
  exact I1.fpOk (Nat.le_refl _) (I1.hok.fresh (Nat.le_refl _))
theorem pi_tup {l : Expr} {tl : TE} (hl : PE X l tl) : PI X tg l (iTup X.K tl) := by
  intro pins s σ H R I h
  refine thn (hl pins s σ H _ I h) fun v s1 ⟨x, H1, I1, r1, q1⟩ => ?_
  obtain ⟨a, e, ⟨xs, hq⟩, q⟩ := q1
  subst e
  cases r1
  obtain ⟨its, rv, p, hz⟩ := I1.tuple hq
  refine wpAny_pyIter_tuple (show s1.heap.IsTuple a its.toArray from p) ?_
  refine ⟨s1.heap.objs.size, [s1.heap.objs.size], _, _, H1, rfl, I1.kept (t' := s1.toks) fun b o e => Heap.get?_push_of_some _ e, turn_tuple a _, ⟨_, Heap.get?_push_size _ rfl, rfl, rfl⟩, fun b hb => ?_, q⟩
  have e : b = s1.heap.objs.size := by simpa using hb
  subst e
  exact I1.fpOk (Nat.le_refl _) (I1.hok.fresh (Nat.le_refl _))
def iRng1 (ta : TA) : TI := fun σ H R => ta σ H fun vs H1 => ∃ j : Int, vs = [.int j] ∧ -(2 ^ 62) ≤ j ∧ j < 2 ^ 62 ∧ R (Itr 0 j.toNat) H1
def iRng2 (ta : TA) : TI := fun σ H R => ta σ H fun vs H1 => ∃ i j : Int, vs = [.int i, .int j] ∧ (-(2 ^ 62) ≤ i ∧ i < 2 ^ 62 ∧ -(2 ^ 62) ≤ j ∧ j < 2 ^ 62) ∧ R (Itr i (j - i).toNat) H1
def tFor (wi : TI) (g : TG) (tb : TS) : TS := fun D σ H => wi σ H fun J H1 => ∃ W : Nat → Nat → St → Hp → Prop, (∃ m, W 0 m σ H1) ∧ ∀ i m σ H, W i m σ H →
  (J.stop i H ∧ D.nx σ H) ∨ (J.go i H ∧ ∃ N : St → Hp → Prop, (∀ σ' H', N σ' H' → ∃ m', m' < m ∧ W (i + 1) m' σ' H') ∧ ∀ x H', J.yld i H x H' → g x σ H' fun σ2 H2 => tb { D with nx := N, ct := N, bk := D.nx } σ2 H2)
def pinsAt (fp : List Addr) (h : Heap) : List (Addr × Obj) := fp.filterMap fun b => (h.get? b).map fun o => (b, o)
theorem mem_pinsAt {fp : List Addr} {h : Heap} {b : Addr} {o : Obj} (hb : b ∈ fp) (e : h.get? b = some o) : (b, o) ∈ pinsAt fp h := List.mem_filterMap.mpr ⟨b, hb, by rw [e]; rfl⟩
theorem of_pinsAt {fp : List Addr} {h : Heap} {p : Addr × Obj} (hp : p ∈ pinsAt fp h) : p.1 ∈ fp ∧ h.get? p.1 = some p.2 := by
  obtain ⟨b, hb, e⟩ := List.mem_filterMap.mp hp
  cases q : h.get? b with
  | none => rw [q] at e; cases e
  | some o =>
    rw [q] at e
    have e' : (b, o) = p := Option.some.inj e
    subst e'
    exact ⟨hb, q⟩
theorem Inv.pinned {pins : List (Addr × Obj)} {σ : St} {H : Hp} {s : Shared} {fp : List Addr} (I : Inv X pins σ H s) (hf : ∀ b ∈ fp, FpOk X pins H b) (ho : ∀ b ∈ fp, ∃ o, s.heap.get? b = some o ∧ ∀ v, o.data ≠ .cell v) : Inv X (pins ++ pinsAt fp s.heap) σ H s :=
  I.pins_of fun p hp => (List.mem_append.mp hp).elim (fun z => I.pin p (List.mem_append_right _ z)) fun z => by
    obtain ⟨hb, e⟩ := of_pinsAt z
    obtain ⟨f0, f1, f2, _⟩ := hf p.1 hb
    obtain ⟨o, e', d⟩ := ho p.1 hb
    rw [e] at e'; cases e'
    exact ⟨e, f0, f1, f2, d⟩
theorem Inv.unpinned {pins pl : List (Addr × Obj)} {σ : St} {H : Hp} {s : Shared} (I : Inv X (pins ++ pl) σ H s) : Inv X pins σ H s := I.pins_of fun p hp => I.pin p (List.mem_append_right _ (List.mem_append_left _ hp))
theorem ps_for {iter : Expr} {body : List Stmt} {wi : TI} {g : TG} {tb : TS} {pos : Pos} (hp : PassesOwn (model X.prog X.w) X.A X.env X.xe) (hc : X.calm = true) (hi : PI X tg iter wi) (hg : PG X tg g) (hb : PSs X body tb)
    (hs : ∀ x, foldedSetIterable iter X.env x = pure x := by intro _; rfl) : PS X (.For tg iter body [] pos) (tFor wi g tb) := by
  intro pins s σ H D I h
  refine wpAny_For (thn (hi pins s σ H _ I h) fun v s1 h1 => thn h1 fun itv s2 h2 => ?_) hs
  obtain ⟨it, fp, tn, J, H2, e, I2, T, st2, f2, W, ⟨m0, w0⟩, turn⟩ := h2
  subst e
  -- what stays true of the iterator's objects through the loop
  have stat : ∀ {H' : Hp}, (∀ b ∈ fp, H' b = none) → ∀ b ∈ fp, FpOk X pins H' b := fun hn b hb => ⟨hn b hb, (f2 b hb).2⟩
  refine codeAny_forLoop_any (fun n s' => ∃ i σ' H', Inv X pins σ' H' s' ∧ tn i s'.heap ∧ (∀ b ∈ fp, H' b = none) ∧ W i n σ' H') ?_ m0 ⟨0, σ, H2, I2, st2, fun b hb => (f2 b hb).1, w0⟩
  rintro n s3 ⟨i, σ3, H3, I3, st3, fr3, w3⟩
  rcases turn i n σ3 H3 w3 with ⟨stop, qn⟩ | ⟨go, N, hN, step⟩
  · refine wpAny_passesOwn hp (thn (T.done X rfl rfl rfl hc i pins s3 σ3 H3 X.xe I3 (stat fr3) st3 stop) fun r s4 ⟨hr, I4⟩ => ?_)
    subst hr
    exact wpAny_execs_nil ⟨σ3, H3, I4, qn⟩
  · refine wpAny_passesOwn hp (thn (T.item X rfl rfl rfl hc i pins s3 σ3 H3 X.xe I3 (stat fr3) st3 go) fun r s4 ⟨u, hr, h4⟩ => ?_)
    subst hr
    refine wpAny_passesOwn hp (thn h4 fun _ s5 ⟨x, H5, I5, r5, y5, st5, fr5⟩ => ?_)
    have I5' := I5.pinned (stat fr5) (T.obj _ _ st5)
    refine wpAny_passesOwn hp (thn (hg _ s5 σ3 H5 x u _ I5' r5 (step x H5 y5)) fun _ s6 ⟨σ6, H6, I6, q6⟩ => ?_)
    refine wpAny_passesOwn hp (thn (hb _ s6 σ6 H6 _ I6 q6) fun f s7 q7 => ?_)
    have again : ∀ {σ7 : St} {H7 : Hp}, Inv X (pins ++ pinsAt fp s5.heap) σ7 H7 s7 → N σ7 H7 → ∃ m, m < n ∧ ∃ i σ' H', Inv X pins σ' H' s7 ∧ tn i s7.heap ∧ (∀ b ∈ fp, H' b = none) ∧ W i m σ' H' := fun {σ7 H7} I7 n7 => by
      obtain ⟨m', hm, w7⟩ := hN σ7 H7 n7
      refine ⟨m', hm, i + 1, σ7, H7, I7.unpinned, T.keep _ _ _ st5 fun b hb o e => (I7.pin (b, o) (List.mem_append_right _ (List.mem_append_right _ (mem_pinsAt hb e)))).1, fun b hb => ?_, w7⟩
      obtain ⟨o, e, d⟩ := T.obj _ _ st5 b hb
      exact (I7.pin (b, o) (List.mem_append_right _ (List.mem_append_right _ (mem_pinsAt hb e)))).2.1
    cases f with
    | next => obtain ⟨σ7, H7, I7, n7⟩ := q7; exact again I7 n7
    | cont => obtain ⟨σ7, H7, I7, n7⟩ := q7; exact again I7 n7
    | brk => obtain ⟨σ7, H7, I7, q7⟩ := q7; exact ⟨σ7, H7, I7.unpinned, q7⟩
    | ret v => obtain ⟨x7, σ7, H7, I7, r7, q7⟩ := q7; exact ⟨x7, σ7, H7, I7.unpinned, r7, q7⟩
end
end L2
namespace L2
open PySem PySem.Spec PyProof.Rows
abbrev R2 := V → V → Hp → VK → Prop
def OpR (X : Cx) (f : Value → Value → Sem Value) (r : R2) : Prop :=
  ∀ (pins : List (Addr × Obj)) (s : Shared) (σ : St) (H : Hp) (x y : V) (v u : Value) (Q : VK), Inv X pins σ H s → RelV x v → RelV y u → r x y H Q →
    wpAny (model X.prog X.w) X.A (f v u) (EP X pins σ Q) X.xe s
def UnR (X : Cx) (f : Value → Sem Value) (r : V → Hp → VK → Prop) : Prop :=
  ∀ (pins : List (Addr × Obj)) (s : Shared) (σ : St) (H : Hp) (x : V) (v : Value) (Q : VK), Inv X pins σ H s → RelV x v → r x H Q →
    wpAny (model X.prog X.w) X.A (f v) (EP X pins σ Q) X.xe s
def CallR (X : Cx) (f : Value) (r : List V → Hp → VK → Prop) : Prop :=
  ∀ (pins : List (Addr × Obj)) (s : Shared) (σ : St) (H : Hp) (xs : List V) (us : List Value) (Q : VK), Inv X pins σ H s → Vals xs us → r xs H Q →
    wpAny (model X.prog X.w) X.A (call f us) (EP X pins σ Q) X.xe s
def tOp (r : R2) (ta tb : TE) : TE := fun σ H Q => ta σ H fun x H1 => tb σ H1 fun y H2 => r x y H2 Q
def tUn (r : V → Hp → VK → Prop) (ta : TE) : TE := fun σ H Q => ta σ H fun x H1 => r x H1 Q
def rI (C : Int → Int → Prop) (g : Int → Int → V) : R2 := fun x y H Q => ∃ i j, x = .int i ∧ y = .int j ∧ C i j ∧ Q (g i j) H
def rI0 (g : Int → Int → V) : R2 := fun x y H Q => ∃ i j, x = .int i ∧ y = .int j ∧ Q (g i j) H
def rU (g : Int → V) : V → Hp → VK → Prop := fun x H Q => ∃ i, x = .int i ∧ Q (g i) H
section
variable {X : Cx} {a b c : Expr} {ta tb tc : TE} {pos : Pos}
theorem binT (ha : PE X a ta) (hb : PE X b tb) {pins : List (Addr × Obj)} {s : Shared} {σ : St} {H : Hp} {R : V → V → Hp → Prop} (I : Inv X pins σ H s)
    (h : ta σ H fun x H1 => tb σ H1 fun y H2 => R x y H2) {Q : Value → Shared → Prop} {f : Value → Value → Sem Value}
    (hf : ∀ v u s2 x y H2, Inv X pins σ H2 s2 → RelV x v → RelV y u → R x y H2 → wpAny (model X.prog X.w) X.A (f v u) Q X.xe s2) :
    wpAny (model X.prog X.w) X.A (eval a X.env) (fun v s₁ => wpAny (model X.prog X.w) X.A (eval b X.env) (fun u s₂ => wpAny (model X.prog X.w) X.A (f v u) Q X.xe s₂) X.xe s₁) X.xe s := by
  refine thn (ha pins s σ H _ I h) fun v s1 ⟨x, H1, I1, r1, q1⟩ => ?_
  refine thn (hb pins s1 σ H1 _ I1 q1) fun u s2 ⟨y, H2, I2, r2, q2⟩ => ?_
  exact hf v u s2 x y H2 I2 r1 r2 q2
theorem pe_op {op : Operator} {r : R2} (ho : OpR X (binaryOp op) r) (ha : PE X a ta) (hb : PE X b tb) : PE X (.BinOp a op b pos) (tOp r ta tb) := by
  intro pins s σ H Q I h
  exact wpAny_BinOp (binT ha hb I h fun v u s2 x y H2 I2 rx ry q => ho pins s2 σ H2 x y v u Q I2 rx ry q)
theorem pe_un {op : UnaryOp} {r : V → Hp → VK → Prop} (ho : UnR X (unaryOp op) r) (ha : PE X a ta) : PE X (.UnaryOp op a pos) (tUn r ta) := by
  intro pins s σ H Q I h
  exact UnaryOp_ (thn (ha pins s σ H _ I h) fun v s1 ⟨x, H1, I1, r1, q1⟩ => ho pins s1 σ H1 x v Q I1 r1 q1)
theorem opI {f : Value → Value → Sem Value} {C : Int → Int → Prop} {g : Int → Int → Int}
    (rule : ∀ (i j : Int) (t u : Tok) (s : Shared) (Q : Value → Shared → Prop) (E : Value → Shared → Prop), C i j → Q (.int (g i j) s.toks) { s with toks := s.toks + 1 } → wpAny (model X.prog X.w) X.A (f (.int i t) (.int j u)) Q E s) :
    OpR X f (rI C fun i j => .int (g i j)) := by
  intro pins s σ H x y v u Q I rx ry h
  obtain ⟨i, j, rfl, rfl, hc, q⟩ := h
  obtain ⟨t, rfl⟩ := rx
  obtain ⟨t', rfl⟩ := ry
  exact rule i j t t' s _ _ hc ⟨.int (g i j), H, I.tok _, ⟨_, rfl⟩, q⟩
theorem opI0 {f : Value → Value → Sem Value} {g : Int → Int → Int}
    (rule : ∀ (i j : Int) (t u : Tok) (s : Shared) (Q : Value → Shared → Prop) (E : Value → Shared → Prop), Q (.int (g i j) s.toks) { s with toks := s.toks + 1 } → wpAny (model X.prog X.w) X.A (f (.int i t) (.int j u)) Q E s) :
    OpR X f (rI0 fun i j => .int (g i j)) := by
  intro pins s σ H x y v u Q I rx ry h
  obtain ⟨i, j, rfl, rfl, q⟩ := h
  obtain ⟨t, rfl⟩ := rx
  obtain ⟨t', rfl⟩ := ry
  exact rule i j t t' s _ _ ⟨.int (g i j), H, I.tok _, ⟨_, rfl⟩, q⟩
theorem opB0 {f : Value → Value → Sem Value} {g : Int → Int → Bool}
    (rule : ∀ (i j : Int) (t u : Tok) (s : Shared) (Q : Value → Shared → Prop) (E : Value → Shared → Prop), Q (.bool (g i j)) s → wpAny (model X.prog X.w) X.A (f (.int i t) (.int j u)) Q E s) :
    OpR X f (rI0 fun i j => .bl (g i j)) := by
  intro pins s σ H x y v u Q I rx ry h
  obtain ⟨i, j, rfl, rfl, q⟩ := h
  obtain ⟨t, rfl⟩ := rx
  obtain ⟨t', rfl⟩ := ry
  exact rule i j t t' s _ _ ⟨.bl (g i j), H, I, rfl, q⟩
def CPow (i j : Int) : Prop := 0 ≤ j ∧ j ≤ 1000000 ∧ i.natAbs < 2 ^ 64
def CMul (i j : Int) : Prop := (-(2 ^ 64) < i ∧ i < 2 ^ 64) ∨ (-(2 ^ 64) < j ∧ j < 2 ^ 64)
theorem CMul.ok {i j : Int} (h : CMul i j) : IntMulOk i j := by
  rcases h with ⟨h1, h2⟩ | ⟨h1, h2⟩
  · exact .of_left (intBits_le_64 h1 h2)
  · exact .of_right (intBits_le_64 h1 h2)
theorem op_add : OpR X (binaryOp .Add) (rI0 fun i j => .int (i + j)) := opI0 fun _ _ _ _ _ _ _ q => add_int q
theorem op_sub : OpR X (binaryOp .Sub) (rI0 fun i j => .int (i - j)) := opI0 fun _ _ _ _ _ _ _ q => sub_int q
theorem op_modN : OpR X (binaryOp .Mod) (rI (fun _ j => j ≠ 0) fun i j => .int (i.fmod j)) := opI fun _ _ _ _ _ _ _ hc q => mod_int' hc q
theorem op_pow : OpR X (binaryOp .Pow) (rI CPow fun i j => .int (i ^ j.toNat)) := opI fun _ _ _ _ _ _ _ hc q => pow_int_small hc.1 hc.2.1 hc.2.2 q
theorem unI {f : Value → Sem Value} {g : Int → Int}
    (rule : ∀ (i : Int) (t : Tok) (s : Shared) (Q : Value → Shared → Prop) (E : Value → Shared → Prop), Q (.int (g i) s.toks) { s with toks := s.toks + 1 } → wpAny (model X.prog X.w) X.A (f (.int i t)) Q E s) :
    UnR X f (rU fun i => .int (g i)) := by
  intro pins s σ H x v Q I rx h
  obtain ⟨i, rfl, q⟩ := h
  obtain ⟨t, rfl⟩ := rx
  exact rule i t s _ _ ⟨.int (g i), H, I.tok _, ⟨_, rfl⟩, q⟩
theorem un_neg : UnR X (unaryOp .USub) (rU fun i => .int (-i)) := unI fun _ _ _ _ _ q => neg_int q
end
section
variable {X : Cx} {a b c : Expr} {ta tb tc : TE} {pos : Pos}
theorem op_lt : OpR X (compareOp .Lt) (rI0 fun i j => .bl (decide (i < j))) := opB0 fun _ _ _ _ _ _ _ q => lt_int q
theorem OpR.or {f : Value → Value → Sem Value} {r r' : R2} (h : OpR X f r) (h' : OpR X f r') : OpR X f (fun x y H Q => r x y H Q ∨ r' x y H Q) := by
  intro pins s σ H x y v u Q I rx ry q
  rcases q with q | q
  · exact h pins s σ H x y v u Q I rx ry q
  · exact h' pins s σ H x y v u Q I rx ry q
theorem nomark (b : Expr) {op : CmpOp} (h : op ≠ .In := by decide) (h2 : op ≠ .NotIn := by decide) : behindInMarks op b = false := by
  have e1 : (op == CmpOp.In) = false := by cases op <;> first | rfl | exact absurd rfl h
  have e2 : (op == CmpOp.NotIn) = false := by cases op <;> first | rfl | exact absurd rfl h2
  cases b <;> simp [behindInMarks, e1, e2]
theorem pe_cmpR {op : CmpOp} {r : R2} (ho : OpR X (compareOp op) r) (ha : PE X a ta) (hb : PE X b tb) (hm : behindInMarks op b = false) : PE X (.Compare a [op] [b] pos) (tOp r ta tb) := by
  intro pins s σ H Q I h
  exact wpAny_Compare1 (binT ha hb I h fun v u s2 x y H2 I2 rx ry q => ho pins s2 σ H2 x y v u Q I2 rx ry q) hm
def tTest (t : TE) : TT := fun σ H Q => t σ H fun x H' => ∃ k, x = .bl k ∧ Q k H'
theorem pt_cmpR {op : CmpOp} {r : R2} (ho : OpR X (compareOp op) r) (ha : PE X a ta) (hb : PE X b tb) (hm : behindInMarks op b = false) : PT X (.Compare a [op] [b] pos) (tTest (tOp r ta tb)) := by
  intro pins s σ H Q I h
  refine wpAny_isTrue_Compare1 (thn (ha pins s σ H _ I h) fun v s1 ⟨x, H1, I1, r1, q1⟩ => thn (hb pins s1 σ H1 _ I1 q1) fun u s2 ⟨y, H2, I2, r2, q2⟩ =>
    thn (ho pins s2 σ H2 x y v u _ I2 r1 r2 q2) fun c s3 ⟨z, H3, I3, r3, k, e, q3⟩ => ?_) hm
  subst e
  cases r3
  exact wpAny_truthy_bool ⟨H3, I3, q3⟩
theorem line63 : (sizeLine : Nat) < 2 ^ 63 := by rw [sizeLine_eq]; decide
theorem op_add_str : OpR X (binaryOp .Add) (fun x y H Q => ∃ i j, x = .str i ∧ y = .str j ∧ i.length + j.length ≤ sizeLine ∧ Q (.str (i ++ j)) H) := by
  intro pins s σ H x y v u Q I rx ry h
  obtain ⟨i, j, rfl, rfl, hz, q⟩ := h
  obtain ⟨t, rfl⟩ := rx
  obtain ⟨t', rfl⟩ := ry
  exact add_str (fun t' tk => ⟨.str (i ++ j), H, I.tok _, ⟨_, rfl⟩, q⟩) hz
theorem vals1 {x : V} {us : List Value} (r : Vals [x] us) : ∃ u, us = [u] ∧ RelV x u := by
  cases r with
  | cons r1 r2 => cases r2; exact ⟨_, rfl, r1⟩
theorem call_abs : CallR X (.builtin "abs") (fun xs H Q => ∃ i, xs = [.int i] ∧ Q (.int (if i < 0 then -i else i)) H) := by
  intro pins s σ H xs us Q I r h
  obtain ⟨i, rfl, q⟩ := h
  obtain ⟨u, rfl, t, rfl⟩ := vals1 r
  exact call_abs_int fun u tk => ⟨.int (if i < 0 then -i else i), H, I.tok _, ⟨_, rfl⟩, q⟩
def LenV (K : PySem.W.Frag) (x : V) (H : Hp) (n : Nat) : Prop :=
  match x with
  | .str y => y.length ≤ sizeLine ∧ n = y.length
  | .byt y => y.size ≤ sizeLine ∧ n = y.size
  | .ref p => (∃ xs, SqL K H p xs ∧ n = xs.length) ∨ ∃ xs, SqT K H p xs ∧ n = xs.length
  | _ => False
theorem call_len : CallR X (.builtin "len") (fun xs H Q => ∃ x n, xs = [x] ∧ LenV X.K x H n ∧ Q (.int n) H) := by
  intro pins s σ H xs us Q I r h
  obtain ⟨x, n, rfl, e, q⟩ := h
  obtain ⟨u, rfl, rx⟩ := vals1 r
  have hl := line63
  have hs : sizeLine = 16777216 := sizeLine_eq
  cases x with
  | str y =>
    obtain ⟨t, rfl⟩ := rx
    obtain ⟨hy, e'⟩ : y.length ≤ sizeLine ∧ n = y.length := e
    subst e'
    exact len_str (by omega) ⟨.int _, H, I.tok _, ⟨_, rfl⟩, q⟩
  | byt y =>
    obtain ⟨t, rfl⟩ := rx
    obtain ⟨hy, e'⟩ : y.size ≤ sizeLine ∧ n = y.size := e
    subst e'
    exact PySem.W.len_bytes (by omega) ⟨.int _, H, I.tok _, ⟨_, rfl⟩, q⟩
  | ref p =>
    cases rx
    have e' : (∃ xs, SqL X.K H p xs ∧ n = xs.length) ∨ ∃ xs, SqT X.K H p xs ∧ n = xs.length := e
    rcases e' with ⟨xs, hx, e'⟩ | ⟨xs, hx, e'⟩
    · subst e'
      obtain ⟨its, r', pl, hz⟩ := I.list hx
      have hlen := r'.length
      exact Calls.call_len_list pl.isList (by simp only [List.size_toArray]; omega) ⟨.int xs.length, H, I.tok _, ⟨_, by simp only [List.size_toArray]; rw [hlen]⟩, q⟩
    · subst e'
      obtain ⟨its, r', pl, hz⟩ := I.tuple hx
      have hlen := r'.length
      exact len_tuple pl (by simp only [List.size_toArray]; omega) ⟨.int xs.length, H, I.tok _, ⟨_, by simp only [List.size_toArray]; rw [hlen]⟩, q⟩
  | _ => exact (show False from e).elim
end
end L2
namespace L2
open PySem PySem.Spec PyProof.Rows
structure ObjM (h : Heap) (x dx C : Addr) (mA : Str → Option Value) : Prop where
  obj : h.get? x = some (PySem.W.instObj C dx)
  ns : h.Ns1 dx mA
  ne : dx ≠ x
theorem lookIn_ns {h : Heap} {dx : Addr} {mA : Str → Option Value} (n : h.Ns1 dx mA) : ∃ od, h.get? dx = some od ∧ ∀ name, PySem.W.lookIn name od = some (mA name) := by
  obtain ⟨o, es, ep, ho, hd, hk, _, hm⟩ := n
  refine ⟨o, ho, fun name => ?_⟩
  have e := hm name
  unfold nsFind findBy at e
  rw [← Array.find?_toList] at e
  unfold PySem.W.lookIn
  rw [hd]
  dsimp only
  split
  · rename_i y q
    rw [q] at e
    exact congrArg some e
  · rename_i q
    rw [q] at e
    have a : es.toList.any (·.refKey) = false := by
      rw [List.any_eq_false]
      intro y hy
      obtain ⟨z, t, hkey⟩ := hk y (Array.mem_toList_iff.mp hy)
      simp [DictEntry.refKey, hkey]
    have a' : ¬ es.toList.any (·.refKey) = true := by rw [a]; exact Bool.false_ne_true
    rw [if_neg a']
    exact congrArg some e
theorem ObjM.look {h : Heap} {x dx C : Addr} {mA : Str → Option Value} (I : ObjM h x dx C mA) : ∃ od, PySem.W.InstAt h x (PySem.W.instObj C dx) C (some od) ∧ ∀ name, PySem.W.lookIn name od = some (mA name) :=
  let ⟨od, ho, hl⟩ := lookIn_ns I.ns
  ⟨od, ⟨I.obj, rfl, rfl, ho⟩, hl⟩
section
variable {prog : Program} {w : World} {A : Around} {E : Value → Shared → Prop} {s : Shared} {K : PySem.W.Frag} {x dx C f : Addr} {mA : Str → Option Value} {name : Str} {v : Value}
end
theorem RelO.some_of {v : V} {o : Option Value} (r : RelO (some v) o) : ∃ u, o = some u ∧ RelV v u := by
  cases o with
  | none => exact (show False from r).elim
  | some u => exact ⟨u, rfl, r⟩
section
variable {P : Program} {w : World} {H H' : Hp} {h h' : Heap} {a C dx : Addr} {fs fs' : List (Str × V)}
theorem ins_get (hok : HOk P w H h) (e : H a = some (.ins C dx fs)) : ∃ mA, ObjM h a dx C mA ∧ (∀ f, RelO (fs.lookup f) (mA f)) ∧ PySem.Within mA (fs.map (·.1)) ∧ fs.length ≤ 1000 ∧ H dx = some (.own a) := by
  obtain ⟨d, z, ne, ob, mA, n, r, q⟩ := (show ObjOk P w H h a (.ins C dx fs) from hok a _ e)
  exact ⟨mA, ⟨ob, n, ne⟩, r, q, z, d⟩
end
structure Cls (K : PySem.W.Frag) (C : Addr) : Prop where
  pg : PySem.W.plainGet K C Str.empty = true
  hd : PySem.W.hasDictIn K C = true
  po : PySem.W.plainOver K C = true
  sa : PySem.W.findIn K (.ref C) "__setattr__" = some (some (.builtin "object.__setattr__"))
theorem Cls.get {K : PySem.W.Frag} {C : Addr} (c : Cls K C) (f : Str) : PySem.W.plainGet K C f = true := c.pg
structure Con (K : PySem.W.Frag) (C : Addr) (f : Str) (v : V) (u : Value) : Prop where
  at_ : PySem.W.findIn K (.ref C) f = some (some u)
  rel : RelV v u
  get : PySem.W.specialIn K u "__get__" = some none
  cp : PySem.W.copiedNames.contains f = false
structure Meth (K : PySem.W.Frag) (C : Addr) (m : Str) (f : Addr) : Prop where
  at_ : PySem.W.findIn K (.ref C) m = some (some (.ref f))
  fn : PySem.W.isFn K (.ref f) = true
  kp : PySem.W.keepIn K (.ref f) = true
section
variable {X : Cx} {pins : List (Addr × Obj)} {σ : St} {H : Hp} {s : Shared} {a C dx : Addr} {fs : List (Str × V)} {f : Str} {v : V} {A : Around} {E : Value → Shared → Prop}
theorem Inv.made (I : Inv X pins σ H s) : Inv X pins σ (upd (upd H s.heap.objs.size (.own (s.heap.objs.size + 1))) (s.heap.objs.size + 1) (.ins C s.heap.objs.size []))
    { s with heap := (s.heap.push PySem.W.emptyDict).push (PySem.W.instObj C s.heap.objs.size) } := by
  have e1 : (s.heap.push PySem.W.emptyDict).get? s.heap.objs.size = some PySem.W.emptyDict := Heap.get?_push_size s.heap rfl
  have e2 : ((s.heap.push PySem.W.emptyDict).push (PySem.W.instObj C s.heap.objs.size)).get? (s.heap.objs.size + 1) = some (PySem.W.instObj C s.heap.objs.size) := by
    have := Heap.get?_push_size (s.heap.push PySem.W.emptyDict) (o := PySem.W.instObj C s.heap.objs.size) rfl
    rwa [Heap.size_push] at this
  have e3 : (s.heap.push PySem.W.emptyDict).Ns s.heap.objs.size (fun _ => none) := ⟨PySem.W.emptyDict, #[], _, e1, rfl, (fun e he => absurd he (by simp)), fun _ => rfl⟩
  have I1 := I.laid (a := s.heap.objs.size) (o := .own (s.heap.objs.size + 1)) (h' := s.heap.push PySem.W.emptyDict) (t' := s.toks) (fun b u q => Heap.get?_push_of_some _ q) (Nat.le_refl _) ⟨_, e1⟩
  refine I1.laid (a := s.heap.objs.size + 1) (o := .ins C s.heap.objs.size []) (t' := s.toks) (fun b u q => Heap.get?_push_of_some _ q) (Nat.le_of_eq (Heap.size_push _ _)) ?_
  have ne : s.heap.objs.size ≠ s.heap.objs.size + 1 := Nat.ne_of_lt (Nat.lt_succ_self _)
  refine ⟨by rw [upd_ne ne, upd_same], Nat.zero_le _, ne, e2, fun _ => none, (Heap.Ns1.of_empty e3).at fun o q => Heap.get?_push_of_some _ q, fun _ => True.intro, fun y hy => absurd rfl hy⟩
end
section
variable {X : Cx} {o e value : Expr} {f : Str} {pos pos' tpos : Pos} {ta tv : TE}
end
section
variable {X : Cx} {pins : List (Addr × Obj)} {σ : St} {H : Hp} {s : Shared} {A : Around} {E : Value → Shared → Prop} {Q : Value → Shared → Prop} {c : Value} {b : Bool}
inductive TyOf (K : PySem.W.Frag) (H : Hp) : V → Value → Prop where
  | non : TyOf K H .non (.type "NoneType")
  | bl (x : Bool) : TyOf K H (.bl x) (.type "bool")
  | int (i : Int) : TyOf K H (.int i) (.type "int")
  | str (x : Str) : TyOf K H (.str x) (.type "str")
  | flt (x : UInt64) : TyOf K H (.flt x) (.type "float")
  | lst {a : Addr} {xs : List V} (e : H a = some (.lst xs)) : TyOf K H (.ref a) (.type "list")
  | frz {a : Addr} {o : Obj} {xs : List V} (e : H a = some (.frz o (.lst xs))) : TyOf K H (.ref a) (.type "list")
  | tup {a : Addr} {xs : List V} (e : H a = some (.tup xs)) : TyOf K H (.ref a) (.type "tuple")
  | dK {a : Addr} {kvs : List (Key × V)} (e : H a = some (.dK kvs)) : TyOf K H (.ref a) (.type "dict")
  | dT {a : Addr} {kvs : List (List Key × V)} (e : H a = some (.dT kvs)) : TyOf K H (.ref a) (.type "dict")
  | ins {a C dx : Addr} {fs : List (Str × V)} (e : H a = some (.ins C dx fs)) (cl : Cls K C) (ha : PySem.W.findIn K (.ref C) "__class__" = some (some (.builtin "object.__class__")))
      (hn : PySem.W.specialIn K (.builtin "object.__class__") "__get__" = some (some (.builtin "getset_descriptor.__get__"))) (htk : PySem.W.takesIn K (.builtin "object.__class__") = some true)
      (hm : PySem.W.mroIn K C (.type "object") = some true) : TyOf K H (.ref a) (.ref C)
end
end L2
namespace L2
open PySem PySem.Spec PyProof.Rows
structure Room (k : Nat) (A : Around) : Prop where
  hd : A.handled = none
  dp : A.depth + 3 * k + 5 < recursionLimit
  un : A.units + 16 * k + 200 < cLine
theorem Room.mono {j k : Nat} {A : Around} (r : Room k A) (h : j ≤ k) : Room j A := ⟨r.hd, by have := r.dp; omega, by have := r.un; omega⟩
theorem Room.deeper {k : Nat} {A : Around} (r : Room (k + 1) A) (env : Env) : Room k (A.deeper env) :=
  ⟨r.hd, by have := r.dp; show A.depth + 1 + 3 * k + 5 < _; omega, by have := r.un; show A.units + 3 + 16 * k + 200 < _; omega⟩
theorem Room.in1 {k : Nat} {A : Around} (r : Room (k + 1) A) : Room k A.in1 :=
  ⟨r.hd, by have := r.dp; show A.depth + 3 * k + 5 < _; omega, by have := r.un; show A.units + 1 + 16 * k + 200 < _; omega⟩
theorem Room.depth {k : Nat} {A : Around} (r : Room k A) : A.depth < recursionLimit := by have := r.dp; omega
theorem Room.units {k : Nat} {A : Around} (r : Room k A) : A.units + 64 < cLine := by have := r.un; omega
def tNil : TA := fun _ H Q => Q [] H
def tCons (ta : TE) (tr : TA) : TA := fun σ H Q => ta σ H fun x H1 => tr σ H1 fun xs H2 => Q (x :: xs) H2
section
variable {X : Cx} {e : Expr} {es : List Expr} {te : TE} {t : TA} {pos : Pos}
theorem pa_nil : PA X [] tNil := fun _ _ _ _ H Q I h => Calls.spliced_nil ⟨[], H, I, .nil, h⟩
theorem pa_cons (ha : PE X e te) (hr : PA X es t) (hs : starEach (e :: es) X.env = (false, eval e X.env) :: starEach es X.env := by rfl) : PA X (e :: es) (tCons te t) := by
  intro pos pins s σ H Q I h
  rw [hs]
  show wpAny _ _ (spliced ((false, eval e X.env) :: backTo pos (starEach es X.env))) _ _ s
  refine Calls.spliced_cons (thn (ha pins s σ H _ I h) fun u s1 ⟨x, H1, I1, r1, q1⟩ => ?_)
  exact thn (hr pos pins s1 σ H1 _ I1 q1) fun us s2 ⟨xs, H2, I2, r2, q2⟩ => ⟨x :: xs, H2, I2, .cons r1 r2, q2⟩
def tTup (t : TA) : TE := fun σ H Q => t σ H fun xs H1 => xs.length ≤ sizeLine ∧ ∀ p, H1 p = none → Q (.ref p) (upd H1 p (.tup xs))
def tLst (t : TA) : TE := fun σ H Q => t σ H fun xs H1 => xs.length ≤ sizeLine ∧ ∀ p, H1 p = none → Q (.ref p) (upd H1 p (.lst xs))
theorem pe_tup {x1} (h : PA X es t) : PE X (.Tuple es x1 pos) (tTup t) := by
  intro pins s σ H Q I hq
  refine wpAny_Tuple_spliced (thn (h pos pins s σ H _ I hq) fun us s1 ⟨xs, H1, I1, r, z, q⟩ => ⟨by rw [← r.length]; exact z, ?_⟩)
  have hf : H1 s1.heap.objs.size = none := I1.hok.fresh (Nat.le_refl _)
  refine ⟨.ref s1.heap.objs.size, upd H1 s1.heap.objs.size (.tup xs), I1.laid (t' := s1.toks) (fun b u e => Heap.get?_push_of_some _ e) (Nat.le_refl _) ?_, rfl, q _ hf⟩
  exact ⟨z, us, r, ⟨_, Heap.get?_push_size _ rfl, rfl, _, rfl⟩⟩
theorem pe_lst (h : PA X es t) : PE X (.List es pos) (tLst t) := by
  intro pins s σ H Q I hq
  refine wpAny_List_spliced (thn (h pos pins s σ H _ I hq) fun us s1 ⟨xs, H1, I1, r, z, q⟩ => ⟨by rw [← r.length]; exact z, ?_⟩)
  have hf : H1 s1.heap.objs.size = none := I1.hok.fresh (Nat.le_refl _)
  refine ⟨.ref s1.heap.objs.size, upd H1 s1.heap.objs.size (.lst xs), I1.laid (t' := s1.toks) (fun b u e => Heap.get?_push_of_some _ e) (Nat.le_refl _) ?_, rfl, q _ hf⟩
  exact ⟨z, us, 0, r, Heap.get?_push_size _ rfl⟩
end
abbrev Sp := List V → Hp → VK → XK → Prop
abbrev CXT := List Env → Hp → Shared → XK → Value → Shared → Prop
structure Env0 (P : Program) (w : World) (K : PySem.W.Frag) (mg : Str → Option Value) (base : Heap) (A : Around) (outer : List Env) (s : Shared) (H : Hp) : Prop where
  frames : A.frames = some outer
  mod : Mod K mg base
  bs : ∀ b o, base.get? b = some o → s.heap.get? b = some o ∧ H b = none
  bsz : base.objs.size ≤ s.heap.objs.size
  funs : s.heap.FunFrames base outer
  frf : ∀ b ∈ frs outer, H b = none
  hok : HOk P w H s.heap
  bare : AllBare s.gens
def CE (outer : List Env) (P : Program) (w : World) (H : Hp) (s : Shared) (Q : VK) (u : Value) (s' : Shared) : Prop :=
  ∃ v H', s'.os = s.os ∧ AllBare s'.gens ∧ Un (frs outer) [] H H' s.heap s'.heap ∧ HOk P w H' s'.heap ∧ RelV v u ∧ Q v H'
def CR (CX : CXT) (outer : List Env) (P : Program) (w : World) (H : Hp) (s : Shared) (Q : VK) (E : XK) (r : Result) (s' : Shared) : Prop :=
  match r with
  | .ok (.ret u) => CE outer P w H s Q u s'
  | .ok _ => False
  | .error e => CX outer H s E e s'
structure FnOk (P : Program) (w : World) (K : PySem.W.Frag) (mg : Str → Option Value) (base : Heap) (CX : CXT) (k : Nat) (f : Addr) (fd : FuncData) (ps : List Str) (sp : Sp) : Prop where
  len : ∀ vs H Q E, sp vs H Q E → vs.length = ps.length
  run : ∀ (A : Around) (outer : List Env) (s : Shared) (H : Hp) (args : Args) (us : List Value) (vs : List V) (Q : VK) (E : XK), Room k A → Env0 P w K mg base A outer s H → BindsTo s fd args (ps.zip us) → Vals vs us → sp vs H Q E →
    codeAny (model P w) A (.call (.ref f) args) (CR CX outer P w H s Q E) s
theorem FnOk.mono {P : Program} {w : World} {K : PySem.W.Frag} {mg : Str → Option Value} {base : Heap} {CX : CXT} {j k : Nat} {f : Addr} {fd : FuncData} {ps : List Str} {sp : Sp} (F : FnOk P w K mg base CX j f fd ps sp) (h : j ≤ k) :
    FnOk P w K mg base CX k f fd ps sp := ⟨F.len, fun A outer s H args us vs Q E hr => F.run A outer s H args us vs Q E (hr.mono h)⟩
theorem FnOk.imp {P : Program} {w : World} {K : PySem.W.Frag} {mg : Str → Option Value} {base : Heap} {CX : CXT} {k : Nat} {f : Addr} {fd : FuncData} {ps : List Str} {sp sp' : Sp} (F : FnOk P w K mg base CX k f fd ps sp)
    (h : ∀ vs H Q E, sp' vs H Q E → sp vs H Q E) : FnOk P w K mg base CX k f fd ps sp' :=
  ⟨fun vs H Q E q => F.len vs H Q E (h _ _ _ _ q), fun A outer s H args us vs Q E hr he hb hv hs => F.run A outer s H args us vs Q E hr he hb hv (h _ _ _ _ hs)⟩
theorem Env0.in1 {P : Program} {w : World} {K : PySem.W.Frag} {mg : Str → Option Value} {base : Heap} {A : Around} {outer : List Env} {s : Shared} {H : Hp} (e : Env0 P w K mg base A outer s H) :
    Env0 P w K mg base A.in1 outer s H := ⟨e.frames, e.mod, e.bs, e.bsz, e.funs, e.frf, e.hok, e.bare⟩
section
variable {X : Cx} {pins : List (Addr × Obj)} {σ : St} {H : Hp} {s s' : Shared}
theorem Inv.env0 (I : Inv X pins σ H s) : Env0 X.prog X.w X.K X.mg X.base X.A X.stack s H :=
  ⟨I.ok.frames, I.ok.mod, I.bs, Nat.le_trans I.ok.bsz I.sz, I.stack, I.stkFree, I.hok, I.bare⟩
theorem Inv.after {Q : VK} {u : Value} (I : Inv X pins σ H s) (h : CE X.stack X.prog X.w H s Q u s') : EP X pins σ Q u s' := by
  obtain ⟨v, H', os, bare, un, hok, r, q⟩ := h
  obtain ⟨hh, g, d, t, os'⟩ := s'
  obtain rfl : os' = s.os := os
  exact ⟨v, H', I.call (h' := hh) (g' := g) (d' := d) (t' := t) (ch := []) un hok bare (fun b z => absurd z (by simp)), r, q⟩
end
def Binds (K : PySem.W.Frag) (fd : FuncData) (ps : List Str) (ds : List Value) : Prop :=
  ∀ (s : Shared) (us : List Value), K.In s.heap → (us ++ ds).length = ps.length → BindsTo s fd ⟨us, []⟩ (ps.zip (us ++ ds))
theorem Binds.all {K : PySem.W.Frag} {fd : FuncData} {ps : List Str} (h : ∀ us : List Value, us.length = ps.length → bindArgs fd ⟨us, []⟩ = pure (ps.zip us)) : Binds K fd ps [] := fun s us _ hl => by
  rw [List.append_nil] at hl ⊢
  exact .of_eq (h us hl)
section
variable {X : Cx} {CX : CXT} {k : Nat} {f C : Addr} {fd : FuncData} {ps : List Str} {sp : Sp} {dvs : List V} {ds : List Value} {E : XK} {x m : Str} {p pos apos : Pos} {e o : Expr} {es : List Expr} {ta : TE} {t : TA}
structure Mk (K : PySem.W.Frag) (C f : Addr) : Prop where
  makes : PySem.W.makesIn K C = true
  init : PySem.W.findIn K (.ref C) "__init__" = some (some (.ref f))
  fn : PySem.W.isFn K (.ref f) = true
  kp : PySem.W.keepIn K (.ref C) = true
end
section
variable {X : Cx} {CX : CXT} {k : Nat} {f C : Addr} {fd : FuncData} {ps ks : List Str} {sp : Sp} {E : XK} {x m : Str} {p pos apos kpos : Pos} {e o : Expr} {es : List Expr} {kws : List Keyword} {te ta : TE} {t tk : TA} {nm : Option Str}
structure KBinds (K : PySem.W.Frag) (fd : FuncData) (ps ks : List Str) (g : List Value → List Value → List Value) (gV : List V → List V → List V) : Prop where
  to : ∀ (s : Shared) (us ws : List Value), K.In s.heap → (g us ws).length = ps.length → BindsTo s fd ⟨us, ks.zip ws⟩ (ps.zip (g us ws))
  rel : ∀ {vs : List V} {us : List Value} {zs : List V} {ws : List Value}, Vals vs us → Vals zs ws → Vals (gV vs zs) (g us ws)
variable {g : List Value → List Value → List Value} {gV : List V → List V → List V}
end
structure FnScope (N P : List Str) (sc : Scope) : Prop where
  kind : sc.kind = .function
  co : sc.isCoroutine = false
  gen : sc.isGenerator = false
  nd : N.Nodup
  pre : N.take P.length = P
  par : ∀ x ∈ P, sc.names.lookup x = some .local ∨ sc.names.lookup x = some .cell
  nofree : ∀ y ∈ sc.names, y.2 ≠ .free
theorem bindL_out {kindOf : Str → Option NameKind} {x : Str} : ∀ {binds : List (Str × Value)} {m : Str → Option Value}, (∀ v, (x, v) ∉ binds) → bindL kindOf binds m x = m x
  | [], _, _ => rfl
  | (n, v) :: r, m, h => by
    unfold bindL
    rw [bindL_out fun w hw => h w (List.mem_cons_of_mem _ hw)]
    split
    · have : x ≠ n := by rintro rfl; exact h v List.mem_cons_self
      simp [this]
    · rfl
theorem bindC_out {kindOf : Str → Option NameKind} {x : Str} : ∀ {binds : List (Str × Value)} {m : Str → Option Value}, (∀ v, (x, v) ∉ binds) → bindC kindOf binds m x = m x
  | [], _, _ => rfl
  | (n, v) :: r, m, h => by
    unfold bindC
    rw [bindC_out fun w hw => h w (List.mem_cons_of_mem _ hw)]
    split
    · rfl
    · have : x ≠ n := by rintro rfl; exact h v List.mem_cons_self
      simp [this]
theorem bindL_get {kindOf : Str → Option NameKind} {x : Str} {v : Value} : ∀ {P : List Str} {vs : List Value} {i : Nat} {m : Str → Option Value}, P.Nodup → P[i]? = some x → vs[i]? = some v → kindOf x = some .local →
    bindL kindOf (P.zip vs) m x = some v
  | [], _, _, _, _, h, _, _ => by simp at h
  | _ :: _, [], _, _, _, _, h, _ => by simp at h
  | p :: P, w :: vs, 0, m, nd, h1, h2, hk => by
    simp at h1 h2; subst h1; subst h2
    show bindL kindOf ((p, w) :: P.zip vs) m p = _
    unfold bindL
    rw [bindL_out fun v hv => (List.nodup_cons.mp nd).1 (List.of_mem_zip hv).1, if_pos hk]
    simp
  | p :: P, w :: vs, i + 1, m, nd, h1, h2, hk => by
    show bindL kindOf ((p, w) :: P.zip vs) m x = _
    unfold bindL
    exact bindL_get (i := i) (List.nodup_cons.mp nd).2 (by simpa using h1) (by simpa using h2) hk
theorem bindC_get {kindOf : Str → Option NameKind} {x : Str} {v : Value} : ∀ {P : List Str} {vs : List Value} {i : Nat} {m : Str → Option Value}, P.Nodup → P[i]? = some x → vs[i]? = some v → kindOf x ≠ some .local →
    bindC kindOf (P.zip vs) m x = some v
  | [], _, _, _, _, h, _, _ => by simp at h
  | _ :: _, [], _, _, _, _, h, _ => by simp at h
  | p :: P, w :: vs, 0, m, nd, h1, h2, hk => by
    simp at h1 h2; subst h1; subst h2
    show bindC kindOf ((p, w) :: P.zip vs) m p = _
    unfold bindC
    rw [bindC_out fun v hv => (List.nodup_cons.mp nd).1 (List.of_mem_zip hv).1, if_neg hk]
    simp
  | p :: P, w :: vs, i + 1, m, nd, h1, h2, hk => by
    show bindC kindOf ((p, w) :: P.zip vs) m x = _
    unfold bindC
    exact bindC_get (i := i) (List.nodup_cons.mp nd).2 (by simpa using h1) (by simpa using h2) hk
def start (N : List Str) (vs : List V) : St := vs.map some ++ List.replicate (N.length - vs.length) none
def cxOf (CX : CXT) (P : Program) (w : World) (K : PySem.W.Frag) (mg : Str → Option Value) (base : Heap) (N : List Str) (qual : Str) (scope : Scope) (f : Addr) (cd : Value) (A : Around) (outer : List Env) (s : Shared) (H : Hp) (E : XK) : Cx where
  prog := P
  w := w
  K := K
  mg := mg
  base := base
  A := A.deeper (envOfC qual scope s.heap.objs.size f cd)
  N := N
  s₀ := s
  H₀ := H
  env := envOfC qual scope s.heap.objs.size f cd
  outer := outer
  stack := envOfC qual scope s.heap.objs.size f cd :: outer
  ex := []
  calm := true
  fn := fun _ => true
  pn := []
  xe := fun e s' => wpAny (model P w) (A.deeper (envOfC qual scope s.heap.objs.size f cd)) (leaving (envOfC qual scope s.heap.objs.size f cd) e) (fun _ s'' => CX outer H s E e s'') (fun e' s'' => CX outer H s E e' s'') s'
theorem cell_has {sc : Scope} {n : Nat} {x : Str} (h : sc.names.lookup x = some .cell) : ∃ c, (cellsFrom n sc.names []).lookup x = some c := by
  have q := PySem.W.cellsFrom_some sc.names n [] (.inl h)
  exact Option.isSome_iff_exists.mp q
theorem inv_start {CX : CXT} {P : Program} {w : World} {K : PySem.W.Frag} {mg : Str → Option Value} {base : Heap} {N ps : List Str} {qual : Str} {scope : Scope} {f : Addr} {cd : Value} {A : Around} {outer : List Env} {s s1 : Shared} {H : Hp} {E : XK} {us : List Value} {vs : List V}
    (S : FnScope N ps scope) (hd : A.handled = none) (e0 : Env0 P w K mg base A outer s H) (hl : vs.length = ps.length) (r : Vals vs us)
    (x : InCallC s s.heap.objs.size (bindL (envOfC qual scope s.heap.objs.size f cd).kindOf (ps.zip us) fun _ => none) (cellsFrom (s.heap.objs.size + 1) scope.names []) (bindC (envOfC qual scope s.heap.objs.size f cd).kindOf (ps.zip us) fun _ => none) s1) :
    Inv (cxOf CX P w K mg base N qual scope f cd A outer s H E) [] (start N vs) H s1 := by
  have hpl : ps.length ≤ N.length := by have := congrArg List.length S.pre; rw [List.length_take] at this; omega
  obtain ⟨h1, tk, rfl, hk⟩ := x.done
  have noA : ∀ b : Addr, b ∉ (cxOf CX P w K mg base N qual scope f cd A outer s H E).ex := fun b z => absurd (show b ∈ ([] : List Addr) from z) (by simp)
  refine ⟨⟨e0.mod, S.kind, rfl, rfl, Nat.le_refl _, fun y z c h1 h2 => ?_, fun y hy => ?_, fun y c _ h => ?_, fun _ => hd, Around.frames_deeper e0.frames, .inr ⟨rfl, rfl⟩, fun b z => absurd z (noA b), e0.bs, e0.bsz, fun b _ _ => noA b, fun b z => absurd z (noA b), e0.funs, e0.frf⟩,
    rfl, e0.bare, Un.kept hk, ⟨_, x.toInCall.ns, fun i y v h1 h2 h3 => ?_⟩, fun y c h => ⟨_, x.cell y c h⟩, e0.hok.fresh (Nat.le_refl _), fun y c h => ?_, fun p hp => absurd (show p ∈ ([] : List (Addr × Obj)) from hp) (by simp), e0.hok.kept hk, ?_⟩
  · exact name_of_addr x.apart (PySem.mem_of_lookup h1) (PySem.mem_of_lookup h2)
  · have hy : scope.names.lookup y = some .cell ∨ scope.names.lookup y = some .free := hy
    rcases hy with hy | hy
    · exact cell_has hy
    · exact absurd rfl (S.nofree _ (PySem.mem_of_lookup hy))
  · exact Nat.le_of_lt (x.above y c (PySem.mem_of_lookup h))
  · have hi : i < vs.length := by
      unfold start at h2
      by_cases hi : i < vs.length
      · exact hi
      · rw [List.getElem?_append_right (by simpa using hi)] at h2
        rw [List.getElem?_replicate] at h2
        split at h2 <;> cases h2
    have ha : vs[i]? = some v := by
      unfold start at h2
      rw [List.getElem?_append_left (by simpa using hi), List.getElem?_map] at h2
      cases e : vs[i]? with
      | none => rw [e] at h2; cases h2
      | some a => rw [e] at h2; cases h2; rfl
    obtain ⟨u, hu, rv⟩ := r.get ha
    have hp : ps[i]? = some y := by
      rw [← S.pre, List.getElem?_take_of_lt (by omega)]; exact h1
    have ndP : ps.Nodup := by rw [← S.pre]; exact S.nd.sublist (List.take_sublist _ _)
    refine ⟨u, rv, ?_⟩
    rcases S.par y (List.mem_of_getElem? hp) with k | k
    · exact .inl ⟨k, bindL_get ndP hp hu k⟩
    · obtain ⟨c, e⟩ := cell_has (n := s.heap.objs.size + 1) k
      refine .inr ⟨.inl k, c, e, ?_⟩
      have q := x.cell y c e
      rw [bindC_get ndP hp hu (by show scope.names.lookup y ≠ _; rw [k]; decide)] at q
      exact q
  · exact e0.hok.fresh (Nat.le_of_lt (x.above y c (PySem.mem_of_lookup h)))
  · unfold start
    show _ = N.length
    rw [List.length_append, List.length_map, List.length_replicate]
    omega
theorem fn_of {CX : CXT} {P : Program} {w : World} {K : PySem.W.Frag} {mg : Str → Option Value} {base : Heap} {k : Nat} {f : Addr} {name qual : Str} {params : Arguments} {body : List Stmt} {scope : Scope} {dV kV doc pm cdv ct oc : Value} {an od : Option Addr}
    {osl : Array (Option Value)} {N ps : List Str} {sp : Sp} (lk : K.lookup f = some ⟨oc, od, .func (PySem.W.fnOf name qual params body scope dV kV doc pm an cdv ct), osl⟩) (hcd : PySem.W.codeIn K cdv qual = true) (S : FnScope N ps scope)
    (len : ∀ vs H Q E, sp vs H Q E → vs.length = ps.length)
    (hbody : ∀ (A : Around) (outer : List Env) (s : Shared) (H : Hp) (vs : List V) (Q : VK) (E : XK), Room k (A.deeper (envOfC qual scope s.heap.objs.size f cdv)) → sp vs H Q E →
      ∃ t, PSs (cxOf CX P w K mg base N qual scope f cdv A outer s H E) body t ∧ t { nx := fun _ H' => Q .non H', rt := Q } (start N vs) H) :
    FnOk P w K mg base CX (k + 1) f (PySem.W.fnOf name qual params body scope dV kV doc pm an cdv ct) ps sp := by
  refine ⟨len, fun A outer s H args us vs Q E hr e0 hb r hsp => ?_⟩
  have hl := len _ _ _ _ hsp
  have KX : K.In s.heap := e0.mod.kin.keeps fun b o e => (e0.bs b o e).1
  have lim : s.heap.NoLimit := e0.mod.nolimit.keeps fun b o e => (e0.bs b o e).1
  have hkind : ∀ y ∈ ps.zip us, scope.names.lookup y.1 = some .local ∨ (scope.names.lookup y.1 = some .cell ∧ ((cellsFrom (s.heap.objs.size + 1) scope.names []).lookup y.1).isSome = true) := fun ⟨n, v⟩ hy => by
    rcases S.par n (List.of_mem_zip hy).1 with q | q
    · exact .inl q
    · exact .inr ⟨q, PySem.W.cellsFrom_some _ _ _ (.inl q)⟩
  refine codeAny_call_function hr.depth (KX _ _ lk) rfl S.co S.gen rfl (PySem.W.codeRec_of KX hcd) (hb _ _ _ _ ?_)
  refine wpAny_newFunctionEnv_cells S.kind hkind fun env he s1 x => ?_
  subst he
  refine ⟨lim.keeps x.toInCall.keep, codeAny_func ?_⟩
  obtain ⟨t, ht, hq⟩ := hbody A outer s H vs Q E (hr.deeper _) hsp
  have I : Inv (cxOf CX P w K mg base N qual scope f cdv A outer s H E) [] (start N vs) H s1 := inv_start S hr.hd e0 hl r x
  refine wpAny_mono (ht [] s1 (start N vs) H _ I hq) (fun fl s' hs => ?_) fun e s' hs => hs
  have fin : ∀ {σ' : St} {H' : Hp} {v : V} {u : Value}, Inv (cxOf CX P w K mg base N qual scope f cdv A outer s H E) [] σ' H' s' → RelV v u → Q v H' → CE outer P w H s Q u s' :=
    fun {σ' H' v u} J rv q => ⟨v, H', J.os, J.bare, J.base, J.hok, rv, q⟩
  cases fl with
  | ret u =>
    obtain ⟨v, σ', H', J, rv, q⟩ := hs
    exact fin J rv q
  | next =>
    obtain ⟨σ', H', J, q⟩ := hs
    exact fin (v := V.non) (u := Value.none) J rfl q
  | brk =>
    obtain ⟨_, _, _, q⟩ := hs
    exact False.elim q
  | cont =>
    obtain ⟨_, _, _, q⟩ := hs
    exact False.elim q
end L2
namespace L2
open PySem PySem.Spec PyProof.Rows
section
variable {X : Cx} {x : Str} {p pos : Pos} {e : Expr} {es : List Expr} {t : TA} {id T : String} {r : List V → Hp → VK → Prop}
def tCB (r : List V → Hp → VK → Prop) (t : TA) : TE := fun σ H Q => t σ H fun vs H1 => r vs H1 Q
theorem pe_callB (hc : CallR X (.builtin id) r) (hg : Gl X x) (hm : X.mg x = none) (hv : bootBuiltins x = some (.builtin id)) (ha : PA X (e :: es) t) (hn : x ≠ "__name__" := by decide) (hdb : (x == ("__debug__" : Str)) = false := by decide)
    (he : starEach (e :: es) X.env = (false, eval e X.env) :: starEach es X.env := by rfl) (hpl : (backTo pos (starEach es X.env)).any (·.1) = false := by rfl) : PE X (.Call (.Name x p) (e :: es) [] pos) (tCB r t) := by
  intro pins s σ H Q I h
  refine wpAny_Call_Name_kw (ld_blt I hg hm hv ?_ hn hdb)
  exact PyProof.Rows.callWith_builtin1 (thn (ha pos pins s σ H _ I h) fun us s1 ⟨vs, H1, I1, r1, q1⟩ => hc pins s1 σ H1 vs us Q I1 r1 q1) he hpl
theorem pe_callTy (hc : CallR X (.type T) r) (hg : Gl X x) (hm : X.mg x = none) (hv : bootBuiltins x = some (.type T)) (ha : PA X (e :: es) t) (hn : x ≠ "__name__" := by decide) (hdb : (x == ("__debug__" : Str)) = false := by decide)
    (he : starEach (e :: es) X.env = (false, eval e X.env) :: starEach es X.env := by rfl) (hpl : (backTo pos (starEach es X.env)).any (·.1) = false := by rfl) : PE X (.Call (.Name x p) (e :: es) [] pos) (tCB r t) := by
  intro pins s σ H Q I h
  refine wpAny_Call_Name_kw (ld_blt I hg hm hv ?_ hn hdb)
  exact PyProof.Rows.callWith_type1 (thn (ha pos pins s σ H _ I h) fun us s1 ⟨vs, H1, I1, r1, q1⟩ => hc pins s1 σ H1 vs us Q I1 r1 q1) he hpl
end
end L2
namespace HT
open PySem PyProof.Rows
def lexLt : List Int → List Int → Bool
  | [], [] => false
  | [], _ :: _ => true
  | _ :: _, [] => false
  | x :: xs, y :: ys => if x = y then lexLt xs ys else decide (x < y)
theorem lexLt_cons (x y : Int) (xs ys : List Int) : lexLt (x :: xs) (y :: ys) = if x = y then lexLt xs ys else decide (x < y) := rfl
theorem lexLt_nil_nil : lexLt [] [] = false := rfl
theorem lexLt_nil_cons (y : Int) (ys : List Int) : lexLt [] (y :: ys) = true := rfl
theorem lexLt_cons_nil (x : Int) (xs : List Int) : lexLt (x :: xs) [] = false := rfl
theorem eqAt_int (A : Around) (s : Shared) (a : Int) (t : Tok) (c : Int) (u : Tok) : ∃ e, SeqAt.EqAt A s (.int a t) (.int c u) e ∧ (e = true ↔ a = c) :=
  ⟨(a == c), SeqAt.EqAt.int_int a t c u, by simp⟩
theorem rcLt_int (A : Around) (s : Shared) (a : Int) (t : Tok) (c : Int) (u : Tok) (prog : Program) (w : World) (E : Value → Shared → Prop) (Q : Value → Shared → Prop) (h : Q (.bool (decide (a < c))) s) :
    wpAny (model prog w) A (richCompare .Lt (.int a t) (.int c u)) Q E s :=
  (PyProof.Rows.lt_int h : wpAny (model prog w) A (compareOp .Lt (.int a t) (.int c u)) Q E s)
section
open PySem.SeqAt
open PySem.AutoSeq1 (wpAny_loadPart')
open PySem.MeetsSeq PySem.MeetsSeq2 PySem.MeetsSeq3
theorem tuple_lt_ints (l b : Addr) (items items2 : Array Value) (n n2 : Nat) (dd dd2 : Option Addr) (sl sl2 : Array (Option Value)) (ns ms : List Int) (hi : IntsAre items.toList ns) (hj : IntsAre items2.toList ms) :
    Meets (Builtin.«tuple.__lt__» ⟨[.ref l, .ref b], []⟩)
      (fun _ R s => s.heap.get? l = some { cls := .type "tuple", dict := dd, data := .seq items n, slots := sl } ∧ s.heap.get? b = some { cls := .type "tuple", dict := dd2, data := .seq items2 n2, slots := sl2 } ∧
        R (.ok (.ret (.bool (lexLt ns ms)))) s) :=
  .of_wp fun prog w A R s h => by
    obtain ⟨hp, g, d, tk, os⟩ := s; obtain ⟨hl, hb, h⟩ := h
    have f2 := AutoSeq1.sub_tuple_tuple
    have z1 : items.size = ns.length := by rw [← hi.length]; simp
    have z2 : items2.size = ms.length := by rw [← hj.length]; simp
    wp_walk using wpAny_loadPart' hl, wpAny_loadPart' hb, wpAny_forIn_list _ (fun rest b s' => b.1 = none ∧ s' = ⟨hp, g, d, tk, os⟩ ∧ ∃ (vs ws : List Value) (ns' ms' : List Int), rest = vs.zip ws ∧
      IntsAre vs ns' ∧ IntsAre ws ms' ∧ ns'.length + items2.size = ms'.length + items.size ∧ R (.ok (.ret (.bool (lexLt ns' ms')))) ⟨hp, g, d, tk, os⟩) _
    case turn =>
      rintro ⟨y, x⟩ rest b s' ⟨hb', rfl, vs, ws, ns', ms', hz, hvi, hwi, hlen, hR⟩
      cases hvi with
      | nil => rw [List.zip_nil_left] at hz; cases hz
      | cons a t hvi' =>
        cases hwi with
        | nil => rw [List.zip_nil_right] at hz; cases hz
        | cons c u hwi' =>
          rw [List.zip_cons_cons] at hz
          injection hz with hyx hrest
          injection hyx with hy hx
          subst hy hx
          rw [lexLt_cons] at hR
          simp only [List.length_cons] at hlen
          obtain ⟨e, he, hiff⟩ := eqAt_int A.in1 ⟨hp, g, d, tk, os⟩ a t c u
          refine wpAny_bind (he prog w _ _ ?_)
          cases e with
          | true =>
            rw [if_pos (hiff.mp rfl)] at hR
            wp_walk
            exact ⟨rfl, rfl, _, _, _, _, hrest, hvi', hwi', by omega, hR⟩
          | false =>
            rw [if_neg (fun q => absurd (hiff.mpr q) Bool.false_ne_true)] at hR
            have hri := rcLt_int A.in1 ⟨hp, g, d, tk, os⟩ a t c u prog w
            wp_walk using hri
            exact ⟨_, rfl, by simpa using hR⟩
    case fin =>
      rintro ⟨b1, b2⟩ s' ⟨hb', rfl, vs, ws, ns', ms', hz, hvi, hwi, hlen, hR⟩
      simp only at hb'
      subst hb'
      have hv : lexLt ns' ms' = decide (items.size < items2.size) := by
        cases hvi with
        | nil =>
          cases hwi with
          | nil =>
            simp only [List.length_nil] at hlen
            rw [lexLt_nil_nil]
            exact (decide_eq_false (by omega)).symm
          | cons c u hw =>
            simp only [List.length_nil, List.length_cons] at hlen
            rw [lexLt_nil_cons]
            exact (decide_eq_true (by omega)).symm
        | cons a t hv =>
          cases hwi with
          | nil =>
            simp only [List.length_nil, List.length_cons] at hlen
            rw [lexLt_cons_nil]
            exact (decide_eq_false (by omega)).symm
          | cons c u hw =>
            rw [List.zip_cons_cons] at hz
            cases hz
      rw [hv] at hR
      wp_walk
      exact ⟨_, rfl, by simpa [Builtin.Tuple.tupleCompareSizes] using hR⟩
    case h =>
      exact ⟨rfl, rfl, items.toList, items2.toList, ns, ms, rfl, hi, hj, by omega, h⟩
end
section
variable {prog : Program} {w : World} {A : Around} {E : Value → Shared → Prop} {s : Shared}
theorem lt_tupInts {l b : Addr} {items items2 : Array Value} {ns ms : List Int} {Q : Value → Shared → Prop} (hl : IsTup s.heap l items) (hb : IsTup s.heap b items2) (hi : IntsAre items.toList ns) (hj : IntsAre items2.toList ms)
    (hu : A.units < cLine) (h : Q (.bool (lexLt ns ms)) s) : wpAny (model prog w) A (compareOp .Lt (.ref l) (.ref b)) Q E s := by
  obtain ⟨⟨cls, dd, data, sl⟩, ho, hc, n, hd⟩ := id hl
  obtain ⟨⟨cls2, dd2, data2, sl2⟩, ho2, hc2, n2, hd2⟩ := id hb
  simp only at hc hd hc2 hd2
  subst hc hd hc2 hd2
  exact richCompare_meets_room (op := .Lt) ⟨_, ho, rfl⟩ ⟨_, ho2, rfl⟩ PySem.F.slot_tuple_lt PySem.F.entry_tuple_lt (PySem.F.args_tuple_lt_2 _ _) (tuple_lt_ints l b items items2 n n2 dd dd2 sl sl2 ns ms hi hj)
    ⟨ho, ho2, show Value.bool (lexLt ns ms) ≠ Value.notImplemented ∧ Q (.bool (lexLt ns ms)) s from ⟨(fun x => nomatch x), h⟩⟩ hu
def sIx (n d : Nat) : Option Int → Nat
  | none => d
  | some v => if v < 0 then (v + (n : Int)).toNat else min v.toNat n
end
end HT
namespace L2
open PySem PySem.Spec PyProof.Rows
abbrev TO := St → Hp → (Option Int → Hp → Prop) → Prop
def PO (X : Cx) (e : Option Expr) (t : TO) : Prop :=
  ∀ (pins : List (Addr × Obj)) (s : Shared) (σ : St) (H : Hp) (Q : Option Int → Hp → Prop), Inv X pins σ H s → t σ H Q →
    wpAny (model X.prog X.w) X.A (evalPart e X.env) (fun u s' => ∃ o H', Inv X pins σ H' s' ∧ IsPart u o ∧ Q o H') X.xe s
def tNoPart : TO := fun _ H Q => Q none H
def tPart (t : TE) : TO := fun σ H Q => t σ H fun x H1 => ∃ i, x = .int i ∧ Q (some i) H1
theorem intsAre_of {ns : List Int} : ∀ {us : List Value}, Vals (ns.map V.int) us → IntsAre us ns := by
  induction ns with
  | nil => intro us r; rw [List.map_nil] at r; cases r; exact .nil
  | cons n ns ih =>
    intro us r
    rw [List.map_cons] at r
    cases r with
    | cons r1 r2 =>
      obtain ⟨t, e⟩ := r1
      subst e
      exact .cons n t (ih r2)
section
variable {X : Cx} {e : Expr} {te : TE} {lo hi : Option Expr} {tl th : TO} {pos p2 : Pos}
theorem po_none : PO X none tNoPart := by
  intro pins s σ H Q I h
  rw [evalPart_none]
  exact wpAny_pure ⟨none, H, I, .none, h⟩
theorem po_some (h : PE X e te) : PO X (some e) (tPart te) := by
  intro pins s σ H Q I hw
  rw [evalPart_some]
  refine thn (h pins s σ H _ I hw) fun u s1 ⟨x, H1, I1, r1, q1⟩ => ?_
  obtain ⟨i, rfl, q⟩ := q1
  obtain ⟨t, rfl⟩ := r1
  exact ⟨some i, H1, I1, .int i t, q⟩
def SlR (X : Cx) (r : V → Option Int → Option Int → Hp → VK → Prop) : Prop :=
  ∀ (pins : List (Addr × Obj)) (s : Shared) (σ : St) (H : Hp) (x : V) (v vl vu : Value) (lo hi : Option Int) (sl : Addr) (Q : VK), Inv X pins σ H s → RelV x v → s.heap.IsSliceOf sl vl vu .none → IsPart vl lo → IsPart vu hi → r x lo hi H Q →
    ∃ T id, typeLookup (.type T) "__getitem__" = pure (some (.builtin id)) ∧ s.TypeIs v T ∧ wpAny (model X.prog X.w) X.A (getItem v (.ref sl)) (EP X pins σ Q) X.xe s
theorem SlR.or {r r' : V → Option Int → Option Int → Hp → VK → Prop} (h : SlR X r) (h' : SlR X r') : SlR X (fun x lo hi H Q => r x lo hi H Q ∨ r' x lo hi H Q) := by
  intro pins s σ H x v vl vu lo hi sl Q I rx hs pl pu q
  rcases q with q | q
  · exact h pins s σ H x v vl vu lo hi sl Q I rx hs pl pu q
  · exact h' pins s σ H x v vl vu lo hi sl Q I rx hs pl pu q
def tSl (r : V → Option Int → Option Int → Hp → VK → Prop) (te : TE) (tl th : TO) : TE := fun σ H Q => te σ H fun x H1 => tl σ H1 fun l H2 => th σ H2 fun u H3 => r x l u H3 Q
theorem pe_slice {r : V → Option Int → Option Int → Hp → VK → Prop} (hr : SlR X r) (he : PE X e te) (hl : PO X lo tl) (hu : PO X hi th) : PE X (.Subscript e (.Slice lo hi none p2) pos) (tSl r te tl th) := by
  intro pins s σ H Q I h
  refine Subscript_ (thn (he pins s σ H _ I h) fun v s1 ⟨x, H1, I1, r1, q1⟩ => ?_)
  refine wpAny_Slice (thn (hl pins s1 σ H1 _ I1 q1) fun vl s2 ⟨l, H2, I2, pl, q2⟩ => thn (hu pins s2 σ H2 _ I2 q2) fun vu s3 ⟨u, H3, I3, pu, q3⟩ => ?_)
  rw [evalPart_none]
  refine wpAny_pure ?_
  have I4 : Inv X pins σ H3 { s3 with heap := s3.heap.push { cls := .type "slice", data := .fields #[vl, vu, .none] } } := I3.kept (t' := s3.toks) fun b ob q => Heap.get?_push_of_some _ q
  obtain ⟨T, id, hT, ht, hg⟩ := hr pins { s3 with heap := s3.heap.push { cls := .type "slice", data := .fields #[vl, vu, .none] } } σ H3 x v vl vu l u s3.heap.objs.size Q I4 r1 (Heap.IsSliceOf.new ..) pl pu q3
  show wpAny (model X.prog X.w) X.A (subscriptTail e (.Slice lo hi none p2) v (.ref s3.heap.objs.size)) (EP X pins σ Q) X.xe { s3 with heap := s3.heap.push { cls := .type "slice", data := .fields #[vl, vu, .none] } }
  exact tail_any (ops := [.ref s3.heap.objs.size, v]) ht hT hg (by with_unfolding_all rfl)
def cutV (xs : List V) (lo hi : Option Int) : List V := (xs.drop (HT.sIx xs.length 0 lo)).take (HT.sIx xs.length xs.length hi - HT.sIx xs.length 0 lo)
theorem cutV_length (xs : List V) (lo hi : Option Int) : (cutV xs lo hi).length ≤ xs.length := by
  unfold cutV
  rw [List.length_take, List.length_drop]
  omega
end
end L2
namespace L2
open PySem PySem.Spec PyProof.Rows
def ixN (n : Nat) (i : Int) : Option Nat := if 0 ≤ i then (if i < n then some i.toNat else none) else if -(n : Int) ≤ i then some (i + n).toNat else none
def atI {α : Type} (xs : List α) (i : Int) : Option α := (ixN xs.length i).bind fun j => xs[j]?
theorem ixN_seq {n : Nat} {i : Int} {j : Nat} (h : ixN n i = some j) : seqIndex? i n = some j ∧ j < n ∧ -(n : Int) ≤ i ∧ i < n := by
  unfold ixN at h
  by_cases h0 : 0 ≤ i
  · rw [if_pos h0] at h
    by_cases h1 : i < n
    · rw [if_pos h1] at h
      have e : i.toNat = j := Option.some.inj h
      exact ⟨by rw [seqIndex_of h0 h1, e], by omega, by omega, h1⟩
    · rw [if_neg h1] at h; cases h
  · rw [if_neg h0] at h
    by_cases h1 : -(n : Int) ≤ i
    · rw [if_pos h1] at h
      have e : (i + n).toNat = j := Option.some.inj h
      exact ⟨by rw [seqIndex_neg (by omega) h1, e], by omega, h1, by omega⟩
    · rw [if_neg h1] at h; cases h
theorem atI_get {α : Type} {xs : List α} {i : Int} {v : α} (h : atI xs i = some v) : ∃ j, seqIndex? i xs.length = some j ∧ xs[j]? = some v ∧ j < xs.length ∧ -(xs.length : Int) ≤ i ∧ i < xs.length := by
  unfold atI at h
  cases e : ixN xs.length i with
  | none => rw [e] at h; cases h
  | some j =>
    rw [e] at h
    obtain ⟨h1, h2, h3, h4⟩ := ixN_seq e
    exact ⟨j, h1, h, h2, h3, h4⟩
def PlainIx (b : Expr) : Prop := ∀ o i, subscripted b false o i = operate [o, i] (getItem o i)
def IxR (X : Cx) (r : R2) : Prop :=
  ∀ (value slice : Expr) (pins : List (Addr × Obj)) (s : Shared) (σ : St) (H : Hp) (x y : V) (v u : Value) (Q : VK), Inv X pins σ H s → RelV x v → RelV y u → r x y H Q →
    subscripted slice false v u = operate [v, u] (getItem v u) → wpAny (model X.prog X.w) X.A (subscriptTail value slice v u) (EP X pins σ Q) X.xe s
def MtR (X : Cx) (id : String) (r : V → List V → Hp → VK → Prop) : Prop :=
  ∀ (pins : List (Addr × Obj)) (s : Shared) (σ : St) (H : Hp) (x : V) (xs : List V) (v : Value) (us : List Value) (Q : VK), Inv X pins σ H s → RelV x v → Vals xs us → r x xs H Q →
    wpAny (model X.prog X.w) X.A (call (.builtin id) (v :: us)) (EP X pins σ Q) X.xe s
section
variable {X : Cx} {a b : Expr} {ta tb : TE} {pos : Pos}
theorem IxR.or {r r' : R2} (h : IxR X r) (h' : IxR X r') : IxR X (fun x y H Q => r x y H Q ∨ r' x y H Q) := by
  intro value slice pins s σ H x y v u Q I rx ry q hs
  rcases q with q | q
  · exact h value slice pins s σ H x y v u Q I rx ry q hs
  · exact h' value slice pins s σ H x y v u Q I rx ry q hs
theorem MtR.or {id : String} {r r' : V → List V → Hp → VK → Prop} (h : MtR X id r) (h' : MtR X id r') : MtR X id (fun x xs H Q => r x xs H Q ∨ r' x xs H Q) := by
  intro pins s σ H x xs v us Q I rx rs q
  rcases q with q | q
  · exact h pins s σ H x xs v us Q I rx rs q
  · exact h' pins s σ H x xs v us Q I rx rs q
theorem pe_ix {r : R2} (hr : IxR X r) (ha : PE X a ta) (hb : PE X b tb) (hs : PlainIx b) : PE X (.Subscript a b pos) (tOp r ta tb) := by
  intro pins s σ H Q I h
  exact Subscript_ (binT ha hb I h fun v u s2 x y H2 I2 rx ry q => hr a b pins s2 σ H2 x y v u Q I2 rx ry q (hs _ _))
def rIxL (K : PySem.W.Frag) : R2 := fun x y H Q => ∃ p xs i v, x = .ref p ∧ y = .int i ∧ SqL K H p xs ∧ atI xs i = some v ∧ Q v H
def rIxT (K : PySem.W.Frag) : R2 := fun x y H Q => ∃ p xs i v, x = .ref p ∧ y = .int i ∧ SqT K H p xs ∧ atI xs i = some v ∧ Q v H
def rIxS : R2 := fun x y H Q => ∃ z i c, x = .str z ∧ y = .int i ∧ z.length ≤ sizeLine ∧ atI z.cps.toList i = some c ∧ Q (.str ⟨#[c]⟩) H
theorem ix_list : IxR X (rIxL X.K) := by
  intro value slice pins s σ H x y v u Q I rx ry h hs
  obtain ⟨p, xs, i, z, rfl, rfl, hq, he, q⟩ := h
  cases rx
  obtain ⟨t, rfl⟩ := ry
  obtain ⟨its, r, pl, hz⟩ := I.list hq
  obtain ⟨j, h1, h2, h3, h4, h5⟩ := atI_get he
  obtain ⟨w, ew, rw'⟩ := r.get h2
  have hl := r.length
  have hn := line63
  have fin : EP X pins σ Q w s := ⟨z, H, I, rw', q⟩
  by_cases h0 : 0 ≤ i
  · have hj : i.toNat = j := by
      rw [seqIndex_of h0 h5] at h1
      exact Option.some.inj h1
    exact item_listR pl.isList h0 (by omega) (by rw [hj]; simpa using ew) fin hs
  · have hj : (i + (its.toArray.size : Int)).toNat = j := by
      rw [seqIndex_neg (by omega) h4] at h1
      rw [List.size_toArray, ← hl]
      exact Option.some.inj h1
    exact subscriptTail_builtinR (x := w) pl.isList.typeIs slot_list_getitem.lookup
      (wpAny_getItem_list_neg (Q := fun r s' => r = w ∧ EP X pins σ Q r s') pl.isList (by omega) (by rw [List.size_toArray] <;> omega) (by omega) (by rw [hj]; simpa using ew) ⟨rfl, fin⟩) hs
theorem ix_tup : IxR X (rIxT X.K) := by
  intro value slice pins s σ H x y v u Q I rx ry h hs
  obtain ⟨p, xs, i, z, rfl, rfl, hq, he, q⟩ := h
  cases rx
  obtain ⟨t, rfl⟩ := ry
  obtain ⟨its, r, pl, hz⟩ := I.tuple hq
  obtain ⟨j, h1, h2, h3, h4, h5⟩ := atI_get he
  obtain ⟨w, ew, rw'⟩ := r.get h2
  have hl := r.length
  have hn := line63
  have fin : EP X pins σ Q w s := ⟨z, H, I, rw', q⟩
  exact subscriptTail_builtinR (x := w) pl.typeIs slot_tuple_getitem.lookup
    (getItem_tuple (j := j) (Q := fun r s' => r = w ∧ EP X pins σ Q r s') pl (by omega) (by omega) (by rw [List.size_toArray, ← hl]; exact h1) (by simpa using ew) ⟨rfl, fin⟩) hs
theorem ix_str : IxR X rIxS := by
  intro value slice pins s σ H x y v u Q I rx ry h hs
  obtain ⟨z, i, c, rfl, rfl, hz, he, q⟩ := h
  obtain ⟨t, rfl⟩ := rx
  obtain ⟨t', rfl⟩ := ry
  obtain ⟨j, h1, h2, h3, h4, h5⟩ := atI_get he
  have hl : z.cps.toList.length = z.length := by simp [Str.length]
  rw [hl] at h1 h4 h5
  have hn := line63
  exact tail_any (typeIs_str s z t) slot_str_getitem.lookup (getItem_str (c := c) (by
    have e1 : decide (i < -(2 ^ 63 : Int)) = false := decide_eq_false (by omega)
    have e2 : decide (i ≥ 2 ^ 63) = false := decide_eq_false (by omega)
    rw [e1, e2, Bool.or_false]) (by rw [h1]; simpa using h2) ⟨.str ⟨#[c]⟩, H, I.tok _, ⟨_, rfl⟩, q⟩) hs
def rIx (K : PySem.W.Frag) : R2 := fun x y H Q => rIxL K x y H Q ∨ rIxT K x y H Q ∨ rIxS x y H Q
theorem ix_seq : IxR X (rIx X.K) := ix_list.or (ix_tup.or ix_str)
theorem Inv.lst {pins : List (Addr × Obj)} {σ : St} {H : Hp} {s : Shared} {p : Addr} {xs : List V} (I : Inv X pins σ H s) (h : H p = some (.lst xs)) :
    ∃ (its : List Value) (n : Nat), Vals xs its ∧ s.heap.get? p = some { cls := .type "list", data := .seq its.toArray n } ∧ xs.length ≤ sizeLine := by
  obtain ⟨z, its, n, r, e⟩ := I.hok p _ h
  exact ⟨its, n, r, e, z⟩
theorem slice_bounds (lo hi : Option Int) (n : Nat) : (sliceBounds lo hi none n).1 = ((HT.sIx n 0 lo : Nat) : Int) ∧ (sliceBounds lo hi none n).2.1 = ((HT.sIx n n hi : Nat) : Int) ∧ (sliceBounds lo hi none n).2.2 = 1 := by
  refine ⟨?_, ?_, rfl⟩
  · cases lo with
    | none => simp [sliceBounds, HT.sIx]
    | some i =>
      simp only [sliceBounds, HT.sIx, Option.getD_none, show (1 : Int) > 0 by decide, if_true]
      by_cases h : i < 0
      · simp only [h, if_true] <;> omega
      · simp only [h, if_false] <;> omega
  · cases hi with
    | none => simp [sliceBounds, HT.sIx]
    | some i =>
      simp only [sliceBounds, HT.sIx, Option.getD_none, show (1 : Int) > 0 by decide, if_true]
      by_cases h : i < 0
      · simp only [h, if_true] <;> omega
      · simp only [h, if_false] <;> omega
theorem slicePick_cut (its : List Value) (lo hi : Option Int) : slicePick its.toArray lo hi none = ((its.drop (HT.sIx its.length 0 lo)).take (HT.sIx its.length its.length hi - HT.sIx its.length 0 lo)).toArray := by
  obtain ⟨h1, h2, h3⟩ := slice_bounds lo hi its.toArray.size
  unfold slicePick
  rw [h1, h2, h3]
  simp only [sliceRange_one, pick_run, List.size_toArray] <;> rfl
def rSlL (K : PySem.W.Frag) : V → Option Int → Option Int → Hp → VK → Prop := fun x lo hi H Q => ∃ a xs, x = .ref a ∧ SqL K H a xs ∧ ∀ p, H p = none → Q (.ref p) (upd H p (.lst (cutV xs lo hi)))
theorem sl_list : SlR X (rSlL X.K) := by
  intro pins s σ H x v vl vu lo hi sl Q I rx hs pl pu h
  obtain ⟨a, xs, rfl, hx, q⟩ := h
  cases rx
  obtain ⟨its, r, ht, hz⟩ := I.list hx
  have hlen := r.length
  refine ⟨"list", _, slot_list_getitem.lookup, ht.isList.typeIs, ?_⟩
  refine wpAny_getItem_list_slice ht.isList hs pl pu .none (by simp) ?_ (by rw [List.size_toArray] <;> omega)
  rw [slicePick_cut, ← hlen]
  refine ⟨.ref s.heap.objs.size, _, I.laid (t' := s.toks) (o := .lst (cutV xs lo hi)) (fun b ob q => Heap.get?_push_of_some _ q) (Nat.le_refl _) ?_, rfl, q _ (I.hok.fresh (Nat.le_refl _))⟩
  exact ⟨Nat.le_trans (cutV_length xs lo hi) hz, _, 0, (r.drop (HT.sIx xs.length 0 lo)).take (HT.sIx xs.length xs.length hi - HT.sIx xs.length 0 lo), Heap.get?_push_size _ rfl⟩
theorem CallR.or {f : Value} {r r' : List V → Hp → VK → Prop} (h : CallR X f r) (h' : CallR X f r') : CallR X f (fun xs H Q => r xs H Q ∨ r' xs H Q) := by
  intro pins s σ H xs us Q I rs q
  rcases q with q | q
  · exact h pins s σ H xs us Q I rs q
  · exact h' pins s σ H xs us Q I rs q
theorem call_list_of : CallR X (.type "list") (fun xs H Q => ∃ p ys, xs = [.ref p] ∧ (SqL X.K H p ys ∨ SqT X.K H p ys) ∧ ∀ l, H l = none → Q (.ref l) (upd H l (.lst ys))) := by
  intro pins s σ H xs us Q I r h
  obtain ⟨p, ys, rfl, hq, q⟩ := h
  obtain ⟨u, rfl, rx⟩ := vals1 r
  cases rx
  have fin : ∀ (its : List Value), Vals ys its → ys.length ≤ sizeLine → ∀ (h' : Heap) (c' : Nat), (∀ b o', s.heap.get? b = some o' → h'.get? b = some o') →
      h'.get? s.heap.objs.size = some { cls := .type "list", dict := none, data := .seq its.toArray c', slots := #[] } → EP X pins σ Q (.ref s.heap.objs.size) { s with heap := h' } := fun its r' hz h' c' kp e =>
    ⟨.ref s.heap.objs.size, _, I.laid (t' := s.toks) kp (Nat.le_refl _) (show ObjOk X.prog X.w _ h' _ (.lst ys) from ⟨hz, its, c', r', e⟩), rfl, q _ (I.hok.fresh (Nat.le_refl _))⟩
  rcases hq with hq | hq
  · obtain ⟨its, r', pl, hz⟩ := I.list hq
    have hlen := r'.length
    obtain ⟨o, ho, hc, n, hd⟩ := pl.isList
    exact call_list_seq p (.inl rfl) ho hc hd (fun h' c' kp e => fin its r' hz h' c' kp e) (by simp only [List.size_toArray] <;> omega)
  · obtain ⟨its, r', pl, hz⟩ := I.tuple hq
    have hlen := r'.length
    obtain ⟨o, ho, hc, n, hd⟩ := pl
    exact call_list_seq p (.inr rfl) ho hc hd (fun h' c' kp e => fin its r' hz h' c' kp e) (by simp only [List.size_toArray] <;> omega)
def tyV (K : PySem.W.Frag) (T : String) (x : V) (H : Hp) : Prop := match x with
  | .str _ => T = "str"
  | .int _ => T = "int"
  | .ref p => (T = "list" ∧ ∃ xs, SqL K H p xs) ∨ (T = "tuple" ∧ ∃ o, K.lookup p = some o ∧ o.cls = .type "tuple" ∧ o.dict = none) ∨
      (T = "dict" ∧ ((∃ kvs, H p = some (.dK kvs)) ∨ ∃ kvs, H p = some (.dT kvs))) ∨ (T = "set" ∧ ∃ S n, H p = some (.set S n))
  | _ => False
theorem tyV_is {pins : List (Addr × Obj)} {σ : St} {H : Hp} {s : Shared} {T : String} {x : V} {v : Value} (I : Inv X pins σ H s) (r : RelV x v) (ty : tyV X.K T x H) :
    s.TypeIs v T ∧ ∀ a, v = .ref a → ∃ ob, s.heap.get? a = some ob ∧ ob.dict = none := by
  cases x with
  | str z =>
    obtain ⟨t, rfl⟩ := r
    cases (show T = "str" from ty)
    exact ⟨typeIs_str s z t, fun _ e => nomatch e⟩
  | int i =>
    obtain ⟨t, rfl⟩ := r
    cases (show T = "int" from ty)
    exact ⟨typeIs_int s i t, fun _ e => nomatch e⟩
  | ref p =>
    cases r
    rcases ty with ⟨rfl, xs, hq⟩ | ⟨rfl, o, hk, hc, hd⟩ | ⟨rfl, hk⟩ | ⟨rfl, S, n, hk⟩
    · obtain ⟨its, _, pl, _⟩ := I.list hq
      refine ⟨pl.isList.typeIs, fun a e => ?_⟩
      cases e
      obtain ⟨o, n, e, c, hd, _⟩ := pl
      exact ⟨o, e, hd⟩
    · refine ⟨⟨o, I.kIn p o hk, hc⟩, fun a e => ?_⟩
      cases e
      exact ⟨o, I.kIn _ o hk, hd⟩
    · have z : ∃ o, s.heap.get? p = some o ∧ o.ExactDict := by
        rcases hk with ⟨kvs, hk⟩ | ⟨kvs, hk⟩
        · obtain ⟨_, _, _, _, o, _, _, e, ex, _⟩ := I.hok p _ hk
          exact ⟨o, e, ex⟩
        · obtain ⟨_, _, _, _, o, _, _, e, ex, _⟩ := I.hok p _ hk
          exact ⟨o, e, ex⟩
      obtain ⟨o, e, ex⟩ := z
      refine ⟨⟨o, e, ex.1⟩, fun a e2 => ?_⟩
      cases e2
      exact ⟨o, e, ex.2.1⟩
    · obtain ⟨o, _, _, _, e, ex, _⟩ := I.hok p _ hk
      refine ⟨⟨o, e, ex.1⟩, fun a e2 => ?_⟩
      cases e2
      exact ⟨o, e, ex.2.1⟩
  | _ => exact False.elim ty
def tBM0 (K : PySem.W.Frag) (T : String) (r : V → List V → Hp → VK → Prop) (to : TE) : TE := fun σ H Q => to σ H fun x H1 => tyV K T x H1 ∧ r x [] H1 Q
def tBM (K : PySem.W.Frag) (T : String) (r : V → List V → Hp → VK → Prop) (to : TE) (t : TA) : TE := fun σ H Q => to σ H fun x H1 => tyV K T x H1 ∧ t σ H1 fun xs H2 => r x xs H2 Q
variable {o e : Expr} {es : List Expr} {to : TE} {t : TA} {name : Str} {apos cpos : Pos} {T id : String} {r : V → List V → Hp → VK → Prop}
theorem pe_bm0 (pa : PlainAttrs T) (slot : Slot T name id) (hty : typeOf (.builtin id) = pure (.type "method_descriptor")) (hm : MtR X id r) (ho : PE X o to)
    (hbase : attributeBase o name X.env (eval o X.env) = eval o X.env := by rfl) (hline : (apos.endLine == cpos.line) = true := by rfl) : PE X (.Call (.Attribute o name apos) [] [] cpos) (tBM0 X.K T r to) := by
  intro pins s σ H Q I h
  refine wpAny_Call_method0_late hbase hline (thn (ho pins s σ H _ I h) fun v s1 ⟨x, H1, I1, r1, ty, q1⟩ => ?_)
  obtain ⟨h1, h2⟩ := tyV_is I1 r1 ty
  exact ⟨T, id, pa, slot, hty, h1, h2, Calls.callWith_builtin rfl (PySem.evalArgs_none (hm pins s1 σ H1 x [] v [] Q I1 r1 .nil q1))⟩
theorem pe_bm (pa : PlainAttrs T) (slot : Slot T name id) (hty : typeOf (.builtin id) = pure (.type "method_descriptor")) (hm : MtR X id r) (ho : PE X o to) (ha : PA X (e :: es) t)
    (hbase : attributeBase o name X.env (eval o X.env) = eval o X.env := by rfl)
    (hfew : ((backTo cpos (starEach (e :: es) X.env)).all (fun x => !x.1) && (backToKw cpos (keywordEach [] X.env)).all (fun x => x.1.isSome)
      && decide ((e :: es).length + ([] : List Keyword).length + (if ([] : List Keyword).isEmpty then 0 else 1) < 30)) = true := by rfl)
    (hline : (apos.endLine == cpos.line) = true := by rfl) (hs : starEach (e :: es) X.env = (false, eval e X.env) :: starEach es X.env := by rfl) (hplain : (backTo cpos (starEach es X.env)).any (·.1) = false := by rfl) :
    PE X (.Call (.Attribute o name apos) (e :: es) [] cpos) (tBM X.K T r to t) := by
  intro pins s σ H Q I h
  refine wpAny_Call_method_late hbase hfew hline rfl (thn (ho pins s σ H _ I h) fun v s1 ⟨x, H1, I1, r1, ty, q1⟩ => ?_)
  obtain ⟨h1, h2⟩ := tyV_is I1 r1 ty
  refine ⟨T, id, pa, slot, hty, h1, h2, ?_⟩
  have hA := ha cpos pins s1 σ H1 _ I1 q1
  rw [hs] at hA ⊢
  refine Calls.callWith_builtin (by show (false || (backTo cpos (starEach es X.env)).any (·.1)) = false; rw [hplain] <;> rfl) (Calls.evalArgs_plain ?_)
  exact thn hA fun us s2 ⟨vs, H2, I2, r2, q2⟩ => hm pins s2 σ H2 x vs v us Q I2 r1 r2 q2
end
end L2
namespace L2
open PySem PySem.Spec PyProof.Rows
def MtM (X : Cx) (id : String) (r : V → List V → Hp → VK → Prop) : Prop :=
  ∀ (pins : List (Addr × Obj)) (s : Shared) (σ : St) (H : Hp) (x : V) (xs : List V) (v : Value) (us : List Value) (Q : VK), Inv X pins σ H s → RelV x v → Vals xs us → r x xs H Q →
    wpAny (model X.prog X.w) X.A (call (.builtin id) (v :: us)) (EP X pins σ Q) X.xe s
theorem Vals.one : ∀ {x : V} {us : List Value}, Vals [x] us → ∃ u, us = [u] ∧ RelV x u
  | _, _, .cons r .nil => ⟨_, rfl, r⟩
theorem Vals.zero : ∀ {us : List Value}, Vals [] us → us = []
  | _, .nil => rfl
theorem Vals.reverse {xs : List V} {us : List Value} (h : Vals xs us) : Vals xs.reverse us.reverse := by
  induction h with
  | nil => exact .nil
  | cons r t ih => rw [List.reverse_cons, List.reverse_cons]; exact Vals.append ih (.cons r .nil)
section
variable {X : Cx} {pins : List (Addr × Obj)} {σ : St} {H : Hp} {s : Shared} {l b : Addr} {xs ys zs : List V}
theorem Inv.lset {its its' : List Value} {n : Nat} {f : Array Value → Array Value} {t' : Nat} (I : Inv X pins σ H s) (hH : H l = some (.lst xs))
    (e : s.heap.get? l = some { cls := .type "list", data := .seq its.toArray n }) (hf : f its.toArray = its'.toArray) (hv : Vals ys its') (hz : ys.length ≤ sizeLine) :
    Inv X pins σ (upd H l (.lst ys)) { s with heap := s.heap.update l (Obj.mapSeq f), toks := t' } := by
  have q := PySem.IsL.update e f
  rw [hf] at q
  refine I.write (x := l) (e := l) (by rw [hH]; exact trivial) (.inl rfl) (fun b' u hb hu => (Heap.get?_update_other s.heap (Obj.mapSeq f) (Ne.symm hb)).trans hu) ⟨_, q⟩ ?_
  exact ⟨hz, its', _, hv, q⟩
theorem Inv.lnew {its : List Value} {t' : Nat} (I : Inv X pins σ H s) (hv : Vals ys its) (hz : ys.length ≤ sizeLine) :
    Inv X pins σ (upd H s.heap.objs.size (.lst ys)) { s with heap := s.heap.push { cls := .type "list", data := .seq its.toArray }, toks := t' } :=
  I.laid (fun _ _ q => Heap.get?_push_of_some _ q) (Nat.le_refl _) ⟨hz, its, 0, hv, Heap.get?_push_size _ rfl⟩
theorem Inv.fresh (I : Inv X pins σ H s) : H s.heap.objs.size = none := I.hok.fresh (Nat.le_refl _)
theorem Inv.lstM (I : Inv X pins σ H s) (hH : H l = some (.lst xs)) : xs.length ≤ sizeLine ∧ ∃ (its : List Value) (n : Nat), Vals xs its ∧ xs.length = its.length ∧ s.heap.get? l = some { cls := .type "list", data := .seq its.toArray n } := by
  obtain ⟨z, its, n, r, e⟩ := I.hok l _ hH
  exact ⟨z, its, n, r, r.length, e⟩
end
section
variable {X : Cx}
def rAppend : V → List V → Hp → VK → Prop := fun x vs H Q => ∃ l xs y, x = .ref l ∧ vs = [y] ∧ H l = some (.lst xs) ∧ xs.length < sizeLine ∧ Q .non (upd H l (.lst (xs ++ [y])))
theorem mt_append : MtM X "list.append" rAppend := by
  intro pins s σ H x vs v us Q I rx rv h
  obtain ⟨l, xs, y, rfl, rfl, hH, hz, q⟩ := h
  cases rx
  obtain ⟨u, rfl, ru⟩ := rv.one
  obtain ⟨z, its, n, r, hl, e⟩ := I.lstM hH
  refine call_meets F.slot_list_append ⟨_, e, rfl⟩ F.entry_list_append (F.args_list_append_2 _ _) (PySem.list_append l its.toArray n u (by rw [List.size_toArray]; omega)) ⟨e, ?_⟩
  refine ⟨.non, _, I.lset (its' := its ++ [u]) hH e (by simp) (r.append (.cons ru .nil)) ?_, rfl, q⟩
  rw [List.length_append, List.length_singleton]
  omega
def rClear : V → List V → Hp → VK → Prop := fun x vs H Q => ∃ l xs, x = .ref l ∧ vs = [] ∧ H l = some (.lst xs) ∧ Q .non (upd H l (.lst []))
theorem mt_clear : MtM X "list.clear" rClear := by
  intro pins s σ H x vs v us Q I rx rv h
  obtain ⟨l, xs, rfl, rfl, hH, q⟩ := h
  cases rx
  have hus := rv.zero
  subst hus
  obtain ⟨z, its, n, r, hl, e⟩ := I.lstM hH
  refine call_meets F.slot_list_clear ⟨_, e, rfl⟩ F.entry_list_clear (F.args_list_clear_1 _) (AutoSeq1.list_clear_list_0 l its.toArray n (by rw [List.size_toArray]; omega)) ⟨e, ?_⟩
  exact ⟨.non, _, I.lset (its' := []) (ys := []) hH e rfl .nil (Nat.zero_le _), rfl, q⟩
end
section
variable {prog : Program} {w : World} {A : Around} {E : Value → Shared → Prop} {s : Shared}
end
section
variable {X : Cx}
end
end L2
namespace L2
open PySem PySem.Spec PyProof.Rows
section
variable {κ : Type} [DecidableEq κ]
def valV (kvs : List (κ × V)) (k : κ) : Option V := (kvs.find? fun kv => decide (kv.1 = k)).map (·.2)
def putK (kvs : List (κ × V)) (k : κ) (v : V) : List (κ × V) :=
  if (kvs.any fun kv => decide (kv.1 = k)) = true then kvs.map (fun kv => if kv.1 = k then (kv.1, v) else kv) else kvs ++ [(k, v)]
def dropK (kvs : List (κ × V)) (k : κ) : List (κ × V) := kvs.filter fun kv => decide (kv.1 ≠ k)
theorem valV_pos {p : κ × V} {r : List (κ × V)} {k : κ} (e : p.1 = k) : valV (p :: r) k = some p.2 := by simp [valV, List.find?_cons, e]
theorem valV_neg {p : κ × V} {r : List (κ × V)} {k : κ} (e : ¬ p.1 = k) : valV (p :: r) k = valV r k := by simp [valV, List.find?_cons, e]
theorem valV_any (k : κ) : ∀ kvs : List (κ × V), (kvs.any fun kv => decide (kv.1 = k)) = (valV kvs k).isSome
  | [] => rfl
  | p :: r => by
    rw [List.any_cons]
    by_cases e : p.1 = k
    · simp only [valV_pos e, decide_eq_true e, Bool.true_or, Option.isSome_some]
    · rw [valV_neg e, decide_eq_false e, Bool.false_or]; exact valV_any k r
theorem length_putK (kvs : List (κ × V)) (k : κ) (v : V) : (putK kvs k v).length ≤ kvs.length + 1 := by
  unfold putK
  split
  · rw [List.length_map]; omega
  · rw [List.length_append, List.length_cons, List.length_nil]; omega
theorem RelO.isSome_eq {o : Option V} {u : Option Value} (r : RelO o u) : o.isSome = u.isSome := by
  cases o with
  | none => cases u with
    | none => rfl
    | some _ => exact (show False from r).elim
  | some _ => cases u with
    | none => exact (show False from r).elim
    | some _ => rfl
theorem RelO.getD {o : Option V} {u : Option Value} {d : V} {d' : Value} (r : RelO o u) (rd : RelV d d') : RelV (o.getD d) (u.getD d') := by
  cases o with
  | none => cases u with
    | none => exact rd
    | some _ => exact (show False from r).elim
  | some _ => cases u with
    | none => exact (show False from r).elim
    | some _ => exact r
theorem KV.val {kvs : List (κ × V)} {vs : List (κ × Value)} (r : KV kvs vs) (k : κ) : RelO (valV kvs k) (valueAt vs k) := by
  unfold KV at r
  induction r with
  | nil => exact True.intro
  | @cons p q ps qs h t ih =>
    obtain ⟨h1, h2⟩ := h
    by_cases e : p.1 = k
    · have e' : q.1 = k := h1.symm.trans e
      have b : valueAt (q :: qs) k = some q.2 := by simp [valueAt, List.find?_cons, e']
      rw [valV_pos e, b]; exact h2
    · have e' : ¬ q.1 = k := fun z => e (h1.trans z)
      have b : valueAt (q :: qs) k = valueAt qs k := by simp [valueAt, List.find?_cons, e']
      rw [valV_neg e, b]; exact ih
theorem KV.any {kvs : List (κ × V)} {vs : List (κ × Value)} (r : KV kvs vs) (k : κ) : (kvs.any fun kv => decide (kv.1 = k)) = vs.any fun kv => decide (kv.1 = k) := by
  unfold KV at r
  induction r with
  | nil => rfl
  | cons h t ih => rw [List.any_cons, List.any_cons, ih, h.1]
theorem KV.repl {kvs : List (κ × V)} {vs : List (κ × Value)} (r : KV kvs vs) (k : κ) {y : V} {u : Value} (ry : RelV y u) :
    KV (kvs.map fun kv => if kv.1 = k then (kv.1, y) else kv) (vs.map fun kv => if kv.1 = k then (kv.1, u) else kv) := by
  unfold KV at r ⊢
  induction r with
  | nil => exact .nil
  | @cons p q ps qs h t ih =>
    rw [List.map_cons, List.map_cons]
    refine .cons ?_ ih
    obtain ⟨h1, h2⟩ := h
    by_cases e : p.1 = k
    · rw [if_pos e, if_pos (h1.symm.trans e)]; exact ⟨h1, ry⟩
    · rw [if_neg e, if_neg (fun z => e (h1.trans z))]; exact ⟨h1, h2⟩
theorem KV.put {kvs : List (κ × V)} {vs : List (κ × Value)} (r : KV kvs vs) (k : κ) {y : V} {u : Value} (ry : RelV y u) : KV (putK kvs k y) (stored vs k u) := by
  unfold putK stored
  rw [r.any k]
  by_cases e : (vs.any fun kv => decide (kv.1 = k)) = true
  · rw [if_pos e, if_pos e]; exact r.repl k ry
  · rw [if_neg e, if_neg e]; exact Paired.snoc r ⟨rfl, ry⟩
theorem KV.drop {kvs : List (κ × V)} {vs : List (κ × Value)} (r : KV kvs vs) (k : κ) : KV (dropK kvs k) (without vs k) := by
  unfold KV at r ⊢
  unfold dropK without
  induction r with
  | nil => exact .nil
  | @cons p q ps qs h t ih =>
    obtain ⟨h1, h2⟩ := h
    rw [List.filter_cons, List.filter_cons]
    by_cases e : p.1 = k
    · have a : ¬ decide (p.1 ≠ k) = true := by simp [e]
      have b : ¬ decide (q.1 ≠ k) = true := by simp [h1.symm.trans e]
      rw [if_neg a, if_neg b]; exact ih
    · have e' : ¬ q.1 = k := fun z => e (h1.trans z)
      have a : decide (p.1 ≠ k) = true := by simp [e]
      have b : decide (q.1 ≠ k) = true := by simp [e']
      rw [if_pos a, if_pos b]; exact .cons ⟨h1, h2⟩ ih
theorem KV.keys {kvs : List (κ × V)} {vs : List (κ × Value)} (r : KV kvs vs) : kvs.map (·.1) = vs.map (·.1) := by
  unfold KV at r
  induction r with
  | nil => rfl
  | cons h t ih => rw [List.map_cons, List.map_cons, ih, h.1]
theorem KV.length {kvs : List (κ × V)} {vs : List (κ × Value)} (r : KV kvs vs) : kvs.length = vs.length := Paired.length r
end
theorem kV_is {P : Program} {w : World} {k : Key} {u : Value} (r : RelV (kV k) u) : (mixKind P w).is k u = true := by
  cases k with
  | inl i => obtain ⟨t, e⟩ := (show ∃ t, u = Value.int i t from r); subst e; exact mixKind_int P w i t
  | inr x => obtain ⟨t, e⟩ := (show ∃ t, u = Value.str x t from r); subst e; exact mixKind_str P w x t
theorem items_are {P : Program} {w : World} : ∀ {ks : List Key} {us : List Value}, Vals (ks.map kV) us → ItemsAre (mixKind P w) ks us
  | [], _, r => by rw [List.map_nil] at r; cases r; exact .nil
  | k :: ks, _, r => by
    rw [List.map_cons] at r
    cases r with
    | cons h t => exact .cons (kV_is h) (items_are t)
abbrev KT (H : Hp) : List (List Key × V) → List (List Key × Addr × Value) → Prop := Paired fun p q => p.1 = q.1 ∧ H q.2.1 = some (.tup (p.1.map kV)) ∧ RelV p.2 q.2.2
theorem KT.val {H : Hp} {kvs : List (List Key × V)} {xs : List (List Key × Addr × Value)} (r : KT H kvs xs) (k : List Key) : RelO (valV kvs k) ((atKey xs k).map (·.2)) := by
  induction r with
  | nil => exact True.intro
  | @cons p q ps qs h t ih =>
    obtain ⟨h1, _, h2⟩ := h
    by_cases e : p.1 = k
    · have e' : q.1 = k := h1.symm.trans e
      have b : atKey (q :: qs) k = some q.2 := by simp [atKey, List.find?_cons, e']
      rw [valV_pos e, b]; exact h2
    · have e' : ¬ q.1 = k := fun z => e (h1.trans z)
      have b : atKey (q :: qs) k = atKey qs k := by simp [atKey, List.find?_cons, e']
      rw [valV_neg e, b]; exact ih
theorem KT.repl {H : Hp} {kvs : List (List Key × V)} {xs : List (List Key × Addr × Value)} (r : KT H kvs xs) (k : List Key) {y : V} {u : Value} (ry : RelV y u) :
    KT H (kvs.map fun kv => if kv.1 = k then (kv.1, y) else kv) (xs.map (putAt k u)) := by
  induction r with
  | nil => exact .nil
  | @cons p q ps qs h t ih =>
    rw [List.map_cons, List.map_cons]
    refine .cons ?_ ih
    obtain ⟨h1, h2, h3⟩ := h
    unfold putAt
    by_cases e : p.1 = k
    · rw [if_pos e, if_pos (h1.symm.trans e)]; exact ⟨h1, h2, ry⟩
    · rw [if_neg e, if_neg (fun z => e (h1.trans z))]; exact ⟨h1, h2, h3⟩
theorem KT.put {H : Hp} {kvs : List (List Key × V)} {xs : List (List Key × Addr × Value)} (r : KT H kvs xs) (k : List Key) {b : Addr} {y : V} {u : Value} (hb : H b = some (.tup (k.map kV))) (ry : RelV y u) :
    KT H (putK kvs k y) (storedH xs k b u) := by
  have e : (kvs.any fun kv => decide (kv.1 = k)) = (atKey xs k).isSome := by
    rw [valV_any, (r.val k).isSome_eq, Option.isSome_map]
  unfold putK storedH
  rw [e]
  by_cases q : (atKey xs k).isSome = true
  · rw [if_pos q, if_pos q]; exact r.repl k ry
  · rw [if_neg q, if_neg q]; exact Paired.snoc r ⟨rfl, hb, ry⟩
theorem KT.keeps {H H' : Hp} {kvs : List (List Key × V)} {xs : List (List Key × Addr × Value)} (r : KT H kvs xs) (ht : ∀ b ys, H b = some (.tup ys) → H' b = some (.tup ys)) : KT H' kvs xs :=
  Paired.mapP r fun _ _ z => ⟨z.1, ht _ _ z.2.1, z.2.2⟩
section
variable {P : Program} {w : World} {H : Hp} {h : Heap} {a : Addr}
theorem rd_of {u : HO} (ok : HOk P w H h) (e : Rd H a u) : ObjOk P w H h a u := e.ok ok
theorem dk_rd {kvs : List (Key × V)} (ok : HOk P w H h) (e : Rd H a (.dK kvs)) : kvs.length ≤ sizeLine ∧ (a == sysModules) = false ∧ ∃ vs, KV kvs vs ∧ h.DictOf (mixKind P w) a vs :=
  show ObjOk P w H h a (.dK kvs) from rd_of ok e
theorem dk_of {kvs : List (Key × V)} (ok : HOk P w H h) (e : H a = some (.dK kvs)) : kvs.length ≤ sizeLine ∧ (a == sysModules) = false ∧ ∃ vs, KV kvs vs ∧ h.DictOf (mixKind P w) a vs := dk_rd ok (.inl e)
theorem key_of {ks : List Key} (ok : HOk P w H h) (e : H a = some (.tup (ks.map kV))) : (tupleKind (mixKind P w)).is h ks a := by
  obtain ⟨_, its, r, o, h1, h2, n, h3⟩ := (show ObjOk P w H h a (.tup (ks.map kV)) from ok a _ e)
  exact ⟨o, its.toArray, n, h1, h2, h3, by simpa using items_are r⟩
theorem dt_rd {kvs : List (List Key × V)} (ok : HOk P w H h) (e : Rd H a (.dT kvs)) : kvs.length ≤ sizeLine ∧ (a == sysModules) = false ∧
    ∃ xs, KT H kvs xs ∧ h.DictOfH (tupleKind (mixKind P w)) a xs := by
  obtain ⟨z, y, xs, r, o, es, ep, h1, h2, h3, h4, h5⟩ := (show ObjOk P w H h a (.dT kvs) from rd_of ok e)
  refine ⟨z, y, xs, r, o, es, ep, h1, h2, h3, h4, fun x hx => ?_, h5⟩
  have all : ∀ {l : List (List Key × V)} {m : List (List Key × Addr × Value)}, KT H l m → ∀ x ∈ m, (tupleKind (mixKind P w)).is h x.1 x.2.1 := by
    intro l m q
    induction q with
    | nil => intro x hx; exact nomatch hx
    | @cons p q ps qs hq t ih =>
      intro x hx
      rcases List.mem_cons.mp hx with e | hx
      · subst e
        exact key_of ok (by rw [← hq.1]; exact hq.2.1)
      · exact ih x hx
  exact all r x hx
theorem dt_of {kvs : List (List Key × V)} (ok : HOk P w H h) (e : H a = some (.dT kvs)) : kvs.length ≤ sizeLine ∧ (a == sysModules) = false ∧
    ∃ xs, KT H kvs xs ∧ h.DictOfH (tupleKind (mixKind P w)) a xs := dt_rd ok (.inl e)
end
def DGet (H : Hp) (a : Addr) (y : V) (r : Option V) : Prop :=
  (∃ kvs k, Rd H a (.dK kvs) ∧ y = kV k ∧ r = valV kvs k) ∨ ∃ kvs k b, Rd H a (.dT kvs) ∧ y = .ref b ∧ H b = some (.tup (k.map kV)) ∧ r = valV kvs k
def DPut (H : Hp) (a : Addr) (y v : V) (H' : Hp) : Prop :=
  (∃ kvs k, H a = some (.dK kvs) ∧ y = kV k ∧ kvs.length < sizeLine ∧ H' = upd H a (.dK (putK kvs k v))) ∨
  ∃ kvs k b, H a = some (.dT kvs) ∧ y = .ref b ∧ H b = some (.tup (k.map kV)) ∧ kvs.length < sizeLine ∧ H' = upd H a (.dT (putK kvs k v))
theorem DGet.k {H : Hp} {a : Addr} {kvs : List (Key × V)} {k : Key} (e : H a = some (.dK kvs)) : DGet H a (kV k) (valV kvs k) := .inl ⟨kvs, k, .inl e, rfl, rfl⟩
theorem DGet.t {H : Hp} {a b : Addr} {kvs : List (List Key × V)} {k : List Key} (e : H a = some (.dT kvs)) (eb : H b = some (.tup (k.map kV))) : DGet H a (.ref b) (valV kvs k) := .inr ⟨kvs, k, b, .inl e, rfl, eb, rfl⟩
theorem DPut.k {H : Hp} {a : Addr} {kvs : List (Key × V)} {k : Key} {v : V} (e : H a = some (.dK kvs)) (hl : kvs.length < sizeLine) : DPut H a (kV k) v (upd H a (.dK (putK kvs k v))) := .inl ⟨kvs, k, e, rfl, hl, rfl⟩
theorem DPut.t {H : Hp} {a b : Addr} {kvs : List (List Key × V)} {k : List Key} {v : V} (e : H a = some (.dT kvs)) (eb : H b = some (.tup (k.map kV))) (hl : kvs.length < sizeLine) :
    DPut H a (.ref b) v (upd H a (.dT (putK kvs k v))) := .inr ⟨kvs, k, b, e, rfl, eb, hl, rfl⟩
section
variable {X : Cx} {pins : List (Addr × Obj)} {σ : St} {H : Hp} {s : Shared} {a : Addr} {y v : V} {u r : Value} {o : Option V} {A : Around} {E : Value → Shared → Prop}
theorem Inv.big (I : Inv X pins σ H s) : sysModules < s.heap.objs.size := by
  have h : mainGlobals < s.heap.objs.size := (I.mod.glob.keeps I.bk).lt
  exact Nat.lt_trans (by decide) h
theorem d_getItem {Q : Value → Shared → Prop} (hu : A.units + 1 < cLine) (I : Inv X pins σ H s) (g : DGet H a y (some v)) (ry : RelV y u) (h : ∀ w' s', Inv X pins σ H s' → RelV v w' → Q w' s') :
    wpAny (model X.prog X.w) A (getItem (.ref a) u) Q E s := by
  rcases g with ⟨kvs, k, e, ey, l⟩ | ⟨kvs, k, b, e, ey, eb, l⟩
  · subst ey
    obtain ⟨z, hd, vs, rel, dd⟩ := dk_rd I.hok e
    obtain ⟨w', hw, rw'⟩ := RelO.some_of (v := v) (o := valueAt vs k) (by rw [l]; exact rel.val k)
    exact wpAny_getItem_of (kV_is ry) dd.mapOf hw (h w' _ (I.tok _) rw')
  · subst ey
    cases (show u = Value.ref b from ry)
    obtain ⟨z, hd, xs, rel, dd⟩ := dt_rd I.hok e
    obtain ⟨w', hw, rw'⟩ := RelO.some_of (v := v) (o := (atKey xs k).map (·.2)) (by rw [l]; exact rel.val k)
    obtain ⟨p, hp, hp2⟩ := Option.map_eq_some_iff.mp hw
    refine wpAny_getItem_heap (tupleKind_room_in1 hu) (key_of I.hok eb) dd hp ?_
    rw [hp2]
    exact h w' _ (I.tok _) rw'
theorem d_write {h' : Heap} {t' : Nat} {ob : HO} (I : Inv X pins σ H s) (mu : Mut (H a)) (hs : Heap.SameBut a s.heap h') (he : ∃ q, h'.get? a = some q) (new : ObjOk X.prog X.w (upd H a ob) h' a ob) :
    Inv X pins σ (upd H a ob) { s with heap := h', toks := t' } :=
  I.write (x := a) (e := a) mu (.inl rfl) (fun b q hb z => (hs.2 b hb).trans z) he new
theorem dk_new {P : Program} {w : World} {H' : Hp} {h' : Heap} {kvs : List (Key × V)} {vs : List (Key × Value)} (z : kvs.length ≤ sizeLine) (hd : (a == sysModules) = false) (rel : KV kvs vs) (dd : h'.DictOf (mixKind P w) a vs) :
    ObjOk P w H' h' a (.dK kvs) := ⟨z, hd, vs, rel, dd⟩
theorem d_setItem {H' : Hp} {Q : Unit → Shared → Prop} (hu : A.units + 1 < cLine) (I : Inv X pins σ H s) (g : DPut H a y v H') (ry : RelV y u) (rv : RelV v r) (h : ∀ s', Inv X pins σ H' s' → Q () s') :
    wpAny (model X.prog X.w) A (setItem (.ref a) u r) Q E s := by
  rcases g with ⟨kvs, k, e, ey, l, eH⟩ | ⟨kvs, k, b, e, ey, eb, l, eH⟩
  · subst ey eH
    obtain ⟨z, hd, vs, rel, dd⟩ := dk_of I.hok e
    have hz : vs.length ≤ sizeLine := by rw [← rel.length]; exact z
    have hl : (putK kvs k v).length ≤ sizeLine := by have := length_putK kvs k v; omega
    refine wpAny_setItem_pairs (hsz := hz) (kV_is ry) dd fun h' dd' hs => h _ ?_
    have he : ∃ q, h'.get? a = some q := let ⟨q, _, _, hq, _⟩ := dd'; ⟨q, hq⟩
    exact d_write I (by rw [e]; exact True.intro) hs he (dk_new hl hd (rel.put k rv) dd')
  · subst ey eH
    cases (show u = Value.ref b from ry)
    obtain ⟨z, hd, xs, rel, dd⟩ := dt_of I.hok e
    have hz : xs.length ≤ sizeLine := by rw [← Paired.length rel]; exact z
    have hl : (putK kvs k v).length ≤ sizeLine := by have := length_putK kvs k v; omega
    refine wpAny_setItem_heap (hsz := hz) (tupleKind_room_in1 hu) (key_of I.hok eb) dd fun h' dd' hs => h _ ?_
    obtain ⟨q, es, ep, hq, h2, h3, h4, _, h5⟩ := dd'
    refine d_write I (by rw [e]; exact True.intro) hs ⟨q, hq⟩ ⟨hl, hd, _, (rel.put k eb rv).keeps fun c ys ec => ?_, q, es, ep, hq, h2, h3, h4, h5⟩
    rw [upd_ne (ne_of ec e (fun z => nomatch z))]
    exact ec
end
section
variable {X : Cx} {pins : List (Addr × Obj)} {σ : St} {H : Hp} {s : Shared} {a : Addr} {kvs : List (Key × V)} {k : Key} {u : Value} {A : Around} {E : Value → Shared → Prop}
end
def NoSl (i : Expr) : Prop := ∀ ov iv, subscripted i false ov iv = operate [ov, iv] (getItem ov iv)
theorem subD_of {prog : Program} {w : World} {A : Around} {E : Value → Shared → Prop} {s : Shared} {env : Env} {value slice : Expr} {pos : Pos} {T id : String} {Q : Value → Shared → Prop}
    (hl : typeLookup (.type T) "__getitem__" = pure (some (.builtin id))) (hs : NoSl slice)
    (h : wpAny (model prog w) A (eval value env) (fun o s₁ => wpAny (model prog w) A (eval slice env) (fun i s₂ => s₂.TypeIs o T ∧ wpAny (model prog w) A (getItem o i) Q E s₂) E s₁) E s) :
    wpAny (model prog w) A (eval (.Subscript value slice pos) env) Q E s := by
  refine Subscript_ (wpAny_mono h (fun o s₁ h₁ => wpAny_mono h₁ (fun i s₂ h₂ => ?_) fun _ _ x => x) fun _ _ x => x)
  obtain ⟨hT, h₂⟩ := h₂
  unfold subscriptTail
  refine wpAny_bind ?_
  rw [getitemInPython_of_ne hT.not_modules]
  refine wpAny_bind (wpAny_specialOf hT hl ?_)
  have fin : wpAny (model prog w) A (subscripted slice false o i) (fun r s₃ => wpAny (model prog w) A (letTemporaryGo value o r >>= fun _ => pure r) Q E s₃) E s₂ := by
    rw [hs o i]
    exact wpAny_operating (wpAny_mono h₂ (fun r s₃ h₃ => wpAny_bind (wpAny_letTemporaryGo (wpAny_pure h₃))) fun _ _ x => x)
  first
    | exact wpAny_pure (wpAny_bind fin)
    | exact wpAny_bind (wpAny_pure (wpAny_bind fin))
    | exact wpAny_bind fin
theorem dict_typeIs {X : Cx} {pins : List (Addr × Obj)} {σ : St} {H : Hp} {s : Shared} {a : Addr} {y : V} {o : Option V} (I : Inv X pins σ H s) (g : DGet H a y o) : s.TypeIs (.ref a) "dict" := by
  rcases g with ⟨kvs, k, e, _, _⟩ | ⟨kvs, k, b, e, _, _, _⟩
  · obtain ⟨_, _, vs, _, dd⟩ := dk_rd I.hok e
    exact dd.typeIs
  · obtain ⟨_, _, xs, _, dd⟩ := dt_rd I.hok e
    exact dd.typeIs
def tDGet (td ty : TE) : TE := fun σ H Q => td σ H fun x H1 => ty σ H1 fun y H2 => ∃ a v, x = .ref a ∧ DGet H2 a y (some v) ∧ Q v H2
def sDPut (td ty tv : TE) : TS := fun D σ H => tv σ H fun v H1 => td σ H1 fun x H2 => ty σ H2 fun y H3 => ∃ a H4, x = .ref a ∧ DPut H3 a y v H4 ∧ D.nx σ H4
section
variable {X : Cx} {o i e value : Expr} {pos pos' tpos : Pos} {td ty tv : TE}
theorem pe_dget (hu : X.A.units + 1 < cLine) (ho : PE X o td) (hi : PE X i ty) (hs : NoSl i) : PE X (.Subscript o i pos) (tDGet td ty) := by
  intro pins s σ H Q I h
  refine subD_of PySem.F.slot_dict_getitem.lookup hs (thn (ho pins s σ H _ I h) fun u s1 ⟨x, H1, I1, rx, q1⟩ => thn (hi pins s1 σ H1 _ I1 q1) fun iv s2 ⟨y, H2, I2, ry, a, v, ex, g, q2⟩ => ?_)
  subst ex
  obtain rfl : u = Value.ref a := rx
  exact ⟨dict_typeIs I2 g, d_getItem hu I2 g ry fun w' s3 I3 rw' => ⟨v, H2, I3, rw', q2⟩⟩
theorem ps_dput (hu : X.A.units + 1 < cLine) (ho : PE X o td) (hi : PE X i ty) (hv : PE X value tv) (hs : swapsWith value (some (.Subscript o i pos')) pos.line X.env = pure false) :
    PS X (.Assign [.Subscript o i pos'] value pos) (sDPut td ty tv) := by
  intro pins s σ H D I h
  refine wpAny_Assign_Subscript (thn (hv pins s σ H _ I h) fun r s1 ⟨v, H1, I1, rv, q1⟩ => thn (ho pins s1 σ H1 _ I1 q1) fun u s2 ⟨x, H2, I2, rx, q2⟩ => thn (hi pins s2 σ H2 _ I2 q2) fun iv s3 ⟨y, H3, I3, ry, a, H4, ex, g, q3⟩ => ?_) hs
  subst ex
  obtain rfl : u = Value.ref a := rx
  exact d_setItem hu I3 g ry rv fun s4 I4 => ⟨σ, H4, I4, q3⟩
end
theorem dt_empty {P : Program} {w : World} {H : Hp} (h : Heap) (hb : sysModules < h.objs.size) : ObjOk P w H (h.push { cls := .type "dict", data := .dict #[] }) h.objs.size (.dT []) :=
  ⟨Nat.zero_le _, beq_eq_false_iff_ne.mpr (Ne.symm (Nat.ne_of_lt hb)), [], .nil, _, #[], 0, Heap.get?_push_size _ rfl, ⟨rfl, rfl, rfl⟩, rfl, rfl, List.nodup_nil⟩
def tDNewT : TE := fun _ H Q => ∀ p, H p = none → Q (.ref p) (upd H p (.dT []))
section
variable {X : Cx} {pos : Pos}
theorem pe_dnewT : PE X (.Dict [] [] pos) tDNewT := fun pins s σ H Q I h =>
  wpAny_Dict_empty ⟨.ref s.heap.objs.size, _, I.laid (a := s.heap.objs.size) (o := .dT []) (t' := s.toks) (fun _ _ q => Heap.get?_push_of_some _ q) (Nat.le_refl _) (dt_empty s.heap I.big), rfl, h _ (I.hok.fresh (Nat.le_refl _))⟩
end
structure M1 (X : Cx) (o : Expr) (m : Str) (apos : Pos) (e : Expr) (cpos : Pos) : Prop where
  base : attributeBase o m X.env (eval o X.env) = eval o X.env
  few : ((backTo cpos (starEach [e] X.env)).all (fun x => !x.1) && (backToKw cpos (keywordEach [] X.env)).all (fun x => x.1.isSome)
    && decide (([e] : List Expr).length + ([] : List Keyword).length + (if ([] : List Keyword).isEmpty then 0 else 1) < 30)) = true
  line : (apos.endLine == cpos.line) = true
  trees : backTo cpos (starEach [e] X.env) = [(false, eval e X.env)]
structure M2 (X : Cx) (o : Expr) (m : Str) (apos : Pos) (e f : Expr) (cpos : Pos) : Prop where
  base : attributeBase o m X.env (eval o X.env) = eval o X.env
  few : ((backTo cpos (starEach [e, f] X.env)).all (fun x => !x.1) && (backToKw cpos (keywordEach [] X.env)).all (fun x => x.1.isSome)
    && decide (([e, f] : List Expr).length + ([] : List Keyword).length + (if ([] : List Keyword).isEmpty then 0 else 1) < 30)) = true
  line : (apos.endLine == cpos.line) = true
  trees : backTo cpos (starEach [e, f] X.env) = [(false, eval e X.env), (false, eval f X.env)]
def IsD (H : Hp) (a : Addr) : Prop := (∃ kvs, Rd H a (.dK kvs)) ∨ ∃ kvs, Rd H a (.dT kvs)
theorem isD_at {X : Cx} {pins : List (Addr × Obj)} {σ : St} {H : Hp} {s : Shared} {a : Addr} (I : Inv X pins σ H s) (d : IsD H a) :
    s.TypeIs (.ref a) "dict" ∧ (∀ b, Value.ref a = .ref b → ∃ ob, s.heap.get? b = some ob ∧ ob.dict = none) ∧ (a == sysModules) = false := by
  rcases d with ⟨kvs, e⟩ | ⟨kvs, e⟩
  · obtain ⟨_, hd, vs, _, dd⟩ := dk_rd I.hok e
    refine ⟨dd.typeIs, fun b q => ?_, hd⟩
    cases q
    obtain ⟨ob, _, _, h1, h2, _⟩ := dd
    exact ⟨ob, h1, h2.2.1⟩
  · obtain ⟨_, hd, xs, _, dd⟩ := dt_rd I.hok e
    refine ⟨dd.typeIs, fun b q => ?_, hd⟩
    cases q
    obtain ⟨ob, _, _, h1, h2, _⟩ := dd
    exact ⟨ob, h1, h2.2.1⟩
section
variable {X : Cx} {pins : List (Addr × Obj)} {σ : St} {H : Hp} {s : Shared} {a : Addr} {y d : V} {u r : Value} {o : Option V} {A : Around} {E : Value → Shared → Prop}
theorem d_get2 {Q : Value → Shared → Prop} (hu : A.units + 1 < cLine) (I : Inv X pins σ H s) (g : DGet H a y o) (ry : RelV y u) (rd : RelV d r) (h : ∀ w' s', Inv X pins σ H s' → RelV (o.getD d) w' → Q w' s') :
    wpAny (model X.prog X.w) A (call (.builtin "dict.get") [.ref a, u, r]) Q E s := by
  rcases g with ⟨kvs, k, e, ey, l⟩ | ⟨kvs, k, b, e, ey, eb, l⟩
  · subst ey
    obtain ⟨z, hd, vs, rel, dd⟩ := dk_rd I.hok e
    refine call_meetsIn PySem.F.slot_dict_get dd.typeIs PySem.F.entry_dict_get (PySem.F.args_dict_get_3 _ _ _) (meets_dict_get_default (mixKind X.prog X.w) a (kV_is ry) hd r) ⟨_, dd.mapOf, h _ _ (I.tok _) ?_⟩
    rw [l]
    exact (rel.val k).getD rd
  · subst ey
    cases (show u = Value.ref b from ry)
    obtain ⟨z, hd, xs, rel, dd⟩ := dt_rd I.hok e
    refine call_meetsIn PySem.F.slot_dict_get dd.typeIs PySem.F.entry_dict_get (PySem.F.args_dict_get_3 _ _ _) (meetsH_dict_get_default (tupleKind (mixKind X.prog X.w)) a b hd r) ⟨tupleKind_room_in1 hu, k, xs, key_of I.hok eb, dd, h _ _ (I.tok _) ?_⟩
    rw [l]
    exact (rel.val k).getD rd
end
def tDGet2 (td ty tx : TE) : TE := fun σ H Q => td σ H fun x H1 => ∃ a, x = .ref a ∧ IsD H1 a ∧ ty σ H1 fun y H2 => tx σ H2 fun z H3 => ∃ o, DGet H3 a y o ∧ Q (o.getD z) H3
section
variable {X : Cx} {o e f : Expr} {apos cpos : Pos} {td ty tx : TE}
theorem pe_dget2 (hu : X.A.units + 1 < cLine) (ho : PE X o td) (he : PE X e ty) (hf : PE X f tx) (m : M2 X o "get" apos e f cpos) : PE X (.Call (.Attribute o "get" apos) [e, f] [] cpos) (tDGet2 td ty tx) := by
  intro pins s σ H Q I h
  refine wpAny_Call_method m.base m.few m.line PySem.F.plainAttrs_dict PySem.F.slot_dict_get PySem.F.type_dict_get (thn (ho pins s σ H _ I h) fun u s1 ⟨x, H1, I1, rx, a, ex, d, q1⟩ => ?_)
  subst ex
  obtain rfl : u = Value.ref a := rx
  obtain ⟨t1, t2, _⟩ := isD_at I1 d
  refine ⟨t1, t2, ?_⟩
  rw [m.trees]
  refine Calls.callWith_builtin rfl (Calls.evalArgs_plain (Calls.spliced_cons (thn (he pins s1 σ H1 _ I1 q1) fun iv s2 ⟨y, H2, I2, ry, q2⟩ =>
    Calls.spliced_cons (thn (hf pins s2 σ H2 _ I2 q2) fun fv s3 ⟨z, H3, I3, rz, ov, g, q3⟩ => Calls.spliced_nil ?_))))
  exact d_get2 hu I3 g ry rz fun w' s4 I4 rw' => ⟨_, H3, I4, rw', q3⟩
end
section
variable {X : Cx} {pins : List (Addr × Obj)} {σ : St} {H : Hp} {s : Shared} {a : Addr} {kvs : List (Key × V)} {A : Around} {E : Value → Shared → Prop}
end
section
variable {X : Cx} {pins : List (Addr × Obj)} {σ : St} {H : Hp} {s : Shared} {a : Addr} {y : V} {u : Value} {A : Around} {E : Value → Shared → Prop}
end
end L2
namespace Att
open PySem PySem.W PySem.Calls PyProof.Rows
theorem ints_of_wellAll {P : Params} {h : Heap} : ∀ (ns : List Int) (vs : List Value), WellAll P h vs (ns.map WData.int) → IntsAre vs ns := by
  intro ns
  induction ns with
  | nil =>
    intro vs w
    rw [List.map_nil] at w
    cases w
    exact .nil
  | cons n ns ih =>
    intro vs w
    rw [List.map_cons] at w
    cases w with
    | cons a b =>
      cases a
      exact .cons _ _ (ih _ b)
theorem script_of {l : OpenLaw} {n : Nat} (hn : l.most = some n) {P : Params} {h : Heap} {args : List WData} {vals : List Value}
    (hpre : l.row.toRowW.claim.pre args = true) (hwl : WellAll P h vals args) :
    ∃ a vs ns, vals = [Value.ref a] ∧ args = [WData.list (ns.map WData.int)] ∧ h.get? a = some { cls := .type "list", data := .seq vs.toArray } ∧ IntsAre vs ns ∧ ns.length ≤ n := by
  have hsh : WShape.hasAll [] args [.list .int] = true := (pre_splitW hpre).1
  have hc : l.pre.holds [] { args := args } = true := (pre_splitW hpre).2
  obtain ⟨d, r, rfl, h1, h2⟩ := hasAllW_cons hsh
  obtain rfl := hasAllW_nil h2
  obtain ⟨xs, rfl, h3⟩ := hasW_list h1
  obtain ⟨ns, rfl⟩ := items_int h3
  have hlen : ns.length ≤ n := by
    unfold OpenLaw.pre at hc
    have h4 : (WTm.not (.lt (.lit (.int (n : Int))) (.len (.arg 0)))).holds [] { args := [.list (ns.map .int)] } = true := by
      have h4 := (holds_andW hc).1
      rw [hn] at h4
      exact h4
    have h5 := condW_of h4 (w_not (w_lt w_lit (w_len_list (w_arg rfl))))
    rw [List.length_map] at h5
    refine Nat.le_of_not_lt fun q => ?_
    have q' : (n : Int) < ((ns.length : Nat) : Int) := by omega
    first
      | (rw [decide_eq_true q'] at h5; exact absurd h5 (by decide))
      | (simp at h5; omega)
  cases hwl with
  | cons w1 w2 =>
    cases w2
    cases w1 with
    | list ho hall => exact ⟨_, _, ns, rfl, rfl, ho, ints_of_wellAll ns _ hall, hlen⟩
theorem post_true (l : OpenLaw) (args : List WData) : l.row.toRowW.claim.post args (.bool true) args = true :=
  postW_of (r := l.row.toRowW) (X := (true == true))
    (show WShape.has [] (.bool true) .bool = true by first | rfl | decide | simp [WShape.has, WShape.arms, WShape.armsAll])
    (show (WTm.eq .res (.lit (.bool true))).value [] { args := args, res := some (.bool true), after := args } = some (.bool (true == true)) from w_eq_bool (w_res rfl) w_lit) rfl
theorem attach_call {l : OpenLaw} {n : Nat} {q : Program} {loose : List Str} {XP : (Str → Option Value) → Heap → Prop} {YP : World → Heap → Prop} {d : DefRec}
    (hn : l.most = some n) (hdf : d.params.defaults = [])
    (call : ∀ (w : World) (s₀ s₁ : Shared) (mg mb : Str → Option Value) (fa : Addr) (o : Obj) (pm cd doc : Value) (a : Addr) (vs : List Value) (ns : List Int),
      Ground q loose [] XP w s₀ mg mb s₁.heap → YP w s₁.heap →
      s₁.heap.get? fa = some o → o.data = .func (docDef d.name d.params d.body d.scope pm cd doc) → s₁.heap.CodeRec cd d.name → mg d.name = some (.ref fa) →
      s₁.heap.get? a = some { cls := .type "list", data := .seq vs.toArray } → IntsAre vs ns → ns.length ≤ n → s₁.gens = #[] →
      codeAny (model l.prog w) callerA (.call (.ref fa) ⟨[.ref a], []⟩) (fun r s' => r = .ok (.ret (.bool true)) ∧ OldK s₁.heap s'.heap ∧ s'.os = s₁.os ∧ AllBare s'.gens) s₁) :
    WalkO q loose XP YP l.row.toRowW d [] (fun f vs => PySem.call f vs) := by
  intro w s₀ s₁ mg mb G Y fa o pm cd doc dV kV ho hd hcd hD hmg hg args vals as hpre hlay hrd hwl hlo
  obtain rfl : dV = .none := Dflts.none hD hdf
  obtain rfl : kV = .none := Dflts.noKw hD
  obtain ⟨a, vs, ns, rfl, rfl, hobj, hints, hlen⟩ := script_of hn hpre hwl
  refine enter_call (codeAny_mono (call w s₀ s₁ mg mb fa o pm cd doc a vs ns G Y ho (fd_plain hd) hcd hmg hobj hints hlen hg) fun r s' hq => ?_)
  obtain ⟨rfl, h2, h3, h4⟩ := hq
  exact ⟨.inl ⟨.bool true, .bool true, [], rfl, fun _ => rfl, .bool true, post_true l _, fun _ => ⟨List.Pairwise.nil, fun _ hm => (nomatch hm)⟩⟩, h2, h3, h4⟩
section
variable {prog : Program} {w : World} {A : Around} {E : Value → Shared → Prop} {s : Shared} {K : Frag}
end
end Att
namespace L2
open PySem PySem.Spec PyProof.Rows
theorem vals_ints : ∀ {vs : List Value} {ns : List Int}, IntsAre vs ns → Vals (ns.map V.int) vs
  | _, _, .nil => .nil
  | _, _, .cons n t h => .cons ⟨t, rfl⟩ (vals_ints h)
def Only (H : Hp) : Prop := ∀ b, H b = none ∨ ∃ o xs, H b = some (.frz o (.lst xs))
theorem law_call {P : Program} {w : World} {K : PySem.W.Frag} {mg mb : Str → Option Value} {CX : CXT} {k : Nat} {fa a : Addr} {fd : FuncData} {x : Str} {sp : Sp} {s₁ : Shared} {vs : List Value} {ns : List Int}
    (KX : K.In s₁.heap) (hns : s₁.heap.Ns mainGlobals mg) (hb : s₁.heap.Ns builtinsNs mb) (hbb : ∀ x : Str, x ≠ "__name__" → mb x = bootBuiltins x) (hlim : s₁.heap.NoLimit) (hg : s₁.gens = #[])
    (ha : s₁.heap.get? a = some { cls := .type "list", data := .seq vs.toArray }) (hi : IntsAre vs ns) (hl : ns.length ≤ sizeLine) (hr : Room k callerA)
    (F : ∀ base : Heap, K.In base → base.Ns mainGlobals mg → FnOk P w K mg base CX k fa fd [x] sp) (hbind : ∀ (s : Shared) (u : Value), BindsTo s fd ⟨[u], []⟩ [(x, u)])
    (hsp : ∀ H : Hp, Only H → SqL K H a (ns.map V.int) → sp [.ref a] H (fun v _ => v = .bl true) fun _ _ _ => False)
    (hCX : ∀ H e s', CX [] H s₁ (fun _ _ _ => False) e s' → False) :
    codeAny (model P w) callerA (.call (.ref fa) ⟨[.ref a], []⟩) (fun r s' => r = .ok (.ret (.bool true)) ∧ OldK s₁.heap s'.heap ∧ s'.os = s₁.os ∧ AllBare s'.gens) s₁ := by
  have rv := vals_ints hi
  have lenV := hi.length
  -- from an abstract heap in which nothing but the script may be tracked
  have core : ∀ H : Hp, Only H → SqL K H a (ns.map V.int) → HOk P w H s₁.heap → (∀ b, H b ≠ none → b = a) → (H a ≠ none → K.lookup a = none) →
      codeAny (model P w) callerA (.call (.ref fa) ⟨[.ref a], []⟩) (fun r s' => r = .ok (.ret (.bool true)) ∧ OldK s₁.heap s'.heap ∧ s'.os = s₁.os ∧ AllBare s'.gens) s₁ := by
    intro H hO hS hok hA hK
    have base_of : ∀ {b : Addr} {o : Obj}, s₁.heap.get? b = some o → H b = none → (hidT s₁.heap H).get? b = some o := fun e n => hidT_get e n
    have noA : ∀ {b : Addr} {o : Obj} {es : Array DictEntry} {ep : Nat}, s₁.heap.get? b = some o → o.data = .dict es ep → H b = none := fun {b o es ep} e d => by
      cases q : H b with
      | none => rfl
      | some u =>
        have e' : b = a := hA b (by rw [q]; simp)
        subst e'
        rw [ha] at e; cases e
        have d' : Data.seq vs.toArray _ = Data.dict es ep := d
        cases d'
    have nsK : ∀ {b : Addr} {m : Str → Option Value}, s₁.heap.Ns b m → (hidT s₁.heap H).Ns b m := fun {b m} ⟨o, es, ep, e, d, r⟩ => ⟨o, es, ep, base_of e (noA e d), d, r⟩
    have hKb : K.In (hidT s₁.heap H) := fun b o e => base_of (KX b o e) (by
      cases q : H b with
      | none => rfl
      | some u =>
        have e' : b = a := hA b (by rw [q]; simp)
        subst e'
        rw [hK (by rw [q]; simp)] at e; cases e)
    have hM : Mod K mg (hidT s₁.heap H) := ⟨hKb, nsK hns, ⟨mb, nsK hb, hbb⟩, let ⟨mc, h1, h2⟩ := hlim; ⟨mc, nsK h1, h2⟩⟩
    have e0 : Env0 P w K mg (hidT s₁.heap H) callerA [] s₁ H := ⟨rfl, hM, fun b o e => of_hidT e, Nat.le_of_eq (hidT_size _ _), trivial, fun b hb => absurd (show b ∈ ([] : List Addr) from hb) (by simp), hok, .of_eq hg⟩
    refine codeAny_mono ((F _ hKb (nsK hns)).run callerA [] s₁ H ⟨[.ref a], []⟩ [.ref a] [.ref a] _ _ hr e0 (hbind s₁ (.ref a)) (.cons rfl .nil) (hsp H hO hS)) fun r s' h => ?_
    cases r with
    | error e => exact (hCX H e s' h).elim
    | ok fl =>
      cases fl with
      | next => exact False.elim h
      | brk => exact False.elim h
      | cont => exact False.elim h
      | ret u =>
        obtain ⟨v, H', os, bare, un, hok', r', q⟩ := h
        have q' : v = .bl true := q
        subst q'
        obtain rfl : u = Value.bool true := r'
        refine ⟨rfl, OldK.of_keep fun b o e => ?_, os, bare⟩
        cases q : H b with
        | none => exact un.keep b o e q (by intro z; exact absurd (show b ∈ ([] : List Addr) from z) (by simp)) (by simp)
        | some u =>
          rcases hO b with z | ⟨ob, xs, z⟩
          · rw [q] at z; cases z
          · have z2 := un.frzs b ob _ z
            obtain ⟨e1, _⟩ := hok b _ z
            obtain ⟨e2, _⟩ := hok' b _ z2
            rw [e] at e1; cases e1
            exact e2
  cases hk : K.lookup a with
  | some o =>
    -- the script is one of the module's own objects
    have e := KX a o hk
    rw [ha] at e
    cases e
    refine core (fun _ => none) (fun _ => .inl rfl) (.inr ⟨_, vs.toArray, _, hk, rfl, rfl, rfl, by rw [List.size_toArray, lenV]; exact hl, by simpa using rv⟩) (fun b u z => by have z' : (none : Option HO) = some u := z; cases z') (fun b z => absurd rfl z) fun z => absurd rfl z
  | none =>
    refine core (fun b => if b = a then some (.frz { cls := .type "list", data := .seq vs.toArray } (.lst (ns.map V.int))) else none) (fun b => ?_) (.inl (.inr ⟨{ cls := .type "list", data := .seq vs.toArray }, if_pos rfl⟩)) (fun b u z => ?_) (fun b z => ?_) fun _ => hk
    · by_cases hb : b = a
      · exact .inr ⟨_, _, if_pos hb⟩
      · exact .inl (if_neg hb)
    · by_cases hb : b = a
      · have z' := (if_pos hb).symm.trans z
        cases z'
        subst hb
        exact ⟨ha, by rw [List.length_map]; exact hl, vs, _, rv, ha⟩
      · have z' := (if_neg hb).symm.trans z
        cases z'
    · by_cases hb : b = a
      · exact hb
      · exact absurd (if_neg hb) z
end L2
namespace L2
open PySem PySem.Spec PyProof.Rows
theorem walk_of {l : PySem.W.OpenLaw} {n k : Nat} {q : Program} {loose : List Str} {XP : (Str → Option Value) → Heap → Prop} {YP : World → Heap → Prop} {d : DefRec} {K : Params → PySem.W.Frag} {CX : World → CXT} {sp : World → Sp} {x : Str}
    (hn : l.most = some n) (hn2 : n ≤ sizeLine) (hdf : d.params.defaults = []) (hr : Room k callerA)
    (hY : ∀ (w : World) (h : Heap), YP w h → (K w.params).In h)
    (F : ∀ (w : World) (mg : Str → Option Value) (fa : Addr) (h : Heap), (K w.params).In h → h.Ns mainGlobals mg → mg d.name = some (.ref fa) →
      ∃ fd : FuncData, (∀ (s : Shared) (u : Value), BindsTo s fd ⟨[u], []⟩ [(x, u)]) ∧
        ∀ base : Heap, (K w.params).In base → base.Ns mainGlobals mg → FnOk l.prog w (K w.params) mg base (CX w) k fa fd [x] (sp w))
    (hsp : ∀ (w : World) (H : Hp) (a : Addr) (ns : List Int), ns.length ≤ n → Only H → SqL (K w.params) H a (ns.map V.int) → sp w [.ref a] H (fun v _ => v = .bl true) fun _ _ _ => False)
    (hCX : ∀ (w : World) (H : Hp) (s : Shared) (e : Value) (s' : Shared), CX w [] H s (fun _ _ _ => False) e s' → False) :
    PySem.W.WalkO q loose XP YP l.row.toRowW d [] (fun f vs => PySem.call f vs) := by
  refine Att.attach_call hn hdf fun w s₀ s₁ mg mb fa o pm cd doc a vs ns G Y ho hd hcd hmg hobj hints hlen hg => ?_
  have KX := hY w _ Y
  obtain ⟨fd, hb, hF⟩ := F w mg fa _ KX G.T.g hmg
  exact law_call KX G.T.g G.T.b G.T.builtins G.T.nolimit hg hobj hints (Nat.le_trans hlen hn2) hr hF hb (fun H hO hS => hsp w H a ns hlen hO hS) fun H e s' => hCX w H s₁ e s'
end L2
namespace L2
open PySem PySem.Spec PyProof.Rows
def defArgs (s : Stmt) : Arguments := match s with
  | .FunctionDef _ a _ _ _ _ _ _ _ _ => a
  | _ => { posonlyargs := [], args := [], vararg := none, kwonlyargs := [], kw_defaults := [], kwarg := none, defaults := [] }
def defBody (s : Stmt) : List Stmt := match s with
  | .FunctionDef _ _ b _ _ _ _ _ _ _ => b
  | _ => []
def defScope (s : Stmt) : Scope := match s with
  | .FunctionDef _ _ _ _ _ _ sc _ _ _ => sc
  | _ => { kind := .function, names := [], isGenerator := false, isCoroutine := false }
abbrev CX0 : CXT := fun _ _ _ _ _ _ => False
structure Fun (K : PySem.W.Frag) (x qual : Str) (st : Stmt) (f : Addr) (fd : FuncData) : Prop where
  ex : ∃ (oc : Value) (od : Option Addr) (kV doc pm : Value) (an : Option Addr) (cdv ct : Value) (osl : Array (Option Value)),
    fd = PySem.W.fnOf x qual (defArgs st) (defBody st) (defScope st) .none kV doc pm an cdv ct ∧ K.lookup f = some ⟨oc, od, .func fd, osl⟩ ∧ PySem.W.codeIn K cdv qual = true
  kp : PySem.W.keepIn K (.ref f) = true
section
variable {P : Program} {w : World} {K : PySem.W.Frag} {mg : Str → Option Value} {base : Heap}
theorem Fun.ok {x qual : Str} {st : Stmt} {f : Addr} {fd : FuncData} {N ps : List Str} {k : Nat} {sp : Sp} (F : Fun K x qual st f fd) (S : FnScope N ps (defScope st)) (len : ∀ vs H Q E, sp vs H Q E → vs.length = ps.length)
    (hbody : ∀ (cdv : Value) (A : Around) (outer : List Env) (s : Shared) (H : Hp) (vs : List V) (Q : VK) (E : XK), Room k (A.deeper (envOfC qual (defScope st) s.heap.objs.size f cdv)) → sp vs H Q E →
      ∃ t, PSs (cxOf CX0 P w K mg base N qual (defScope st) f cdv A outer s H E).nox (defBody st) t ∧ t { nx := fun _ H' => Q .non H', rt := Q } (start N vs) H) : FnOk P w K mg base CX0 (k + 1) f fd ps sp := by
  obtain ⟨oc, od, kV, doc, pm, an, cdv, ct, osl, rfl, lk, hcd⟩ := F.ex
  refine fn_of lk hcd S len fun A outer s H vs Q E hr hsp => ?_
  obtain ⟨t, h, q⟩ := hbody cdv A outer s H vs Q E hr hsp
  exact ⟨t, h.nox, q⟩
theorem Fun.binds {x qual : Str} {st : Stmt} {f : Addr} {fd : FuncData} {ps : List Str} (F : Fun K x qual st f fd)
    (h : ∀ (kV doc pm : Value) (an : Option Addr) (cdv ct : Value) (us : List Value), us.length = ps.length → bindArgs (PySem.W.fnOf x qual (defArgs st) (defBody st) (defScope st) .none kV doc pm an cdv ct) ⟨us, []⟩ = pure (ps.zip us)) : Binds K fd ps [] := by
  obtain ⟨oc, od, kV, doc, pm, an, cdv, ct, osl, rfl, lk, hcd⟩ := F.ex
  exact .all (h kV doc pm an cdv ct)
theorem fun_mk {x qual : Str} {st : Stmt} {f : Addr} {oc : Value} {od an : Option Addr} {osl : Array (Option Value)} {kV doc pm cdv ct : Value} (l : K.lookup f = some ⟨oc, od, .func (PySem.W.fnOf x qual (defArgs st) (defBody st) (defScope st) .none kV doc pm an cdv ct), osl⟩)
    (c : PySem.W.codeIn K cdv qual = true) (k : PySem.W.keepIn K (.ref f) = true) : Fun K x qual st f (PySem.W.fnOf x qual (defArgs st) (defBody st) (defScope st) .none kV doc pm an cdv ct) := ⟨⟨oc, od, kV, doc, pm, an, cdv, ct, osl, rfl, l, c⟩, k⟩
end
theorem small1000 {n : Nat} (h : n ≤ 1000) : n < sizeLine := Nat.lt_of_le_of_lt h (by decide)
section
variable {X : Cx}
end
theorem iteF {A B : Prop} (h : B) : if false = true then A else B := by
  rw [if_neg Bool.false_ne_true]
  exact h
theorem iteT {A B : Prop} (h : A) : if true = true then A else B := by
  rw [if_pos rfl]
  exact h
def Same (H H' : Hp) : Prop := ∀ b o, H b = some o → H' b = some o
theorem Same.refl (H : Hp) : Same H H := fun _ _ h => h
theorem Same.trans {H H1 H2 : Hp} (a : Same H H1) (b : Same H1 H2) : Same H H2 := fun c o h => b c o (a c o h)
theorem Same.free {H H' : Hp} (e : Same H H') {l : Addr} (h : H' l = Option.none) : H l = Option.none := by
  cases q : H l with
  | none => rfl
  | some o =>
    rw [e l o q] at h
    cases h
theorem Same.seq {K : PySem.W.Frag} {H H' : Hp} {a : Addr} {xs : List V} (e : Same H H') (h : SqL K H a xs) : SqL K H' a xs := by
  rcases h with (h | ⟨o, h⟩) | h
  · exact .inl (.inl (e _ _ h))
  · exact .inl (.inr ⟨o, e _ _ h⟩)
  · exact .inr h
section
variable {κ : Type} [DecidableEq κ]
end
end L2
end
section
set_option Elab.async false
set_option linter.all false
set_option maxRecDepth 100000
namespace L4
open PySem
def ixN (n : Nat) (i : Int) : Option Nat := if 0 ≤ i then (if i < n then some i.toNat else none) else if -(n : Int) ≤ i then some (i + n).toNat else none
def atI {α : Type} (xs : List α) (i : Int) : Option α := (ixN xs.length i).bind fun j => xs[j]?
def sIx (n d : Nat) : Option Int → Nat
  | none => d
  | some v => if v < 0 then (v + (n : Int)).toNat else min v.toNat n
inductive Ks where
  | s (ks : List (Sum Int Str)) | t (ks : List (List (Sum Int Str)))
def Ks.len : Ks → Nat
  | .s ks => ks.length
  | .t ks => ks.length
inductive D where
  | non | bl (b : Bool) | int (i : Int) | str (x : Str) | tup (xs : List D) | lst (xs : List D)
  /-- a tuple that is a constant of the module -/
  | gt (xs : List D)
  /-- an instance that nobody changes any more; an exception -/
  | obj (c : String) (ns : List Str) (xs : List D) | exc (c : String)
  /-- a list that someone lends: for this expression (true), for this call (false) -/
  | bor (t : Bool) (xs : List D)
  /-- a dict that nobody changes; a lent one -/
  | dic (ks : Ks) (xs : List D) | bdc (t : Bool) (ks : Ks) (xs : List D)
  /-- a lent instance that may change -/
  | bob (t : Bool) (c : String) (ns : List Str) (xs : List D)
inductive M where
  | d (x : D) | l (xs : List D) | n (ms : List M) | t (ms : List M) | k (ks : Ks) (xs : List D)
  /-- an instance that may change -/
  | o (c : String) (ns : List Str) (xs : List D)
mutual
/-- lent for an expression -/
def lend : M → D
  | .d x => x
  | .l xs => .bor true xs
  | .n ms => .bor true (lends ms)
  | .t ms => .tup (lends ms)
  | .k ks xs => .bdc true ks xs
  | .o c ns xs => .bob true c ns xs
def lends : List M → List D
  | [] => []
  | m :: ms => lend m :: lends ms
end
mutual
/-- changed no more -/
def fzM : M → D
  | .d x => x
  | .l xs => .lst xs
  | .n ms => .lst (fzMs ms)
  | .t ms => .tup (fzMs ms)
  | .k ks xs => .dic ks xs
  | .o _ _ _ => .non
def fzMs : List M → List D
  | [] => []
  | m :: ms => fzM m :: fzMs ms
end
mutual
/-- no instance that may change is in it -/
def fzOk : M → Bool
  | .n ms => fzOks ms
  | .t ms => fzOks ms
  | .o _ _ _ => false
  | _ => true
def fzOks : List M → Bool
  | [] => true
  | m :: ms => fzOk m && fzOks ms
end
mutual
/-- nothing lent for the expression alone is in it -/
def nt : D → Bool
  | .tup xs => nts xs
  | .gt xs => nts xs
  | .lst xs => nts xs
  | .obj _ _ xs => nts xs
  | .dic _ xs => nts xs
  | .bor t xs => !t && nts xs
  | .bdc t _ xs => !t && nts xs
  | .bob t _ _ xs => !t && nts xs
  | _ => true
def nts : List D → Bool
  | [] => true
  | d :: ds => nt d && nts ds
end
mutual
/-- nothing lent is in it -/
def nb : D → Bool
  | .tup xs => nbs xs
  | .gt xs => nbs xs
  | .lst xs => nbs xs
  | .obj _ _ xs => nbs xs
  | .dic _ xs => nbs xs
  | .bor _ _ => false
  | .bdc _ _ _ => false
  | .bob _ _ _ _ => false
  | _ => true
def nbs : List D → Bool
  | [] => true
  | d :: ds => nb d && nbs ds
end
mutual
/-- lent on to a def that is called -/
def dn : D → D
  | .tup xs => .tup (dns xs)
  | .gt xs => .gt (dns xs)
  | .lst xs => .lst (dns xs)
  | .obj c ns xs => .obj c ns (dns xs)
  | .dic ks xs => .dic ks (dns xs)
  | .bor _ xs => .bor false (dns xs)
  | .bdc _ ks xs => .bdc false ks (dns xs)
  | .bob _ c ns xs => .bob false c ns (dns xs)
  | d => d
def dns : List D → List D
  | [] => []
  | d :: ds => dn d :: dns ds
end
mutual
def nbM : M → Bool
  | .d x => nb x
  | .l xs => nbs xs
  | .n ms => nbMs ms
  | .t ms => nbMs ms
  | .k _ xs => nbs xs
  | .o _ _ xs => nbs xs
def nbMs : List M → Bool
  | [] => true
  | m :: ms => nbM m && nbMs ms
end
mutual
def ntM : M → Bool
  | .d x => nt x
  | .l xs => nts xs
  | .n ms => ntMs ms
  | .t ms => ntMs ms
  | .k _ xs => nts xs
  | .o _ _ xs => nts xs
def ntMs : List M → Bool
  | [] => true
  | m :: ms => ntM m && ntMs ms
end
inductive Res (α : Type) where
  | ok (a : α) | err (c : String) | bad
def Res.bnd {α β : Type} (r : Res α) (f : α → Res β) : Res β := match r with
  | .ok a => f a
  | .err c => .err c
  | .bad => .bad
@[simp] theorem Res.bnd_ok {α β : Type} (a : α) (f : α → Res β) : (Res.ok a).bnd f = f a := (rfl)
@[simp] theorem Res.bnd_err {α β : Type} (c : String) (f : α → Res β) : (Res.err c : Res α).bnd f = .err c := (rfl)
@[simp] theorem Res.bnd_bad {α β : Type} (f : α → Res β) : (Res.bad : Res α).bnd f = .bad := (rfl)
inductive Slot where
  | no | val (d : D) | own (m : M) | par (m : M)
abbrev Sg := List Slot
inductive Out where
  | nx (Γ : Sg) | bk (Γ : Sg) | ct (Γ : Sg) | rt (d : D) | rtm (m : M) | rtG (d : D) (Γ : Sg) | rtmG (m : M) (Γ : Sg) | err (c : String) (Γ : Sg) | bad
def dVar (i : Nat) : Sg → Res D := fun Γ => match Γ[i]? with
  | some (.val d) => .ok d
  | _ => .bad
def dVarO (i : Nat) : Sg → Res D := fun Γ => match Γ[i]? with
  | some (.val d) => .ok d
  | some (.own m) => .ok (lend m)
  | some (.par m) => .ok (lend m)
  | _ => .bad
def dC (d : D) : Sg → Res D := fun _ => .ok d
def dOp (r : D → D → Res D) (f g : Sg → Res D) : Sg → Res D := fun Γ => (f Γ).bnd fun x => (g Γ).bnd fun y => r x y
def tst : D → Res Bool
  | .bl b => .ok b
  | _ => .bad
def dT (f : Sg → Res D) : Sg → Res Bool := fun Γ => (f Γ).bnd tst
def tru : D → Res Bool
  | .non => .ok false
  | .bl b => .ok b
  | .int i => .ok (i != 0)
  | .str x => if x.length ≤ sizeLine then .ok ((x.length : Int) != 0) else .bad
  | .lst ds => .ok (!ds.isEmpty)
  | .bor _ ds => .ok (!ds.isEmpty)
  | .tup ds => .ok (!ds.isEmpty)
  | .gt ds => .ok (!ds.isEmpty)
  | _ => .bad
def dTru (f : Sg → Res D) : Sg → Res Bool := fun Γ => (f Γ).bnd tru
def cAnd (f g : Sg → Res Bool) : Sg → Res Bool := fun Γ => (f Γ).bnd fun c => if c = true then g Γ else .ok false
def cOr (f g : Sg → Res Bool) : Sg → Res Bool := fun Γ => (f Γ).bnd fun c => if c = true then .ok true else g Γ
def cNot (f : Sg → Res Bool) : Sg → Res Bool := fun Γ => (f Γ).bnd fun c => .ok (!c)
def dAnd (f g : Sg → Res D) : Sg → Res D := fun Γ => (f Γ).bnd fun x => (tst x).bnd fun c => if c = true then g Γ else .ok (.bl false)
def dOr (f g : Sg → Res D) : Sg → Res D := fun Γ => (f Γ).bnd fun x => (tst x).bnd fun c => if c = true then .ok (.bl true) else g Γ
def dNot (f : Sg → Res D) : Sg → Res D := fun Γ => (f Γ).bnd fun x => (tst x).bnd fun c => .ok (.bl (!c))
def dIf (p : Sg → Res Bool) (f g : Sg → Res D) : Sg → Res D := fun Γ => (p Γ).bnd fun c => if c = true then f Γ else g Γ
def dNil : Sg → Res (List D) := fun _ => .ok []
def dCons (f : Sg → Res D) (r : Sg → Res (List D)) : Sg → Res (List D) := fun Γ => (f Γ).bnd fun x => (r Γ).bnd fun xs => .ok (x :: xs)
def dTup (r : Sg → Res (List D)) : Sg → Res D := fun Γ => (r Γ).bnd fun xs => if xs.length ≤ 1000 then .ok (.tup xs) else .bad
def dLst (r : Sg → Res (List D)) : Sg → Res (List D) := fun Γ => (r Γ).bnd fun xs => if xs.length ≤ 1000 then .ok xs else .bad
def dFz (f : Sg → Res (List D)) : Sg → Res D := fun Γ => (f Γ).bnd fun ds => .ok (.lst ds)
def oE {α : Type} (r : Res α) (Γ : Sg) (k : α → Out) : Out := match r with
  | .ok d => k d
  | .err c => .err c Γ
  | .bad => .bad
@[simp] theorem oE_ok {α : Type} (d : α) (Γ : Sg) (k : α → Out) : oE (.ok d) Γ k = k d := (rfl)
@[simp] theorem oE_err {α : Type} (c : String) (Γ : Sg) (k : α → Out) : oE (.err c) Γ k = .err c Γ := (rfl)
@[simp] theorem oE_bad {α : Type} (Γ : Sg) (k : α → Out) : oE .bad Γ k = .bad := (rfl)
def sNext : Sg → Out := fun Γ => .nx Γ
def sSeq (F G : Sg → Out) : Sg → Out := fun Γ => match F Γ with
  | .nx Γ' => G Γ'
  | o => o
def sDrop (f : Sg → Res D) : Sg → Out := fun Γ => oE (f Γ) Γ fun _ => .nx Γ
def sRet (f : Sg → Res D) : Sg → Out := fun Γ => oE (f Γ) Γ fun d => .rt d
def sRetO (f : Sg → Res D) : Sg → Out := fun Γ => oE (f Γ) Γ fun d => if nt d = true then .rt d else .bad
def sRetM (f : Sg → Res M) : Sg → Out := fun Γ => oE (f Γ) Γ fun m => if ntM m = true then .rtm m else .bad
def sRetN : Sg → Out := fun _ => .rt .non
def sIf (p : Sg → Res Bool) (F G : Sg → Out) : Sg → Out := fun Γ => oE (p Γ) Γ fun c => if c = true then F Γ else G Γ
def sSet (i : Nat) (f : Sg → Res D) : Sg → Out := fun Γ => oE (f Γ) Γ fun d => .nx (Γ.set i (.val d))
def sSetO (i : Nat) (f : Sg → Res D) : Sg → Out := fun Γ => oE (f Γ) Γ fun d => if nt d = true then .nx (Γ.set i (.val d)) else .bad
def sSetM (i : Nat) (f : Sg → Res M) : Sg → Out := fun Γ => oE (f Γ) Γ fun m => if ntM m = true then .nx (Γ.set i (.own m)) else .bad
def mL (f : Sg → Res (List D)) : Sg → Res M := fun Γ => (f Γ).bnd fun ds => .ok (.l ds)
def mD (f : Sg → Res D) : Sg → Res M := fun Γ => (f Γ).bnd fun d => .ok (.d d)
def fzR (m : M) : Res D := if fzOk m = true then .ok (fzM m) else .bad
def dFzM (f : Sg → Res M) : Sg → Res D := fun Γ => (f Γ).bnd fzR
abbrev Tg := D → Sg → Option Sg
abbrev Tgs := List D → Sg → Option Sg
def tgName (i : Nat) : Tg := fun d Γ => some (Γ.set i (.val d))
def tgNil : Tgs := fun ds Γ => match ds with
  | [] => some Γ
  | _ => none
def tgCons (t : Tg) (u : Tgs) : Tgs := fun ds Γ => match ds with
  | d :: r => (t d Γ).bind fun Γ' => u r Γ'
  | [] => none
def tgTup (n : Nat) (t : Tgs) : Tg := fun d Γ => match d with
  | .tup ds => if ds.length = n then t ds Γ else none
  | _ => none
def sAsg (f : Sg → Res D) (t : Tg) : Sg → Out := fun Γ => oE (f Γ) Γ fun d => match t d Γ with
  | some Γ' => .nx Γ'
  | none => .bad
def sPar (i k : Nat) (r : Sg → Res (List D)) : Sg → Out := fun Γ => oE (r Γ) Γ fun ds => match ds with
  | [x, y] => .nx ((Γ.set i (.val x)).set k (.val y))
  | _ => .bad
def forD (t : Tg) (B : Sg → Out) : List D → Sg → Out
  | [], Γ => .nx Γ
  | x :: xs, Γ => match t x Γ with
    | none => .bad
    | some Γ1 => match B Γ1 with
      | .nx Γ' => forD t B xs Γ'
      | .ct Γ' => forD t B xs Γ'
      | .bk Γ' => .nx Γ'
      | o => o
def whileD (p : Sg → Res Bool) (B : Sg → Out) : Nat → Sg → Out
  | 0, _ => .bad
  | n + 1, Γ => oE (p Γ) Γ fun c => if c = true then (match B Γ with
      | .nx Γ' => whileD p B n Γ'
      | .ct Γ' => whileD p B n Γ'
      | .bk Γ' => .nx Γ'
      | o => o) else .nx Γ
def sFor (f : Sg → Res D) (t : Tg) (B : Sg → Out) : Sg → Out := fun Γ => oE (f Γ) Γ fun d => match d with
  | .lst xs => forD t B xs Γ
  | .tup xs => forD t B xs Γ
  | .bor false xs => forD t B xs Γ
  | _ => .bad
theorem drop_one {α : Type} {xs : List α} {i : Nat} {d : α} (h : xs[i]? = some d) : xs.drop i = d :: xs.drop (i + 1) := by
  obtain ⟨hi, e⟩ := List.getElem?_eq_some_iff.mp h
  rw [List.drop_eq_getElem_cons hi, e]
def intsD (lo : Int) (n : Nat) : List D := (List.range n).map fun (k : Nat) => D.int (lo + k)
def rng1 (ds : List D) : Res (List D) := match ds with
  | [.int j] => if -(2 ^ 62) ≤ j ∧ j < 2 ^ 62 then .ok (intsD 0 j.toNat) else .bad
  | _ => .bad
def sForR1 (r : Sg → Res (List D)) (t : Tg) (B : Sg → Out) : Sg → Out := fun Γ => oE ((r Γ).bnd rng1) Γ fun xs => forD t B xs Γ
def rng2 (ds : List D) : Res (List D) := match ds with
  | [.int i, .int j] => if -(2 ^ 62) ≤ i ∧ i < 2 ^ 62 ∧ -(2 ^ 62) ≤ j ∧ j < 2 ^ 62 then .ok (intsD i (j - i).toNat) else .bad
  | _ => .bad
def sForR2 (r : Sg → Res (List D)) (t : Tg) (B : Sg → Out) : Sg → Out := fun Γ => oE ((r Γ).bnd rng2) Γ fun xs => forD t B xs Γ
inductive Ans where
  | ok (d : D) | new (m : M) | okG (d : D) (os : List (Nat × M)) | newG (m : M) (os : List (Nat × M)) | err (c : String) | bad
def outsAt : Nat → Sg → List (Nat × M)
  | _, [] => []
  | i, .par m :: r => (i, m) :: outsAt (i + 1) r
  | i, _ :: r => outsAt (i + 1) r
def ans : Out → Ans
  | .nx _ => .ok .non
  | .rt d => .ok d
  | .rtm m => .new m
  | .rtG d Γ => .okG d (outsAt 0 Γ)
  | .rtmG m Γ => .newG m (outsAt 0 Γ)
  | .err c _ => .err c
  | _ => .bad
def ansG : Out → Ans
  | .nx Γ => .okG .non (outsAt 0 Γ)
  | o => ans o
def dAns : Ans → Res D
  | .ok d => .ok d
  | .new m => fzR m
  | .err c => .err c
  | _ => .bad
def mAns : Ans → Res M
  | .ok d => .ok (.d d)
  | .new m => .ok m
  | .err c => .err c
  | _ => .bad
def dCall (n : Nat) (F : List Slot → Ans) (fa : Sg → Res (List D)) : Sg → Res D := fun Γ => (fa Γ).bnd fun ds => if ds.length = n then dAns (F (ds.map Slot.val)) else .bad
def mCall (n : Nat) (F : List Slot → Ans) (fa : Sg → Res (List D)) : Sg → Res M := fun Γ => (fa Γ).bnd fun ds => if ds.length = n then mAns (F (ds.map Slot.val)) else .bad
def ntR (d : D) : Res D := if nt d = true then .ok d else .bad
def dNt (f : Sg → Res D) : Sg → Res D := fun Γ => (f Γ).bnd ntR
def mNt (f : Sg → Res M) : Sg → Res M := fun Γ => (f Γ).bnd fun m => if ntM m = true then .ok m else .bad
def dCallN (n : Nat) (F : List Slot → Ans) (fa : Sg → Res (List D)) : Sg → Res D := fun Γ => (fa Γ).bnd fun ds => if ds.length = n ∧ nts ds = true then dAns (F (ds.map Slot.val)) else .bad
def mCallN (n : Nat) (F : List Slot → Ans) (fa : Sg → Res (List D)) : Sg → Res M := fun Γ => (fa Γ).bnd fun ds => if ds.length = n ∧ nts ds = true then mAns (F (ds.map Slot.val)) else .bad
def nbA : Ans → Ans
  | .ok d => if nb d = true then .ok d else .bad
  | .new m => if nbM m = true then .new m else .bad
  | .err c => .err c
  | _ => .bad
def dCallO (n : Nat) (F : List Slot → Ans) (fa : Sg → Res (List D)) : Sg → Res D := fun Γ => (fa Γ).bnd fun ds => if ds.length = n then dAns (nbA (F ((dns ds).map Slot.val))) else .bad
def mCallO (n : Nat) (F : List Slot → Ans) (fa : Sg → Res (List D)) : Sg → Res M := fun Γ => (fa Γ).bnd fun ds => if ds.length = n then mAns (nbA (F ((dns ds).map Slot.val))) else .bad
def st0 (N : List Str) (as : List Slot) : Sg := as ++ List.replicate (N.length - as.length) Slot.no
def intD (C : Int → Int → Bool) (g : Int → Int → D) : D → D → Res D
  | .int i, .int j => if C i j = true then .ok (g i j) else .bad
  | _, _ => .bad
@[simp] theorem intD_int (C : Int → Int → Bool) (g : Int → Int → D) (i j : Int) : intD C g (.int i) (.int j) = if C i j = true then .ok (g i j) else .bad := (rfl)
abbrev yes : Int → Int → Bool := fun _ _ => true
def addI : D → D → Res D := intD yes fun i j => .int (i + j)
def subI : D → D → Res D := intD yes fun i j => .int (i - j)
def mulOk (i j : Int) : Bool := decide (Builtin.Int.intBits i ≤ 64) || decide (Builtin.Int.intBits j ≤ 64) || (decide (Builtin.Int.intBits i ≤ 2 ^ 20) && decide (Builtin.Int.intBits j ≤ 2 ^ 20))
def mulI : D → D → Res D := intD mulOk fun i j => .int (i * j)
def divOk (_ j : Int) : Bool := decide (j ≠ 0) && decide (j.natAbs.log2 < 9000)
def fdivI : D → D → Res D := intD divOk fun i j => .int (i.fdiv j)
def modI : D → D → Res D := intD (fun _ j => decide (j ≠ 0)) fun i j => .int (i.fmod j)
def powOk (i j : Int) : Bool := decide (0 ≤ j) && decide (j ≤ 1000000) && decide (i.natAbs < 2 ^ 64)
def powI : D → D → Res D := intD powOk fun i j => .int (i ^ j.toNat)
def xorI : D → D → Res D := intD yes fun i j => .int (Builtin.bitXor i j)
def ltI : D → D → Res D := intD yes fun i j => .bl (decide (i < j))
def leI : D → D → Res D := intD yes fun i j => .bl (decide (i ≤ j))
def gtI : D → D → Res D := intD yes fun i j => .bl (decide (j < i))
def geI : D → D → Res D := intD yes fun i j => .bl (decide (j ≤ i))
def negI : D → Res D
  | .int i => .ok (.int (-i))
  | _ => .bad
def dUn (r : D → Res D) (f : Sg → Res D) : Sg → Res D := fun Γ => (f Γ).bnd r
def dCB (r : List D → Res D) (fa : Sg → Res (List D)) : Sg → Res D := fun Γ => (fa Γ).bnd r
def absD : List D → Res D
  | [.int i] => .ok (.int (if i < 0 then -i else i))
  | _ => .bad
def lenD : List D → Res D
  | [.lst ds] => .ok (.int ds.length)
  | [.tup ds] => .ok (.int ds.length)
  | [.gt ds] => .ok (.int ds.length)
  | [.bor _ ds] => .ok (.int ds.length)
  | [.str x] => if x.length ≤ sizeLine then .ok (.int x.length) else .bad
  | _ => .bad
mutual
def py : D → PyData
  | .non => .none
  | .bl b => .bool b
  | .int i => .int i
  | .str x => .str x
  | .tup ds => .tuple (pys ds)
  | .gt ds => .tuple (pys ds)
  | .lst ds => .list (pys ds)
  | .bor _ ds => .list (pys ds)
  | .obj _ _ _ => .none
  | .exc _ => .none
  | .dic _ _ => .none
  | .bdc _ _ _ => .none
  | .bob _ _ _ _ => .none
def pys : List D → List PyData
  | [] => []
  | d :: ds => py d :: pys ds
end
def okq : Nat → D → Bool
  | _, .non => true
  | _, .bl _ => true
  | _, .int _ => true
  | _, .str x => PyData.strOk x
  | n + 1, .tup ds => ds.all (okq n)
  | n + 1, .gt ds => ds.all (okq n)
  | n + 1, .lst ds => ds.all (okq n)
  | n + 1, .bor _ ds => ds.all (okq n)
  | _, _ => false
def deq (x y : D) : Bool := (py x).eqv (py y)
def eqD (x y : D) : Res D := if okq 12 x = true ∧ okq 12 y = true then .ok (.bl (deq x y)) else .bad
def neD (x y : D) : Res D := if okq 12 x = true ∧ okq 12 y = true then .ok (.bl (!deq x y)) else .bad
theorem beq_dec (i j : Int) : (i == j) = decide (i = j) := by
  by_cases h : i = j
  · subst h; simp
  · simp [h]
@[simp] theorem eqD_int (i j : Int) : eqD (.int i) (.int j) = .ok (.bl (decide (i = j))) := by simp [eqD, okq, deq, py, PyData.eqv, beq_dec]
@[simp] theorem neD_int (i j : Int) : neD (.int i) (.int j) = .ok (.bl (!decide (i = j))) := by simp [neD, okq, deq, py, PyData.eqv, beq_dec]
def ixD : D → D → Res D
  | .lst ds, .int i => match atI ds i with
    | some d => .ok d
    | none => .bad
  | .bor _ ds, .int i => match atI ds i with
    | some d => .ok d
    | none => .bad
  | .tup ds, .int i => match atI ds i with
    | some d => .ok d
    | none => .bad
  | .gt ds, .int i => match atI ds i with
    | some d => .ok d
    | none => .bad
  | .str x, .int i => if x.length ≤ sizeLine then (match atI x.cps.toList i with
    | some c => .ok (.str ⟨#[c]⟩)
    | none => .bad) else .bad
  | _, _ => .bad
def addD : D → D → Res D
  | .int i, .int j => .ok (.int (i + j))
  | .str x, .str y => if x.length + y.length ≤ sizeLine then .ok (.str (x ++ y)) else .bad
  | _, _ => .bad
@[simp] theorem addD_int (i j : Int) : addD (.int i) (.int j) = .ok (.int (i + j)) := (rfl)
def asL : D → Option (List D)
  | .lst xs => some xs
  | .bor _ xs => some xs
  | _ => none
@[simp] theorem asL_lst (xs : List D) : asL (.lst xs) = some xs := (rfl)
@[simp] theorem asL_bor (t : Bool) (xs : List D) : asL (.bor t xs) = some xs := (rfl)
def catD (x y : D) : Res (List D) := match asL x, asL y with
  | some xs, some ys => if xs.length + ys.length ≤ sizeLine then .ok (xs ++ ys) else .bad
  | _, _ => .bad
def lOp (r : D → D → Res (List D)) (f g : Sg → Res D) : Sg → Res (List D) := fun Γ => (f Γ).bnd fun x => (g Γ).bnd fun y => r x y
def cutL {α : Type} (xs : List α) (lo hi : Option Int) : List α := (xs.drop (sIx xs.length 0 lo)).take (sIx xs.length xs.length hi - sIx xs.length 0 lo)
def dNoP : Sg → Res (Option Int) := fun _ => .ok none
def dP (f : Sg → Res D) : Sg → Res (Option Int) := fun Γ => (f Γ).bnd fun d => match d with
  | .int i => .ok (some i)
  | _ => .bad
def lCut (f : Sg → Res D) (l u : Sg → Res (Option Int)) : Sg → Res (List D) := fun Γ => (f Γ).bnd fun d => (l Γ).bnd fun lo => (u Γ).bnd fun hi => match asL d with
  | some xs => .ok (cutL xs lo hi)
  | none => .bad
def atM : M → List Nat → Option M
  | m, [] => some m
  | .n ms, k :: ks => (ms[k]?).bind fun m => atM m ks
  | .t ms, k :: ks => (ms[k]?).bind fun m => atM m ks
  | _, _ :: _ => none
def putM : M → List Nat → M → M
  | _, [], m' => m'
  | .n ms, k :: ks, m' => .n (match ms[k]? with
    | some m => ms.set k (putM m ks m')
    | none => ms)
  | .t ms, k :: ks, m' => .t (match ms[k]? with
    | some m => ms.set k (putM m ks m')
    | none => ms)
  | m, _ :: _, _ => m
def slM : Slot → Option M
  | .own m => some m
  | .par m => some m
  | _ => none
def pVar (i : Nat) : Sg → Res (List Nat) := fun Γ => match (Γ[i]?).bind slM with
  | some _ => .ok []
  | none => .bad
def reS : Slot → M → Slot
  | .own _, m => .own m
  | .par _, m => .par m
  | s, _ => s
def upM (i : Nat) (ks : List Nat) (f : M → Option M) (Γ : Sg) : Option Sg := (Γ[i]?).bind fun s => (slM s).bind fun m => (atM m ks).bind fun m' => (f m').map fun m'' => Γ.set i (reS s (putM m ks m''))
def oUp : Option Sg → Out
  | some Γ => .nx Γ
  | none => .bad
def appM (d : D) : M → Option M
  | .l xs => if xs.length < 1000000 ∧ nt d = true then some (.l (xs ++ [d])) else none
  | .n ms => if ms.length < 1000000 ∧ nt d = true then some (.n (ms ++ [.d d])) else none
  | _ => none
def clrM : M → Option M
  | .l _ => some (.l [])
  | .n _ => some (.n [])
  | _ => none
def setM (z : Int) (d : D) : M → Option M
  | .l xs => if nt d = true then (ixN xs.length z).map fun j => .l (xs.set j d) else none
  | .n ms => if nt d = true then (ixN ms.length z).map fun j => .n (ms.set j (.d d)) else none
  | _ => none
def isLM : Option M → Bool
  | some (.l _) => true
  | some (.n _) => true
  | _ => false
def nodeM (i : Nat) (ks : List Nat) (Γ : Sg) : Option M := ((Γ[i]?).bind slM).bind fun m => atM m ks
def sAppend (i : Nat) (g : Sg → Res (List Nat)) (f : Sg → Res D) : Sg → Out := fun Γ => oE (g Γ) Γ fun ks => if isLM (nodeM i ks Γ) = true then oE (f Γ) Γ fun d => oUp (upM i ks (appM d) Γ) else .bad
def sClear (i : Nat) (g : Sg → Res (List Nat)) : Sg → Out := fun Γ => oE (g Γ) Γ fun ks => oUp (upM i ks clrM Γ)
def signs (x : Str) : List D := x.cps.toList.map fun c => .str ⟨#[c]⟩
def seqD : D → Res (List D)
  | .lst xs => .ok xs
  | .bor _ xs => .ok xs
  | .tup xs => .ok xs
  | .gt xs => .ok xs
  | .str x => .ok (signs x)
  | _ => .bad
def sForI (fi : Sg → Res (List D)) (t : Tg) (B : Sg → Out) : Sg → Out := fun Γ => oE (fi Γ) Γ fun xs => forD t B xs Γ
def iSeq (f : Sg → Res D) : Sg → Res (List D) := fun Γ => (f Γ).bnd seqD
def iRng1 (r : Sg → Res (List D)) : Sg → Res (List D) := fun Γ => (r Γ).bnd rng1
def iRng2 (r : Sg → Res (List D)) : Sg → Res (List D) := fun Γ => (r Γ).bnd rng2
def blkS (tm : Bool) : Slot → Slot
  | .val d => .val d
  | .own m => if tm = true then .val (lend m) else .no
  | .par m => if tm = true then .val (lend m) else .no
  | .no => .no
def blk (tm : Bool) (k : Nat) (caps : List Nat) (Γ : Sg) : Sg := List.replicate k .no ++ caps.map fun i => blkS tm ((Γ[i]?).getD .no)
theorem blk_get {tm : Bool} {k : Nat} {caps : List Nat} {Γ : Sg} {i : Nat} {sl : Slot} (h : (blk tm k caps Γ)[i]? = some sl) : sl = .no ∨ ∃ c sc, caps[i - k]? = some c ∧ k ≤ i ∧ Γ[c]? = some sc ∧ sl = blkS tm sc := by
  unfold blk at h
  by_cases hi : i < k
  · rw [List.getElem?_append_left (by simpa using hi), List.getElem?_replicate, if_pos hi] at h
    cases h; exact .inl rfl
  · rw [List.getElem?_append_right (by simpa using hi), List.length_replicate, List.getElem?_map] at h
    cases q : caps[i - k]? with
    | none => rw [q] at h; cases h
    | some c =>
      rw [q] at h
      simp only [Option.map_some, Option.some.injEq] at h
      subst h
      cases q2 : Γ[c]? with
      | none => exact .inl rfl
      | some sl => exact .inr ⟨c, sl, rfl, Nat.le_of_not_lt hi, q2, rfl⟩
def elD (t : Tg) (p : Sg → Res Bool) (fe : Sg → Res D) (Γ0 : Sg) (x : D) : Res (Option D) := match t x Γ0 with
  | none => .bad
  | some Γ1 => match p Γ1 with
    | .ok true => (match fe Γ1 with
      | .ok d => .ok (some d)
      | _ => .bad)
    | .ok false => .ok none
    | _ => .bad
def compD (e : D → Res (Option D)) : List D → Res (List D)
  | [] => .ok []
  | x :: xs => (e x).bnd fun o => (compD e xs).bnd fun r => .ok (match o with
    | some d => d :: r
    | none => r)
def lComp (tm : Bool) (fi : Sg → Res (List D)) (k : Nat) (caps : List Nat) (t : Tg) (p : Sg → Res Bool) (fe : Sg → Res D) : Sg → Res (List D) := fun Γ => (fi Γ).bnd fun xs => if xs.length < 1000000 then compD (elD t p fe (blk tm k caps Γ)) xs else .bad
def elM (t : Tg) (p : Sg → Res Bool) (fe : Sg → Res M) (Γ0 : Sg) (x : D) : Res (Option M) := match t x Γ0 with
  | none => .bad
  | some Γ1 => match p Γ1 with
    | .ok true => (match fe Γ1 with
      | .ok d => .ok (some d)
      | _ => .bad)
    | .ok false => .ok none
    | _ => .bad
def compM (e : D → Res (Option M)) : List D → Res (List M)
  | [] => .ok []
  | x :: xs => (e x).bnd fun o => (compM e xs).bnd fun r => .ok (match o with
    | some d => d :: r
    | none => r)
def mComp (tm : Bool) (fi : Sg → Res (List D)) (k : Nat) (caps : List Nat) (t : Tg) (p : Sg → Res Bool) (fe : Sg → Res M) : Sg → Res (List M) := fun Γ => (fi Γ).bnd fun xs => if xs.length < 1000000 then compM (elM t p fe (blk tm k caps Γ)) xs else .bad
def mN (f : Sg → Res (List M)) : Sg → Res M := fun Γ => (f Γ).bnd fun ms => .ok (.n ms)
theorem elM_ne {t : Tg} {p : Sg → Res Bool} {fe : Sg → Res M} {Γ0 : Sg} {x : D} {c : String} : elM t p fe Γ0 x ≠ .err c := by
  unfold elM
  split
  · exact fun z => nomatch z
  · split
    · split <;> exact fun z => nomatch z
    · exact fun z => nomatch z
    · exact fun z => nomatch z
theorem compM_ne {e : D → Res (Option M)} (he : ∀ x c, e x ≠ .err c) : ∀ xs c, compM e xs ≠ .err c
  | [], c => fun z => nomatch z
  | x :: xs, c => by
    simp only [compM]
    cases q : e x with
    | ok o =>
      cases q2 : compM e xs with
      | ok r => exact fun z => nomatch z
      | err c' => exact absurd q2 (compM_ne he xs c')
      | bad => exact fun z => nomatch z
    | err c' => exact absurd q (he x c')
    | bad => exact fun z => nomatch z
theorem compM_cons {e : D → Res (Option M)} {x : D} {xs : List D} {r : List M} (h : compM e (x :: xs) = .ok r) : ∃ o r', e x = .ok o ∧ compM e xs = .ok r' ∧ r = (match o with | some d => d :: r' | none => r') := by
  simp only [compM] at h
  cases q : e x with
  | ok o =>
    cases q2 : compM e xs with
    | ok r' => rw [q, q2] at h; cases h; exact ⟨o, r', rfl, rfl, rfl⟩
    | err c' => rw [q, q2] at h; cases h
    | bad => rw [q, q2] at h; cases h
  | err c' => rw [q] at h; cases h
  | bad => rw [q] at h; cases h
theorem elM_elD {t : Tg} {p : Sg → Res Bool} {fe : Sg → Res D} {Γ0 : Sg} {x : D} : elM t p (mD fe) Γ0 x = (elD t p fe Γ0 x).bnd fun o => .ok (o.map M.d) := by
  unfold elM elD mD
  cases t x Γ0 with
  | none => rfl
  | some Γ1 =>
    dsimp only
    cases p Γ1 with
    | ok b =>
      cases b with
      | false => rfl
      | true => dsimp only; cases fe Γ1 <;> rfl
    | err c => rfl
    | bad => rfl
theorem compM_compD {t : Tg} {p : Sg → Res Bool} {fe : Sg → Res D} {Γ0 : Sg} : ∀ (xs : List D), compM (elM t p (mD fe) Γ0) xs = (compD (elD t p fe Γ0) xs).bnd fun ds => .ok (ds.map M.d)
  | [] => rfl
  | x :: xs => by
    simp only [compM, compD, compM_compD xs, elM_elD]
    cases elD t p fe Γ0 x with
    | ok o =>
      simp only [Res.bnd_ok]
      cases compD (elD t p fe Γ0) xs with
      | ok r => cases o <;> rfl
      | err c => rfl
      | bad => rfl
    | err c => rfl
    | bad => rfl
def cYes : Sg → Res Bool := fun _ => .ok true
def noML (Γ : Sg) : Prop := ∀ (i : Nat) (m : M), Γ[i]? ≠ some (.own m) ∧ Γ[i]? ≠ some (.par m)
def sRaise (c : String) (fa : Sg → Res (List D)) : Sg → Out := fun Γ => oE (fa Γ) Γ fun ds => if ds.length ≤ 1000 then .err c Γ else .bad
def tryD (hit : String → Option Bool) (F : Sg → Out) (G : String → Sg → Out) : Sg → Out := fun Γ => match F Γ with
  | .err c Γ1 => (match hit c with
    | some true => G c Γ1
    | _ => .bad)
  | o => o
def offS (i : Nat) : Out → Out
  | .nx Γ => .nx (Γ.set i .no)
  | .bk Γ => .bk (Γ.set i .no)
  | .ct Γ => .ct (Γ.set i .no)
  | .err _ _ => .bad
  | o => o
def hitOf (mt : List (String × List String)) (T : String) : String → Option Bool := fun c => (mt.lookup c).map (·.contains T)
def sTryAs (i : Nat) (hit : String → Option Bool) (F G : Sg → Out) : Sg → Out := tryD hit F fun c Γ1 => offS i (G (Γ1.set i (.val (.exc c))))
def kinds (mt : List (String × List String)) : D → Option (List String)
  | .non => some ["NoneType"]
  | .bl _ => some ["bool", "int"]
  | .int _ => some ["int"]
  | .str _ => some ["str"]
  | .tup _ => some ["tuple"]
  | .gt _ => some ["tuple"]
  | .lst _ => some ["list"]
  | .bor _ _ => some ["list"]
  | .obj c _ _ => mt.lookup c
  | .exc c => mt.lookup c
  | .dic _ _ => some ["dict"]
  | .bdc _ _ _ => some ["dict"]
  | .bob _ _ _ _ => none
def isiD (mt : List (String × List String)) (cs : List String) (d : D) : Res D := match kinds mt d with
  | some ks => .ok (.bl (cs.any fun c => ks.contains c))
  | none => .bad
def dIsi (mt : List (String × List String)) (cs : List String) (f : Sg → Res D) : Sg → Res D := fun Γ => (f Γ).bnd (isiD mt cs)
def fldD (f : Str) : D → Res D
  | .obj _ ns xs => match (ns.zip xs).lookup f with
    | some d => .ok d
    | none => .bad
  | .bob _ _ ns xs => match (ns.zip xs).lookup f with
    | some d => .ok d
    | none => .bad
  | _ => .bad
def dFld (f : Str) (g : Sg → Res D) : Sg → Res D := fun Γ => (g Γ).bnd (fldD f)
def methF (tbl : List (String × (List Slot → Ans))) : D → Option (List Slot → Ans)
  | .obj c _ _ => tbl.lookup c
  | _ => none
def mMeth (n : Nat) (tbl : List (String × (List Slot → Ans))) (fo : Sg → Res D) (fa : Sg → Res (List D)) : Sg → Res M := fun Γ => (fo Γ).bnd fun o => match methF tbl o with
  | some F => (fa Γ).bnd fun ds => if ds.length = n then mAns (F ((o :: ds).map Slot.val)) else .bad
  | none => .bad
def mMethN (n : Nat) (tbl : List (String × (List Slot → Ans))) (fo : Sg → Res D) (fa : Sg → Res (List D)) : Sg → Res M := fun Γ => (fo Γ).bnd fun o => match methF tbl o with
  | some F => (fa Γ).bnd fun ds => if ds.length = n ∧ nts (o :: ds) = true then mAns (F ((o :: ds).map Slot.val)) else .bad
  | none => .bad
def mkAns (c : String) (ns : List Str) : Ans → Res D
  | .okG .non [(0, .o c' ns' xs)] => if c' = c ∧ ns' = ns then .ok (.obj c ns xs) else .bad
  | .err x => .err x
  | _ => .bad
def dMake (n : Nat) (c : String) (ns : List Str) (F : List Slot → Ans) (fa : Sg → Res (List D)) : Sg → Res D := fun Γ => (fa Γ).bnd fun ds => if ds.length = n then mkAns c ns (F (.par (.o c [] []) :: ds.map Slot.val)) else .bad
def dMakeN (n : Nat) (c : String) (ns : List Str) (F : List Slot → Ans) (fa : Sg → Res (List D)) : Sg → Res D := fun Γ => (fa Γ).bnd fun ds => if ds.length = n ∧ nts ds = true then mkAns c ns (F (.par (.o c [] []) :: ds.map Slot.val)) else .bad
def putO (ft : List (String × List Str)) (f : Str) (d : D) : M → Option M
  | .o c ns xs => (ft.lookup c).bind fun full => if nt d = true ∧ ns.length < full.length ∧ ns.length < 900 ∧ f ∉ ns then some (.o c (ns ++ [f]) (xs ++ [d])) else none
  | _ => none
def sSetF (i : Nat) (ft : List (String × List Str)) (f : Str) (g : Sg → Res D) : Sg → Out := fun Γ => oE (g Γ) Γ fun d => oE (pVar i Γ) Γ fun ks => oUp (upM i ks (putO ft f d) Γ)
def sRetG (f : Sg → Res D) : Sg → Out := fun Γ => oE (f Γ) Γ fun d => .rtG d Γ
def seqO : D → Option (List D)
  | .lst xs => some xs
  | .bor _ xs => some xs
  | .tup xs => some xs
  | .gt xs => some xs
  | _ => none
def listD : List D → Res (List D)
  | [x] => match seqO x with
    | some xs => .ok xs
    | none => .bad
  | _ => .bad
def lCB (r : List D → Res (List D)) (fa : Sg → Res (List D)) : Sg → Res (List D) := fun Γ => (fa Γ).bnd r
def keyD : D → Option (Sum Int Str)
  | .int i => some (.inl i)
  | .str x => some (.inr x)
  | _ => none
def dcO : D → Option (List (Sum Int Str) × List D)
  | .dic (.s ks) xs => some (ks, xs)
  | .bdc _ (.s ks) xs => some (ks, xs)
  | _ => none
def getK (ks : List (Sum Int Str)) (xs : List D) (k : Sum Int Str) : Option D := ((ks.zip xs).find? fun kv => decide (kv.1 = k)).map (·.2)
def getD (o y : D) : Res D := match dcO o with
  | some (ks, xs) => (match keyD y with
    | some k => (match getK ks xs k with
      | some d => .ok d
      | none => .bad)
    | none => .bad)
  | none => ixD o y
def dChain (r r' : D → D → Res D) (f g h : Sg → Res D) : Sg → Res D := fun Γ => (f Γ).bnd fun x => (g Γ).bnd fun y => (r x y).bnd fun z => match z with
  | .bl true => (h Γ).bnd fun w => r' y w
  | .bl false => .ok (.bl false)
  | _ => .bad
end L4
end
section
set_option Elab.async false
set_option linter.all false
set_option maxRecDepth 100000
set_option exponentiation.threshold 10000
namespace L4
open PySem
def oSeq (o : Out) (G : Sg → Out) : Out := match o with
  | .nx Γ' => G Γ'
  | o => o
def oTry (i : Nat) (h : String → Option Bool) (o : Out) (G : Sg → Out) : Out := match o with
  | .err c Γ1 => (match h c with
    | some true => offS i (G (Γ1.set i (.val (.exc c))))
    | _ => .bad)
  | o => o
def oIte (r : Res Bool) (F G : Sg → Out) (Γ : Sg) : Out := oE r Γ fun c => if c = true then F Γ else G Γ
def rAnd (r : Res Bool) (q : Sg → Res Bool) (Γ : Sg) : Res Bool := r.bnd fun c => if c = true then q Γ else .ok false
def rOr (r : Res Bool) (q : Sg → Res Bool) (Γ : Sg) : Res Bool := r.bnd fun c => if c = true then .ok true else q Γ
def vAnd (r : Res Bool) (q : Sg → Res D) (Γ : Sg) : Res D := r.bnd fun c => if c = true then q Γ else .ok (.bl false)
def vOr (r : Res Bool) (q : Sg → Res D) (Γ : Sg) : Res D := r.bnd fun c => if c = true then .ok (.bl true) else q Γ
def vIte (r : Res Bool) (f g : Sg → Res D) (Γ : Sg) : Res D := r.bnd fun c => if c = true then f Γ else g Γ
section
variable (Γ : Sg) (f g : Sg → Res D) (p q : Sg → Res Bool) (F G : Sg → Out) (fa : Sg → Res (List D))
@[simp] theorem sSeq_app : sSeq F G Γ = oSeq (F Γ) G := (rfl)
@[simp] theorem oSeq_nx : oSeq (.nx Γ) G = G Γ := (rfl)
@[simp] theorem oSeq_bk : oSeq (.bk Γ) G = .bk Γ := (rfl)
@[simp] theorem oSeq_ct : oSeq (.ct Γ) G = .ct Γ := (rfl)
@[simp] theorem oSeq_rt (d : D) : oSeq (.rt d) G = .rt d := (rfl)
@[simp] theorem oSeq_rtm (d : M) : oSeq (.rtm d) G = .rtm d := (rfl)
@[simp] theorem oSeq_rtG (d : D) : oSeq (.rtG d Γ) G = .rtG d Γ := (rfl)
@[simp] theorem oSeq_err (c : String) : oSeq (.err c Γ) G = .err c Γ := (rfl)
@[simp] theorem oSeq_bad : oSeq .bad G = .bad := (rfl)
@[simp] theorem sNext_app : sNext Γ = .nx Γ := (rfl)
@[simp] theorem sIf_app : sIf p F G Γ = oIte (p Γ) F G Γ := (rfl)
@[simp] theorem oIte_tt : oIte (.ok true) F G Γ = F Γ := (rfl)
@[simp] theorem oIte_ff : oIte (.ok false) F G Γ = G Γ := (rfl)
@[simp] theorem oIte_err (c : String) : oIte (.err c) F G Γ = .err c Γ := (rfl)
@[simp] theorem rAnd_tt : rAnd (.ok true) q Γ = q Γ := (rfl)
@[simp] theorem rAnd_ff : rAnd (.ok false) q Γ = .ok false := (rfl)
@[simp] theorem rOr_tt : rOr (.ok true) q Γ = .ok true := (rfl)
@[simp] theorem rOr_ff : rOr (.ok false) q Γ = q Γ := (rfl)
@[simp] theorem vAnd_tt : vAnd (.ok true) f Γ = f Γ := (rfl)
@[simp] theorem vAnd_ff : vAnd (.ok false) f Γ = .ok (.bl false) := (rfl)
@[simp] theorem vOr_tt : vOr (.ok true) f Γ = .ok (.bl true) := (rfl)
@[simp] theorem vOr_ff : vOr (.ok false) f Γ = f Γ := (rfl)
@[simp] theorem vIte_tt : vIte (.ok true) f g Γ = f Γ := (rfl)
@[simp] theorem vIte_ff : vIte (.ok false) f g Γ = g Γ := (rfl)
@[simp] theorem sRet_app : sRet f Γ = oE (f Γ) Γ fun d => .rt d := (rfl)
@[simp] theorem sRetM_app (fm : Sg → Res M) : sRetM fm Γ = oE (fm Γ) Γ fun m => if ntM m = true then .rtm m else .bad := (rfl)
@[simp] theorem sRetO_app : sRetO f Γ = oE (f Γ) Γ fun d => if nt d = true then .rt d else .bad := (rfl)
@[simp] theorem sRetG_app : sRetG f Γ = oE (f Γ) Γ fun d => .rtG d Γ := (rfl)
@[simp] theorem sRetN_app : sRetN Γ = .rt .non := (rfl)
@[simp] theorem sDrop_app : sDrop f Γ = oE (f Γ) Γ fun _ => .nx Γ := (rfl)
@[simp] theorem sSet_app (i : Nat) : sSet i f Γ = oE (f Γ) Γ fun d => .nx (Γ.set i (.val d)) := (rfl)
@[simp] theorem sSetM_app (i : Nat) (fm : Sg → Res M) : sSetM i fm Γ = oE (fm Γ) Γ fun m => if ntM m = true then .nx (Γ.set i (.own m)) else .bad := (rfl)
@[simp] theorem sSetO_app (i : Nat) : sSetO i f Γ = oE (f Γ) Γ fun d => if nt d = true then .nx (Γ.set i (.val d)) else .bad := (rfl)
@[simp] theorem mL_app : mL fa Γ = (fa Γ).bnd fun ds => .ok (.l ds) := (rfl)
@[simp] theorem mD_app : mD f Γ = (f Γ).bnd fun d => .ok (.d d) := (rfl)
@[simp] theorem dFzM_app (fm : Sg → Res M) : dFzM fm Γ = (fm Γ).bnd fzR := (rfl)
@[simp] theorem dNt_app : dNt f Γ = (f Γ).bnd ntR := (rfl)
@[simp] theorem mNt_app (fm : Sg → Res M) : mNt fm Γ = (fm Γ).bnd fun m => if ntM m = true then .ok m else .bad := (rfl)
@[simp] theorem dFld_app (n : Str) : dFld n f Γ = (f Γ).bnd (fldD n) := (rfl)
@[simp] theorem dVarO_app (i : Nat) : dVarO i Γ = match Γ[i]? with
  | some (.val d) => .ok d
  | some (.own m) => .ok (lend m)
  | some (.par m) => .ok (lend m)
  | _ => .bad := (rfl)
@[simp] theorem lCB_app (r : List D → Res (List D)) : lCB r fa Γ = (fa Γ).bnd r := (rfl)
@[simp] theorem sPar_app (i k : Nat) : sPar i k fa Γ = oE (fa Γ) Γ fun ds => match ds with
  | [x, y] => .nx ((Γ.set i (.val x)).set k (.val y))
  | _ => .bad := (rfl)
@[simp] theorem sAsg_app (t : Tg) : sAsg f t Γ = oE (f Γ) Γ fun d => match t d Γ with
  | some Γ' => .nx Γ'
  | none => .bad := (rfl)
@[simp] theorem sRaise_app (c : String) : sRaise c fa Γ = oE (fa Γ) Γ fun ds => if ds.length ≤ 1000 then .err c Γ else .bad := (rfl)
@[simp] theorem sTryAs_app (i : Nat) (h : String → Option Bool) : sTryAs i h F G Γ = oTry i h (F Γ) G := (rfl)
@[simp] theorem oTry_nx (i : Nat) (h : String → Option Bool) : oTry i h (.nx Γ) G = .nx Γ := (rfl)
@[simp] theorem oTry_rt (i : Nat) (h : String → Option Bool) (d : D) : oTry i h (.rt d) G = .rt d := (rfl)
theorem oTry_err (i : Nat) (h : String → Option Bool) (c : String) (e : h c = some true) : oTry i h (.err c Γ) G = offS i (G (Γ.set i (.val (.exc c)))) := by simp only [oTry, e]
@[simp] theorem offS_nx (i : Nat) : offS i (.nx Γ) = .nx (Γ.set i .no) := (rfl)
@[simp] theorem offS_rt (i : Nat) (d : D) : offS i (.rt d) = .rt d := (rfl)
@[simp] theorem dVar_app (i : Nat) : dVar i Γ = match Γ[i]? with
  | some (.val d) => .ok d
  | _ => .bad := (rfl)
@[simp] theorem dC_app (d : D) : dC d Γ = .ok d := (rfl)
@[simp] theorem dOp_app (r : D → D → Res D) : dOp r f g Γ = (f Γ).bnd fun x => (g Γ).bnd fun y => r x y := (rfl)
@[simp] theorem lOp_app (r : D → D → Res (List D)) : lOp r f g Γ = (f Γ).bnd fun x => (g Γ).bnd fun y => r x y := (rfl)
@[simp] theorem dT_app : dT f Γ = (f Γ).bnd tst := (rfl)
@[simp] theorem tst_bl (b : Bool) : tst (.bl b) = .ok b := (rfl)
@[simp] theorem dTru_app : dTru f Γ = (f Γ).bnd tru := (rfl)
@[simp] theorem cAnd_app : cAnd p q Γ = rAnd (p Γ) q Γ := (rfl)
@[simp] theorem cOr_app : cOr p q Γ = rOr (p Γ) q Γ := (rfl)
@[simp] theorem cNot_app : cNot p Γ = (p Γ).bnd fun c => .ok (!c) := (rfl)
@[simp] theorem dAnd_app : dAnd f g Γ = vAnd ((f Γ).bnd tst) g Γ := by cases h : f Γ <;> simp only [dAnd, vAnd, h, Res.bnd_ok, Res.bnd_err, Res.bnd_bad]
@[simp] theorem dOr_app : dOr f g Γ = vOr ((f Γ).bnd tst) g Γ := by cases h : f Γ <;> simp only [dOr, vOr, h, Res.bnd_ok, Res.bnd_err, Res.bnd_bad]
@[simp] theorem dNot_app : dNot f Γ = (f Γ).bnd fun x => (tst x).bnd fun c => .ok (.bl (!c)) := (rfl)
@[simp] theorem dIf_app : dIf p f g Γ = vIte (p Γ) f g Γ := (rfl)
@[simp] theorem dNil_app : dNil Γ = .ok [] := (rfl)
@[simp] theorem dCons_app : dCons f fa Γ = (f Γ).bnd fun x => (fa Γ).bnd fun xs => .ok (x :: xs) := (rfl)
@[simp] theorem dTup_app : dTup fa Γ = (fa Γ).bnd fun xs => if xs.length ≤ 1000 then .ok (.tup xs) else .bad := (rfl)
@[simp] theorem dLst_app : dLst fa Γ = (fa Γ).bnd fun xs => if xs.length ≤ 1000 then .ok xs else .bad := (rfl)
@[simp] theorem dFz_app : dFz fa Γ = (fa Γ).bnd fun ds => .ok (.lst ds) := (rfl)
@[simp] theorem dUn_app (r : D → Res D) : dUn r f Γ = (f Γ).bnd r := (rfl)
@[simp] theorem negI_int (i : Int) : negI (.int i) = .ok (.int (-i)) := (rfl)
@[simp] theorem dCB_app (r : List D → Res D) : dCB r fa Γ = (fa Γ).bnd r := (rfl)
@[simp] theorem dCall_app (n : Nat) (K : List Slot → Ans) : dCall n K fa Γ = (fa Γ).bnd fun ds => if ds.length = n then dAns (K (ds.map Slot.val)) else .bad := (rfl)
@[simp] theorem mCall_app (n : Nat) (K : List Slot → Ans) : mCall n K fa Γ = (fa Γ).bnd fun ds => if ds.length = n then mAns (K (ds.map Slot.val)) else .bad := (rfl)
@[simp] theorem dCallN_app (n : Nat) (K : List Slot → Ans) : dCallN n K fa Γ = (fa Γ).bnd fun ds => if ds.length = n ∧ nts ds = true then dAns (K (ds.map Slot.val)) else .bad := (rfl)
@[simp] theorem dCallO_app (n : Nat) (K : List Slot → Ans) : dCallO n K fa Γ = (fa Γ).bnd fun ds => if ds.length = n then dAns (nbA (K ((dns ds).map Slot.val))) else .bad := (rfl)
@[simp] theorem mCallN_app (n : Nat) (K : List Slot → Ans) : mCallN n K fa Γ = (fa Γ).bnd fun ds => if ds.length = n ∧ nts ds = true then mAns (K (ds.map Slot.val)) else .bad := (rfl)
@[simp] theorem mCallO_app (n : Nat) (K : List Slot → Ans) : mCallO n K fa Γ = (fa Γ).bnd fun ds => if ds.length = n then mAns (nbA (K ((dns ds).map Slot.val))) else .bad := (rfl)
@[simp] theorem dMake_app (n : Nat) (c : String) (ns : List Str) (K : List Slot → Ans) : dMake n c ns K fa Γ = (fa Γ).bnd fun ds => if ds.length = n then mkAns c ns (K (.par (.o c [] []) :: ds.map Slot.val)) else .bad := (rfl)
@[simp] theorem dIsi_app (mt : List (String × List String)) (cs : List String) : dIsi mt cs f Γ = (f Γ).bnd (isiD mt cs) := (rfl)
@[simp] theorem dNoP_app : dNoP Γ = .ok none := (rfl)
@[simp] theorem dP_app : dP f Γ = (f Γ).bnd fun d => match d with
  | .int i => .ok (some i)
  | _ => .bad := (rfl)
@[simp] theorem iSeq_app : iSeq f Γ = (f Γ).bnd seqD := (rfl)
@[simp] theorem seqD_lst (xs : List D) : seqD (.lst xs) = .ok xs := (rfl)
@[simp] theorem seqD_bor (tm : Bool) (xs : List D) : seqD (.bor tm xs) = .ok xs := (rfl)
@[simp] theorem seqD_tup (xs : List D) : seqD (.tup xs) = .ok xs := (rfl)
@[simp] theorem cYes_app : cYes Γ = .ok true := (rfl)
@[simp] theorem tgName_app (i : Nat) (d : D) : tgName i d Γ = some (Γ.set i (.val d)) := (rfl)
@[simp] theorem tgNil_app : tgNil [] Γ = some Γ := (rfl)
@[simp] theorem tgCons_app (t : Tg) (u : Tgs) (d : D) (r : List D) : tgCons t u (d :: r) Γ = (t d Γ).bind fun Γ' => u r Γ' := (rfl)
@[simp] theorem tgTup_app (n : Nat) (t : Tgs) (ds : List D) : tgTup n t (.tup ds) Γ = if ds.length = n then t ds Γ else none := (rfl)
end
@[simp] theorem dAns_ok (d : D) : dAns (.ok d) = .ok d := (rfl)
@[simp] theorem dAns_new (m : M) : dAns (.new m) = fzR m := (rfl)
@[simp] theorem dAns_err (c : String) : dAns (.err c) = .err c := (rfl)
@[simp] theorem mAns_ok (d : D) : mAns (.ok d) = .ok (.d d) := (rfl)
@[simp] theorem mAns_new (m : M) : mAns (.new m) = .ok m := (rfl)
@[simp] theorem mAns_err (c : String) : mAns (.err c) = .err c := (rfl)
@[simp] theorem fzR_d (d : D) : fzR (.d d) = .ok d := (rfl)
@[simp] theorem fzR_l (xs : List D) : fzR (.l xs) = .ok (.lst xs) := (rfl)
@[simp] theorem ntM_d (d : D) : ntM (.d d) = nt d := by simp [ntM]
@[simp] theorem ntM_l (xs : List D) : ntM (.l xs) = nts xs := by simp [ntM]
@[simp] theorem nt_int (i : Int) : nt (.int i) = true := by simp [nt]
@[simp] theorem nt_bl (i : Bool) : nt (.bl i) = true := by simp [nt]
@[simp] theorem nt_str (i : Str) : nt (.str i) = true := by simp [nt]
@[simp] theorem nt_non : nt .non = true := by simp [nt]
@[simp] theorem nt_tup (xs : List D) : nt (.tup xs) = nts xs := by simp [nt]
@[simp] theorem nt_lst (xs : List D) : nt (.lst xs) = nts xs := by simp [nt]
@[simp] theorem nts_nil : nts [] = true := by simp [nts]
@[simp] theorem nts_cons (d : D) (ds : List D) : nts (d :: ds) = (nt d && nts ds) := by simp [nts]
theorem nts_map {α : Type} (f : α → D) (h : ∀ x, nt (f x) = true) : ∀ xs : List α, nts (xs.map f) = true
  | [] => by simp
  | x :: xs => by simp [h x, nts_map f h xs]
@[simp] theorem lends_nil : lends [] = [] := by simp [lends]
@[simp] theorem lends_cons (m : M) (ms : List M) : lends (m :: ms) = lend m :: lends ms := by simp [lends]
@[simp] theorem lend_l (xs : List D) : lend (.l xs) = .bor true xs := by simp [lend]
@[simp] theorem lend_d (x : D) : lend (.d x) = x := by simp [lend]
@[simp] theorem atM_nil (m : M) : atM m [] = some m := by cases m <;> rfl
@[simp] theorem putM_nil (m m' : M) : putM m [] m' = m' := by cases m <;> rfl
@[simp] theorem slM_own (m : M) : slM (.own m) = some m := (rfl)
@[simp] theorem slM_par (m : M) : slM (.par m) = some m := (rfl)
@[simp] theorem reS_own (m m' : M) : reS (.own m) m' = .own m' := (rfl)
@[simp] theorem reS_par (m m' : M) : reS (.par m) m' = .par m' := (rfl)
@[simp] theorem oUp_some (Γ : Sg) : oUp (some Γ) = .nx Γ := (rfl)
@[simp] theorem ans_nx (Γ : Sg) : ans (.nx Γ) = .ok .non := (rfl)
@[simp] theorem ans_rt (d : D) : ans (.rt d) = .ok d := (rfl)
@[simp] theorem ans_rtm (m : M) : ans (.rtm m) = .new m := (rfl)
@[simp] theorem ansG_nx (Γ : Sg) : ansG (.nx Γ) = .okG .non (outsAt 0 Γ) := (rfl)
@[simp] theorem ansG_rtG (d : D) (Γ : Sg) : ansG (.rtG d Γ) = .okG d (outsAt 0 Γ) := (rfl)
@[simp] theorem ansG_err (c : String) (Γ : Sg) : ansG (.err c Γ) = .err c := (rfl)
@[simp] theorem ans_err (c : String) (Γ : Sg) : ans (.err c Γ) = .err c := (rfl)
@[simp] theorem addI_int (i j : Int) : addI (.int i) (.int j) = .ok (.int (i + j)) := (rfl)
@[simp] theorem subI_int (i j : Int) : subI (.int i) (.int j) = .ok (.int (i - j)) := (rfl)
@[simp] theorem ltI_int (i j : Int) : ltI (.int i) (.int j) = .ok (.bl (decide (i < j))) := (rfl)
@[simp] theorem leI_int (i j : Int) : leI (.int i) (.int j) = .ok (.bl (decide (i ≤ j))) := (rfl)
@[simp] theorem gtI_int (i j : Int) : gtI (.int i) (.int j) = .ok (.bl (decide (j < i))) := (rfl)
@[simp] theorem geI_int (i j : Int) : geI (.int i) (.int j) = .ok (.bl (decide (j ≤ i))) := (rfl)
theorem mulI_int (i j : Int) (h : mulOk i j = true) : mulI (.int i) (.int j) = .ok (.int (i * j)) := by simp [mulI, h]
theorem fdivI_int (i j : Int) (h : divOk i j = true) : fdivI (.int i) (.int j) = .ok (.int (i.fdiv j)) := by simp [fdivI, h]
theorem modI_int (i j : Int) (h : j ≠ 0) : modI (.int i) (.int j) = .ok (.int (i.fmod j)) := by simp [modI, h]
@[simp] theorem kinds_int (mt : List (String × List String)) (i : Int) : kinds mt (.int i) = some ["int"] := (rfl)
@[simp] theorem kinds_bl (mt : List (String × List String)) (i : Bool) : kinds mt (.bl i) = some ["bool", "int"] := (rfl)
@[simp] theorem kinds_tup (mt : List (String × List String)) (i : List D) : kinds mt (.tup i) = some ["tuple"] := (rfl)
@[simp] theorem kinds_lst (mt : List (String × List String)) (i : List D) : kinds mt (.lst i) = some ["list"] := (rfl)
@[simp] theorem kinds_str (mt : List (String × List String)) (i : Str) : kinds mt (.str i) = some ["str"] := (rfl)
@[simp] theorem kinds_non (mt : List (String × List String)) : kinds mt .non = some ["NoneType"] := (rfl)
@[simp] theorem kinds_exc (mt : List (String × List String)) (c : String) : kinds mt (.exc c) = mt.lookup c := (rfl)
@[simp] theorem eqD_pair (a b c d : Int) : eqD (.tup [.int a, .int b]) (.tup [.int c, .int d]) = .ok (.bl (decide (a = c) && decide (b = d))) := by
  simp [eqD, okq, deq, py, pys, PyData.eqv, PyData.eqvAll, beq_dec]
@[simp] theorem neD_pair (a b c d : Int) : neD (.tup [.int a, .int b]) (.tup [.int c, .int d]) = .ok (.bl (!(decide (a = c) && decide (b = d)))) := by
  simp [neD, okq, deq, py, pys, PyData.eqv, PyData.eqvAll, beq_dec]
@[simp] theorem eqD_bl (a b : Bool) : eqD (.bl a) (.bl b) = .ok (.bl (a == b)) := by
  simp [eqD, okq, deq, py, pys, PyData.eqv]
theorem bits_le {i : Int} {n : Nat} (h : i.natAbs < 2 ^ n) : Builtin.Int.intBits i ≤ n := by
  unfold Builtin.Int.intBits
  split
  · exact Nat.zero_le _
  · rename_i hz
    have : i.natAbs ≠ 0 := by simpa using hz
    exact Nat.succ_le_of_lt ((Nat.log2_lt this).mpr h)
theorem mulOk_right {i j : Int} (h : j.natAbs < 2 ^ 64) : mulOk i j = true := by
  simp [mulOk, bits_le h]
theorem mulOk_left {i j : Int} (h : i.natAbs < 2 ^ 64) : mulOk i j = true := by
  simp [mulOk, bits_le h]
theorem mulOk_both {i j : Int} {a b : Nat} (hi : i.natAbs < 2 ^ a) (hj : j.natAbs < 2 ^ b) (ha : a ≤ 2 ^ 20) (hb : b ≤ 2 ^ 20) : mulOk i j = true := by
  have h1 := Nat.le_trans (bits_le hi) ha
  have h2 := Nat.le_trans (bits_le hj) hb
  simp only [mulOk, Bool.or_eq_true, Bool.and_eq_true, decide_eq_true_eq]
  exact .inr ⟨h1, h2⟩
theorem divOk_of {i j : Int} (h0 : j ≠ 0) (h : j.natAbs < 2 ^ 9000) : divOk i j = true := by
  have : j.natAbs ≠ 0 := by simpa using h0
  simp only [divOk, Bool.and_eq_true, decide_eq_true_eq]
  exact ⟨h0, (Nat.log2_lt this).mpr h⟩
@[simp] theorem modI_lit (i j : Int) (h : j ≠ 0) : modI (.int i) (.int j) = .ok (.int (i.fmod j)) := modI_int i j h
@[simp] theorem mulI_lit (i j : Int) (h : j.natAbs < 18446744073709551616) : mulI (.int i) (.int j) = .ok (.int (i * j)) := mulI_int i j (mulOk_right h)
@[simp] theorem mulI_litL (i j : Int) (h : i.natAbs < 18446744073709551616) : mulI (.int i) (.int j) = .ok (.int (i * j)) := mulI_int i j (mulOk_left h)
@[simp] theorem fdivI_lit (i j : Int) (h : j ≠ 0) (h2 : j.natAbs < 18446744073709551616) : fdivI (.int i) (.int j) = .ok (.int (i.fdiv j)) :=
  fdivI_int i j (divOk_of h (Nat.lt_of_lt_of_le h2 (show 2 ^ 64 ≤ 2 ^ 9000 from Nat.pow_le_pow_right (by decide) (by decide))))
@[simp] theorem powI_lit (i j : Int) (h0 : 0 ≤ j) (h1 : j ≤ 1000000) (h2 : i.natAbs < 18446744073709551616) : powI (.int i) (.int j) = .ok (.int (i ^ j.toNat)) := by
  have : powOk i j = true := by simp [powOk, h0, h1]; omega
  simp [powI, this]
def oFor (r : Res D) (t : Tg) (B : Sg → Out) (Γ : Sg) : Out := oE r Γ fun d => match d with
  | .lst xs => forD t B xs Γ
  | .tup xs => forD t B xs Γ
  | .bor false xs => forD t B xs Γ
  | _ => .bad
def oForR (r : Res (List D)) (t : Tg) (B : Sg → Out) (Γ : Sg) : Out := oE r Γ fun xs => forD t B xs Γ
section
variable (f : Sg → Res D) (r : Sg → Res (List D)) (t : Tg) (B : Sg → Out) (Γ : Sg) (xs : List D)
@[simp] theorem sFor_app : sFor f t B Γ = oFor (f Γ) t B Γ := (rfl)
@[simp] theorem oFor_lst : oFor (.ok (.lst xs)) t B Γ = forD t B xs Γ := (rfl)
@[simp] theorem oFor_bor : oFor (.ok (.bor false xs)) t B Γ = forD t B xs Γ := (rfl)
@[simp] theorem oFor_tup : oFor (.ok (.tup xs)) t B Γ = forD t B xs Γ := (rfl)
@[simp] theorem sForR1_app : sForR1 r t B Γ = oForR ((r Γ).bnd rng1) t B Γ := (rfl)
@[simp] theorem sForR2_app : sForR2 r t B Γ = oForR ((r Γ).bnd rng2) t B Γ := (rfl)
@[simp] theorem oForR_ok : oForR (.ok xs) t B Γ = forD t B xs Γ := (rfl)
end
@[simp] theorem forD_nil (t : Tg) (B : Sg → Out) (Γ : Sg) : forD t B [] Γ = .nx Γ := (rfl)
section
variable (Γ : Sg) (f g h : Sg → Res D) (fa : Sg → Res (List D)) (t : Tg) (B : Sg → Out)
def oForI (r : Res (List D)) (t : Tg) (B : Sg → Out) (Γ : Sg) : Out := oE r Γ fun xs => forD t B xs Γ
@[simp] theorem sForI_app : sForI fa t B Γ = oForI (fa Γ) t B Γ := (rfl)
@[simp] theorem oForI_ok (xs : List D) : oForI (.ok xs) t B Γ = forD t B xs Γ := (rfl)
@[simp] theorem oForI_err (c : String) : oForI (.err c) t B Γ = .err c Γ := (rfl)
@[simp] theorem iRng1_app : iRng1 fa Γ = (fa Γ).bnd rng1 := (rfl)
@[simp] theorem iRng2_app : iRng2 fa Γ = (fa Γ).bnd rng2 := (rfl)
@[simp] theorem dMakeN_app (n : Nat) (c : String) (ns : List Str) (K : List Slot → Ans) : dMakeN n c ns K fa Γ = (fa Γ).bnd fun ds => if ds.length = n ∧ nts ds = true then mkAns c ns (K (.par (.o c [] []) :: ds.map Slot.val)) else .bad := (rfl)
def rMeth (n : Nat) (tbl : List (String × (List Slot → Ans))) (o : D) (r : Res (List D)) : Res M := match methF tbl o with
  | some F => r.bnd fun ds => if ds.length = n then mAns (F ((o :: ds).map Slot.val)) else .bad
  | none => .bad
def rMethN (n : Nat) (tbl : List (String × (List Slot → Ans))) (o : D) (r : Res (List D)) : Res M := match methF tbl o with
  | some F => r.bnd fun ds => if ds.length = n ∧ nts (o :: ds) = true then mAns (F ((o :: ds).map Slot.val)) else .bad
  | none => .bad
@[simp] theorem mMeth_app (n : Nat) (tbl : List (String × (List Slot → Ans))) : mMeth n tbl f fa Γ = (f Γ).bnd fun o => rMeth n tbl o (fa Γ) := (rfl)
@[simp] theorem mMethN_app (n : Nat) (tbl : List (String × (List Slot → Ans))) : mMethN n tbl f fa Γ = (f Γ).bnd fun o => rMethN n tbl o (fa Γ) := (rfl)
@[simp] theorem nt_obj (c : String) (ns : List Str) (xs : List D) : nt (.obj c ns xs) = nts xs := by simp [nt]
@[simp] theorem kinds_obj (mt : List (String × List String)) (c : String) (ns : List Str) (xs : List D) : kinds mt (.obj c ns xs) = mt.lookup c := (rfl)
def vChain (r : Res D) (r' : D → D → Res D) (y : D) (h : Sg → Res D) (Γ : Sg) : Res D := r.bnd fun z => match z with
  | .bl true => (h Γ).bnd fun w => r' y w
  | .bl false => .ok (.bl false)
  | _ => .bad
@[simp] theorem dChain_app (r r' : D → D → Res D) : dChain r r' f g h Γ = (f Γ).bnd fun x => (g Γ).bnd fun y => vChain (r x y) r' y h Γ := (rfl)
@[simp] theorem vChain_tt (r' : D → D → Res D) (y : D) : vChain (.ok (.bl true)) r' y h Γ = (h Γ).bnd fun w => r' y w := (rfl)
@[simp] theorem vChain_ff (r' : D → D → Res D) (y : D) : vChain (.ok (.bl false)) r' y h Γ = .ok (.bl false) := (rfl)
@[simp] theorem sSetF_app (i : Nat) (ft : List (String × List Str)) (n : Str) : sSetF i ft n f Γ = oE (f Γ) Γ fun d => oE (pVar i Γ) Γ fun ks => oUp (upM i ks (putO ft n d) Γ) := (rfl)
@[simp] theorem sClear_app (i : Nat) (p : Sg → Res (List Nat)) : sClear i p Γ = oE (p Γ) Γ fun ks => oUp (upM i ks clrM Γ) := (rfl)
@[simp] theorem sAppend_app (i : Nat) (p : Sg → Res (List Nat)) : sAppend i p f Γ = oE (p Γ) Γ fun ks => if isLM (nodeM i ks Γ) = true then oE (f Γ) Γ fun d => oUp (upM i ks (appM d) Γ) else .bad := (rfl)
@[simp] theorem lComp_app (tm : Bool) (k : Nat) (caps : List Nat) (p : Sg → Res Bool) : lComp tm fa k caps t p f Γ = (fa Γ).bnd fun xs => if xs.length < 1000000 then compD (elD t p f (blk tm k caps Γ)) xs else .bad := (rfl)
end
@[simp] theorem xorI_int (i j : Int) : xorI (.int i) (.int j) = .ok (.int (Builtin.bitXor i j)) := (rfl)
@[simp] theorem kinds_bor (mt : List (String × List String)) (b : Bool) (xs : List D) : kinds mt (.bor b xs) = some ["list"] := (rfl)
end L4
end
section
set_option Elab.async false
set_option linter.all false
namespace L4
open PySem
def frD (b : Int) (g : Nat) : Int := if b < 0 then -(g : Int) else (g : Int)
def frT (t b : Int) : Int := t.fdiv (frD b (Int.gcd t b))
def frB (t b : Int) : Int := b.fdiv (frD b (Int.gcd t b))
theorem gcd_pos {t b : Int} (h : b ≠ 0) : 0 < Int.gcd t b := Int.gcd_pos_of_ne_zero_right t h
theorem frD_ne {t b : Int} (h : b ≠ 0) : frD b (Int.gcd t b) ≠ 0 := by
  have := gcd_pos (t := t) h
  unfold frD
  split <;> omega
theorem frD_dvd_left (t b : Int) : frD b (Int.gcd t b) ∣ t := by
  unfold frD
  split
  · exact Int.neg_dvd.mpr (Int.gcd_dvd_left _ _)
  · exact Int.gcd_dvd_left _ _
theorem frD_dvd_right (t b : Int) : frD b (Int.gcd t b) ∣ b := by
  unfold frD
  split
  · exact Int.neg_dvd.mpr (Int.gcd_dvd_right _ _)
  · exact Int.gcd_dvd_right _ _
theorem fdiv_mul_of_dvd {a d : Int} (h : d ∣ a) : a.fdiv d * d = a := by
  rw [Int.fdiv_eq_ediv_of_dvd h]
  exact Int.ediv_mul_cancel h
theorem frT_mul (t b : Int) : frT t b * frD b (Int.gcd t b) = t := fdiv_mul_of_dvd (frD_dvd_left t b)
theorem frB_mul (t b : Int) : frB t b * frD b (Int.gcd t b) = b := fdiv_mul_of_dvd (frD_dvd_right t b)
theorem frD_bound {t b : Int} {n : Nat} (h : b ≠ 0) (hb : b.natAbs < 2 ^ n) : (frD b (Int.gcd t b)).natAbs < 2 ^ n := by
  have e : (frD b (Int.gcd t b)).natAbs = Int.gcd t b := by
    unfold frD
    split <;> simp
  rw [e]
  exact Nat.lt_of_le_of_lt (Nat.le_of_dvd (by omega) (Int.natAbs_dvd_natAbs.mpr (Int.gcd_dvd_right t b))) hb
theorem frB_le {t b : Int} (h : b ≠ 0) : (frB t b).natAbs ≤ b.natAbs := by
  have : frB t b ∣ b := ⟨frD b (Int.gcd t b), (frB_mul t b).symm⟩
  exact Nat.le_of_dvd (by omega) (Int.natAbs_dvd_natAbs.mpr this)
theorem frT_le {t b : Int} (h : b ≠ 0) : (frT t b).natAbs ≤ t.natAbs := by
  by_cases ht : t = 0
  · have := frT_mul t b
    rw [ht] at this ⊢
    rcases Int.mul_eq_zero.mp this with z | z
    · rw [z]; simp
    · exact absurd z (by have := frD_ne (t := 0) h; exact this)
  · have : frT t b ∣ t := ⟨frD b (Int.gcd t b), (frT_mul t b).symm⟩
    exact Nat.le_of_dvd (by omega) (Int.natAbs_dvd_natAbs.mpr this)
theorem pow9 {n : Nat} (h : n < 2 ^ 64) : n < 2 ^ 9000 := Nat.lt_of_lt_of_le h (Nat.pow_le_pow_right (by decide) (by decide))
theorem gcd_step (l s : Nat) (h : s ≠ 0) : Nat.gcd l s = Nat.gcd s (l % s) := by
  rw [Nat.gcd_comm l s, Nat.gcd_rec, Nat.gcd_comm]
theorem fmod_nat (l s : Nat) : Int.fmod (l : Int) (s : Int) = ((l % s : Nat) : Int) := by
  rw [Int.fmod_eq_emod_of_nonneg _ (by omega)]
  rfl
end L4
end
section
set_option Elab.async false
set_option linter.all false
set_option maxRecDepth 100000
namespace L4
open PySem PySem.Spec PyProof.Rows L2
abbrev St := L2.St
structure Cb where
  exc : String → Option Addr
  cls : String → Option (Addr × List Str)
  /-- all classes of instances -/
  ins : String → Option Addr
structure Cf where
  cb : Cb
  L : Hp
  io : Addr → Prop
  args : List V
structure Ct where
  f : Cf
  B : Hp
  tm : Bool
def Cf.z (c : Cf) : Ct := ⟨c, fun _ => none, false⟩
def Cf.at' (c : Cf) (H : Hp) : Ct := ⟨c, H, true⟩
def IsExc (a C : Addr) : Heap → Prop := fun h => ∃ o, h.get? a = some o ∧ o.cls = .ref C
def FzL (K : PySem.W.Frag) (H : Hp) (a : Addr) (vs : List V) : Prop := (∃ o, H a = some (.frz o (.lst vs))) ∨
  ∃ (o : Obj) (its : Array Value) (n : Nat), K.lookup a = some o ∧ o.cls = .type "list" ∧ o.dict = none ∧ o.data = .seq its n ∧ its.size ≤ sizeLine ∧ Vals vs its.toList
theorem FzL.sq {K : PySem.W.Frag} {H : Hp} {a : Addr} {vs : List V} (h : FzL K H a vs) : SqL K H a vs := by
  rcases h with ⟨o, h⟩ | h
  · exact .inl (.inr ⟨o, h⟩)
  · exact .inr h
def Ct.lo (ct : Ct) (t : Bool) : Hp := if t = true then ct.B else ct.f.L
def SqK (K : PySem.W.Frag) (a : Addr) (xs : List V) : Prop := ∃ (o : Obj) (its : Array Value) (n : Nat), K.lookup a = some o ∧ o.cls = .type "tuple" ∧ o.data = .seq its n ∧ its.size ≤ sizeLine ∧ Vals xs its.toList
theorem SqK.sq {K : PySem.W.Frag} {H : Hp} {a : Addr} {xs : List V} (h : SqK K a xs) : SqT K H a xs := .inr h
theorem sq_of {K : PySem.W.Frag} {H : Hp} {a : Addr} {xs : List V} (h : H a = some (.tup xs)) : SqT K H a xs := .inl (.inl h)
def SqS (K : PySem.W.Frag) (H : Hp) (a : Addr) (xs : List V) : Prop := H a = some (.tup xs) ∨
    ∃ (o : Obj) (its : Array Value) (n : Nat), K.lookup a = some o ∧ o.cls = .type "tuple" ∧ o.data = .seq its n ∧ its.size ≤ sizeLine ∧ Vals xs its.toList
theorem SqS.sq {K : PySem.W.Frag} {H : Hp} {a : Addr} {xs : List V} (h : SqS K H a xs) : SqT K H a xs := h.elim (fun z => .inl (.inl z)) .inr
def Ks.ho : Ks → List V → HO
  | .s ks, vs => .dK (ks.zip vs)
  | .t ks, vs => .dT (ks.zip vs)
mutual
def Tl (K : PySem.W.Frag) (ct : Ct) (H : Hp) : D → V → Prop
  | .non, v => v = .non
  | .bl b, v => v = .bl b
  | .int i, v => v = .int i
  | .str x, v => v = .str x
  | .tup ds, v => ∃ a vs, v = .ref a ∧ H a = some (.tup vs) ∧ Tls K ct H ds vs
  | .gt ds, v => ∃ a vs, v = .ref a ∧ SqK K a vs ∧ Tls K ct H ds vs
  | .lst ds, v => ∃ a vs, v = .ref a ∧ FzL K H a vs ∧ Tls K ct H ds vs
  | .obj c ns ds, v => ∃ a C dx vs, v = .ref a ∧ ct.f.cb.cls c = some (C, ns) ∧ H a = some (.ins C dx (ns.zip vs)) ∧ ns.length = vs.length ∧ Tls K ct H ds vs
  | .exc c, v => ∃ a C, v = .ref a ∧ ct.f.cb.exc c = some C ∧ H a = some (.ext (IsExc a C))
  | .bor t ds, v => ∃ a vs, v = .ref a ∧ ct.lo t a = some (.lst vs) ∧ Tls K ct H ds vs
  | .dic ks ds, v => ∃ a vs, v = .ref a ∧ (∃ o, H a = some (.frz o (ks.ho vs))) ∧ ks.len = vs.length ∧ Tls K ct H ds vs
  | .bdc t ks ds, v => ∃ a vs, v = .ref a ∧ ct.lo t a = some (ks.ho vs) ∧ ks.len = vs.length ∧ Tls K ct H ds vs
  | .bob t c ns ds, v => ∃ a C dx vs, v = .ref a ∧ ct.f.cb.ins c = some C ∧ ct.lo t a = some (.ins C dx (ns.zip vs)) ∧ ns.length = vs.length ∧ Tls K ct H ds vs
def Tls (K : PySem.W.Frag) (ct : Ct) (H : Hp) : List D → List V → Prop
  | [], vs => vs = []
  | d :: ds, vs => ∃ v r, vs = v :: r ∧ Tl K ct H d v ∧ Tls K ct H ds r
end
def Stab (cb : Cb) : HO → Prop
  | .tup _ => True
  | .frz _ _ => True
  | .ins C _ fs => ∃ c ns, cb.cls c = some (C, ns) ∧ fs.map (·.1) = ns
  | .ext _ => True
  | _ => False
def Keep (cb : Cb) (H H' : Hp) : Prop := ∀ b o, H b = some o → Stab cb o → H' b = some o
theorem Same.keep {cb : Cb} {H H' : Hp} (e : Same H H') : Keep cb H H' := fun b o h _ => e b o h
theorem Keep.refl {cb : Cb} (H : Hp) : Keep cb H H := fun _ _ h _ => h
theorem Keep.trans {cb : Cb} {H H1 H2 : Hp} (a : Keep cb H H1) (b : Keep cb H1 H2) : Keep cb H H2 := fun c o h s => b c o (a c o h s) s
theorem Keep.lst {cb : Cb} {H : Hp} {a : Addr} {vs : List V} {o : HO} (h : H a = some (.lst vs)) : Keep cb H (upd H a o) := fun b u hb st => by
  have : b ≠ a := by rintro rfl; rw [h] at hb; cases hb; exact st
  rw [upd_ne this]; exact hb
theorem Keep.dK {cb : Cb} {H : Hp} {a : Addr} {kvs : List (Key × V)} {o : HO} (h : H a = some (.dK kvs)) : Keep cb H (upd H a o) := fun b u hb st => by
  have : b ≠ a := by rintro rfl; rw [h] at hb; cases hb; exact st
  rw [upd_ne this]; exact hb
theorem Keep.dT {cb : Cb} {H : Hp} {a : Addr} {kvs : List (List Key × V)} {o : HO} (h : H a = some (.dT kvs)) : Keep cb H (upd H a o) := fun b u hb st => by
  have : b ≠ a := by rintro rfl; rw [h] at hb; cases hb; exact st
  rw [upd_ne this]; exact hb
theorem Ks.not_stab {cb : Cb} {ks : Ks} {vs : List V} : ¬ Stab cb (ks.ho vs) := by cases ks <;> exact fun q => q
theorem Keep.sqT {cb : Cb} {K : PySem.W.Frag} {H H' : Hp} {a : Addr} {xs : List V} (e : Keep cb H H') (h : SqT K H a xs) : SqT K H' a xs := by
  rcases h with (h | ⟨o, h⟩) | h
  · exact .inl (.inl (e _ _ h trivial))
  · exact .inl (.inr ⟨o, e _ _ h trivial⟩)
  · exact .inr h
theorem Keep.fzL {cb : Cb} {K : PySem.W.Frag} {H H' : Hp} {a : Addr} {xs : List V} (e : Keep cb H H') (h : FzL K H a xs) : FzL K H' a xs := by
  rcases h with ⟨o, h⟩ | h
  · exact .inl ⟨o, e _ _ h trivial⟩
  · exact .inr h
theorem zip_keys {α β : Type} : ∀ {ns : List α} {vs : List β}, ns.length = vs.length → (ns.zip vs).map (·.1) = ns
  | [], _, _ => by simp
  | n :: ns, [], h => by simp at h
  | n :: ns, v :: vs, h => by
    simp only [List.zip_cons_cons, List.map_cons, List.cons.injEq, true_and]
    exact zip_keys (by simpa using h)
mutual
theorem Tl.keep {K : PySem.W.Frag} {ct : Ct} {H H' : Hp} (e : Keep ct.f.cb H H') : ∀ {d : D} {v : V}, Tl K ct H d v → Tl K ct H' d v
  | .non, _, h => by simpa [Tl] using h
  | .bl b, _, h => by simpa [Tl] using h
  | .int i, _, h => by simpa [Tl] using h
  | .str x, _, h => by simpa [Tl] using h
  | .tup ds, v, h => by
    simp only [Tl] at h ⊢
    obtain ⟨a, vs, h1, h2, h3⟩ := h
    exact ⟨a, vs, h1, e _ _ h2 trivial, Tls.keep e h3⟩
  | .gt ds, v, h => by
    simp only [Tl] at h ⊢
    obtain ⟨a, vs, h1, h2, h3⟩ := h
    exact ⟨a, vs, h1, h2, Tls.keep e h3⟩
  | .lst ds, v, h => by
    simp only [Tl] at h ⊢
    obtain ⟨a, vs, h1, h2, h3⟩ := h
    exact ⟨a, vs, h1, e.fzL h2, Tls.keep e h3⟩
  | .obj c ns ds, v, h => by
    simp only [Tl] at h ⊢
    obtain ⟨a, C, dx, vs, h1, h2, h3, h4, h5⟩ := h
    exact ⟨a, C, dx, vs, h1, h2, e _ _ h3 ⟨c, ns, h2, zip_keys h4⟩, h4, Tls.keep e h5⟩
  | .exc c, v, h => by
    simp only [Tl] at h ⊢
    obtain ⟨a, C, h1, h2, h3⟩ := h
    exact ⟨a, C, h1, h2, e _ _ h3 trivial⟩
  | .bor t ds, v, h => by
    simp only [Tl] at h ⊢
    obtain ⟨a, vs, h1, h2, h3⟩ := h
    exact ⟨a, vs, h1, h2, Tls.keep e h3⟩
  | .dic ks ds, v, h => by
    simp only [Tl] at h ⊢
    obtain ⟨a, vs, h1, ⟨o, h2⟩, h3, h4⟩ := h
    exact ⟨a, vs, h1, ⟨o, e _ _ h2 trivial⟩, h3, Tls.keep e h4⟩
  | .bdc t ks ds, v, h => by
    simp only [Tl] at h ⊢
    obtain ⟨a, vs, h1, h2, h3, h4⟩ := h
    exact ⟨a, vs, h1, h2, h3, Tls.keep e h4⟩
  | .bob t c ns ds, v, h => by
    simp only [Tl] at h ⊢
    obtain ⟨a, C, dx, vs, h1, h2, h3, h4, h5⟩ := h
    exact ⟨a, C, dx, vs, h1, h2, h3, h4, Tls.keep e h5⟩
theorem Tls.keep {K : PySem.W.Frag} {ct : Ct} {H H' : Hp} (e : Keep ct.f.cb H H') : ∀ {ds : List D} {vs : List V}, Tls K ct H ds vs → Tls K ct H' ds vs
  | [], _, h => by simpa [Tls] using h
  | d :: ds, _, h => by
    simp only [Tls] at h ⊢
    obtain ⟨v, r, h1, h2, h3⟩ := h
    exact ⟨v, r, h1, Tl.keep e h2, Tls.keep e h3⟩
end
structure Relend (ct ct' : Ct) (p : Bool → Bool) (g : Bool → Bool) : Prop where
  cb : ct'.f.cb = ct.f.cb
  at' : ∀ t a o, p t = true → ct.lo t a = some o → ct'.lo (g t) a = some o
mutual
def reD (g : Bool → Bool) : D → D
  | .tup xs => .tup (reDs g xs)
  | .gt xs => .gt (reDs g xs)
  | .lst xs => .lst (reDs g xs)
  | .obj c ns xs => .obj c ns (reDs g xs)
  | .dic ks xs => .dic ks (reDs g xs)
  | .bor t xs => .bor (g t) (reDs g xs)
  | .bdc t ks xs => .bdc (g t) ks (reDs g xs)
  | .bob t c ns xs => .bob (g t) c ns (reDs g xs)
  | .non => .non
  | .bl b => .bl b
  | .int i => .int i
  | .str x => .str x
  | .exc c => .exc c
def reDs (g : Bool → Bool) : List D → List D
  | [] => []
  | d :: ds => reD g d :: reDs g ds
end
mutual
def okP (p : Bool → Bool) : D → Bool
  | .tup xs => okPs p xs
  | .gt xs => okPs p xs
  | .lst xs => okPs p xs
  | .obj _ _ xs => okPs p xs
  | .dic _ xs => okPs p xs
  | .bor t xs => p t && okPs p xs
  | .bdc t _ xs => p t && okPs p xs
  | .bob t _ _ xs => p t && okPs p xs
  | _ => true
def okPs (p : Bool → Bool) : List D → Bool
  | [] => true
  | d :: ds => okP p d && okPs p ds
end
mutual
theorem Tl.re {K : PySem.W.Frag} {ct ct' : Ct} {H : Hp} {p g : Bool → Bool} (r : Relend ct ct' p g) : ∀ {d : D} {v : V}, okP p d = true → Tl K ct H d v → Tl K ct' H (reD g d) v
  | .non, _, _, h => by simpa [Tl, reD] using h
  | .bl b, _, _, h => by simpa [Tl, reD] using h
  | .int i, _, _, h => by simpa [Tl, reD] using h
  | .str x, _, _, h => by simpa [Tl, reD] using h
  | .exc c, v, _, h => by
    simp only [Tl, reD] at h ⊢
    rw [r.cb]; exact h
  | .tup ds, v, q, h => by
    simp only [Tl, reD, okP] at h q ⊢
    obtain ⟨a, vs, h1, h2, h3⟩ := h
    exact ⟨a, vs, h1, h2, Tls.re r q h3⟩
  | .gt ds, v, q, h => by
    simp only [Tl, reD, okP] at h q ⊢
    obtain ⟨a, vs, h1, h2, h3⟩ := h
    exact ⟨a, vs, h1, h2, Tls.re r q h3⟩
  | .lst ds, v, q, h => by
    simp only [Tl, reD, okP] at h q ⊢
    obtain ⟨a, vs, h1, h2, h3⟩ := h
    exact ⟨a, vs, h1, h2, Tls.re r q h3⟩
  | .obj c ns ds, v, q, h => by
    simp only [Tl, reD, okP] at h q ⊢
    obtain ⟨a, C, dx, vs, h1, h2, h3, h4, h5⟩ := h
    exact ⟨a, C, dx, vs, h1, by rw [r.cb]; exact h2, h3, h4, Tls.re r q h5⟩
  | .bor t ds, v, q, h => by
    simp only [Tl, reD, okP, Bool.and_eq_true] at h q ⊢
    obtain ⟨a, vs, h1, h2, h3⟩ := h
    exact ⟨a, vs, h1, r.at' t a _ q.1 h2, Tls.re r q.2 h3⟩
  | .dic ks ds, v, q, h => by
    simp only [Tl, reD, okP] at h q ⊢
    obtain ⟨a, vs, h1, h2, h3, h4⟩ := h
    exact ⟨a, vs, h1, h2, h3, Tls.re r q h4⟩
  | .bdc t ks ds, v, q, h => by
    simp only [Tl, reD, okP, Bool.and_eq_true] at h q ⊢
    obtain ⟨a, vs, h1, h2, h3, h4⟩ := h
    exact ⟨a, vs, h1, r.at' t a _ q.1 h2, h3, Tls.re r q.2 h4⟩
  | .bob t c ns ds, v, q, h => by
    simp only [Tl, reD, okP, Bool.and_eq_true] at h q ⊢
    obtain ⟨a, C, dx, vs, h1, h2, h3, h4, h5⟩ := h
    exact ⟨a, C, dx, vs, h1, by rw [r.cb]; exact h2, r.at' t a _ q.1 h3, h4, Tls.re r q.2 h5⟩
theorem Tls.re {K : PySem.W.Frag} {ct ct' : Ct} {H : Hp} {p g : Bool → Bool} (r : Relend ct ct' p g) : ∀ {ds : List D} {vs : List V}, okPs p ds = true → Tls K ct H ds vs → Tls K ct' H (reDs g ds) vs
  | [], _, _, h => by simpa [Tls, reDs] using h
  | d :: ds, _, q, h => by
    simp only [Tls, reDs, okPs, Bool.and_eq_true] at h q ⊢
    obtain ⟨v, w, h1, h2, h3⟩ := h
    exact ⟨v, w, h1, Tl.re r q.1 h2, Tls.re r q.2 h3⟩
end
mutual
theorem reD_id : ∀ (d : D), reD id d = d
  | .non | .bl _ | .int _ | .str _ | .exc _ => by simp [reD]
  | .tup ds | .gt ds | .lst ds | .obj _ _ ds | .dic _ ds | .bor _ ds | .bdc _ _ ds | .bob _ _ _ ds => by simp [reD, reDs_id ds]
theorem reDs_id : ∀ (ds : List D), reDs id ds = ds
  | [] => rfl
  | d :: ds => by simp [reDs, reD_id d, reDs_id ds]
end
mutual
theorem reD_dn : ∀ (d : D), reD (fun _ => false) d = dn d
  | .non | .bl _ | .int _ | .str _ | .exc _ => by simp [reD, dn]
  | .tup ds | .gt ds | .lst ds | .obj _ _ ds | .dic _ ds | .bor _ ds | .bdc _ _ ds | .bob _ _ _ ds => by simp [reD, dn, reDs_dn ds]
theorem reDs_dn : ∀ (ds : List D), reDs (fun _ => false) ds = dns ds
  | [] => rfl
  | d :: ds => by simp [reDs, dns, reD_dn d, reDs_dn ds]
end
mutual
theorem okP_all : ∀ (d : D), okP (fun _ => true) d = true
  | .non | .bl _ | .int _ | .str _ | .exc _ => by simp [okP]
  | .tup ds | .gt ds | .lst ds | .obj _ _ ds | .dic _ ds | .bor _ ds | .bdc _ _ ds | .bob _ _ _ ds => by simp [okP, okPs_all ds]
theorem okPs_all : ∀ (ds : List D), okPs (fun _ => true) ds = true
  | [] => rfl
  | d :: ds => by simp [okPs, okP_all d, okPs_all ds]
end
mutual
theorem okP_nt : ∀ (d : D), okP (fun t => !t) d = nt d
  | .non | .bl _ | .int _ | .str _ | .exc _ => by simp [okP, nt]
  | .tup ds | .gt ds | .lst ds | .obj _ _ ds | .dic _ ds | .bor _ ds | .bdc _ _ ds | .bob _ _ _ ds => by simp [okP, nt, okPs_nt ds]
theorem okPs_nt : ∀ (ds : List D), okPs (fun t => !t) ds = nts ds
  | [] => rfl
  | d :: ds => by simp [okPs, nts, okP_nt d, okPs_nt ds]
end
mutual
theorem okP_nb : ∀ (d : D), okP (fun _ => false) d = nb d
  | .non | .bl _ | .int _ | .str _ | .exc _ => by simp [okP, nb]
  | .tup ds | .gt ds | .lst ds | .obj _ _ ds | .dic _ ds => by simp [okP, nb, okPs_nb ds]
  | .bor _ ds | .bdc _ _ ds | .bob _ _ _ ds => by simp [okP, nb]
theorem okPs_nb : ∀ (ds : List D), okPs (fun _ => false) ds = nbs ds
  | [] => rfl
  | d :: ds => by simp [okPs, nbs, okP_nb d, okPs_nb ds]
end
theorem Tl.lift {K : PySem.W.Frag} {c : Cf} {B H : Hp} {d : D} {v : V} (h : Tl K c.z H d v) : Tl K (c.at' B) H d v := by
  have := Tl.re (ct := c.z) (ct' := c.at' B) (p := fun _ => true) (g := id) ⟨rfl, fun t a o _ q => by cases t with
    | true => exact absurd q (by simp [Ct.lo, Cf.z])
    | false => exact q⟩ (okP_all d) h
  rwa [reD_id] at this
theorem Tl.down {K : PySem.W.Frag} {c : Cf} {B H : Hp} {tm : Bool} {d : D} {v : V} (h : Tl K ⟨c, B, tm⟩ H d v) (n : nt d = true) : Tl K c.z H d v := by
  have := Tl.re (ct := ⟨c, B, tm⟩) (ct' := c.z) (p := fun t => !t) (g := id) ⟨rfl, fun t a o p q => by cases t with
    | true => cases p
    | false => exact q⟩ (by rw [okP_nt]; exact n) h
  rwa [reD_id] at this
theorem Tl.bare {K : PySem.W.Frag} {ct ct' : Ct} {H : Hp} {d : D} {v : V} (e : ct'.f.cb = ct.f.cb) (h : Tl K ct H d v) (n : nb d = true) : Tl K ct' H d v := by
  have := Tl.re (ct := ct) (ct' := ct') (p := fun _ => false) (g := id) ⟨e, fun t a o p q => nomatch p⟩ (by rw [okP_nb]; exact n) h
  rwa [reD_id] at this
theorem Tls.bare {K : PySem.W.Frag} {ct ct' : Ct} {H : Hp} {d : List D} {v : List V} (e : ct'.f.cb = ct.f.cb) (h : Tls K ct H d v) (n : nbs d = true) : Tls K ct' H d v := by
  have := Tls.re (ct := ct) (ct' := ct') (p := fun _ => false) (g := id) ⟨e, fun t a o p q => nomatch p⟩ (by rw [okPs_nb]; exact n) h
  rwa [reDs_id] at this
theorem Tls.lift {K : PySem.W.Frag} {c : Cf} {B H : Hp} {d : List D} {v : List V} (h : Tls K c.z H d v) : Tls K (c.at' B) H d v := by
  have := Tls.re (ct := c.z) (ct' := c.at' B) (p := fun _ => true) (g := id) ⟨rfl, fun t a o _ q => by cases t with
    | true => exact absurd q (by simp [Ct.lo, Cf.z])
    | false => exact q⟩ (okPs_all d) h
  rwa [reDs_id] at this
theorem Tls.down {K : PySem.W.Frag} {c : Cf} {B H : Hp} {tm : Bool} {d : List D} {v : List V} (h : Tls K ⟨c, B, tm⟩ H d v) (n : nts d = true) : Tls K c.z H d v := by
  have := Tls.re (ct := ⟨c, B, tm⟩) (ct' := c.z) (p := fun t => !t) (g := id) ⟨rfl, fun t a o p q => by cases t with
    | true => cases p
    | false => exact q⟩ (by rw [okPs_nt]; exact n) h
  rwa [reDs_id] at this
theorem Tls.lent {K : PySem.W.Frag} {ct : Ct} {c' : Cf} {H : Hp} {d : List D} {v : List V} (e : c'.cb = ct.f.cb) (eL : c'.L = H) (l : Same ct.f.L H) (b : Same ct.B H) (h : Tls K ct H d v) : Tls K c'.z H (dns d) v := by
  have := Tls.re (ct := ct) (ct' := c'.z) (p := fun _ => true) (g := fun _ => false) ⟨e, fun t a o _ q => by
    show c'.L a = some o
    rw [eL]
    cases t with
    | true => exact b a o q
    | false => exact l a o q⟩ (okPs_all d) h
  rwa [reDs_dn] at this
theorem Tls.length {K : PySem.W.Frag} {ct : Ct} {H : Hp} : ∀ {ds : List D} {vs : List V}, Tls K ct H ds vs → ds.length = vs.length
  | [], _, h => by simp only [Tls] at h; rw [h]; rfl
  | d :: ds, _, h => by
    simp only [Tls] at h
    obtain ⟨v, r, rfl, _, h⟩ := h
    simp [Tls.length h]
theorem Tls.get {K : PySem.W.Frag} {ct : Ct} {H : Hp} : ∀ {ds : List D} {vs : List V} {i : Nat} {d : D}, Tls K ct H ds vs → ds[i]? = some d → ∃ v, vs[i]? = some v ∧ Tl K ct H d v
  | [], _, _, _, _, e => by simp at e
  | d :: ds, _, i, d', h, e => by
    simp only [Tls] at h
    obtain ⟨v, r, rfl, h1, h2⟩ := h
    cases i with
    | zero => simp at e; subst e; exact ⟨v, rfl, h1⟩
    | succ i => exact Tls.get (i := i) h2 (by simpa using e)
theorem Tls.get' {K : PySem.W.Frag} {ct : Ct} {H : Hp} : ∀ {ds : List D} {vs : List V} {i : Nat} {v : V}, Tls K ct H ds vs → vs[i]? = some v → ∃ d, ds[i]? = some d ∧ Tl K ct H d v
  | [], _, _, _, h, e => by simp only [Tls] at h; subst h; simp at e
  | d :: ds, _, i, v', h, e => by
    simp only [Tls] at h
    obtain ⟨v, r, rfl, h1, h2⟩ := h
    cases i with
    | zero => simp at e; subst e; exact ⟨d, rfl, h1⟩
    | succ i => exact Tls.get' (i := i) h2 (by simpa using e)
theorem Tls.nil {K : PySem.W.Frag} {ct : Ct} {H : Hp} : Tls K ct H [] [] := by simp [Tls]
theorem Tls.cons {K : PySem.W.Frag} {ct : Ct} {H : Hp} {d : D} {v : V} {ds : List D} {vs : List V} (h : Tl K ct H d v) (t : Tls K ct H ds vs) : Tls K ct H (d :: ds) (v :: vs) := by
  simp only [Tls]; exact ⟨v, vs, rfl, h, t⟩
theorem Tls.append {K : PySem.W.Frag} {ct : Ct} {H : Hp} : ∀ {ds es : List D} {vs us : List V}, Tls K ct H ds vs → Tls K ct H es us → Tls K ct H (ds ++ es) (vs ++ us)
  | [], _, _, _, h, t => by simp only [Tls] at h; subst h; simpa using t
  | d :: ds, _, _, _, h, t => by
    simp only [Tls] at h
    obtain ⟨v, r, rfl, h1, h2⟩ := h
    exact Tls.cons h1 (Tls.append h2 t)
theorem Tls.take {K : PySem.W.Frag} {ct : Ct} {H : Hp} : ∀ {ds : List D} {vs : List V} (n : Nat), Tls K ct H ds vs → Tls K ct H (ds.take n) (vs.take n)
  | [], _, n, h => by simp only [Tls] at h; subst h; simp [Tls]
  | d :: ds, _, 0, _ => by simp [Tls]
  | d :: ds, _, n + 1, h => by
    simp only [Tls] at h
    obtain ⟨v, r, rfl, h1, h2⟩ := h
    exact Tls.cons h1 (Tls.take n h2)
theorem Tls.drop {K : PySem.W.Frag} {ct : Ct} {H : Hp} : ∀ {ds : List D} {vs : List V} (n : Nat), Tls K ct H ds vs → Tls K ct H (ds.drop n) (vs.drop n)
  | [], _, n, h => by simp only [Tls] at h; subst h; simp [Tls]
  | d :: ds, _, 0, h => h
  | d :: ds, _, n + 1, h => by
    simp only [Tls] at h
    obtain ⟨v, r, rfl, h1, h2⟩ := h
    exact Tls.drop n h2
theorem Tls.set {K : PySem.W.Frag} {ct : Ct} {H : Hp} {d : D} {v : V} (q : Tl K ct H d v) : ∀ {ds : List D} {vs : List V} (n : Nat), Tls K ct H ds vs → Tls K ct H (ds.set n d) (vs.set n v)
  | [], _, n, h => by simp only [Tls] at h; subst h; simp [Tls]
  | _ :: ds, _, 0, h => by
    simp only [Tls] at h
    obtain ⟨w, r, rfl, _, h2⟩ := h
    exact Tls.cons q h2
  | _ :: ds, _, n + 1, h => by
    simp only [Tls] at h
    obtain ⟨w, r, rfl, h1, h2⟩ := h
    exact Tls.cons h1 (Tls.set q n h2)
end L4
end
section
set_option Elab.async false
set_option linter.all false
set_option maxRecDepth 100000
namespace L4
open PySem PySem.Spec PyProof.Rows L2
abbrev Fp := Addr → Prop
mutual
def Ow (K : PySem.W.Frag) (ct : Ct) (H : Hp) : M → V → Fp → Prop
  | .d x, v, _ => Tl K ct H x v
  | .l xs, v, S => ∃ a vs, v = .ref a ∧ S a ∧ H a = some (.lst vs) ∧ Tls K ct H xs vs
  | .n ms, v, S => ∃ a vs, v = .ref a ∧ S a ∧ H a = some (.lst vs) ∧ Ows K ct H ms vs fun b => S b ∧ b ≠ a
  | .t ms, v, S => ∃ a vs, v = .ref a ∧ H a = some (.tup vs) ∧ Ows K ct H ms vs S
  | .k ks xs, v, S => ∃ a vs, v = .ref a ∧ S a ∧ H a = some (ks.ho vs) ∧ ks.len = vs.length ∧ Tls K ct H xs vs
  | .o c ns xs, v, S => ∃ a C dx vs, v = .ref a ∧ S a ∧ ct.f.cb.ins c = some C ∧ H a = some (.ins C dx (ns.zip vs)) ∧ ns.length = vs.length ∧ Tls K ct H xs vs
def Ows (K : PySem.W.Frag) (ct : Ct) (H : Hp) : List M → List V → Fp → Prop
  | [], vs, _ => vs = []
  | m :: ms, vs, S => ∃ v r S1 S2, vs = v :: r ∧ (∀ b, S1 b → S b) ∧ (∀ b, S2 b → S b) ∧ (∀ b, S1 b → ¬ S2 b) ∧ Ow K ct H m v S1 ∧ Ows K ct H ms r S2
end
section
variable {K : PySem.W.Frag} {ct ct' : Ct} {H H' : Hp}
mutual
/-- a wider place -/
theorem Ow.wide : ∀ {m : M} {v : V} {S T : Fp}, (∀ b, S b → T b) → Ow K ct H m v S → Ow K ct H m v T
  | .d x, v, S, T, _, h => by simpa [Ow] using h
  | .l xs, v, S, T, k, h => by
    simp only [Ow] at h ⊢
    obtain ⟨a, vs, h1, h2, h3⟩ := h
    exact ⟨a, vs, h1, k _ h2, h3⟩
  | .n ms, v, S, T, k, h => by
    simp only [Ow] at h ⊢
    obtain ⟨a, vs, h1, h2, h3, h4⟩ := h
    exact ⟨a, vs, h1, k _ h2, h3, Ows.wide (fun b z => ⟨k b z.1, z.2⟩) h4⟩
  | .t ms, v, S, T, k, h => by
    simp only [Ow] at h ⊢
    obtain ⟨a, vs, h1, h2, h3⟩ := h
    exact ⟨a, vs, h1, h2, Ows.wide k h3⟩
  | .k ks xs, v, S, T, k, h => by
    simp only [Ow] at h ⊢
    obtain ⟨a, vs, h1, h2, h3⟩ := h
    exact ⟨a, vs, h1, k _ h2, h3⟩
  | .o c ns xs, v, S, T, k, h => by
    simp only [Ow] at h ⊢
    obtain ⟨a, C, dx, vs, h1, h2, h3⟩ := h
    exact ⟨a, C, dx, vs, h1, k _ h2, h3⟩
theorem Ows.wide : ∀ {ms : List M} {vs : List V} {S T : Fp}, (∀ b, S b → T b) → Ows K ct H ms vs S → Ows K ct H ms vs T
  | [], vs, S, T, _, h => by simpa [Ows] using h
  | m :: ms, vs, S, T, k, h => by
    simp only [Ows] at h ⊢
    obtain ⟨v, r, S1, S2, h1, h2, h3, h4, h5, h6⟩ := h
    exact ⟨v, r, S1, S2, h1, fun b z => k b (h2 b z), fun b z => k b (h3 b z), h4, h5, h6⟩
end
mutual
/-- its places are untouched, the data are kept -/
theorem Ow.frame (e : Keep ct.f.cb H H') : ∀ {m : M} {v : V} {S : Fp}, (∀ b o, S b → H b = some o → H' b = some o) → Ow K ct H m v S → Ow K ct H' m v S
  | .d x, v, S, _, h => by simp only [Ow] at h ⊢; exact h.keep e
  | .l xs, v, S, k, h => by
    simp only [Ow] at h ⊢
    obtain ⟨a, vs, h1, h2, h3, h4⟩ := h
    exact ⟨a, vs, h1, h2, k _ _ h2 h3, h4.keep e⟩
  | .n ms, v, S, k, h => by
    simp only [Ow] at h ⊢
    obtain ⟨a, vs, h1, h2, h3, h4⟩ := h
    exact ⟨a, vs, h1, h2, k _ _ h2 h3, Ows.frame e (fun b o z => k b o z.1) h4⟩
  | .t ms, v, S, k, h => by
    simp only [Ow] at h ⊢
    obtain ⟨a, vs, h1, h2, h3⟩ := h
    exact ⟨a, vs, h1, e _ _ h2 trivial, Ows.frame e k h3⟩
  | .k ks xs, v, S, k, h => by
    simp only [Ow] at h ⊢
    obtain ⟨a, vs, h1, h2, h3, h4, h5⟩ := h
    exact ⟨a, vs, h1, h2, k _ _ h2 h3, h4, h5.keep e⟩
  | .o c ns xs, v, S, k, h => by
    simp only [Ow] at h ⊢
    obtain ⟨a, C, dx, vs, h1, h2, h3, h4, h5, h6⟩ := h
    exact ⟨a, C, dx, vs, h1, h2, h3, k _ _ h2 h4, h5, h6.keep e⟩
theorem Ows.frame (e : Keep ct.f.cb H H') : ∀ {ms : List M} {vs : List V} {S : Fp}, (∀ b o, S b → H b = some o → H' b = some o) → Ows K ct H ms vs S → Ows K ct H' ms vs S
  | [], vs, S, _, h => by simpa [Ows] using h
  | m :: ms, vs, S, k, h => by
    simp only [Ows] at h ⊢
    obtain ⟨v, r, S1, S2, h1, h2, h3, h4, h5, h6⟩ := h
    exact ⟨v, r, S1, S2, h1, h2, h3, h4, Ow.frame e (fun b o z => k b o (h2 b z)) h5, Ows.frame e (fun b o z => k b o (h3 b z)) h6⟩
end
mutual
/-- lent for an expression -/
theorem Ow.lend : ∀ {m : M} {v : V} {S : Fp}, (∀ b, S b → ct.B b = H b) → Ow K ct H m v S → Tl K ct H (lend m) v
  | .d x, v, S, _, h => by simpa only [Ow, L4.lend] using h
  | .l xs, v, S, k, h => by
    simp only [Ow, L4.lend, Tl] at h ⊢
    obtain ⟨a, vs, h1, h2, h3, h4⟩ := h
    exact ⟨a, vs, h1, (k a h2).trans h3, h4⟩
  | .n ms, v, S, k, h => by
    simp only [Ow, L4.lend, Tl] at h ⊢
    obtain ⟨a, vs, h1, h2, h3, h4⟩ := h
    exact ⟨a, vs, h1, (k a h2).trans h3, Ows.lend (fun b z => k b z.1) h4⟩
  | .t ms, v, S, k, h => by
    simp only [Ow, L4.lend, Tl] at h ⊢
    obtain ⟨a, vs, h1, h2, h3⟩ := h
    exact ⟨a, vs, h1, h2, Ows.lend k h3⟩
  | .k ks xs, v, S, k, h => by
    simp only [Ow, L4.lend, Tl] at h ⊢
    obtain ⟨a, vs, h1, h2, h3, h4, h5⟩ := h
    exact ⟨a, vs, h1, (k a h2).trans h3, h4, h5⟩
  | .o c ns xs, v, S, k, h => by
    simp only [Ow, L4.lend, Tl] at h ⊢
    obtain ⟨a, C, dx, vs, h1, h2, h3, h4, h5, h6⟩ := h
    exact ⟨a, C, dx, vs, h1, h3, (k a h2).trans h4, h5, h6⟩
theorem Ows.lend : ∀ {ms : List M} {vs : List V} {S : Fp}, (∀ b, S b → ct.B b = H b) → Ows K ct H ms vs S → Tls K ct H (lends ms) vs
  | [], vs, S, _, h => by simpa [Ows, L4.lends, Tls] using h
  | m :: ms, vs, S, k, h => by
    simp only [Ows, L4.lends, Tls] at h ⊢
    obtain ⟨v, r, S1, S2, h1, h2, h3, h4, h5, h6⟩ := h
    exact ⟨v, r, h1, Ow.lend (fun b z => k b (h2 b z)) h5, Ows.lend (fun b z => k b (h3 b z)) h6⟩
end
mutual
/-- the data in it told otherwise -/
theorem Ow.map {p : D → Bool} (ec : ct'.f.cb = ct.f.cb) (g : ∀ d v, p d = true → Tl K ct H d v → Tl K ct' H d v) {q : List D → Bool} (gs : ∀ d v, q d = true → Tls K ct H d v → Tls K ct' H d v) {pm : M → Bool} {pms : List M → Bool}
    (e1 : ∀ x, pm (.d x) = true → p x = true) (e2 : ∀ x, pm (.l x) = true → q x = true) (e3 : ∀ x, pm (.n x) = true → pms x = true) (e4 : ∀ x, pm (.t x) = true → pms x = true) (e5 : ∀ k x, pm (.k k x) = true → q x = true) (e7 : ∀ c k x, pm (.o c k x) = true → q x = true)
    (e6 : ∀ m ms, pms (m :: ms) = true → pm m = true ∧ pms ms = true) : ∀ {m : M} {v : V} {S : Fp}, pm m = true → Ow K ct H m v S → Ow K ct' H m v S
  | .d x, v, S, z, h => by simp only [Ow] at h ⊢; exact g _ _ (e1 _ z) h
  | .l xs, v, S, z, h => by
    simp only [Ow] at h ⊢
    obtain ⟨a, vs, h1, h2, h3, h4⟩ := h
    exact ⟨a, vs, h1, h2, h3, gs _ _ (e2 _ z) h4⟩
  | .n ms, v, S, z, h => by
    simp only [Ow] at h ⊢
    obtain ⟨a, vs, h1, h2, h3, h4⟩ := h
    exact ⟨a, vs, h1, h2, h3, Ows.map ec g gs e1 e2 e3 e4 e5 e7 e6 (e3 _ z) h4⟩
  | .t ms, v, S, z, h => by
    simp only [Ow] at h ⊢
    obtain ⟨a, vs, h1, h2, h3⟩ := h
    exact ⟨a, vs, h1, h2, Ows.map ec g gs e1 e2 e3 e4 e5 e7 e6 (e4 _ z) h3⟩
  | .k ks xs, v, S, z, h => by
    simp only [Ow] at h ⊢
    obtain ⟨a, vs, h1, h2, h3, h4, h5⟩ := h
    exact ⟨a, vs, h1, h2, h3, h4, gs _ _ (e5 _ _ z) h5⟩
  | .o c ns xs, v, S, z, h => by
    simp only [Ow] at h ⊢
    obtain ⟨a, C, dx, vs, h1, h2, h3, h4, h5, h6⟩ := h
    exact ⟨a, C, dx, vs, h1, h2, by rw [ec]; exact h3, h4, h5, gs _ _ (e7 _ _ _ z) h6⟩
theorem Ows.map {p : D → Bool} (ec : ct'.f.cb = ct.f.cb) (g : ∀ d v, p d = true → Tl K ct H d v → Tl K ct' H d v) {q : List D → Bool} (gs : ∀ d v, q d = true → Tls K ct H d v → Tls K ct' H d v) {pm : M → Bool} {pms : List M → Bool}
    (e1 : ∀ x, pm (.d x) = true → p x = true) (e2 : ∀ x, pm (.l x) = true → q x = true) (e3 : ∀ x, pm (.n x) = true → pms x = true) (e4 : ∀ x, pm (.t x) = true → pms x = true) (e5 : ∀ k x, pm (.k k x) = true → q x = true) (e7 : ∀ c k x, pm (.o c k x) = true → q x = true)
    (e6 : ∀ m ms, pms (m :: ms) = true → pm m = true ∧ pms ms = true) : ∀ {ms : List M} {vs : List V} {S : Fp}, pms ms = true → Ows K ct H ms vs S → Ows K ct' H ms vs S
  | [], vs, S, _, h => by simpa [Ows] using h
  | m :: ms, vs, S, z, h => by
    simp only [Ows] at h ⊢
    obtain ⟨v, r, S1, S2, h1, h2, h3, h4, h5, h6⟩ := h
    exact ⟨v, r, S1, S2, h1, h2, h3, h4, Ow.map ec g gs e1 e2 e3 e4 e5 e7 e6 (e6 _ _ z).1 h5, Ows.map ec g gs e1 e2 e3 e4 e5 e7 e6 (e6 _ _ z).2 h6⟩
end
end
section
variable {K : PySem.W.Frag} {c : Cf} {B H : Hp} {m : M} {v : V} {S : Fp}
theorem Ow.lift (h : Ow K c.z H m v S) : Ow K (c.at' B) H m v S :=
  Ow.map (ct := c.z) (ct' := c.at' B) (p := fun _ => true) rfl (fun _ _ _ => Tl.lift) (q := fun _ => true) (fun _ _ _ => Tls.lift) (pm := fun _ => true) (pms := fun _ => true) (fun _ _ => rfl) (fun _ _ => rfl) (fun _ _ => rfl) (fun _ _ => rfl) (fun _ _ _ => rfl) (fun _ _ _ _ => rfl) (fun _ _ _ => ⟨rfl, rfl⟩) rfl h
theorem Ow.down {tm : Bool} (h : Ow K ⟨c, B, tm⟩ H m v S) (n : ntM m = true) : Ow K c.z H m v S :=
  Ow.map (ct := ⟨c, B, tm⟩) (ct' := c.z) (p := nt) rfl (fun _ _ n h => h.down n) (q := nts) (fun _ _ n h => h.down n) (pm := ntM) (pms := ntMs) (fun _ z => by simpa [ntM] using z) (fun _ z => by simpa [ntM] using z) (fun _ z => by simpa [ntM] using z) (fun _ z => by simpa [ntM] using z) (fun _ _ z => by simpa [ntM] using z) (fun _ _ _ z => by simpa [ntM] using z)
    (fun _ _ z => by simpa [ntMs] using z) n h
theorem Ow.bare {ct ct' : Ct} (e : ct'.f.cb = ct.f.cb) (h : Ow K ct H m v S) (n : nbM m = true) : Ow K ct' H m v S :=
  Ow.map (p := nb) e (fun _ _ n h => h.bare e n) (q := nbs) (fun _ _ n h => h.bare e n) (pm := nbM) (pms := nbMs) (fun _ z => by simpa [nbM] using z) (fun _ z => by simpa [nbM] using z) (fun _ z => by simpa [nbM] using z) (fun _ z => by simpa [nbM] using z) (fun _ _ z => by simpa [nbM] using z) (fun _ _ _ z => by simpa [nbM] using z)
    (fun _ _ z => by simpa [nbMs] using z) n h
end
structure SOk (ct : Ct) (H₀ H : Hp) (S : Fp) : Prop where
  new : ∀ b, S b → H₀ b = none ∨ ct.f.io b
  here : ∀ b, S b → H b ≠ none
  notL : ∀ b, S b → ct.f.L b = none
  lent : ∀ b, S b → ct.tm = true → ct.B b = H b
def SlotOk (K : PySem.W.Frag) (ct : Ct) (H₀ H : Hp) (i : Nat) (S : Fp) : Slot → Option V → Prop
  | .no, _ => ∀ b, ¬ S b
  | .val d, ov => (∃ v, ov = some v ∧ Tl K ct H d v) ∧ ∀ b, ¬ S b
  | .own m, ov => ∃ v, ov = some v ∧ Ow K ct H m v S ∧ SOk ct H₀ H S ∧ ∀ b, S b → H₀ b = none
  | .par m, ov => ∃ v, ov = some v ∧ Ow K ct H m v S ∧ SOk ct H₀ H S ∧ ct.f.args[i]? = some v
structure J (K : PySem.W.Frag) (ct : Ct) (H₀ : Hp) (Γ : Sg) (σ : St) (H : Hp) : Prop where
  same : ∀ b o, H₀ b = some o → ¬ ct.f.io b → H b = some o
  free : ∀ b, H b = none → H₀ b = none
  lL : Same ct.f.L H
  lB : Same ct.B H
  len : Γ.length = σ.length
  sl : ∃ S : Nat → Fp, (∀ i sl ov, Γ[i]? = some sl → σ[i]? = some ov → SlotOk K ct H₀ H i (S i) sl ov) ∧ (∀ i j b, i ≠ j → S i b → ¬ S j b) ∧ ∀ i b, S i b → H b ≠ none
section
variable {K : PySem.W.Frag} {ct : Ct} {H₀ H H' : Hp} {Γ : Sg} {σ : St} {i : Nat} {S : Fp} {sl : Slot} {ov : Option V}
theorem SOk.same (h : SOk ct H₀ H S) (e : Same H H') : SOk ct H₀ H' S := ⟨h.new, fun b z q => h.here b z (by
    cases w : H b with
    | none => rfl
    | some o => rw [e b o w] at q; cases q), h.notL, fun b z t => by
  rw [h.lent b z t]
  cases w : H b with
  | none => exact absurd w (h.here b z)
  | some o => exact (e b o w).symm⟩
theorem SlotOk.same (h : SlotOk K ct H₀ H i S sl ov) (e : Same H H') : SlotOk K ct H₀ H' i S sl ov := by
  cases sl with
  | no => exact h
  | val d => obtain ⟨⟨v, h1, h2⟩, h3⟩ := h; exact ⟨⟨v, h1, h2.keep (Same.keep e)⟩, h3⟩
  | own m => obtain ⟨v, h1, h2, h3, h4⟩ := h; exact ⟨v, h1, h2.frame (Same.keep e) (fun b o _ q => e b o q), h3.same e, h4⟩
  | par m => obtain ⟨v, h1, h2, h3, h4⟩ := h; exact ⟨v, h1, h2.frame (Same.keep e) (fun b o _ q => e b o q), h3.same e, h4⟩
theorem J.mono (j : J K ct H₀ Γ σ H) (e : Same H H') : J K ct H₀ Γ σ H' := by
  obtain ⟨S, h1, h2, h3⟩ := j.sl
  exact ⟨fun b o q n => e b o (j.same b o q n), fun b q => j.free b (e.free q), j.lL.trans e, j.lB.trans e, j.len, S, fun i sl ov g1 g2 => (h1 i sl ov g1 g2).same e, h2, fun i b w q => h3 i b w (e.free q)⟩
theorem J.get (j : J K ct H₀ Γ σ H) (h : Γ[i]? = some sl) : ∃ ov S, σ[i]? = some ov ∧ SlotOk K ct H₀ H i S sl ov := by
  have hi : i < σ.length := by rw [← j.len]; exact (List.getElem?_eq_some_iff.mp h).1
  obtain ⟨S, h1, h2⟩ := j.sl
  exact ⟨σ[i], S i, List.getElem?_eq_getElem hi, h1 i sl _ h (List.getElem?_eq_getElem hi)⟩
theorem J.val {d : D} (j : J K ct H₀ Γ σ H) (h : Γ[i]? = some (.val d)) : ∃ v, σ[i]? = some (some v) ∧ Tl K ct H d v := by
  obtain ⟨ov, S, h1, ⟨v, h2, h3⟩, _⟩ := j.get h
  exact ⟨v, by rw [h1, h2], h3⟩
theorem J.own {m : M} (j : J K ct H₀ Γ σ H) (h : Γ[i]? = some (.own m)) : ∃ v S, σ[i]? = some (some v) ∧ Ow K ct H m v S ∧ SOk ct H₀ H S ∧ ∀ b, S b → H₀ b = none := by
  obtain ⟨ov, S, h1, v, h2, h3⟩ := j.get h
  exact ⟨v, S, by rw [h1, h2], h3⟩
theorem J.par {m : M} (j : J K ct H₀ Γ σ H) (h : Γ[i]? = some (.par m)) : ∃ v S, σ[i]? = some (some v) ∧ Ow K ct H m v S ∧ SOk ct H₀ H S ∧ ct.f.args[i]? = some v := by
  obtain ⟨ov, S, h1, v, h2, h3⟩ := j.get h
  exact ⟨v, S, by rw [h1, h2], h3⟩
theorem J.lift {c : Cf} (j : J K c.z H₀ Γ σ H) : J K (c.at' H) H₀ Γ σ H := by
  obtain ⟨S, h1, h2⟩ := j.sl
  refine ⟨j.same, j.free, j.lL, Same.refl H, j.len, S, fun i sl ov g1 g2 => ?_, h2⟩
  have h := h1 i sl ov g1 g2
  cases sl with
  | no => exact h
  | val d => obtain ⟨⟨v, h1, h2⟩, h3⟩ := h; exact ⟨⟨v, h1, h2.lift⟩, h3⟩
  | own m => obtain ⟨v, h1, h2, h3, h4⟩ := h; exact ⟨v, h1, h2.lift, ⟨h3.new, h3.here, h3.notL, fun _ _ _ => rfl⟩, h4⟩
  | par m => obtain ⟨v, h1, h2, h3, h4⟩ := h; exact ⟨v, h1, h2.lift, ⟨h3.new, h3.here, h3.notL, fun _ _ _ => rfl⟩, h4⟩
theorem J.chg (j : J K ct H₀ Γ σ H) (i : Nat) : ∃ S : Fp, (∀ sl ov, Γ[i]? = some sl → σ[i]? = some ov → SlotOk K ct H₀ H i S sl ov) ∧
    ∀ (H' : Hp) (sl : Slot) (ov : Option V) (S' : Fp), Keep ct.f.cb H H' → (∀ b o, H b = some o → ¬ S b → H' b = some o) → (∀ b, H' b = none → H b = none) →
      Same ct.B H' → SlotOk K ct H₀ H' i S' sl ov → (∀ b, S' b → S b ∨ H b = none) → J K ct H₀ (Γ.set i sl) (σ.set i ov) H' := by
  obtain ⟨S, h1, h2, h3⟩ := j.sl
  by_cases hi : i < Γ.length
  · refine ⟨S i, fun sl ov g1 g2 => h1 i sl ov g1 g2, fun H' sl ov S' kp hs hf hB new hS' => ?_⟩
    have hiσ : i < σ.length := by rw [← j.len]; exact hi
    -- the places of i, if it has some
    have q := h1 i Γ[i] σ[i] (List.getElem?_eq_getElem hi) (List.getElem?_eq_getElem hiσ)
    have so : (∀ b, S i b → H₀ b = none ∨ ct.f.io b) ∧ ∀ b, S i b → ct.f.L b = none := by
      generalize Γ[i] = sl0 at q
      cases sl0 with
      | no => exact ⟨fun b z => absurd z (q b), fun b z => absurd z (q b)⟩
      | val d => exact ⟨fun b z => absurd z (q.2 b), fun b z => absurd z (q.2 b)⟩
      | own m => obtain ⟨v, _, _, h3, _⟩ := q; exact ⟨h3.new, h3.notL⟩
      | par m => obtain ⟨v, _, _, h3, _⟩ := q; exact ⟨h3.new, h3.notL⟩
    refine ⟨fun b o e n => ?_, fun b e => j.free b (hf b e), fun b o e => ?_, fun b o e => ?_, by simp [j.len], fun k => if k = i then S' else S k, fun k sl' ov' g1 g2 => ?_, fun k l b hkl => ?_, fun k b w => ?_⟩
    · have := j.same b o e n
      refine hs b o this fun z => ?_
      rcases so.1 b z with w | w
      · rw [w] at e; cases e
      · exact n w
    · exact hs b o (j.lL b o e) fun z => by rw [so.2 b z] at e; cases e
    · exact hB b o e
    · by_cases e : i = k
      · subst e
        rw [List.getElem?_set_self hi] at g1
        rw [List.getElem?_set_self hiσ] at g2
        cases g1; cases g2
        simpa using new
      · rw [List.getElem?_set_ne e] at g1 g2
        have ek : ¬ k = i := fun z => e z.symm
        simp only [ek, if_false]
        have z := h1 k sl' ov' g1 g2
        have un : ∀ b o, S k b → H b = some o → H' b = some o := fun b o w q => hs b o q fun w' => h2 k i b ek w w'
        have sok : SOk ct H₀ H (S k) → SOk ct H₀ H' (S k) := fun s => ⟨s.new, fun b w q => s.here b w (hf b q), s.notL, fun b w t => by
          rw [s.lent b w t]
          cases x : H b with
          | none => exact absurd x (s.here b w)
          | some o => exact (un b o w x).symm⟩
        cases sl' with
        | no => exact z
        | val d => obtain ⟨⟨v, z1, z2⟩, z3⟩ := z; exact ⟨⟨v, z1, z2.keep kp⟩, z3⟩
        | own m => obtain ⟨v, z1, z2, z3, z4⟩ := z; exact ⟨v, z1, z2.frame kp un, sok z3, z4⟩
        | par m => obtain ⟨v, z1, z2, z3, z4⟩ := z; exact ⟨v, z1, z2.frame kp un, sok z3, z4⟩
    · -- apart
      have far : ∀ l b, ¬ l = i → S' b → ¬ S l b := fun l b hl w w' => by
        rcases hS' b w with u | u
        · exact h2 l i b hl w' u
        · exact h3 l b w' u
      by_cases e1 : k = i
      · subst e1
        have e2 : ¬ l = k := fun z => hkl z.symm
        simp only [if_true, e2, if_false]
        exact far l b e2
      · by_cases e2 : l = i
        · subst e2
          simp only [e1, if_false, if_true]
          exact fun w w' => far k b e1 w' w
        · simp only [e1, e2, if_false]
          exact h2 k l b hkl
    · by_cases e : k = i
      · subst e
        simp only [if_true] at w
        cases sl with
        | no => exact absurd w (new b)
        | val d => exact absurd w (new.2 b)
        | own m => obtain ⟨v, _, _, z, _⟩ := new; exact z.here b w
        | par m => obtain ⟨v, _, _, z, _⟩ := new; exact z.here b w
      · simp only [e, if_false] at w
        exact fun q => h3 k b w (hf b q)
  · refine ⟨fun _ => False, fun sl ov g1 g2 => ?_, fun H' sl ov S' kp hs hf hB new hS' => ?_⟩
    · rw [List.getElem?_eq_none (Nat.le_of_not_lt hi)] at g1; cases g1
    · rw [List.set_eq_of_length_le (Nat.le_of_not_lt hi), List.set_eq_of_length_le (by rw [← j.len]; exact Nat.le_of_not_lt hi)]
      exact j.mono fun b o q => hs b o q fun z => z
theorem J.set {d : D} {v : V} (j : J K ct H₀ Γ σ H) (h : Tl K ct H d v) : J K ct H₀ (Γ.set i (.val d)) (σ.set i (some v)) H := by
  obtain ⟨S, _, h2⟩ := j.chg i
  exact h2 H _ _ (fun _ => False) (Keep.refl H) (fun _ _ q _ => q) (fun _ q => q) j.lB ⟨⟨v, rfl, h⟩, fun _ z => z⟩ fun _ z => z.elim
theorem J.unset (j : J K ct H₀ Γ σ H) : J K ct H₀ (Γ.set i .no) (σ.set i ov) H := by
  obtain ⟨S, _, h2⟩ := j.chg i
  exact h2 H _ _ (fun _ => False) (Keep.refl H) (fun _ _ q _ => q) (fun _ q => q) j.lB (fun _ z => z) fun _ z => z.elim
theorem J.setM {m : M} {v : V} {S' : Fp} (j : J K ct H₀ Γ σ H) (e : Same H H') (tm : ct.tm = false) (h : Ow K ct H' m v S') (new : ∀ b, S' b → H b = none) (here : ∀ b, S' b → H' b ≠ none) : J K ct H₀ (Γ.set i (.own m)) (σ.set i (some v)) H' := by
  obtain ⟨S, _, h2⟩ := j.chg i
  refine h2 H' _ _ S' (Same.keep e) (fun b o q _ => e b o q) (fun b q => e.free q) (j.lB.trans e) ⟨v, rfl, h, ⟨fun b z => .inl (j.free b (new b z)), here, fun b z => ?_, fun b z t => by rw [tm] at t; cases t⟩, fun b z => j.free b (new b z)⟩ fun b z => .inr (new b z)
  cases w : ct.f.L b with
  | none => rfl
  | some o => have := j.lL b o w; rw [new b z] at this; cases this
theorem J.weak {Γ1 : Sg} (j : J K ct H₀ Γ1 σ H) (hl : Γ1.length = Γ.length) (h : ∀ i : Nat, Γ[i]? = some .no ∨ Γ[i]? = Γ1[i]?) : J K ct H₀ Γ σ H := by
  obtain ⟨S, h1, h2, h3⟩ := j.sl
  refine ⟨j.same, j.free, j.lL, j.lB, by rw [← hl]; exact j.len, fun i b => S i b ∧ Γ[i]? = Γ1[i]? ∧ Γ[i]? ≠ some .no, fun i sl ov g1 g2 => ?_, fun i k b e w w' => h2 i k b e w.1 w'.1, fun i b w => h3 i b w.1⟩
  by_cases e : sl = .no
  · subst e; exact fun b w => w.2.2 g1
  · have e1 : Γ[i]? = Γ1[i]? := by
      rcases h i with z | z
      · rw [z] at g1; cases g1; exact absurd rfl e
      · exact z
    have q := h1 i sl ov (e1 ▸ g1) g2
    have eS : (fun b => S i b ∧ Γ[i]? = Γ1[i]? ∧ Γ[i]? ≠ some .no) = S i := funext fun b => propext ⟨fun w => w.1, fun w => ⟨w, e1, by rw [g1]; exact fun z => e (Option.some.inj z)⟩⟩
    show SlotOk K ct H₀ H i (fun b => S i b ∧ Γ[i]? = Γ1[i]? ∧ Γ[i]? ≠ some .no) sl ov
    rw [eS]; exact q
theorem J.touch (j : J K ct H₀ Γ σ H) (n : noML Γ) (k : Keep ct.f.cb H H') (s : ∀ b o, H₀ b = some o → ¬ ct.f.io b → H' b = some o) (f : ∀ b, H' b = none → H₀ b = none) (l : Same ct.f.L H') (b : Same ct.B H') : J K ct H₀ Γ σ H' := by
  obtain ⟨S, h1, h2, h3⟩ := j.sl
  refine ⟨s, f, l, b, j.len, fun _ _ => False, fun i sl ov g1 g2 => ?_, fun _ _ _ _ z => z.elim, fun _ _ z => z.elim⟩
  have q := h1 i sl ov g1 g2
  cases sl with
  | no => exact fun _ z => z
  | val d => obtain ⟨⟨v, q1, q2⟩, _⟩ := q; exact ⟨⟨v, q1, q2.keep k⟩, fun _ z => z⟩
  | own m => exact absurd g1 (n i m).1
  | par m => exact absurd g1 (n i m).2
theorem Tl.seqL {d : D} {v : V} {ds : List D} (l : Same ct.f.L H) (b : Same ct.B H) (h : Tl K ct H d v) (e : asL d = some ds) : ∃ a vs, v = .ref a ∧ SqL K H a vs ∧ Tls K ct H ds vs := by
  cases d with
  | lst xs =>
    cases e
    simp only [Tl] at h
    obtain ⟨a, vs, h1, h2, h3⟩ := h
    exact ⟨a, vs, h1, h2.sq, h3⟩
  | bor t xs =>
    cases e
    simp only [Tl] at h
    obtain ⟨a, vs, h1, h2, h3⟩ := h
    refine ⟨a, vs, h1, .inl (.inl ?_), h3⟩
    cases t with
    | true => exact b a _ h2
    | false => exact l a _ h2
  | _ => cases e
end
end L4
end
section
set_option Elab.async false
set_option linter.all false
set_option maxRecDepth 100000
namespace L4
open PySem PySem.Spec PyProof.Rows L2
def CX1 (P : Program) (w : World) : CXT := fun outer H s E e s' => ∃ (a C : Addr) (H' : Hp) (B : Heap) (a0 : Value), e = .ref a ∧ E (.ref C) none H' ∧ s'.os = s.os ∧ AllBare s'.gens ∧ Heap.FlyingW B outer a (.ref C) a0 s'.heap ∧
  H' a = none ∧ s.heap.get? a = none ∧ ∀ h' : Heap, B.StaysIn h' → s'.heap.UpToSlots h' → Un (frs outer) [] H H' s.heap h' ∧ HOk P w H' h'
def RaisedAt (X : Cx) (cb : Cb) (σ : St) (H : Hp) (c : String) (e : Value) (s' : Shared) : Prop :=
  ∃ (pins : List (Addr × Obj)) (H1 : Hp) (s1 : Shared) (C : Addr), Inv X pins σ H1 s1 ∧ Same H H1 ∧ cb.exc c = some C ∧
    ((∃ (a : Addr) (args : List Value) (h' : Heap), e = .ref a ∧ s' = { s1 with heap := h' } ∧ Heap.MadeExcOf s1.heap h' a (.ref C) args) ∨
     CX1 X.prog X.w X.stack H1 s1 (fun cls od H' => cls = .ref C ∧ od = none ∧ Same H1 H') e s')
theorem RaisedAt.mono {X : Cx} {cb : Cb} {σ : St} {H H2 : Hp} {c : String} {e : Value} {s' : Shared} (s : Same H H2) (h : RaisedAt X cb σ H2 c e s') : RaisedAt X cb σ H c e s' := by
  obtain ⟨pins, H1, s1, C, h1, h2, h3⟩ := h
  exact ⟨pins, H1, s1, C, h1, s.trans h2, h3⟩
def Ok {α : Type} (X : Cx) (ct : Ct) (σ : St) (H : Hp) (r : Res α) (W : α → Prop) : Prop := match r with
  | .ok d => W d
  | .err c => ∀ e s', RaisedAt X ct.f.cb σ H c e s' → X.xe e s'
  | .bad => False
theorem Ok.mono {α : Type} {X : Cx} {ct : Ct} {σ : St} {H H2 : Hp} {r : Res α} {W W' : α → Prop} (s : Same H H2) (h : Ok X ct σ H r W) (k : ∀ d, W d → W' d) : Ok X ct σ H2 r W' := by
  cases r with
  | ok d => exact k d h
  | err c => exact fun e s' q => h e s' (q.mono s)
  | bad => exact h
theorem Ok.bnd {α β : Type} {X : Cx} {ct : Ct} {σ : St} {H : Hp} {r : Res α} {f : α → Res β} {W : β → Prop} {W' : α → Prop} (h : Ok X ct σ H (r.bnd f) W) (k : ∀ d, r = .ok d → Ok X ct σ H (f d) W → W' d) : Ok X ct σ H r W' := by
  cases r with
  | ok d => exact k d rfl h
  | err c => exact h
  | bad => exact h
def Wd (X : Cx) (ct : Ct) (H : Hp) (Q : VK) (d : D) : Prop := ∀ v H', Same H H' → Tl X.K ct H' d v → Q v H'
def Wl (X : Cx) (ct : Ct) (H : Hp) (Q : VK) (ds : List D) : Prop := ∀ a vs H', Same H H' → H a = none → H' a = some (.lst vs) → Tls X.K ct H' ds vs → Q (.ref a) H'
def Wm (X : Cx) (ct : Ct) (H : Hp) (Q : VK) (m : M) : Prop := ∀ v H' S, Same H H' → Ow X.K ct H' m v S → (∀ b, S b → H b = none) → (∀ b, S b → H' b ≠ none) → Q v H'
def Wt (H : Hp) (Q : Bool → Hp → Prop) (b : Bool) : Prop := ∀ H', Same H H' → Q b H'
def Wa (X : Cx) (ct : Ct) (H : Hp) (Q : List V → Hp → Prop) (ds : List D) : Prop := ∀ vs H', Same H H' → Tls X.K ct H' ds vs → Q vs H'
abbrev Jx (X : Cx) (ct : Ct) (Γ : Sg) (σ : St) (H : Hp) : Prop := J X.K ct X.H₀ Γ σ H
def eOf (X : Cx) (ct : Ct) (f : Sg → Res D) : TE := fun σ H Q => ∃ Γ, Jx X ct Γ σ H ∧ Ok X ct σ H (f Γ) (Wd X ct H Q)
def lOf (X : Cx) (ct : Ct) (f : Sg → Res (List D)) : TE := fun σ H Q => ∃ Γ, Jx X ct Γ σ H ∧ Ok X ct σ H (f Γ) (Wl X ct H Q)
def mOf (X : Cx) (ct : Ct) (f : Sg → Res M) : TE := fun σ H Q => ∃ Γ, Jx X ct Γ σ H ∧ Ok X ct σ H (f Γ) (Wm X ct H Q)
def cOf (X : Cx) (ct : Ct) (f : Sg → Res Bool) : TT := fun σ H Q => ∃ Γ, Jx X ct Γ σ H ∧ Ok X ct σ H (f Γ) (Wt H Q)
def aOf (X : Cx) (ct : Ct) (f : Sg → Res (List D)) : TA := fun σ H Q => ∃ Γ, Jx X ct Γ σ H ∧ Ok X ct σ H (f Γ) (Wa X ct H Q)
abbrev PD (X : Cx) (ct : Ct) (e : Expr) (f : Sg → Res D) : Prop := PE X e (eOf X ct f)
abbrev PL (X : Cx) (ct : Ct) (e : Expr) (f : Sg → Res (List D)) : Prop := PE X e (lOf X ct f)
abbrev PM (X : Cx) (ct : Ct) (e : Expr) (f : Sg → Res M) : Prop := PE X e (mOf X ct f)
abbrev PDT (X : Cx) (ct : Ct) (e : Expr) (f : Sg → Res Bool) : Prop := PT X e (cOf X ct f)
abbrev PDW (X : Cx) (ct : Ct) (e : Expr) (f : Sg → Res Bool) : Prop := PW X e (cOf X ct f)
abbrev PDA (X : Cx) (ct : Ct) (es : List Expr) (f : Sg → Res (List D)) : Prop := PA X es (aOf X ct f)
structure Bk (X : Cx) (c : Cf) (H' : Hp) : Prop where
  same : ∀ b o, X.H₀ b = some o → ¬ c.io b → H' b = some o
  free : ∀ b, H' b = none → X.H₀ b = none
theorem J.bk {X : Cx} {ct : Ct} {Γ : Sg} {σ : St} {H : Hp} (j : Jx X ct Γ σ H) : Bk X ct.f H := ⟨j.same, j.free⟩
def Fn (X : Cx) (c : Cf) (H : Hp) (o : Out) (E : Ends) : Prop := match o with
  | .nx Γ => ∀ σ' H', Keep c.cb H H' → Jx X c.z Γ σ' H' → E.nx σ' H'
  | .bk Γ => ∀ σ' H', Keep c.cb H H' → Jx X c.z Γ σ' H' → E.bk σ' H'
  | .ct Γ => ∀ σ' H', Keep c.cb H H' → Jx X c.z Γ σ' H' → E.ct σ' H'
  | .rt d => ∀ v H', Bk X c H' → Tl X.K c.z H' d v → E.rt v H'
  | .rtm m => ∀ v H' S, Bk X c H' → Ow X.K c.z H' m v S → (∀ b, S b → X.H₀ b = none) → (∀ b, S b → H' b ≠ none) → E.rt v H'
  | .rtG d Γ => ∀ v σ' H', Jx X c.z Γ σ' H' → Tl X.K c.z H' d v → E.rt v H'
  | .rtmG _ _ => False
  | .err x Γ => ∀ σ' H' e s', Keep c.cb H H' → Jx X c.z Γ σ' H' → RaisedAt X c.cb σ' H' x e s' → X.xe e s'
  | .bad => False
theorem Fn.mono {X : Cx} {c : Cf} {H H2 : Hp} {o : Out} {E : Ends} (k : Keep c.cb H H2) (h : Fn X c H o E) : Fn X c H2 o E := by
  cases o with
  | nx Γ => exact fun σ' H' e => h σ' H' (k.trans e)
  | bk Γ => exact fun σ' H' e => h σ' H' (k.trans e)
  | ct Γ => exact fun σ' H' e => h σ' H' (k.trans e)
  | rt d => exact h
  | rtm m => exact h
  | rtG d Γ => exact h
  | rtmG m Γ => exact h
  | err x Γ => exact fun σ' H' e s' q => h σ' H' e s' (k.trans q)
  | bad => exact h
def sOf (X : Cx) (c : Cf) (F : Sg → Out) : TS := fun E σ H => ∃ Γ, Jx X c.z Γ σ H ∧ Fn X c H (F Γ) E
abbrev PDS (X : Cx) (c : Cf) (st : Stmt) (F : Sg → Out) : Prop := PS X st (sOf X c F)
abbrev PDSs (X : Cx) (c : Cf) (sts : List Stmt) (F : Sg → Out) : Prop := PSs X sts (sOf X c F)
structure WE (X : Cx) (e : Expr) (t : TE) : Prop where
  out : PE X e t
structure WT (X : Cx) (e : Expr) (t : TT) : Prop where
  out : PT X e t
structure WW (X : Cx) (e : Expr) (t : TT) : Prop where
  out : PW X e t
structure WA (X : Cx) (es : List Expr) (t : TA) : Prop where
  out : PA X es t
structure WS (X : Cx) (st : Stmt) (t : TS) : Prop where
  out : PS X st t
structure WSs (X : Cx) (st : List Stmt) (t : TS) : Prop where
  out : PSs X st t
abbrev WD (X : Cx) (ct : Ct) (e : Expr) (f : Sg → Res D) : Prop := WE X e (eOf X ct f)
abbrev WL (X : Cx) (ct : Ct) (e : Expr) (f : Sg → Res (List D)) : Prop := WE X e (lOf X ct f)
abbrev WM (X : Cx) (ct : Ct) (e : Expr) (f : Sg → Res M) : Prop := WE X e (mOf X ct f)
abbrev WDT (X : Cx) (ct : Ct) (e : Expr) (f : Sg → Res Bool) : Prop := WT X e (cOf X ct f)
abbrev WDW (X : Cx) (ct : Ct) (e : Expr) (f : Sg → Res Bool) : Prop := WW X e (cOf X ct f)
abbrev WDA (X : Cx) (ct : Ct) (es : List Expr) (f : Sg → Res (List D)) : Prop := WA X es (aOf X ct f)
abbrev WDS (X : Cx) (c : Cf) (st : Stmt) (F : Sg → Out) : Prop := WS X st (sOf X c F)
abbrev WDSs (X : Cx) (c : Cf) (sts : List Stmt) (F : Sg → Out) : Prop := WSs X sts (sOf X c F)
section
variable {X : Cx} {ct : Ct} {a b e : Expr} {f g : Sg → Res D} {H : Hp} {Γ : Sg} {σ : St} {pos : Pos}
theorem PE.imp {t u : TE} (h : PE X e t) (k : ∀ σ H Q, u σ H Q → t σ H Q) : PE X e u := fun pins s σ H Q I q => h pins s σ H Q I (k σ H Q q)
theorem PT.imp {t u : TT} (h : PT X e t) (k : ∀ σ H Q, u σ H Q → t σ H Q) : PT X e u := fun pins s σ H Q I q => h pins s σ H Q I (k σ H Q q)
theorem PW.imp {t u : TT} (h : PW X e t) (k : ∀ σ H Q, u σ H Q → t σ H Q) : PW X e u := fun wh pins s σ H Q I q => h wh pins s σ H Q I (k σ H Q q)
theorem PA.imp {es : List Expr} {t u : TA} (h : PA X es t) (k : ∀ σ H Q, u σ H Q → t σ H Q) : PA X es u := fun pos pins s σ H Q I q => h pos pins s σ H Q I (k σ H Q q)
theorem PS.imp {st : Stmt} {t u : TS} (h : PS X st t) (k : ∀ E σ H, u E σ H → t E σ H) : PS X st u := fun pins s σ H E I q => h pins s σ H E I (k E σ H q)
theorem PSs.imp {st : List Stmt} {t u : TS} (h : PSs X st t) (k : ∀ E σ H, u E σ H → t E σ H) : PSs X st u := fun pins s σ H E I q => h pins s σ H E I (k E σ H q)
theorem eOf.bnd {β : Type} {r : D → Res β} {W : β → Prop} {Q : VK} (j : Jx X ct Γ σ H) (h : Ok X ct σ H ((f Γ).bnd r) W)
    (k : ∀ d v H', Same H H' → Tl X.K ct H' d v → Jx X ct Γ σ H' → Ok X ct σ H (r d) W → Q v H') : eOf X ct f σ H Q :=
  ⟨Γ, j, h.bnd fun d _ q v H' s t => k d v H' s t (j.mono s) q⟩
theorem aOf.bnd {fa : Sg → Res (List D)} {β : Type} {r : List D → Res β} {W : β → Prop} {Q : List V → Hp → Prop} (j : Jx X ct Γ σ H) (h : Ok X ct σ H ((fa Γ).bnd r) W)
    (k : ∀ d v H', Same H H' → Tls X.K ct H' d v → Jx X ct Γ σ H' → Ok X ct σ H (r d) W → Q v H') : aOf X ct fa σ H Q :=
  ⟨Γ, j, h.bnd fun d _ q v H' s t => k d v H' s t (j.mono s) q⟩
theorem cOf.bnd {fa : Sg → Res Bool} {β : Type} {r : Bool → Res β} {W : β → Prop} {Q : Bool → Hp → Prop} (j : Jx X ct Γ σ H) (h : Ok X ct σ H ((fa Γ).bnd r) W)
    (k : ∀ d H', Same H H' → Jx X ct Γ σ H' → Ok X ct σ H (r d) W → Q d H') : cOf X ct fa σ H Q :=
  ⟨Γ, j, h.bnd fun d _ q H' s => k d H' s (j.mono s) q⟩
theorem Wd.mono {H2 : Hp} {Q : VK} {d : D} (s : Same H H2) (h : Wd X ct H Q d) : Wd X ct H2 Q d := fun v H' e t => h v H' (s.trans e) t
theorem Wl.mono {H2 : Hp} {Q : VK} {d : List D} (s : Same H H2) (h : Wl X ct H Q d) : Wl X ct H2 Q d := fun a vs H' e n t => h a vs H' (s.trans e) (s.free n) t
theorem Wa.mono {H2 : Hp} {Q : List V → Hp → Prop} {d : List D} (s : Same H H2) (h : Wa X ct H Q d) : Wa X ct H2 Q d := fun v H' e t => h v H' (s.trans e) t
theorem Wt.mono {H2 : Hp} {Q : Bool → Hp → Prop} {d : Bool} (s : Same H H2) (h : Wt H Q d) : Wt H2 Q d := fun H' e => h H' (s.trans e)
theorem pd_var (i : Nat) {x : Str} {pos : Pos} (hN : X.N[i]? = some x := by rfl) (hv : Vis X.env.scope x := by first | exact Or.inl rfl | exact Or.inr (Or.inl rfl) | exact Or.inr (Or.inr rfl)) (hd : (x == ("__debug__" : Str)) = false := by decide)
    (hcd : (x == ("__classdict__" : Str)) = false := by decide) : PD X ct (.Name x pos) (dVar i) := by
  refine PE.imp (pe_var hN hv hd hcd) fun σ H Q ⟨Γ, j, h⟩ => ?_
  unfold dVar at h
  split at h
  · rename_i d hd'
    obtain ⟨v, h1, h2⟩ := j.val hd'
    exact ⟨v, h1, h v H (Same.refl H) h2⟩
  · exact h.elim
theorem wd_var (i : Nat) {x : Str} {pos : Pos} (hN : X.N[i]? = some x := by rfl) (hv : Vis X.env.scope x := by first | exact Or.inl rfl | exact Or.inr (Or.inl rfl) | exact Or.inr (Or.inr rfl)) (hd : (x == ("__debug__" : Str)) = false := by decide) (hcd : (x == ("__classdict__" : Str)) = false := by decide) : WD X ct (.Name x pos) (dVar i) := ⟨pd_var (i := i) (hN := hN) (hv := hv) (hd := hd) (hcd := hcd)⟩
theorem pd_varO (i : Nat) {x : Str} {pos : Pos} (tm : ct.tm = true := by rfl) (hN : X.N[i]? = some x := by rfl) (hv : Vis X.env.scope x := by first | exact Or.inl rfl | exact Or.inr (Or.inl rfl) | exact Or.inr (Or.inr rfl)) (hd : (x == ("__debug__" : Str)) = false := by decide)
    (hcd : (x == ("__classdict__" : Str)) = false := by decide) : PD X ct (.Name x pos) (dVarO i) := by
  refine PE.imp (pe_var hN hv hd hcd) fun σ H Q ⟨Γ, j, h⟩ => ?_
  unfold dVarO at h
  split at h
  · rename_i d hd'
    obtain ⟨v, h1, h2⟩ := j.val hd'
    exact ⟨v, h1, h v H (Same.refl H) h2⟩
  · rename_i m hm
    obtain ⟨v, S, h1, h2, h3, _⟩ := j.own hm
    exact ⟨v, h1, h v H (Same.refl H) (h2.lend fun b z => h3.lent b z tm)⟩
  · rename_i m hm
    obtain ⟨v, S, h1, h2, h3, _⟩ := j.par hm
    exact ⟨v, h1, h v H (Same.refl H) (h2.lend fun b z => h3.lent b z tm)⟩
  · exact h.elim
theorem wd_varO (i : Nat) {x : Str} {pos : Pos} (tm : ct.tm = true := by rfl) (hN : X.N[i]? = some x := by rfl) (hv : Vis X.env.scope x := by first | exact Or.inl rfl | exact Or.inr (Or.inl rfl) | exact Or.inr (Or.inr rfl)) (hd : (x == ("__debug__" : Str)) = false := by decide) (hcd : (x == ("__classdict__" : Str)) = false := by decide) : WD X ct (.Name x pos) (dVarO i) := ⟨pd_varO (i := i) (tm := tm) (hN := hN) (hv := hv) (hd := hd) (hcd := hcd)⟩
theorem pd_int {i k pos} : PD X ct (.Constant (.int i) k pos) (dC (.int i)) := PE.imp pe_int fun σ H Q ⟨Γ, j, h⟩ => h _ H (Same.refl H) (by simp [Tl])
theorem wd_int {i k pos} : WD X ct (.Constant (.int i) k pos) (dC (.int i)) := ⟨pd_int⟩
theorem pd_bl {b k pos} : PD X ct (.Constant (.bool b) k pos) (dC (.bl b)) := PE.imp pe_bl fun σ H Q ⟨Γ, j, h⟩ => h _ H (Same.refl H) (by simp [Tl])
theorem wd_bl {b k pos} : WD X ct (.Constant (.bool b) k pos) (dC (.bl b)) := ⟨pd_bl⟩
theorem pd_str {x k pos} : PD X ct (.Constant (.str x) k pos) (dC (.str x)) := PE.imp pe_str fun σ H Q ⟨Γ, j, h⟩ => h _ H (Same.refl H) (by simp [Tl])
theorem wd_str {x k pos} : WD X ct (.Constant (.str x) k pos) (dC (.str x)) := ⟨pd_str⟩
theorem pd_glob {x : Str} {d : D} {v : V} {u : Value} {pos : Pos} (hg : Gl X x) (hm : X.mg x = some u) (r : RelV v u) (t : ∀ H, Tl X.K ct H d v) (hd : (x == ("__debug__" : Str)) = false := by decide) : PD X ct (.Name x pos) (dC d) :=
  PE.imp (pe_glob hg hm r hd) fun σ H Q ⟨Γ, j, h⟩ => h _ H (Same.refl H) (t H)
def Op2 (X : Cx) (ct : Ct) (r2 : R2) (r : D → D → Res D) : Prop :=
  ∀ (σ : St) (H : Hp) (x y : V) (d1 d2 : D) (Q : VK), Same ct.f.L H → Same ct.B H → Tl X.K ct H d1 x → Tl X.K ct H d2 y → Ok X ct σ H (r d1 d2) (Wd X ct H Q) → r2 x y H Q
theorem op2_of {r2 : R2} {r : D → D → Res D} (ho : Op2 X ct r2 r) : ∀ σ H Q, eOf X ct (dOp r f g) σ H Q → tOp r2 (eOf X ct f) (eOf X ct g) σ H Q := by
  rintro σ H Q ⟨Γ, j, h⟩
  refine eOf.bnd j h fun d1 v H1 s1 t1 j1 h1 => ?_
  refine eOf.bnd (W := Wd X ct H Q) j1 (Ok.mono s1 h1 fun _ z => z) fun d2 u H2 s2 t2 j2 h2 => ?_
  exact ho σ H2 v u d1 d2 Q j2.lL j2.lB (t1.keep (Same.keep s2)) t2 (Ok.mono s2 h2 fun d q => q.mono (s1.trans s2))
theorem pd_op {op : Operator} {r2 : R2} {r : D → D → Res D} (hr : OpR X (binaryOp op) r2) (ho : Op2 X ct r2 r) (ha : PD X ct a f) (hb : PD X ct b g) : PD X ct (.BinOp a op b pos) (dOp r f g) :=
  PE.imp (pe_op hr ha hb) (op2_of ho)
theorem pd_cmp {op : CmpOp} {r2 : R2} {r : D → D → Res D} (hr : OpR X (compareOp op) r2) (ho : Op2 X ct r2 r) (ha : PD X ct a f) (hb : PD X ct b g) (hm : behindInMarks op b = false) : PD X ct (.Compare a [op] [b] pos) (dOp r f g) :=
  PE.imp (pe_cmpR hr ha hb hm) (op2_of ho)
theorem tst_of {t : TE} (k : ∀ σ H Q, eOf X ct f σ H Q → t σ H Q) : ∀ σ H Q, cOf X ct (dT f) σ H Q → tTest t σ H Q := by
  rintro σ H Q ⟨Γ, j, h⟩
  refine k σ H _ (eOf.bnd j h fun d v H' s t j' h' => ?_)
  cases d with
  | bl b => simp only [Tl] at t; exact ⟨b, t, h' H' s⟩
  | _ => exact h'.elim
theorem pdt_cmp {op : CmpOp} {r2 : R2} {r : D → D → Res D} (hr : OpR X (compareOp op) r2) (ho : Op2 X ct r2 r) (ha : PD X ct a f) (hb : PD X ct b g) (hm : behindInMarks op b = false) : PDT X ct (.Compare a [op] [b] pos) (dT (dOp r f g)) :=
  PT.imp (pt_cmpR hr ha hb hm) (tst_of (op2_of ho))
theorem pdt_val (ha : PD X ct e f) (he : ∀ whole, isTrue e X.env whole = (do let v ← whole; standAt e.pos; holding [v] (truthy v)) := by intro _; rfl) : PDT X ct e (dT f) := PT.imp (pt_val ha he) (tst_of fun _ _ _ z => z)
theorem wdt_val (ha : WD X ct e f) (he : ∀ whole, isTrue e X.env whole = (do let v ← whole; standAt e.pos; holding [v] (truthy v)) := by intro _; rfl) : WDT X ct e (dT f) := ⟨pdt_val (ha := ha.out) (he := he)⟩
theorem Tls.isEmpty {K : PySem.W.Frag} {ds : List D} {vs : List V} (h : Tls K ct H ds vs) : ds.isEmpty = vs.isEmpty := by
  have := h.length
  cases ds <;> cases vs <;> simp_all
variable {p q : Sg → Res Bool} {rest : List Expr}
theorem pdw_or1 (ha : PDT X ct a p) : PDW X ct (.BoolOp .Or [a] pos) p := pw_or1 ha
theorem wdw_or1 (ha : WDT X ct a p) : WDW X ct (.BoolOp .Or [a] pos) p := ⟨pdw_or1 (ha := ha.out)⟩
theorem pdw_or (ha : PDT X ct a p) (hb : PDW X ct (.BoolOp .Or (b :: rest) pos) q) : PDW X ct (.BoolOp .Or (a :: b :: rest) pos) (cOr p q) := by
  refine PW.imp (pw_or ha hb) fun σ H Q ⟨Γ, j, h⟩ => ?_
  refine cOf.bnd j h fun c H' s j' h' => ?_
  cases c with
  | true => exact iteT (h' H' s)
  | false => exact iteF ⟨Γ, j', Ok.mono s h' fun d z => z.mono s⟩
theorem wdw_or (ha : WDT X ct a p) (hb : WDW X ct (.BoolOp .Or (b :: rest) pos) q) : WDW X ct (.BoolOp .Or (a :: b :: rest) pos) (cOr p q) := ⟨pdw_or (ha := ha.out) (hb := hb.out)⟩
theorem pdt_w {e : Expr} (h : PDW X ct e p) : PDT X ct e p := h.pt
theorem wdt_w {e : Expr} (h : WDW X ct e p) : WDT X ct e p := ⟨pdt_w (h := h.out)⟩
theorem pdt_not (ha : PDT X ct a p) : PDT X ct (.UnaryOp .Not a pos) (cNot p) := by
  refine PT.imp (pt_not ha) fun σ H Q ⟨Γ, j, h⟩ => ?_
  exact cOf.bnd j h fun c H' s j' h' => h' H' s
theorem wdt_not (ha : WDT X ct a p) : WDT X ct (.UnaryOp .Not a pos) (cNot p) := ⟨pdt_not (ha := ha.out)⟩
theorem pd_one {op} (h : PD X ct a f) : PD X ct (.BoolOp op [a] pos) f := pe_one h
theorem wd_one {op} (h : WD X ct a f) : WD X ct (.BoolOp op [a] pos) f := ⟨pd_one (h := h.out)⟩
theorem pd_and (ha : PD X ct a f) (hb : PD X ct (.BoolOp .And (b :: rest) pos) g) : PD X ct (.BoolOp .And (a :: b :: rest) pos) (dAnd f g) := by
  refine PE.imp (pe_and ha hb) fun σ H Q ⟨Γ, j, h⟩ => ?_
  refine eOf.bnd j h fun d v H' s t j' h' => ?_
  cases d with
  | bl c =>
    simp only [Tl] at t
    refine ⟨c, t, ?_⟩
    cases c with
    | true => exact iteT ⟨Γ, j', Ok.mono s h' fun d z => z.mono s⟩
    | false => exact iteF (h' _ H' s (by simp [Tl]))
  | _ => exact h'.elim
theorem wd_and (ha : WD X ct a f) (hb : WD X ct (.BoolOp .And (b :: rest) pos) g) : WD X ct (.BoolOp .And (a :: b :: rest) pos) (dAnd f g) := ⟨pd_and (ha := ha.out) (hb := hb.out)⟩
theorem pd_not (ha : PD X ct a f) : PD X ct (.UnaryOp .Not a pos) (dNot f) := by
  refine PE.imp (pe_not ha) fun σ H Q ⟨Γ, j, h⟩ => ?_
  refine eOf.bnd j h fun d v H' s t j' h' => ?_
  cases d with
  | bl c => simp only [Tl] at t; exact ⟨c, t, h' _ H' s (by simp [Tl])⟩
  | _ => exact h'.elim
theorem wd_not (ha : WD X ct a f) : WD X ct (.UnaryOp .Not a pos) (dNot f) := ⟨pd_not (ha := ha.out)⟩
theorem pda_nil : PDA X ct [] dNil := PA.imp pa_nil fun σ H Q ⟨Γ, j, h⟩ => h [] H (Same.refl H) Tls.nil
theorem wda_nil  : WDA X ct [] dNil := ⟨pda_nil⟩
theorem pda_cons {es : List Expr} {r : Sg → Res (List D)} (ha : PD X ct e f) (hr : PDA X ct es r) (hs : starEach (e :: es) X.env = (false, eval e X.env) :: starEach es X.env := by rfl) : PDA X ct (e :: es) (dCons f r) := by
  refine PA.imp (pa_cons ha hr hs) fun σ H Q ⟨Γ, j, h⟩ => ?_
  refine eOf.bnd j h fun d v H1 s1 t1 j1 h1 => ?_
  refine aOf.bnd (W := Wa X ct H Q) j1 (Ok.mono s1 h1 fun _ z => z) fun ds vs H2 s2 t2 j2 h2 => ?_
  exact h2 _ H2 (s1.trans s2) (Tls.cons (t1.keep (Same.keep s2)) t2)
theorem wda_cons {es : List Expr} {r : Sg → Res (List D)} (ha : WD X ct e f) (hr : WDA X ct es r) (hs : starEach (e :: es) X.env = (false, eval e X.env) :: starEach es X.env := by rfl) : WDA X ct (e :: es) (dCons f r) := ⟨pda_cons (ha := ha.out) (hr := hr.out) (hs := hs)⟩
theorem same_new {H : Hp} {p : Addr} (h : H p = none) (o : HO) : Same H (upd H p o) := fun b u q => by rw [upd_ne (ne_of_none q h)]; exact q
theorem pd_tup {es : List Expr} {r : Sg → Res (List D)} {x1} (h : PDA X ct es r) : PD X ct (.Tuple es x1 pos) (dTup r) := by
  refine PE.imp (pe_tup h) fun σ H Q ⟨Γ, j, h⟩ => ?_
  refine aOf.bnd j h fun ds vs H1 s1 t1 j1 h1 => ?_
  split at h1
  · rename_i hl
    refine ⟨Nat.le_of_lt (small1000 (by rw [← t1.length]; exact hl)), fun p hp => ?_⟩
    have s2 := same_new hp (.tup vs)
    refine h1 _ _ (s1.trans s2) ?_
    simp only [Tl]
    exact ⟨p, vs, rfl, upd_same, t1.keep (Same.keep s2)⟩
  · exact h1.elim
theorem wd_tup {es : List Expr} {r : Sg → Res (List D)} {x1} (h : WDA X ct es r) : WD X ct (.Tuple es x1 pos) (dTup r) := ⟨pd_tup (h := h.out)⟩
theorem pl_lst {es : List Expr} {r : Sg → Res (List D)} (h : PDA X ct es r) : PL X ct (.List es pos) (dLst r) := by
  refine PE.imp (pe_lst h) fun σ H Q ⟨Γ, j, h⟩ => ?_
  refine aOf.bnd j h fun ds vs H1 s1 t1 j1 h1 => ?_
  split at h1
  · rename_i hl
    refine ⟨Nat.le_of_lt (small1000 (by rw [← t1.length]; exact hl)), fun p hp => ?_⟩
    have s2 := same_new hp (.lst vs)
    exact h1 p vs _ (s1.trans s2) (s1.free hp) upd_same (t1.keep (Same.keep s2))
  · exact h1.elim
theorem wl_lst {es : List Expr} {r : Sg → Res (List D)} (h : WDA X ct es r) : WL X ct (.List es pos) (dLst r) := ⟨pl_lst (h := h.out)⟩
end
end L4
end
section
set_option Elab.async false
set_option linter.all false
set_option maxRecDepth 100000
namespace L4
open PySem PySem.Spec PyProof.Rows L2
section
variable {P : Program} {w : World}
theorem objOk_there {H : Hp} {h : Heap} {a : Addr} {o : HO} (x : ObjOk P w H h a o) : ∃ ob, h.get? a = some ob := by
  cases o with
  | lst xs => obtain ⟨_, _, _, _, e⟩ := x; exact ⟨_, e⟩
  | tup xs => obtain ⟨_, _, _, ob, e, _⟩ := x; exact ⟨_, e⟩
  | dK kvs => obtain ⟨_, _, _, _, o, _, _, e, _⟩ := x; exact ⟨_, e⟩
  | dT kvs => obtain ⟨_, _, _, _, o, _, _, e, _⟩ := x; exact ⟨_, e⟩
  | set S n => obtain ⟨o, _, _, _, e, _⟩ := x; exact ⟨_, e⟩
  | ins C dx fs => obtain ⟨_, _, _, e, _⟩ := x; exact ⟨_, e⟩
  | own y => obtain ⟨_, e⟩ := x; exact ⟨_, e⟩
  | xd fs => obtain ⟨_, ⟨_, _, _, e, _⟩, _⟩ := x; exact ⟨_, e⟩
  | rng lo hi => obtain ⟨_, _, _, e⟩ := x; exact ⟨_, e⟩
  | frz ob u => obtain ⟨e, _⟩ := x; exact ⟨_, e⟩
  | tbl ps => exact ⟨_, (show h.get? a = some _ from x)⟩
  | met f y => exact ⟨_, (show h.get? a = some _ from x)⟩
  | ext φ => obtain ⟨_, ⟨_, e⟩, _⟩ := x; exact ⟨_, e⟩
end
section
variable {X : Cx} {ct : Ct} {pins : List (Addr × Obj)} {σ : St} {H : Hp} {s : Shared} {a : Addr} {o o' : HO} {vs : List V}
theorem Inv.redesc (I : Inv X pins σ H s) (ha : H a = some o) (h0 : X.H₀ a = none) (nt : ∀ xs, o ≠ .tup xs) (no : ∀ y, o ≠ .own y) (new : ObjOk X.prog X.w (upd H a o') s.heap a o') : Inv X pins σ (upd H a o') s := by
  have ne : ∀ b, H b = none → b ≠ a := fun b hb z => by subst z; rw [ha] at hb; cases hb
  have ne0 : ∀ b u, X.H₀ b = some u → b ≠ a := fun b u hb z => by subst z; rw [h0] at hb; cases hb
  refine ⟨I.ok, I.os, I.bare, ⟨I.base.keep, I.base.slot, fun b u q n hx => ?_, I.base.there, fun b xs q => ?_, fun b u v q => ?_, fun b ps q => ?_⟩, I.loc, I.cell, ?_, fun x c h => ?_, fun p hp => ?_, fun b u e => ?_, I.len⟩
  · have := I.base.free b u q n hx
    rw [upd_ne (ne b this)]; exact this
  · rw [upd_ne (ne0 b _ q)]; exact I.base.tups b xs q
  · rw [upd_ne (ne0 b _ q)]; exact I.base.frzs b u v q
  · rw [upd_ne (ne0 b _ q)]; exact I.base.tbls b ps q
  · rw [upd_ne (ne _ I.free)]; exact I.free
  · rw [upd_ne (ne _ (I.freeC x c h))]; exact I.freeC x c h
  · obtain ⟨h1, h2, h3, h4, h5⟩ := I.pin p hp
    exact ⟨h1, by rw [upd_ne (ne _ h2)]; exact h2, h3, h4, h5⟩
  · by_cases hb : b = a
    · subst hb; rw [upd_same] at e; cases e; exact new
    · rw [upd_ne hb] at e
      refine (I.hok b u e).stay (fun c v _ q => q) (fun c q => ?_) (fun c xs q => ?_)
      · have : c ≠ a := by rintro rfl; rw [ha] at q; exact no _ (Option.some.inj q)
        rw [upd_ne this]; exact q
      · have : c ≠ a := by rintro rfl; rw [ha] at q; exact nt _ (Option.some.inj q)
        rw [upd_ne this]; exact q
theorem Inv.freeze (I : Inv X pins σ H s) (ha : H a = some (.lst vs)) (h0 : X.H₀ a = none) : ∃ ob, Inv X pins σ (upd H a (.frz ob (.lst vs))) s := by
  obtain ⟨z, its, n, r, e⟩ := I.hok a _ ha
  refine ⟨_, Inv.redesc I ha h0 (fun _ q => nomatch q) (fun _ q => nomatch q) ⟨e, z, its, n, r, e⟩⟩
theorem Inv.freezeK {ks : Ks} {us : List V} (I : Inv X pins σ H s) (ha : H a = some (ks.ho us)) (h0 : X.H₀ a = none) : ∃ ob, Inv X pins σ (upd H a (.frz ob (ks.ho us))) s := by
  have q := I.hok a _ ha
  obtain ⟨ob, e⟩ := objOk_there q
  refine ⟨ob, Inv.redesc I ha h0 (fun _ q => by cases ks <;> cases q) (fun _ q => by cases ks <;> cases q) ⟨e, ?_⟩⟩
  refine q.stay (fun c v _ z => z) (fun c z => ?_) (fun c xs z => ?_)
  · have : c ≠ a := fun y => by subst y; rw [ha] at z; cases ks <;> cases z
    rw [upd_ne this]; exact z
  · have : c ≠ a := fun y => by subst y; rw [ha] at z; cases ks <;> cases z
    rw [upd_ne this]; exact z
structure Fz (X : Cx) (ct : Ct) (pins : List (Addr × Obj)) (σ : St) (s : Shared) (S : Fp) (H H' : Hp) : Prop where
  inv : Inv X pins σ H' s
  un : ∀ b o, H b = some o → ¬ S b → H' b = some o
  keep : Keep ct.f.cb H H'
  free : ∀ b, H' b = none → H b = none
theorem Fz.step {S : Fp} {H1 : Hp} (z : Fz X ct pins σ s S H H1) (ha : H1 a = some o) (hs : S a) (no : ¬ Stab ct.f.cb o) (I : Inv X pins σ (upd H1 a o') s) : Fz X ct pins σ s S H (upd H1 a o') := by
  refine ⟨I, fun b u q n => ?_, z.keep.trans fun b u hb st => ?_, fun b q => ?_⟩
  · have : b ≠ a := by rintro rfl; exact n hs
    rw [upd_ne this]; exact z.un b u q n
  · have : b ≠ a := by rintro rfl; rw [ha] at hb; cases hb; exact no st
    rw [upd_ne this]; exact hb
  · by_cases e : b = a
    · subst e; rw [upd_same] at q; cases q
    · rw [upd_ne e] at q; exact z.free b q
mutual
theorem Inv.fzM : ∀ {m : M} {v : V} {S : Fp} {H : Hp}, fzOk m = true → Inv X pins σ H s → Ow X.K ct H m v S → (∀ b, S b → X.H₀ b = none) → ∃ H', Fz X ct pins σ s S H H' ∧ Tl X.K ct H' (L4.fzM m) v
  | .d x, v, S, H, fo, I, h, _ => by
    simp only [Ow] at h
    exact ⟨H, ⟨I, fun _ _ q _ => q, Keep.refl H, fun _ q => q⟩, by simpa only [L4.fzM] using h⟩
  | .l xs, v, S, H, fo, I, h, n => by
    simp only [Ow] at h
    obtain ⟨a, vs, rfl, h2, h3, h4⟩ := h
    obtain ⟨ob, I2⟩ := Inv.freeze I h3 (n a h2)
    have z : Fz X ct pins σ s S H H := ⟨I, fun _ _ q _ => q, Keep.refl H, fun _ q => q⟩
    have z2 := z.step h3 h2 (fun q => q) I2
    refine ⟨_, z2, ?_⟩
    simp only [L4.fzM, Tl]
    exact ⟨a, vs, rfl, .inl ⟨ob, upd_same⟩, h4.keep z2.keep⟩
  | .n ms, v, S, H, fo, I, h, n => by
    simp only [Ow] at h
    obtain ⟨a, vs, rfl, h2, h3, h4⟩ := h
    obtain ⟨H1, z1, t1⟩ := Inv.fzMs (by simpa [fzOk] using fo) I h4 fun b w => n b w.1
    have h3' := z1.un a _ h3 fun w => w.2 rfl
    obtain ⟨ob, I2⟩ := Inv.freeze z1.inv h3' (n a h2)
    have z2 : Fz X ct pins σ s S H H1 := ⟨z1.inv, fun b o q w => z1.un b o q fun u => w u.1, z1.keep, z1.free⟩
    have z3 := z2.step h3' h2 (fun q => q) I2
    refine ⟨_, z3, ?_⟩
    simp only [L4.fzM, Tl]
    exact ⟨a, vs, rfl, .inl ⟨ob, upd_same⟩, t1.keep (Keep.lst h3')⟩
  | .t ms, v, S, H, fo, I, h, n => by
    simp only [Ow] at h
    obtain ⟨a, vs, rfl, h2, h3⟩ := h
    obtain ⟨H1, z1, t1⟩ := Inv.fzMs (by simpa [fzOk] using fo) I h3 n
    refine ⟨H1, z1, ?_⟩
    simp only [L4.fzM, Tl]
    exact ⟨a, vs, rfl, z1.keep _ _ h2 trivial, t1⟩
  | .k ks xs, v, S, H, fo, I, h, n => by
    simp only [Ow] at h
    obtain ⟨a, vs, rfl, h2, h3, h4, h5⟩ := h
    obtain ⟨ob, I2⟩ := Inv.freezeK I h3 (n a h2)
    have z : Fz X ct pins σ s S H H := ⟨I, fun _ _ q _ => q, Keep.refl H, fun _ q => q⟩
    have z2 := z.step h3 h2 Ks.not_stab I2
    refine ⟨_, z2, ?_⟩
    simp only [L4.fzM, Tl]
    exact ⟨a, vs, rfl, ⟨ob, upd_same⟩, h4, h5.keep z2.keep⟩
  | .o c ns xs, v, S, H, fo, I, h, n => by simp [fzOk] at fo
theorem Inv.fzMs : ∀ {ms : List M} {vs : List V} {S : Fp} {H : Hp}, fzOks ms = true → Inv X pins σ H s → Ows X.K ct H ms vs S → (∀ b, S b → X.H₀ b = none) → ∃ H', Fz X ct pins σ s S H H' ∧ Tls X.K ct H' (L4.fzMs ms) vs
  | [], vs, S, H, fo, I, h, _ => by
    simp only [Ows] at h
    exact ⟨H, ⟨I, fun _ _ q _ => q, Keep.refl H, fun _ q => q⟩, by simpa only [L4.fzMs, Tls] using h⟩
  | m :: ms, vs, S, H, fo, I, h, n => by
    simp only [Ows] at h
    obtain ⟨v, r, S1, S2, rfl, h2, h3, h4, h5, h6⟩ := h
    obtain ⟨H1, z1, t1⟩ := Inv.fzM (Bool.and_eq_true_iff.mp (by simpa [fzOks] using fo)).1 I h5 fun b w => n b (h2 b w)
    have h6' := h6.frame z1.keep fun b o w q => z1.un b o q fun u => h4 b u w
    obtain ⟨H2, z2, t2⟩ := Inv.fzMs (Bool.and_eq_true_iff.mp (by simpa [fzOks] using fo)).2 z1.inv h6' fun b w => n b (h3 b w)
    refine ⟨H2, ⟨z2.inv, fun b o q w => z2.un b o (z1.un b o q fun u => w (h2 b u)) fun u => w (h3 b u), z1.keep.trans z2.keep, fun b q => z1.free b (z2.free b q)⟩, ?_⟩
    simp only [L4.fzMs, Tls]
    exact ⟨v, r, rfl, t1.keep z2.keep, t2⟩
end
theorem pm_of_pl {e : Expr} {f : Sg → Res (List D)} (h : PL X ct e f) : PM X ct e (mL f) := by
  refine PE.imp h fun σ H Q ⟨Γ, j, q⟩ => ⟨Γ, j, q.bnd fun ds _ w a vs H' s n k t => ?_⟩
  refine w (.ref a) H' (fun b => b = a) s ?_ (fun b z => z ▸ n) fun b z q => by subst z; rw [k] at q; cases q
  simp only [Ow]
  exact ⟨a, vs, rfl, rfl, k, t⟩
theorem wm_of_pl {e : Expr} {f : Sg → Res (List D)} (h : WL X ct e f) : WM X ct e (mL f) := ⟨pm_of_pl (h := h.out)⟩
theorem pm_of_pd {e : Expr} {f : Sg → Res D} (h : PD X ct e f) : PM X ct e (mD f) := by
  refine PE.imp h fun σ H Q ⟨Γ, j, q⟩ => ⟨Γ, j, q.bnd fun d _ w v H' s t => ?_⟩
  exact w v H' (fun _ => False) s (by simpa only [Ow] using t) (fun _ z => z.elim) fun _ z => z.elim
theorem pd_of_pm {e : Expr} {f : Sg → Res M} (h : PM X ct e f) : PD X ct e (dFzM f) := by
  intro pins s σ H Q I ⟨Γ, j, q⟩
  have t : mOf X ct f σ H (fun v H' => ∃ m S, Same H H' ∧ Ow X.K ct H' m v S ∧ (∀ b, S b → H b = none) ∧ fzOk m = true ∧ Wd X ct H Q (fzM m)) :=
    ⟨Γ, j, q.bnd fun m _ w v H' S s o n k => by
      unfold fzR at w
      split at w
      · rename_i fo; exact ⟨m, S, s, o, n, fo, w⟩
      · exact w.elim⟩
  refine thn (h pins s σ H _ I t) fun v s1 ⟨x, H1, I1, r1, m, S, e1, o, n, fo, w⟩ => ?_
  obtain ⟨H2, z, t2⟩ := Inv.fzM fo I1 o fun b u => j.free b (n b u)
  exact ⟨x, H2, z.inv, r1, w x H2 (fun b u q => z.un b u (e1 b u q) fun y => by rw [n b y] at q; cases q) t2⟩
theorem pd_of_pl {e : Expr} {f : Sg → Res (List D)} (h : PL X ct e f) : PD X ct e (dFz f) := by
  have e' : dFz f = dFzM (mL f) := funext fun Γ => by
    simp only [dFz, dFzM, mL]
    cases f Γ <;> rfl
  rw [e']; exact pd_of_pm (pm_of_pl h)
theorem wd_of_pl {e : Expr} {f : Sg → Res (List D)} (h : WL X ct e f) : WD X ct e (dFz f) := ⟨pd_of_pl (h := h.out)⟩
end
section
variable {X : Cx} {c : Cf} {st : Stmt} {rest : List Stmt} {F G : Sg → Out} {e : Expr} {f : Sg → Res D} {fl : Sg → Res M} {p : Sg → Res Bool} {pos : Pos} {H : Hp} {Γ : Sg} {σ : St}
theorem Fn.ok {α : Type} {B : Hp} {tm : Bool} {r : Res α} {k : α → Out} {E : Ends} {W : α → Prop} (j : Jx X c.z Γ σ H) (h : Fn X c H (oE r Γ k) E) (w : ∀ d, r = .ok d → Fn X c H (k d) E → W d) : Ok X ⟨c, B, tm⟩ σ H r W := by
  cases r with
  | ok d => exact w d rfl h
  | err x => exact fun e s' q => h σ H e s' (Keep.refl H) j q
  | bad => exact h.elim
theorem pdss_nil : PDSs X c [] sNext := PSs.imp pss_nil fun E σ H ⟨Γ, j, h⟩ => h σ H (Keep.refl H) j
theorem wdss_nil  : WDSs X c [] sNext := ⟨pdss_nil⟩
theorem pdss_cons (h1 : PDS X c st F) (h2 : PDSs X c rest G) : PDSs X c (st :: rest) (sSeq F G) := by
  refine PSs.imp (pss_cons h1 h2) fun E σ H ⟨Γ, j, h⟩ => ⟨Γ, j, ?_⟩
  unfold sSeq at h
  cases q : F Γ with
  | nx Γ' =>
    rw [q] at h
    exact fun σ' H' k j' => ⟨Γ', j', h.mono k⟩
  | bk Γ' => rw [q] at h; exact h
  | ct Γ' => rw [q] at h; exact h
  | rt d => rw [q] at h; exact h
  | rtm ds => rw [q] at h; exact h
  | rtG d Γ' => rw [q] at h; exact h
  | rtmG d Γ' => rw [q] at h; exact h
  | err x Γ' => rw [q] at h; exact h
  | bad => rw [q] at h; exact h
theorem wdss_cons (h1 : WDS X c st F) (h2 : WDSs X c rest G) : WDSs X c (st :: rest) (sSeq F G) := ⟨pdss_cons (h1 := h1.out) (h2 := h2.out)⟩
theorem pdss_one (h1 : PDS X c st F) : PDSs X c [st] F := pss_one h1
theorem wdss_one (h1 : WDS X c st F) : WDSs X c [st] F := ⟨pdss_one (h1 := h1.out)⟩
theorem pds_ret (he : PD X c.z e f) : PDS X c (.Return (some e) pos) (sRet f) :=
  PS.imp (ps_ret he) fun E σ H ⟨Γ, j, h⟩ => ⟨Γ, j, Fn.ok j h fun d _ q v H' s t => q v H' (j.mono s).bk t⟩
theorem wds_ret (he : WD X c.z e f) : WDS X c (.Return (some e) pos) (sRet f) := ⟨pds_ret (he := he.out)⟩
theorem pds_retM (he : ∀ B, PM X (c.at' B) e fl) : PDS X c (.Return (some e) pos) (sRetM fl) := by
  intro pins s σ H E I ⟨Γ, j, h⟩
  refine ps_ret (he H) pins s σ H E I ⟨Γ, j.lift, Fn.ok j h fun m _ q v H' S s o n k => ?_⟩
  split at q
  · rename_i nn; exact q v H' S (j.mono s).bk (o.down nn) (fun b z => j.free b (n b z)) k
  · exact q.elim
theorem wds_retM (he : ∀ B, WM X (c.at' B) e fl) : WDS X c (.Return (some e) pos) (sRetM fl) := ⟨pds_retM (he := (fun B => (he B).out))⟩
theorem pds_if {ce : Expr} {a b : List Stmt} (hc : ∀ B, PDT X (c.at' B) ce p) (ha : PDSs X c a F) (hb : PDSs X c b G) : PDS X c (.If ce a b pos) (sIf p F G) := by
  intro pins s σ H E I ⟨Γ, j, h⟩
  refine ps_if (hc H) ha hb pins s σ H E I ⟨Γ, j.lift, Fn.ok j h fun x _ q H' s => ?_⟩
  cases x with
  | true => exact iteT ⟨Γ, j.mono s, Fn.mono (Same.keep s) q⟩
  | false => exact iteF ⟨Γ, j.mono s, Fn.mono (Same.keep s) q⟩
theorem wds_if {ce : Expr} {a b : List Stmt} (hc : ∀ B, WDT X (c.at' B) ce p) (ha : WDSs X c a F) (hb : WDSs X c b G) : WDS X c (.If ce a b pos) (sIf p F G) := ⟨pds_if (hc := (fun B => (hc B).out)) (ha := ha.out) (hb := hb.out)⟩
theorem pds_set (i : Nat) {x : Str} {pos' : Pos} (hN : X.N.Nodup) (he : PD X c.z e f) (hi : X.N[i]? = some x := by rfl) (hx : Loc X.env.scope x := by first | exact Or.inl rfl | exact Or.inr rfl) (hs : swapsWith e (some (.Name x pos')) pos.line X.env = pure false := by rfl)
    (hf : X.fn x = true ∨ X.env.scope.names.lookup x = some .local := by first | exact .inl rfl | exact .inr rfl) : PDS X c (.Assign [.Name x pos'] e pos) (sSet i f) :=
  PS.imp (ps_set hN hi hx he hs hf) fun E σ H ⟨Γ, j, h⟩ => ⟨Γ, j, Fn.ok j h fun d _ q v H' s t => q _ H' (Same.keep s) ((j.mono s).set t)⟩
theorem wds_set (i : Nat) {x : Str} {pos' : Pos} (hN : X.N.Nodup) (he : WD X c.z e f) (hi : X.N[i]? = some x := by rfl) (hx : Loc X.env.scope x := by first | exact Or.inl rfl | exact Or.inr rfl) (hs : swapsWith e (some (.Name x pos')) pos.line X.env = pure false := by rfl) (hf : X.fn x = true ∨ X.env.scope.names.lookup x = some .local := by first | exact .inl rfl | exact .inr rfl) : WDS X c (.Assign [.Name x pos'] e pos) (sSet i f) := ⟨pds_set (i := i) (hN := hN) (he := he.out) (hi := hi) (hx := hx) (hs := hs) (hf := hf)⟩
theorem pds_setM (i : Nat) {x : Str} {pos' : Pos} (hN : X.N.Nodup) (he : ∀ B, PM X (c.at' B) e fl) (hi : X.N[i]? = some x := by rfl) (hx : Loc X.env.scope x := by first | exact Or.inl rfl | exact Or.inr rfl) (hs : swapsWith e (some (.Name x pos')) pos.line X.env = pure false := by rfl)
    (hf : X.fn x = true ∨ X.env.scope.names.lookup x = some .local := by first | exact .inl rfl | exact .inr rfl) : PDS X c (.Assign [.Name x pos'] e pos) (sSetM i fl) := by
  intro pins s σ H E I ⟨Γ, j, h⟩
  refine ps_set hN hi hx (he H) hs hf pins s σ H E I ⟨Γ, j.lift, Fn.ok j h fun m _ q v H' S s o n k => ?_⟩
  split at q
  · rename_i nn; exact q _ H' (Same.keep s) (j.setM s rfl (o.down nn) n k)
  · exact q.elim
theorem wds_setM (i : Nat) {x : Str} {pos' : Pos} (hN : X.N.Nodup) (he : ∀ B, WM X (c.at' B) e fl) (hi : X.N[i]? = some x := by rfl) (hx : Loc X.env.scope x := by first | exact Or.inl rfl | exact Or.inr rfl) (hs : swapsWith e (some (.Name x pos')) pos.line X.env = pure false := by rfl) (hf : X.fn x = true ∨ X.env.scope.names.lookup x = some .local := by first | exact .inl rfl | exact .inr rfl) : WDS X c (.Assign [.Name x pos'] e pos) (sSetM i fl) := ⟨pds_setM (i := i) (hN := hN) (he := (fun B => (he B).out)) (hi := hi) (hx := hx) (hs := hs) (hf := hf)⟩
end
end L4
end
section
set_option Elab.async false
set_option linter.all false
set_option maxRecDepth 100000
namespace L4
open PySem PySem.Spec PyProof.Rows L2
section
variable {X : Cx} {ct : Ct} {tg : Expr} {H : Hp} {Γ : Sg} {σ : St} {pos : Pos}
def gOf (X : Cx) (ct : Ct) (t : Tg) : TG := fun v σ H Q => ∃ Γ d Γ', Jx X ct Γ σ H ∧ Tl X.K ct H d v ∧ t d Γ = some Γ' ∧ ∀ σ', Jx X ct Γ' σ' H → Q σ' H
def gsOf (X : Cx) (ct : Ct) (t : Tgs) : TGs := fun vs σ H Q => ∃ Γ ds Γ', Jx X ct Γ σ H ∧ Tls X.K ct H ds vs ∧ t ds Γ = some Γ' ∧ ∀ σ', Jx X ct Γ' σ' H → Q σ' H
theorem PG.imp {t u : TG} (h : PG X tg t) (k : ∀ v σ H Q, u v σ H Q → t v σ H Q) : PG X tg u := fun pins s σ H v w Q I r q => h pins s σ H v w Q I r (k v σ H Q q)
theorem PGs.imp {es : List Expr} {t u : TGs} (h : PGs X es t) (k : ∀ v σ H Q, u v σ H Q → t v σ H Q) : PGs X es u := fun pins s σ H v w Q I r q => h pins s σ H v w Q I r (k v σ H Q q)
abbrev PGD (X : Cx) (ct : Ct) (tg : Expr) (t : Tg) : Prop := PG X tg (gOf X ct t)
abbrev PGDs (X : Cx) (ct : Ct) (tg : List Expr) (t : Tgs) : Prop := PGs X tg (gsOf X ct t)
structure WG (X : Cx) (tg : Expr) (t : TG) : Prop where
  out : PG X tg t
structure WGs (X : Cx) (tg : List Expr) (t : TGs) : Prop where
  out : PGs X tg t
abbrev WGD (X : Cx) (ct : Ct) (tg : Expr) (t : Tg) : Prop := WG X tg (gOf X ct t)
abbrev WGDs (X : Cx) (ct : Ct) (tg : List Expr) (t : Tgs) : Prop := WGs X tg (gsOf X ct t)
theorem pgd_name (i : Nat) {x : Str} (hN : X.N.Nodup) (hi : X.N[i]? = some x := by rfl) (hx : Loc X.env.scope x := by first | exact Or.inl rfl | exact Or.inr rfl) (hf : X.fn x = true ∨ X.env.scope.names.lookup x = some .local := by first | exact .inl rfl | exact .inr rfl) :
    PGD X ct (.Name x pos) (tgName i) := by
  refine PG.imp (pg_name hN hi hx hf) ?_
  rintro v σ H Q ⟨Γ, d, Γ', j, t, e, q⟩
  cases e
  exact q _ (j.set t)
theorem wgd_name (i : Nat) {x : Str} (hN : X.N.Nodup) (hi : X.N[i]? = some x := by rfl) (hx : Loc X.env.scope x := by first | exact Or.inl rfl | exact Or.inr rfl) (hf : X.fn x = true ∨ X.env.scope.names.lookup x = some .local := by first | exact .inl rfl | exact .inr rfl) : WGD X ct (.Name x pos) (tgName i) := ⟨pgd_name (i := i) (hN := hN) (hi := hi) (hx := hx) (hf := hf)⟩
theorem pgds_nil : PGDs X ct [] tgNil := by
  refine PGs.imp pgs_nil ?_
  rintro vs σ H Q ⟨Γ, ds, Γ', j, t, e, q⟩
  cases ds with
  | nil => simp only [Tls] at t; cases e; exact ⟨t, q _ j⟩
  | cons d r => cases e
theorem wgds_nil  : WGDs X ct [] tgNil := ⟨pgds_nil⟩
theorem pgds_cons {e : Expr} {es : List Expr} {t : Tg} {u : Tgs} (h1 : PGD X ct e t) (h2 : PGDs X ct es u)
    (hs : (assignEach (e :: es) X.env).map (·.2) = assign e X.env :: (assignEach es X.env).map (·.2) := by rfl) : PGDs X ct (e :: es) (tgCons t u) := by
  refine PGs.imp (pgs_cons h1 h2 hs) ?_
  rintro vs σ H Q ⟨Γ, ds, Γ', j, tl, e, q⟩
  cases ds with
  | nil => cases e
  | cons d r =>
    simp only [Tls] at tl
    obtain ⟨v, vr, rfl, t1, t2⟩ := tl
    simp only [tgCons, Option.bind_eq_some_iff] at e
    obtain ⟨Γ1, e1, e2⟩ := e
    exact ⟨v, vr, rfl, Γ, d, Γ1, j, t1, e1, fun σ' j' => ⟨Γ1, r, Γ', j', t2, e2, q⟩⟩
theorem wgds_cons {e : Expr} {es : List Expr} {t : Tg} {u : Tgs} (h1 : WGD X ct e t) (h2 : WGDs X ct es u) (hs : (assignEach (e :: es) X.env).map (·.2) = assign e X.env :: (assignEach es X.env).map (·.2) := by rfl) : WGDs X ct (e :: es) (tgCons t u) := ⟨pgds_cons (h1 := h1.out) (h2 := h2.out) (hs := hs)⟩
theorem pgd_tup {es : List Expr} {k : Nat} {t : Tgs} {n : Nat} (hc : X.calm = true) (h : PGDs X ct es t)
    (hn : (assignEach es X.env).length = n := by rfl) (hst : (assignEach es X.env).findIdx? (·.1) = none := by rfl) : PGD X ct (.Tuple es k pos) (tgTup n t) := by
  refine PG.imp (pg_tup hc h hn hst) ?_
  rintro v σ H Q ⟨Γ, d, Γ', j, tl, e, q⟩
  cases d with
  | tup ds =>
    simp only [Tl] at tl
    obtain ⟨a, vs, rfl, h1, h2⟩ := tl
    simp only [tgTup] at e
    split at e
    · rename_i hl
      exact ⟨a, vs, rfl, sq_of h1, by rw [← h2.length]; exact hl, Γ, ds, Γ', j, h2, e, q⟩
    · cases e
  | _ => cases e
theorem wgd_tup {es : List Expr} {k : Nat} {t : Tgs} {n : Nat} (hc : X.calm = true) (h : WGDs X ct es t) (hn : (assignEach es X.env).length = n := by rfl) (hst : (assignEach es X.env).findIdx? (·.1) = none := by rfl) : WGD X ct (.Tuple es k pos) (tgTup n t) := ⟨pgd_tup (hc := hc) (h := h.out) (hn := hn) (hst := hst)⟩
theorem pds_par {c : Cf} (i j : Nat) {x y : Str} {a b : Expr} {r : Sg → Res (List D)} {px py pt : Pos} {kt k2 pt2} (hc : X.calm = true) (hN : X.N.Nodup) (ha : PDA X c.z [a, b] r) (hi : X.N[i]? = some x := by rfl) (hj : X.N[j]? = some y := by rfl) (hij : i ≠ j := by decide)
    (hx : X.env.scope.names.lookup x = some .local := by rfl) (hy : X.env.scope.names.lookup y = some .local := by rfl)
    (hw : swappedStores [.Tuple [.Name x px, .Name y py] kt pt] (.Tuple [a, b] k2 pt2) X.env = pure (some [x, y]) := by rfl)
    (hs : swapsWithSole [.Tuple [.Name x px, .Name y py] kt pt] (.Tuple [a, b] k2 pt2) pos.line X.env = pure false := by rfl) :
    PDS X c (.Assign [.Tuple [.Name x px, .Name y py] kt pt] (.Tuple [a, b] k2 pt2) pos) (sPar i j r) := by
  refine PS.imp (ps_par hc hN hi hj hij hx hy ha hw hs) fun E σ H ⟨Γ, j, h⟩ => ⟨Γ, j, Fn.ok j h fun ds _ q vs H' s tl => ?_⟩
  match ds, q, tl with
  | [d1, d2], q, tl =>
    simp only [Tls] at tl
    obtain ⟨v1, r1, rfl, t1, v2, r2, rfl, t2, rfl⟩ := tl
    exact ⟨v1, v2, rfl, q _ H' (Same.keep s) (((j.mono s).set t1).set t2)⟩
  | [], q, _ => exact q.elim
  | [_], q, _ => exact q.elim
  | _ :: _ :: _ :: _, q, _ => exact q.elim
theorem wds_par {c : Cf} (i j : Nat) {x y : Str} {a b : Expr} {r : Sg → Res (List D)} {px py pt : Pos} {kt k2 pt2} (hc : X.calm = true) (hN : X.N.Nodup) (ha : WDA X c.z [a, b] r) (hi : X.N[i]? = some x := by rfl) (hj : X.N[j]? = some y := by rfl) (hij : i ≠ j := by decide) (hx : X.env.scope.names.lookup x = some .local := by rfl) (hy : X.env.scope.names.lookup y = some .local := by rfl) (hw : swappedStores [.Tuple [.Name x px, .Name y py] kt pt] (.Tuple [a, b] k2 pt2) X.env = pure (some [x, y]) := by rfl) (hs : swapsWithSole [.Tuple [.Name x px, .Name y py] kt pt] (.Tuple [a, b] k2 pt2) pos.line X.env = pure false := by rfl) : WDS X c (.Assign [.Tuple [.Name x px, .Name y py] kt pt] (.Tuple [a, b] k2 pt2) pos) (sPar i j r) := ⟨pds_par (i := i) (j := j) (hc := hc) (hN := hN) (ha := ha.out) (hi := hi) (hj := hj) (hij := hij) (hx := hx) (hy := hy) (hw := hw) (hs := hs)⟩
end
structure Good (X : Cx) : Prop where
  po : PassesOwn (model X.prog X.w) X.A X.env X.xe
  calm : X.calm = true
  nd : X.N.Nodup
  own : X.stack = X.env :: X.outer ∧ X.env.frame = some X.env.locals
section
variable {X : Cx} {c : Cf} {tg iter : Expr} {f : Sg → Res D} {t : Tg} {B : Sg → Out} {body : List Stmt} {pos : Pos}
theorem turn_ok {H' H1 : Hp} {Γ1 Γ2 : Sg} {xs : List D} {d : D} {E : Ends} {o : Out} {Pn : St → Hp → Prop} (k1 : Keep c.cb H' H1) (e1 : t d Γ1 = some Γ2) (hx : forD t B (d :: xs) Γ1 = o) (h : Fn X c H' o E)
    (hn : ∀ Γ3 σ3 H3, Keep c.cb H' H3 → Jx X c.z Γ3 σ3 H3 → forD t B xs Γ3 = o → Pn σ3 H3) : Fn X c H1 (B Γ2) { E with nx := Pn, ct := Pn, bk := E.nx } := by
  simp only [forD, e1] at hx
  cases q : B Γ2 with
  | nx Γ3 => rw [q] at hx; exact fun σ3 H3 k3 j3 => hn Γ3 σ3 H3 (k1.trans k3) j3 hx
  | ct Γ3 => rw [q] at hx; exact fun σ3 H3 k3 j3 => hn Γ3 σ3 H3 (k1.trans k3) j3 hx
  | bk Γ3 => rw [q] at hx; subst hx; exact fun σ3 H3 k3 j3 => h σ3 H3 (k1.trans k3) j3
  | rt d => rw [q] at hx; subst hx; exact h
  | rtm d => rw [q] at hx; subst hx; exact h
  | rtG d Γ3 => rw [q] at hx; subst hx; exact h
  | rtmG d Γ3 => rw [q] at hx; subst hx; exact h
  | err x Γ3 => rw [q] at hx; subst hx; exact fun σ3 H3 e s' k3 j3 r => h σ3 H3 e s' (k1.trans k3) j3 r
  | bad => rw [q] at hx; subst hx; exact h
theorem no_turn {Γ1 : Sg} {xs : List D} {d : D} {H' : Hp} {E : Ends} {o : Out} (e : t d Γ1 = none) (hx : forD t B (d :: xs) Γ1 = o) (h : Fn X c H' o E) : False := by
  simp only [forD, e] at hx
  subst hx
  exact h
end
section
variable {X : Cx} {c : Cf} {e : Expr} {f : Sg → Res D} {fm : Sg → Res M} {p : Sg → Res Bool}
end
end L4
end
section
set_option Elab.async false
set_option linter.all false
set_option maxRecDepth 100000
namespace L4
open PySem PySem.Spec PyProof.Rows L2
def spD (K : PySem.W.Frag) (cb : Cb) (n : Nat) (F : List Slot → Ans) : Sp := fun vs H Q E => vs.length = n ∧ ∃ (c : Cf) (as : List Slot), c.cb = cb ∧ c.args = vs ∧ J K c.z H as (vs.map some) H ∧ match F as with
  | .ok d => ∀ v H', (∀ b o, H b = some o → ¬ c.io b → H' b = some o) → (∀ b, H' b = none → H b = none) → Tl K c.z H' d v → Q v H'
  | .new m => ∀ v H' S, (∀ b o, H b = some o → ¬ c.io b → H' b = some o) → (∀ b, H' b = none → H b = none) → Ow K c.z H' m v S → (∀ b, S b → H b = none) → (∀ b, S b → H' b ≠ none) → Q v H'
  | .okG d os => ∀ v Γ' σ' H', J K c.z H Γ' σ' H' → outsAt 0 Γ' = os → Tl K c.z H' d v → Q v H'
  | .newG _ _ => False
  | .err x => ∀ C H', cb.exc x = some C → (∀ b o, H b = some o → ¬ c.io b → H' b = some o) → E (.ref C) none H'
  | .bad => False
abbrev FnD (P : Program) (w : World) (K : PySem.W.Frag) (mg : Str → Option Value) (base : Heap) (cb : Cb) (k : Nat) (f : Addr) (fd : FuncData) (ps : List Str) (F : List Slot → Ans) : Prop :=
  FnOk P w K mg base (CX1 P w) k f fd ps (spD K cb ps.length F)
abbrev cfOf (cb : Cb) (L : Hp) (vs : List V) : Cf := ⟨cb, L, fun _ => False, vs⟩
theorem j_args {K : PySem.W.Frag} {cb : Cb} {L H : Hp} {ds : List D} {vs : List V} (l : Same L H) (t : Tls K (cfOf cb L vs).z H ds vs) : J K (cfOf cb L vs).z H (ds.map Slot.val) (vs.map some) H := by
  refine ⟨fun _ _ q _ => q, fun _ q => q, l, fun _ _ q => (nomatch q), by simp [t.length], fun _ _ => False, fun i sl ov h1 h2 => ?_, fun _ _ _ _ z => z.elim, fun _ _ z => z.elim⟩
  rw [List.getElem?_map] at h1 h2
  cases q : ds[i]? with
  | none => rw [q] at h1; cases h1
  | some d =>
    obtain ⟨v, e1, e2⟩ := t.get q
    rw [q] at h1; rw [e1] at h2
    cases h1; cases h2
    exact ⟨⟨v, rfl, e2⟩, fun _ z => z⟩
section
variable {X : Cx} {cb : Cb} {k : Nat} {f C : Addr} {fd : FuncData} {ps : List Str} {F : List Slot → Ans} {x : Str} {p pos apos : Pos} {e o : Expr} {es : List Expr} {fa : Sg → Res (List D)}
def AnsOk (X : Cx) (c : Cf) (σ : St) (H : Hp) (a : Ans) (Q : VK) : Prop := match a with
  | .ok d => ∀ v H', Same H H' → Tl X.K c.z H' d v → Q v H'
  | .new m => ∀ v H' S, Same H H' → Ow X.K c.z H' m v S → (∀ b, S b → H b = none) → (∀ b, S b → H' b ≠ none) → Q v H'
  | .err x => ∀ e s', RaisedAt X c.cb σ H x e s' → X.xe e s'
  | _ => False
theorem run_fnD {pins : List (Addr × Obj)} {σ : St} {H L : Hp} {s : Shared} {Q : VK} {us : List Value} {vs : List V} {ds : List D} (G : FnD X.prog X.w X.K X.mg X.base cb k f fd ps F) (hr : Room k X.A) (hb : Binds X.K fd ps [])
    (I : Inv X pins σ H s) (r : Vals vs us) (l : Same L H) (t : Tls X.K (cfOf cb L vs).z H ds vs) (hn : vs.length = ps.length) (h : AnsOk X (cfOf cb L vs) σ H (F (ds.map .val)) Q) : wpAny (model X.prog X.w) X.A (call (.ref f) us) (EP X pins σ Q) X.xe s := by
  have hl : us.length = ps.length := by rw [← r.length]; exact hn
  have hb' := hb s us I.kIn (by rw [List.append_nil]; exact hl)
  rw [List.append_nil] at hb'
  let E : XK := fun cls od H' => ∃ x C, F (ds.map .val) = .err x ∧ cb.exc x = some C ∧ cls = .ref C ∧ od = none ∧ Same H H'
  have hsp : spD X.K cb ps.length F vs H Q E := by
    refine ⟨hn, cfOf cb L vs, ds.map .val, rfl, rfl, j_args l t, ?_⟩
    cases q : F (ds.map .val) with
    | ok d => rw [q] at h; exact fun v H' s _ t => h v H' (fun b o z => s b o z fun w => w) t
    | new m => rw [q] at h; exact fun v H' S s _ o n k => h v H' S (fun b o z => s b o z fun w => w) o n k
    | okG d os => rw [q] at h; exact h.elim
    | newG d os => rw [q] at h; exact h.elim
    | err x => exact fun C H' e s => ⟨x, C, q, e, rfl, rfl, fun b o z => s b o z fun w => w⟩
    | bad => rw [q] at h; exact h
  refine wpAny_call (codeAny_mono (G.run X.A X.stack s H ⟨us, []⟩ us vs Q E hr I.env0 hb' r hsp) fun r s' hq => ?_)
  cases r with
  | error e =>
    obtain ⟨a, C, H', B, a0, h1, ⟨x, C', q1, q2, q3, q4, q5⟩, h3, h4, h5, h6, h6', h7⟩ := hq
    rw [q1] at h
    cases q3
    exact h e s' ⟨pins, H, s, C, I, Same.refl H, q2, .inr ⟨a, C, H', B, a0, h1, ⟨rfl, rfl, q5⟩, h3, h4, h5, h6, h6', h7⟩⟩
  | ok fl =>
    cases fl with
    | ret u => exact I.after hq
    | next => exact False.elim hq
    | brk => exact False.elim hq
    | cont => exact False.elim hq
structure Lends (ct : Ct) (md : List D → Option (List D)) (bk : D → Bool) (bkM : M → Bool) : Prop where
  go : ∀ K H ds vs ds', Same ct.f.L H → Same ct.B H → Tls K ct H ds vs → md ds = some ds' → ∃ L, Same L H ∧ Tls K (cfOf ct.f.cb L vs).z H ds' vs ∧
    (∀ H' d v, bk d = true → Tl K (cfOf ct.f.cb L vs).z H' d v → Tl K ct H' d v) ∧ ∀ H' m v S, bkM m = true → Ow K (cfOf ct.f.cb L vs).z H' m v S → Ow K ct H' m v S
theorem tl_cong {K : PySem.W.Frag} {ct ct' : Ct} {H : Hp} (e : ct'.f.cb = ct.f.cb) (l : ∀ t a o, ct.lo t a = some o → ct'.lo t a = some o) {d : D} {v : V} (h : Tl K ct H d v) : Tl K ct' H d v := by
  have := Tl.re (ct := ct) (ct' := ct') (p := fun _ => true) (g := id) ⟨e, fun t a o _ q => l t a o q⟩ (okP_all d) h
  rwa [reD_id] at this
theorem tls_cong {K : PySem.W.Frag} {ct ct' : Ct} {H : Hp} (e : ct'.f.cb = ct.f.cb) (l : ∀ t a o, ct.lo t a = some o → ct'.lo t a = some o) {d : List D} {v : List V} (h : Tls K ct H d v) : Tls K ct' H d v := by
  have := Tls.re (ct := ct) (ct' := ct') (p := fun _ => true) (g := id) ⟨e, fun t a o _ q => l t a o q⟩ (okPs_all d) h
  rwa [reDs_id] at this
theorem ow_cong {K : PySem.W.Frag} {ct ct' : Ct} {H : Hp} (e : ct'.f.cb = ct.f.cb) (l : ∀ t a o, ct.lo t a = some o → ct'.lo t a = some o) {m : M} {v : V} {S : Fp} (h : Ow K ct H m v S) : Ow K ct' H m v S :=
  Ow.map (p := fun _ => true) e (fun _ _ _ => tl_cong e l) (q := fun _ => true) (fun _ _ _ => tls_cong e l) (pm := fun _ => true) (pms := fun _ => true) (fun _ _ => rfl) (fun _ _ => rfl) (fun _ _ => rfl) (fun _ _ => rfl) (fun _ _ _ => rfl) (fun _ _ _ _ => rfl) (fun _ _ _ => ⟨rfl, rfl⟩) rfl h
theorem lends_plain (c : Cf) : Lends c.z some (fun _ => true) (fun _ => true) := ⟨fun K H ds vs ds' l b t e => by
  cases e
  have q : ∀ t a o, c.z.lo t a = some o → (cfOf c.cb c.L vs).z.lo t a = some o := fun t a o z => by cases t <;> exact z
  have q' : ∀ t a o, (cfOf c.cb c.L vs).z.lo t a = some o → c.z.lo t a = some o := fun t a o z => by cases t <;> exact z
  exact ⟨c.L, l, tls_cong (ct := c.z) (ct' := (cfOf c.cb c.L vs).z) rfl q t, fun H' d v _ t => tl_cong (ct := (cfOf c.cb c.L vs).z) (ct' := c.z) rfl q' t, fun H' m v S _ t => ow_cong (ct := (cfOf c.cb c.L vs).z) (ct' := c.z) rfl q' t⟩⟩
theorem lends_N (ct : Ct) : Lends ct (fun ds => if nts ds = true then some ds else none) (fun _ => true) (fun _ => true) := ⟨fun K H ds vs ds' l b t e => by
  split at e
  · rename_i n
    cases e
    have q : ∀ t a o, ct.f.z.lo t a = some o → (cfOf ct.f.cb ct.f.L vs).z.lo t a = some o := fun t a o z => by cases t <;> exact z
    have q' : ∀ t a o, (cfOf ct.f.cb ct.f.L vs).z.lo t a = some o → ct.lo t a = some o := fun t a o z => by
      cases t with
      | true => cases z
      | false => exact z
    obtain ⟨cf, B, tm⟩ := ct
    exact ⟨cf.L, l, tls_cong (ct := cf.z) (ct' := (cfOf cf.cb cf.L vs).z) rfl q (Tls.down t n), fun H' d v _ t => tl_cong (ct := (cfOf cf.cb cf.L vs).z) (ct' := ⟨cf, B, tm⟩) rfl q' t, fun H' m v S _ t => ow_cong (ct := (cfOf cf.cb cf.L vs).z) (ct' := ⟨cf, B, tm⟩) rfl q' t⟩
  · cases e⟩
theorem lends_O (ct : Ct) : Lends ct (fun ds => some (dns ds)) nb nbM := ⟨fun K H ds vs ds' l b t e => by
  cases e
  exact ⟨H, Same.refl H, t.lent rfl rfl l b, fun H' d v n t => Tl.bare (ct := (cfOf ct.f.cb H vs).z) (ct' := ct) rfl t n, fun H' m v S n t => Ow.bare (ct := (cfOf ct.f.cb H vs).z) (ct' := ct) rfl t n⟩⟩
def AnsB (X : Cx) (ct : Ct) (bk : D → Bool) (bkM : M → Bool) (σ : St) (H : Hp) (a : Ans) (Q : VK) : Prop := match a with
  | .ok d => bk d = true ∧ Wd X ct H Q d
  | .new m => bkM m = true ∧ Wm X ct H Q m
  | .err x => ∀ e s', RaisedAt X ct.f.cb σ H x e s' → X.xe e s'
  | _ => False
def kOf (X : Cx) (ct : Ct) (md : List D → Option (List D)) (bk : D → Bool) (bkM : M → Bool) (n : Nat) (F : List Slot → Ans) (fa : Sg → Res (List D)) : TE := fun σ H Q =>
  ∃ Γ, Jx X ct Γ σ H ∧ Ok X ct σ H (fa Γ) fun ds => ds.length = n ∧ ∃ ds', md ds = some ds' ∧ ∀ H', Same H H' → AnsB X ct bk bkM σ H' (F (ds'.map .val)) Q
variable {ct : Ct} {md : List D → Option (List D)} {bk : D → Bool} {bkM : M → Bool}
theorem ansB_ok {σ : St} {H L : Hp} {a : Ans} {Q : VK} {vs : List V} (h : AnsB X ct bk bkM σ H a Q) (q1 : ∀ H' d v, bk d = true → Tl X.K (cfOf ct.f.cb L vs).z H' d v → Tl X.K ct H' d v) (q2 : ∀ H' m v S, bkM m = true → Ow X.K (cfOf ct.f.cb L vs).z H' m v S → Ow X.K ct H' m v S) :
    AnsOk X (cfOf ct.f.cb L vs) σ H a Q := by
  cases a with
  | ok d => exact fun v H' s t => h.2 v H' s (q1 H' d v h.1 t)
  | new m => exact fun v H' S s o n k => h.2 v H' S s (q2 H' m v S h.1 o) n k
  | err x => exact h
  | okG d os => exact h
  | newG d os => exact h
  | bad => exact h
theorem pe_callD (Z : Lends ct md bk bkM) (G : FnD X.prog X.w X.K X.mg X.base ct.f.cb k f fd ps F) (hr : Room k X.A) (hm : X.mg x = some (.ref f)) (hk : PySem.W.keepIn X.K (.ref f) = true) (hb : Binds X.K fd ps []) (ha : PDA X ct (e :: es) fa) (hg : Gl X x := by rfl)
    (hdb : (x == ("__debug__" : Str)) = false := by decide) (he : starEach (e :: es) X.env = (false, eval e X.env) :: starEach es X.env := by rfl) (hpl : (backTo pos (starEach es X.env)).any (·.1) = false := by rfl) :
    PE X (.Call (.Name x p) (e :: es) [] pos) (kOf X ct md bk bkM ps.length F fa) := by
  intro pins s σ H Q I ⟨Γ, j, h⟩
  refine wpAny_Call_Name_kw (ld_glob I hg hm ?_ hdb)
  have h' : aOf X ct fa σ H (fun vs H1 => ∃ ds ds', Same H H1 ∧ Tls X.K ct H1 ds vs ∧ ds.length = ps.length ∧ md ds = some ds' ∧ AnsB X ct bk bkM σ H1 (F (ds'.map .val)) Q) :=
    ⟨Γ, j, Ok.mono (Same.refl H) h fun ds ⟨q1, ds', q2, q3⟩ vs H1 s1 t1 => ⟨ds, ds', s1, t1, q1, q2, q3 H1 s1⟩⟩
  refine PySem.W.callWith_K (h₀ := X.base) I.ok.mod.kin hk (thn (ha pos pins s σ H _ I h') fun us s1 ⟨vs, H1, I1, r, ds, ds', sm, t1, hl, hd, q⟩ => ⟨I1.kIn, ?_⟩) he hpl
  have j1 := j.mono sm
  obtain ⟨L, l, t2, q1, q2⟩ := Z.go X.K H1 ds vs ds' j1.lL j1.lB t1 hd
  exact run_fnD G hr hb I1 r l t2 (by rw [← t1.length]; exact hl) (ansB_ok q q1 q2)
theorem Wm.mono {H H2 : Hp} {Q : VK} {m : M} (s : Same H H2) (h : Wm X ct H Q m) : Wm X ct H2 Q m := fun v H' S e o n k => h v H' S (s.trans e) o (fun b z => s.free (n b z)) k
theorem Wm.data {H : Hp} {Q : VK} {d : D} (h : Wm X ct H Q (.d d)) : Wd X ct H Q d := fun v H' e t => h v H' (fun _ => False) e (by simpa only [Ow] using t) (fun _ z => z.elim) fun _ z => z.elim
theorem pm_call {n : Nat} {g : Sg → Res M} (h : PE X e (kOf X ct md bk bkM n F fa)) (hg : ∀ Γ, g Γ = (fa Γ).bnd fun ds => if ds.length = n then (match md ds with
      | some ds' => (match F (ds'.map .val) with
        | .ok d => if bk d = true then .ok (.d d) else .bad
        | .new m => if bkM m = true then .ok m else .bad
        | .err x => .err x
        | _ => .bad)
      | none => .bad) else .bad) : PM X ct e g := by
  refine PE.imp h fun σ H Q ⟨Γ, j, q⟩ => ⟨Γ, j, ?_⟩
  rw [hg] at q
  refine q.bnd fun ds _ q => ?_
  split at q
  · rename_i hl
    split at q
    · rename_i ds' hd
      refine ⟨hl, ds', hd, fun H' s => ?_⟩
      cases z : F (ds'.map .val) with
      | ok d =>
        rw [z] at q; dsimp only at q
        split at q
        · rename_i hb; exact ⟨hb, (Wm.data q).mono s⟩
        · exact q.elim
      | new m =>
        rw [z] at q; dsimp only at q
        split at q
        · rename_i hb; exact ⟨hb, Wm.mono s q⟩
        · exact q.elim
      | err x => rw [z] at q; exact fun e s' r => q e s' (r.mono s)
      | okG d os => rw [z] at q; exact q.elim
      | newG d os => rw [z] at q; exact q.elim
      | bad => rw [z] at q; exact q.elim
    · exact q.elim
  · exact q.elim
section
variable {n : Nat}
theorem pm_callP {c : Cf} (h : PE X e (kOf X c.z some (fun _ => true) (fun _ => true) n F fa)) : PM X c.z e (mCall n F fa) := pm_call h fun Γ => by
  unfold mCall
  cases fa Γ with
  | ok ds =>
    simp only [Res.bnd_ok]
    by_cases hl : ds.length = n
    · simp only [hl, if_true]
      cases F (ds.map .val) <;> simp [mAns]
    · simp [hl]
  | err x => rfl
  | bad => rfl
theorem pm_callN (h : PE X e (kOf X ct (fun ds => if nts ds = true then some ds else none) (fun _ => true) (fun _ => true) n F fa)) : PM X ct e (mCallN n F fa) := pm_call h fun Γ => by
  unfold mCallN
  congr 1; funext ds
  by_cases hl : ds.length = n
  · by_cases hn : nts ds = true
    · simp only [hl, hn, and_self, if_true]
      cases F (ds.map .val) <;> simp [mAns]
    · simp [hl, hn]
  · simp [hl]
theorem pm_callO (h : PE X e (kOf X ct (fun ds => some (dns ds)) nb nbM n F fa)) : PM X ct e (mCallO n F fa) := pm_call h fun Γ => by
  unfold mCallO
  congr 1; funext ds
  split
  · dsimp only
    cases F ((dns ds).map .val) with
    | ok d => by_cases h : nb d = true <;> simp [nbA, mAns, h]
    | new m => by_cases h : nbM m = true <;> simp [nbA, mAns, h]
    | _ => simp [nbA, mAns]
  · rfl
theorem fz_ans (a : Ans) : dAns a = (mAns a).bnd fzR := by cases a <;> simp [dAns, mAns, fzR, fzOk, fzM]
theorem dFz_call (f : Sg → Res (List D)) (g : List D → Ans) (P : List D → Prop) [DecidablePred P] : (fun Γ => (f Γ).bnd fun ds => if P ds then dAns (g ds) else .bad) = dFzM (fun Γ => (f Γ).bnd fun ds => if P ds then mAns (g ds) else .bad) := by
  funext Γ
  unfold dFzM
  dsimp only
  cases f Γ with
  | ok ds =>
    simp only [Res.bnd_ok]
    by_cases h : P ds
    · simp only [h, if_true]; exact fz_ans _
    · simp [h]
  | err x => rfl
  | bad => rfl
theorem pd_callP {c : Cf} (h : PE X e (kOf X c.z some (fun _ => true) (fun _ => true) n F fa)) : PD X c.z e (dCall n F fa) := by
  have := pd_of_pm (pm_callP h)
  rwa [show dFzM (mCall n F fa) = dCall n F fa from (dFz_call fa (fun ds => F (ds.map .val)) fun ds => ds.length = n).symm] at this
theorem pd_callN (h : PE X e (kOf X ct (fun ds => if nts ds = true then some ds else none) (fun _ => true) (fun _ => true) n F fa)) : PD X ct e (dCallN n F fa) := by
  have := pd_of_pm (pm_callN h)
  rwa [show dFzM (mCallN n F fa) = dCallN n F fa from (dFz_call fa (fun ds => F (ds.map .val)) fun ds => ds.length = n ∧ nts ds = true).symm] at this
theorem pd_callO (h : PE X e (kOf X ct (fun ds => some (dns ds)) nb nbM n F fa)) : PD X ct e (dCallO n F fa) := by
  have := pd_of_pm (pm_callO h)
  rwa [show dFzM (mCallO n F fa) = dCallO n F fa from (dFz_call fa (fun ds => nbA (F ((dns ds).map .val))) fun ds => ds.length = n).symm] at this
end
end
section
variable {P : Program} {w : World} {K : PySem.W.Frag} {mg : Str → Option Value} {base : Heap} {cb : Cb}
theorem leave_ok {N : List Str} {qual : Str} {scope : Scope} {f : Addr} {cd : Value} {A : Around} {outer : List Env} {s : Shared} {H : Hp} {E : XK} {σ' : St} {H' : Hp} {c : String} {e : Value} {s' : Shared}
    (r : RaisedAt (cxOf (CX1 P w) P w K mg base N qual scope f cd A outer s H E) cb σ' H' c e s') (he : ∀ C H2, cb.exc c = some C → Same H' H2 → E (.ref C) none H2) :
    (cxOf (CX1 P w) P w K mg base N qual scope f cd A outer s H E).xe e s' := by
  obtain ⟨pins, H1, s1, C, I1, sm, hc, r⟩ := r
  have hfr := I1.ok.frames
  have back : ∀ a, s1.heap.get? a = none → s.heap.get? a = none := fun a q => by
    cases z : s.heap.get? a with
    | none => rfl
    | some o => obtain ⟨o', w'⟩ := I1.base.there a o z (by simp [cxOf]); rw [q] at w'; cases w'
  rcases r with ⟨a, args, h', rfl, rfl, hx⟩ | ⟨a, C', H2, B, a0, rfl, ⟨q1, q2, q3⟩, q4, q5, fl, na, nw, cl⟩
  · -- made here
    let X := cxOf (CX1 P w) P w K mg base N qual scope f cd A outer s H E
    have hst : s1.heap.FunFrames X.base X.stack := I1.stack
    have hin : ∀ env ∈ X.stack, ∀ b, env.frame = some b → b ∈ frs X.stack := fun env he b hb => List.mem_filterMap.mpr ⟨env, he, hb⟩
    have hkb : (PySem.W.hideAll s1.heap (frs X.stack)).StaysIn s1.heap := fun b o q => PySem.W.of_hideAll _ q
    refine wpAny_leaves_madeW (s := { s1 with heap := h' }) (L := s.heap.objs.size) hfr rfl hkb (PySem.W.funFrames_hide hst hin) hx fun h2 t fl tu tn up => ?_
    have na : H1 a = none := by
      cases z : H1 a with
      | none => rfl
      | some o =>
        obtain ⟨ob, hb⟩ := objOk_there (I1.hok a o z)
        rw [hx.new] at hb; cases hb
    refine ⟨a, C, H1, PySem.W.hideAll s1.heap (frs X.stack), .ref t, rfl, he C H1 hc sm, I1.os, I1.bare, fl, na, back a hx.new, fun h3 st3 up3 => ?_⟩
    have keep : ∀ b o, s1.heap.get? b = some o → b ∉ frs X.stack → h3.get? b = some o := fun b o q nb => st3 b o (PySem.W.hideAll_get _ q nb)
    have slot : ∀ b o, s1.heap.get? b = some o → b ∈ frs X.stack → ∃ sl, h3.get? b = some { o with slots := sl } := fun b o q hb => by
      obtain ⟨_, o', ho', hd⟩ := hst.mem hb
      rw [q] at ho'; cases ho'
      exact (up.trans up3) b o (hx.keeps b o q) hd
    have un : Un (frs X.stack) [] H1 H1 s1.heap h3 := ⟨fun b o q n nb _ => keep b o q nb, fun b o q n hb _ => slot b o q hb, fun b o q n _ => n, fun b o q _ => by
      by_cases hb : b ∈ frs X.stack
      · obtain ⟨sl, z⟩ := slot b o q hb; exact ⟨_, z⟩
      · exact ⟨o, keep b o q hb⟩, fun b xs q => q, fun b o u q => q, fun b ps q => ⟨#[], by rw [q]; simp⟩⟩
    have hok : HOk P w H1 h3 := fun b o q => (I1.hok b o q).stay (fun b' u hb' e' => by
      have tr : H1 b' ≠ none := by
        rcases hb' with rfl | hb'
        · rw [q]; exact fun z => nomatch z
        · rw [hb']; exact fun z => nomatch z
      exact keep b' u e' fun z => tr (I1.stkFree b' z)) (fun _ q => q) fun _ _ q => q
    have I3 := I1.call' (s' := { s1 with heap := h3 }) (ch := []) rfl un hok I1.bare (fun b z => absurd z (by simp))
    exact ⟨I3.base, hok⟩
  · -- out of a call
    cases q1
    refine wpAny_leaves_onW (L := s.heap.objs.size) hfr rfl fl fun h2 fl2 up => ?_
    refine ⟨a, C, H2, B, a0, rfl, he C H2 hc (sm.trans q3), q4.trans I1.os, q5, fl2, na, back a nw, fun h3 st3 up3 => ?_⟩
    obtain ⟨un, hok⟩ := cl h3 st3 (up.trans up3)
    have I3 := I1.call' (s' := { s' with heap := h3 }) (ch := []) q4 un hok q5 (fun b z => absurd z (by simp))
    exact ⟨I3.base, hok⟩
theorem j_start {N : List Str} {as : List Slot} {vs : List V} {H : Hp} {c : Cf} (j : J K c.z H as (vs.map some) H) : J K c.z H (st0 N as) (L2.start N vs) H := by
  have hl : as.length = vs.length := by have := j.len; simpa using this
  obtain ⟨S, h1, h2, h3⟩ := j.sl
  refine ⟨j.same, j.free, j.lL, j.lB, by simp [st0, L2.start, hl], fun i b => S i b ∧ i < as.length, fun i sl ov g1 g2 => ?_, fun i k b e z z' => h2 i k b e z.1 z'.1, fun i b z => h3 i b z.1⟩
  by_cases hi : i < as.length
  · rw [st0, List.getElem?_append_left hi] at g1
    rw [L2.start, List.getElem?_append_left (by simpa [← hl] using hi)] at g2
    have eS : (fun b => S i b ∧ i < as.length) = S i := funext fun b => propext ⟨fun z => z.1, fun z => ⟨z, hi⟩⟩
    show SlotOk K c.z H H i (fun b => S i b ∧ i < as.length) sl ov
    rw [eS]
    exact h1 i sl ov g1 g2
  · rw [st0, List.getElem?_append_right (Nat.le_of_not_lt hi), List.getElem?_replicate] at g1
    split at g1
    · cases g1; exact fun b z => hi z.2
    · cases g1
theorem fn_okD {x qual : Str} {st : Stmt} {f : Addr} {fd : FuncData} {N ps : List Str} {k : Nat} {F : List Slot → Ans} {B : Nat → Sg → Out} (Fn' : Fun K x qual st f fd) (S : FnScope N ps (defScope st))
    (hbody : ∀ (c : Cf) (cdv : Value) (A : Around) (outer : List Env) (s : Shared) (H : Hp) (E : XK), c.cb = cb → Room k (A.deeper (envOfC qual (defScope st) s.heap.objs.size f cdv)) →
      Good (cxOf (CX1 P w) P w K mg base N qual (defScope st) f cdv A outer s H E) → ∀ n, PDSs (cxOf (CX1 P w) P w K mg base N qual (defScope st) f cdv A outer s H E) c (defBody st) (B n))
    (hF : ∀ as, as.length = ps.length → F as ≠ .bad → ∃ n, ans (B n (st0 N as)) = F as) : FnD P w K mg base cb (k + 1) f fd ps F := by
  obtain ⟨oc, od, kV, doc, pm, an, cdv, ct', osl, rfl, lk, hcd⟩ := Fn'.ex
  refine fn_of lk hcd S (fun vs H Q E h => h.1) fun A outer s H vs Q E hr hsp => ?_
  obtain ⟨hn, c, as, ecb, eargs, j, h⟩ := hsp
  have hl : as.length = vs.length := by have := j.len; simpa using this
  have hb : F as ≠ .bad := fun z => by rw [z] at h; exact h
  obtain ⟨n, hF⟩ := hF as (by rw [hl]; exact hn) hb
  refine ⟨_, hbody c cdv A outer s H E ecb hr ⟨PassesOwn.leaving, rfl, S.nd, rfl, rfl⟩ n, st0 N as, j_start j, ?_⟩
  rw [← hF] at h
  cases q : B n (st0 N as) with
  | nx Γ => rw [q] at h; exact fun σ' H' _ j => h .non H' j.same j.free (by simp [Tl])
  | bk Γ => rw [q] at h; exact h.elim
  | ct Γ => rw [q] at h; exact h.elim
  | rt d => rw [q] at h; exact fun v H' b t => h v H' b.same b.free t
  | rtm m => rw [q] at h; exact fun v H' S b o n k => h v H' S b.same b.free o n k
  | rtG d Γ => rw [q] at h; exact fun v σ' H' j t => h v Γ σ' H' j rfl t
  | rtmG d Γ => rw [q] at h; exact h.elim
  | err x Γ =>
    rw [q] at h
    exact fun σ' H' e s' _ j r => leave_ok (ecb ▸ r) fun C H2 hc s => h C H2 hc fun b o z n => s b o (j.same b o z n)
  | bad => rw [q] at h; exact h.elim
theorem wfn_okD {x qual : Str} {st : Stmt} {f : Addr} {fd : FuncData} {N ps : List Str} {k : Nat} {F : List Slot → Ans} {B : Nat → Sg → Out} (Fn' : Fun K x qual st f fd) (S : FnScope N ps (defScope st)) (hbody : ∀ (c : Cf) (cdv : Value) (A : Around) (outer : List Env) (s : Shared) (H : Hp) (E : XK), c.cb = cb → Room k (A.deeper (envOfC qual (defScope st) s.heap.objs.size f cdv)) →
      Good (cxOf (CX1 P w) P w K mg base N qual (defScope st) f cdv A outer s H E) → ∀ n, WDSs (cxOf (CX1 P w) P w K mg base N qual (defScope st) f cdv A outer s H E) c (defBody st) (B n)) (hF : ∀ as, as.length = ps.length → F as ≠ .bad → ∃ n, ans (B n (st0 N as)) = F as) : FnD P w K mg base cb (k + 1) f fd ps F := fn_okD (Fn' := Fn') (S := S) (hbody := (fun c cdv A outer s H E h_1 h_2 h_3 n => (hbody c cdv A outer s H E h_1 h_2 h_3 n).out)) (hF := hF)
end
end L4
end
section
set_option Elab.async false
set_option linter.all false
set_option maxRecDepth 100000
namespace L4
open PySem PySem.Spec PyProof.Rows L2
section
variable {X : Cx} {ct : Ct} {a b e : Expr} {f g : Sg → Res D} {pos : Pos}
theorem op2_int {C' : Int → Int → Prop} {C : Int → Int → Bool} {gv : Int → Int → V} {gd : Int → Int → D} (hc : ∀ i j, C i j = true → C' i j) (ht : ∀ i j K ct H, Tl K ct H (gd i j) (gv i j)) : Op2 X ct (rI C' gv) (intD C gd) := by
  intro σ H x y d1 d2 Q lL lB t1 t2 h
  cases d1 with
  | int i =>
    cases d2 with
    | int j =>
      simp only [Tl] at t1 t2
      subst t1 t2
      rw [intD_int] at h
      split at h
      · rename_i hij
        exact ⟨i, j, rfl, rfl, hc i j hij, h _ H (Same.refl H) (ht i j _ _ _)⟩
      · exact h.elim
    | _ => exact h.elim
  | _ => cases d2 <;> exact h.elim
theorem opR_c {F : Value → Value → Sem Value} {gv : Int → Int → V} (h : OpR X F (rI0 gv)) : OpR X F (rI (fun _ _ => True) gv) := fun pins s σ H x y v u Q I rx ry ⟨i, j, h1, h2, _, q⟩ => h pins s σ H x y v u Q I rx ry ⟨i, j, h1, h2, q⟩
theorem mulOk_ok {i j : Int} (h : mulOk i j = true) : IntMulOk i j := by
  simp only [mulOk, Bool.or_eq_true, Bool.and_eq_true, decide_eq_true_eq] at h
  rcases h with (h | h) | h
  · exact .of_left h
  · exact .of_right h
  · exact .of_bits h.1 h.2
theorem op_mulG : OpR X (binaryOp .Mult) (rI (fun i j => mulOk i j = true) fun i j => .int (i * j)) := opI fun _ _ _ _ _ _ _ hc q => mul_int q (mulOk_ok hc)
theorem op_fdivG : OpR X (binaryOp .FloorDiv) (rI (fun i j => divOk i j = true) fun i j => .int (i.fdiv j)) := opI fun _ _ _ _ _ _ _ hc q => by
  simp only [divOk, Bool.and_eq_true, decide_eq_true_eq] at hc
  exact floordiv_int hc.1 q (.inl (PyProof.noPylong_of_log2 hc.2))
theorem pd_sub (ha : PD X ct a f) (hb : PD X ct b g) : PD X ct (.BinOp a .Sub b pos) (dOp subI f g) := pd_op (opR_c op_sub) (op2_int (fun _ _ _ => trivial) fun _ _ _ _ _ => by simp [Tl]) ha hb
theorem wd_sub (ha : WD X ct a f) (hb : WD X ct b g) : WD X ct (.BinOp a .Sub b pos) (dOp subI f g) := ⟨pd_sub (ha := ha.out) (hb := hb.out)⟩
theorem pd_mul (ha : PD X ct a f) (hb : PD X ct b g) : PD X ct (.BinOp a .Mult b pos) (dOp mulI f g) := pd_op op_mulG (op2_int (fun _ _ h => h) fun _ _ _ _ _ => by simp [Tl]) ha hb
theorem wd_mul (ha : WD X ct a f) (hb : WD X ct b g) : WD X ct (.BinOp a .Mult b pos) (dOp mulI f g) := ⟨pd_mul (ha := ha.out) (hb := hb.out)⟩
theorem pd_fdiv (ha : PD X ct a f) (hb : PD X ct b g) : PD X ct (.BinOp a .FloorDiv b pos) (dOp fdivI f g) := pd_op op_fdivG (op2_int (fun _ _ h => h) fun _ _ _ _ _ => by simp [Tl]) ha hb
theorem wd_fdiv (ha : WD X ct a f) (hb : WD X ct b g) : WD X ct (.BinOp a .FloorDiv b pos) (dOp fdivI f g) := ⟨pd_fdiv (ha := ha.out) (hb := hb.out)⟩
theorem pd_mod (ha : PD X ct a f) (hb : PD X ct b g) : PD X ct (.BinOp a .Mod b pos) (dOp modI f g) := pd_op op_modN (op2_int (fun _ _ h => of_decide_eq_true h) fun _ _ _ _ _ => by simp [Tl]) ha hb
theorem wd_mod (ha : WD X ct a f) (hb : WD X ct b g) : WD X ct (.BinOp a .Mod b pos) (dOp modI f g) := ⟨pd_mod (ha := ha.out) (hb := hb.out)⟩
theorem pd_pow (ha : PD X ct a f) (hb : PD X ct b g) : PD X ct (.BinOp a .Pow b pos) (dOp powI f g) := pd_op op_pow (op2_int (fun _ _ h => by
  simp only [powOk, Bool.and_eq_true, decide_eq_true_eq] at h
  exact ⟨h.1.1, h.1.2, h.2⟩) fun _ _ _ _ _ => by simp [Tl]) ha hb
theorem wd_pow (ha : WD X ct a f) (hb : WD X ct b g) : WD X ct (.BinOp a .Pow b pos) (dOp powI f g) := ⟨pd_pow (ha := ha.out) (hb := hb.out)⟩
theorem pd_lt (ha : PD X ct a f) (hb : PD X ct b g) : PD X ct (.Compare a [.Lt] [b] pos) (dOp ltI f g) := pd_cmp (opR_c op_lt) (op2_int (fun _ _ _ => trivial) fun _ _ _ _ _ => by simp [Tl]) ha hb (nomark _)
theorem wd_lt (ha : WD X ct a f) (hb : WD X ct b g) : WD X ct (.Compare a [.Lt] [b] pos) (dOp ltI f g) := ⟨pd_lt (ha := ha.out) (hb := hb.out)⟩
theorem pdt_lt (ha : PD X ct a f) (hb : PD X ct b g) : PDT X ct (.Compare a [.Lt] [b] pos) (dT (dOp ltI f g)) := pdt_cmp (opR_c op_lt) (op2_int (fun _ _ _ => trivial) fun _ _ _ _ _ => by simp [Tl]) ha hb (nomark _)
theorem wdt_lt (ha : WD X ct a f) (hb : WD X ct b g) : WDT X ct (.Compare a [.Lt] [b] pos) (dT (dOp ltI f g)) := ⟨pdt_lt (ha := ha.out) (hb := hb.out)⟩
theorem pd_neg (ha : PD X ct a f) : PD X ct (.UnaryOp .USub a pos) (dUn negI f) := by
  refine PE.imp (pe_un un_neg ha) fun σ H Q ⟨Γ, j, h⟩ => ?_
  refine eOf.bnd j h fun d v H' s t j' h' => ?_
  cases d with
  | int i => simp only [Tl] at t; exact ⟨i, t, h' _ H' s (by simp [Tl])⟩
  | _ => exact h'.elim
theorem wd_neg (ha : WD X ct a f) : WD X ct (.UnaryOp .USub a pos) (dUn negI f) := ⟨pd_neg (ha := ha.out)⟩
theorem cb_of {r2 : List V → Hp → VK → Prop} {r : List D → Res D} {fa : Sg → Res (List D)} (k : ∀ (σ : St) (H : Hp) (vs : List V) (ds : List D) (Q : VK), Same ct.f.L H → Same ct.B H → Tls X.K ct H ds vs → Ok X ct σ H (r ds) (Wd X ct H Q) → r2 vs H Q) :
    ∀ σ H Q, eOf X ct (dCB r fa) σ H Q → tCB r2 (aOf X ct fa) σ H Q := by
  rintro σ H Q ⟨Γ, j, h⟩
  exact aOf.bnd j h fun ds vs H' s t j' h' => k σ H' vs ds Q j'.lL j'.lB t (Ok.mono s h' fun d q => q.mono s)
theorem tls1 {K : PySem.W.Frag} {H : Hp} {d : D} {vs : List V} (h : Tls K ct H [d] vs) : ∃ v, vs = [v] ∧ Tl K ct H d v := by
  simp only [Tls] at h
  obtain ⟨v, r, rfl, t, rfl⟩ := h
  exact ⟨v, rfl, t⟩
theorem pd_abs {p : Pos} {fa : Sg → Res (List D)} {es : List Expr} (hm : X.mg "abs" = none) (ha : PDA X ct (e :: es) fa) (hg : Gl X "abs" := by rfl) (he : starEach (e :: es) X.env = (false, eval e X.env) :: starEach es X.env := by rfl)
    (hpl : (backTo pos (starEach es X.env)).any (·.1) = false := by rfl) : PD X ct (.Call (.Name "abs" p) (e :: es) [] pos) (dCB absD fa) := by
  refine PE.imp (pe_callB call_abs hg hm PyProof.Rows.boot_abs ha (by decide) (by decide) he hpl) (cb_of fun σ H vs ds Q lL lB t h => ?_)
  unfold absD at h
  split at h
  · rename_i i
    obtain ⟨v, rfl, tv⟩ := tls1 t
    simp only [Tl] at tv
    subst tv
    exact ⟨i, rfl, h _ H (Same.refl H) (by simp [Tl])⟩
  · exact h.elim
theorem wd_abs {p : Pos} {fa : Sg → Res (List D)} {es : List Expr} (hm : X.mg "abs" = none) (ha : WDA X ct (e :: es) fa) (hg : Gl X "abs" := by rfl) (he : starEach (e :: es) X.env = (false, eval e X.env) :: starEach es X.env := by rfl) (hpl : (backTo pos (starEach es X.env)).any (·.1) = false := by rfl) : WD X ct (.Call (.Name "abs" p) (e :: es) [] pos) (dCB absD fa) := ⟨pd_abs (hm := hm) (ha := ha.out) (hg := hg) (he := he) (hpl := hpl)⟩
theorem pd_len {p : Pos} {fa : Sg → Res (List D)} {es : List Expr} (hm : X.mg "len" = none) (ha : PDA X ct (e :: es) fa) (hg : Gl X "len" := by rfl) (he : starEach (e :: es) X.env = (false, eval e X.env) :: starEach es X.env := by rfl)
    (hpl : (backTo pos (starEach es X.env)).any (·.1) = false := by rfl) : PD X ct (.Call (.Name "len" p) (e :: es) [] pos) (dCB lenD fa) := by
  refine PE.imp (pe_callB call_len hg hm PySem.boot_len ha (by decide) (by decide) he hpl) (cb_of fun σ H vs ds Q lL lB t h => ?_)
  unfold lenD at h
  split at h
  · rename_i es
    obtain ⟨v, rfl, tv⟩ := tls1 t
    simp only [Tl] at tv
    obtain ⟨a, us, rfl, h1, h2⟩ := tv
    refine ⟨_, us.length, rfl, ?_, h _ H (Same.refl H) (by rw [h2.length]; simp [Tl])⟩
    exact .inl ⟨us, h1.sq, rfl⟩
  · rename_i es
    obtain ⟨v, rfl, tv⟩ := tls1 t
    simp only [Tl] at tv
    obtain ⟨a, us, rfl, h1, h2⟩ := tv
    refine ⟨_, us.length, rfl, ?_, h _ H (Same.refl H) (by rw [h2.length]; simp [Tl])⟩
    exact .inr ⟨us, sq_of h1, rfl⟩
  · rename_i es
    obtain ⟨v, rfl, tv⟩ := tls1 t
    simp only [Tl] at tv
    obtain ⟨a, us, rfl, h1, h2⟩ := tv
    refine ⟨_, us.length, rfl, ?_, h _ H (Same.refl H) (by rw [h2.length]; simp [Tl])⟩
    exact .inr ⟨us, h1.sq, rfl⟩
  · rename_i tm es
    obtain ⟨v, rfl, tv⟩ := tls1 t
    obtain ⟨a, us, rfl, h1, h2⟩ := tv.seqL lL lB rfl
    refine ⟨_, us.length, rfl, ?_, h _ H (Same.refl H) (by rw [h2.length]; simp [Tl])⟩
    exact .inl ⟨us, h1, rfl⟩
  · rename_i x
    split at h
    · rename_i hx
      obtain ⟨v, rfl, tv⟩ := tls1 t
      simp only [Tl] at tv
      subst tv
      exact ⟨_, x.length, rfl, ⟨hx, rfl⟩, h _ H (Same.refl H) (by simp [Tl])⟩
    · exact h.elim
  · exact h.elim
theorem wd_len {p : Pos} {fa : Sg → Res (List D)} {es : List Expr} (hm : X.mg "len" = none) (ha : WDA X ct (e :: es) fa) (hg : Gl X "len" := by rfl) (he : starEach (e :: es) X.env = (false, eval e X.env) :: starEach es X.env := by rfl) (hpl : (backTo pos (starEach es X.env)).any (·.1) = false := by rfl) : WD X ct (.Call (.Name "len" p) (e :: es) [] pos) (dCB lenD fa) := ⟨pd_len (hm := hm) (ha := ha.out) (hg := hg) (he := he) (hpl := hpl)⟩
end
end L4
end
section
set_option Elab.async false
set_option linter.all false
set_option maxRecDepth 100000
namespace L4
open PySem PySem.Spec PyProof.Rows L2
theorem canLayAll_pys : ∀ (ds : List D), (∀ d ∈ ds, (py d).canLay0 = true) → PyData.canLayAll0 (pys ds) = true
  | [], _ => by simp [pys, PyData.canLayAll0]
  | d :: ds, h => by
    simp only [pys, PyData.canLayAll0, Bool.and_eq_true]
    exact ⟨h d (.head _), canLayAll_pys ds fun x hx => h x (.tail _ hx)⟩
theorem depthAll_pys {n : Nat} : ∀ (ds : List D), (∀ d ∈ ds, (py d).depth ≤ n) → PyData.depthAll (pys ds) ≤ n
  | [], _ => by simp [pys, PyData.depthAll]
  | d :: ds, h => by
    simp only [pys, PyData.depthAll]
    exact Nat.max_le.mpr ⟨h d (.head _), depthAll_pys ds fun x hx => h x (.tail _ hx)⟩
theorem okq_lay : ∀ (n : Nat) (d : D), okq n d = true → (py d).canLay0 = true ∧ (py d).depth ≤ n
  | n, .non, _ => by simp [py, PyData.canLay0, PyData.depth]
  | n, .bl b, _ => by simp [py, PyData.canLay0, PyData.depth]
  | n, .int b, _ => by simp [py, PyData.canLay0, PyData.depth]
  | n, .str b, h => by cases n <;> simp_all [py, PyData.canLay0, PyData.depth, okq]
  | 0, .tup ds, h => by simp [okq] at h
  | 0, .gt ds, h => by simp [okq] at h
  | 0, .lst ds, h => by simp [okq] at h
  | 0, .bor _ ds, h => by simp [okq] at h
  | n + 1, .bor _ ds, h => by
    simp only [okq, List.all_eq_true] at h
    simp only [py, PyData.canLay0, PyData.depth]
    exact ⟨canLayAll_pys ds fun d hd => (okq_lay n d (h d hd)).1, Nat.succ_le_succ (depthAll_pys ds fun d hd => (okq_lay n d (h d hd)).2)⟩
  | n + 1, .tup ds, h => by
    simp only [okq, List.all_eq_true] at h
    simp only [py, PyData.canLay0, PyData.depth]
    exact ⟨canLayAll_pys ds fun d hd => (okq_lay n d (h d hd)).1, Nat.succ_le_succ (depthAll_pys ds fun d hd => (okq_lay n d (h d hd)).2)⟩
  | n + 1, .gt ds, h => by
    simp only [okq, List.all_eq_true] at h
    simp only [py, PyData.canLay0, PyData.depth]
    exact ⟨canLayAll_pys ds fun d hd => (okq_lay n d (h d hd)).1, Nat.succ_le_succ (depthAll_pys ds fun d hd => (okq_lay n d (h d hd)).2)⟩
  | n + 1, .lst ds, h => by
    simp only [okq, List.all_eq_true] at h
    simp only [py, PyData.canLay0, PyData.depth]
    exact ⟨canLayAll_pys ds fun d hd => (okq_lay n d (h d hd)).1, Nat.succ_le_succ (depthAll_pys ds fun d hd => (okq_lay n d (h d hd)).2)⟩
  | 0, .obj _ _ _, h => by simp [okq] at h
  | 0, .exc _, h => by simp [okq] at h
  | n + 1, .obj _ _ _, h => by simp [okq] at h
  | n + 1, .exc _, h => by simp [okq] at h
  | 0, .dic _ _, h => by simp [okq] at h
  | 0, .bdc _ _ _, h => by simp [okq] at h
  | n + 1, .dic _ _, h => by simp [okq] at h
  | n + 1, .bdc _ _ _, h => by simp [okq] at h
  | 0, .bob _ _ _ _, h => by simp [okq] at h
  | n + 1, .bob _ _ _ _, h => by simp [okq] at h
theorem okq_shaped {d : D} (h : okq 12 d = true) : SeqAt.shaped (py d) = true := by
  obtain ⟨h1, h2⟩ := okq_lay 12 d h
  unfold SeqAt.shaped
  rw [h1, Bool.true_and]
  exact decide_eq_true (Nat.le_trans h2 (by decide))
section
variable {X : Cx} {ct : Ct} {pins : List (Addr × Obj)} {σ : St} {H : Hp} {s : Shared}
theorem readsAll_of {f : D → Prop} (hf : ∀ d v u, f d → Tl X.K ct H d v → RelV v u → ∃ as, Reads s.heap u (py d) as) : ∀ (ds : List D) (vs : List V) (us : List Value), (∀ d ∈ ds, f d) → Tls X.K ct H ds vs → Vals vs us → ∃ as, ReadsAll s.heap us (pys ds) as
  | [], vs, us, _, h, r => by
    simp only [Tls] at h; subst h
    cases r
    exact ⟨[], .nil⟩
  | d :: ds, vs, us, hd, h, r => by
    simp only [Tls] at h
    obtain ⟨v, w, rfl, t1, t2⟩ := h
    cases r with
    | cons r1 r2 =>
      obtain ⟨as, h1⟩ := hf d v _ (hd d (.head _)) t1 r1
      obtain ⟨bs, h2⟩ := readsAll_of hf ds w _ (fun x hx => hd x (.tail _ hx)) t2 r2
      exact ⟨as ++ bs, .cons h1 h2⟩
theorem reads_of (I : Inv X pins σ H s) (lL : Same ct.f.L H) (lB : Same ct.B H) : ∀ (n : Nat) (d : D) (v : V) (u : Value), okq n d = true → Tl X.K ct H d v → RelV v u → ∃ as, Reads s.heap u (py d) as
  | n, .non, v, u, _, t, r => by simp only [Tl] at t; subst t; cases r; exact ⟨[], .none⟩
  | n, .bl b, v, u, _, t, r => by simp only [Tl] at t; subst t; cases r; exact ⟨[], .bool b⟩
  | n, .int i, v, u, _, t, r => by simp only [Tl] at t; subst t; obtain ⟨k, rfl⟩ := r; exact ⟨[], .int i k⟩
  | n, .str x, v, u, _, t, r => by simp only [Tl] at t; subst t; obtain ⟨k, rfl⟩ := r; exact ⟨[], .str x k⟩
  | 0, .tup ds, v, u, h, _, _ => by simp [okq] at h
  | 0, .gt ds, v, u, h, _, _ => by simp [okq] at h
  | 0, .lst ds, v, u, h, _, _ => by simp [okq] at h
  | 0, .bor _ ds, v, u, h, _, _ => by simp [okq] at h
  | n + 1, .bor tm ds, v, u, h, t, r => by
    obtain ⟨a, vs, rfl, t1, t2⟩ := t.seqL lL lB rfl
    cases r
    simp only [okq, List.all_eq_true] at h
    obtain ⟨its, rv, ⟨o, m, h1, h2, _, h3⟩, _⟩ := I.list t1
    obtain ⟨as, q⟩ := readsAll_of (f := fun d => okq n d = true) (fun d v u h t r => reads_of I lL lB n d v u h t r) ds vs its h t2 rv
    exact ⟨a :: as, reads_list_at h1 h2 h3 (by simpa using q)⟩
  | n + 1, .tup ds, v, u, h, t, r => by
    simp only [Tl] at t
    obtain ⟨a, vs, rfl, t1, t2⟩ := t
    cases r
    simp only [okq, List.all_eq_true] at h
    obtain ⟨its, rv, ⟨o, h1, h2, m, h3⟩, _⟩ := I.tuple (sq_of t1)
    obtain ⟨as, q⟩ := readsAll_of (f := fun d => okq n d = true) (fun d v u h t r => reads_of I lL lB n d v u h t r) ds vs its h t2 rv
    exact ⟨as, reads_tuple_at h1 h2 h3 (by simpa using q)⟩
  | n + 1, .gt ds, v, u, h, t, r => by
    simp only [Tl] at t
    obtain ⟨a, vs, rfl, t1, t2⟩ := t
    cases r
    simp only [okq, List.all_eq_true] at h
    obtain ⟨its, rv, ⟨o, h1, h2, m, h3⟩, _⟩ := I.tuple t1.sq
    obtain ⟨as, q⟩ := readsAll_of (f := fun d => okq n d = true) (fun d v u h t r => reads_of I lL lB n d v u h t r) ds vs its h t2 rv
    exact ⟨as, reads_tuple_at h1 h2 h3 (by simpa using q)⟩
  | n + 1, .lst ds, v, u, h, t, r => by
    simp only [Tl] at t
    obtain ⟨a, vs, rfl, t1, t2⟩ := t
    cases r
    simp only [okq, List.all_eq_true] at h
    obtain ⟨its, rv, ⟨o, m, h1, h2, _, h3⟩, _⟩ := I.list t1.sq
    obtain ⟨as, q⟩ := readsAll_of (f := fun d => okq n d = true) (fun d v u h t r => reads_of I lL lB n d v u h t r) ds vs its h t2 rv
    exact ⟨a :: as, reads_list_at h1 h2 h3 (by simpa using q)⟩
  | 0, .obj _ _ _, v, u, h, _, _ => by simp [okq] at h
  | 0, .exc _, v, u, h, _, _ => by simp [okq] at h
  | n + 1, .obj _ _ _, v, u, h, _, _ => by simp [okq] at h
  | n + 1, .exc _, v, u, h, _, _ => by simp [okq] at h
  | 0, .dic _ _, v, u, h, _, _ => by simp [okq] at h
  | 0, .bdc _ _ _, v, u, h, _, _ => by simp [okq] at h
  | n + 1, .dic _ _, v, u, h, _, _ => by simp [okq] at h
  | n + 1, .bdc _ _ _, v, u, h, _, _ => by simp [okq] at h
  | 0, .bob _ _ _ _, v, u, h, _, _ => by simp [okq] at h
  | n + 1, .bob _ _ _ _, v, u, h, _, _ => by simp [okq] at h
end
section
variable {X : Cx} {ct : Ct} {a b e : Expr} {f g : Sg → Res D} {pos : Pos}
def rDeq (K : PySem.W.Frag) (ct : Ct) (neg : Bool) : R2 := fun x y H Q => Same ct.f.L H ∧ Same ct.B H ∧ ∃ d1 d2, Tl K ct H d1 x ∧ Tl K ct H d2 y ∧ okq 12 d1 = true ∧ okq 12 d2 = true ∧ Q (.bl (if neg then !deq d1 d2 else deq d1 d2)) H
theorem op_deq (hu : X.A.units + 64 < cLine) : OpR X (compareOp .Eq) (rDeq X.K ct false) := by
  intro pins s σ H x y v u Q I rx ry ⟨lL, lB, d1, d2, t1, t2, o1, o2, q⟩
  obtain ⟨as, r1⟩ := reads_of I lL lB 12 d1 x v o1 t1 rx
  obtain ⟨bs, r2⟩ := reads_of I lL lB 12 d2 y u o2 t2 ry
  exact eq_dataH r1 r2 (okq_shaped o1) (okq_shaped o2) hu ⟨.bl _, H, I, rfl, q⟩
theorem op_dne (hu : X.A.units + 64 < cLine) : OpR X (compareOp .NotEq) (rDeq X.K ct true) := by
  intro pins s σ H x y v u Q I rx ry ⟨lL, lB, d1, d2, t1, t2, o1, o2, q⟩
  obtain ⟨as, r1⟩ := reads_of I lL lB 12 d1 x v o1 t1 rx
  obtain ⟨bs, r2⟩ := reads_of I lL lB 12 d2 y u o2 t2 ry
  exact ne_dataH r1 r2 (okq_shaped o1) (okq_shaped o2) hu ⟨.bl _, H, I, rfl, q⟩
theorem op2_eq : Op2 X ct (rDeq X.K ct false) eqD := by
  intro σ H x y d1 d2 Q lL lB t1 t2 h
  unfold eqD at h
  split at h
  · rename_i ho
    exact ⟨lL, lB, d1, d2, t1, t2, ho.1, ho.2, h _ H (Same.refl H) (by simp [Tl])⟩
  · exact h.elim
theorem op2_ne : Op2 X ct (rDeq X.K ct true) neD := by
  intro σ H x y d1 d2 Q lL lB t1 t2 h
  unfold neD at h
  split at h
  · rename_i ho
    exact ⟨lL, lB, d1, d2, t1, t2, ho.1, ho.2, h _ H (Same.refl H) (by simp [Tl])⟩
  · exact h.elim
theorem pdt_eq (hu : X.A.units + 64 < cLine) (ha : PD X ct a f) (hb : PD X ct b g) : PDT X ct (.Compare a [.Eq] [b] pos) (dT (dOp eqD f g)) := pdt_cmp (op_deq hu) op2_eq ha hb (nomark _)
theorem wdt_eq (hu : X.A.units + 64 < cLine) (ha : WD X ct a f) (hb : WD X ct b g) : WDT X ct (.Compare a [.Eq] [b] pos) (dT (dOp eqD f g)) := ⟨pdt_eq (hu := hu) (ha := ha.out) (hb := hb.out)⟩
theorem pdt_ne (hu : X.A.units + 64 < cLine) (ha : PD X ct a f) (hb : PD X ct b g) : PDT X ct (.Compare a [.NotEq] [b] pos) (dT (dOp neD f g)) := pdt_cmp (op_dne hu) op2_ne ha hb (nomark _)
theorem wdt_ne (hu : X.A.units + 64 < cLine) (ha : WD X ct a f) (hb : WD X ct b g) : WDT X ct (.Compare a [.NotEq] [b] pos) (dT (dOp neD f g)) := ⟨pdt_ne (hu := hu) (ha := ha.out) (hb := hb.out)⟩
theorem atI_tls {K : PySem.W.Frag} {H : Hp} {ds : List D} {vs : List V} {i : Int} {d : D} (t : Tls K ct H ds vs) (h : atI ds i = some d) : ∃ v, atI vs i = some v ∧ Tl K ct H d v := by
  unfold atI at h ⊢
  rw [← t.length]
  cases q : ixN ds.length i with
  | none => rw [q] at h; cases h
  | some k => rw [q] at h; exact t.get h
theorem op2_ix : Op2 X ct (rIx X.K) ixD := by
  intro σ H x y d1 d2 Q lL lB t1 t2 h
  unfold ixD at h
  split at h
  · rename_i ds i
    split at h
    · rename_i d hd
      simp only [Tl] at t1 t2
      obtain ⟨a, vs, rfl, h1, h2⟩ := t1
      subst t2
      obtain ⟨v, hv, tv⟩ := atI_tls h2 hd
      exact .inl ⟨a, vs, i, v, rfl, rfl, h1.sq, hv, h v H (Same.refl H) tv⟩
    · exact h.elim
  · rename_i tm ds i
    split at h
    · rename_i d hd
      obtain ⟨a, vs, rfl, h1, h2⟩ := t1.seqL lL lB rfl
      simp only [Tl] at t2
      subst t2
      obtain ⟨v, hv, tv⟩ := atI_tls h2 hd
      exact .inl ⟨a, vs, i, v, rfl, rfl, h1, hv, h v H (Same.refl H) tv⟩
    · exact h.elim
  · rename_i ds i
    split at h
    · rename_i d hd
      simp only [Tl] at t1 t2
      obtain ⟨a, vs, rfl, h1, h2⟩ := t1
      subst t2
      obtain ⟨v, hv, tv⟩ := atI_tls h2 hd
      exact .inr (.inl ⟨a, vs, i, v, rfl, rfl, sq_of h1, hv, h v H (Same.refl H) tv⟩)
    · exact h.elim
  · rename_i ds i
    split at h
    · rename_i d hd
      simp only [Tl] at t1 t2
      obtain ⟨a, vs, rfl, h1, h2⟩ := t1
      subst t2
      obtain ⟨v, hv, tv⟩ := atI_tls h2 hd
      exact .inr (.inl ⟨a, vs, i, v, rfl, rfl, h1.sq, hv, h v H (Same.refl H) tv⟩)
    · exact h.elim
  · rename_i z i
    split at h
    · rename_i hz
      split at h
      · rename_i c hc
        simp only [Tl] at t1 t2
        subst t1 t2
        exact .inr (.inr ⟨z, i, c, rfl, rfl, hz, hc, h _ H (Same.refl H) (by simp [Tl])⟩)
      · exact h.elim
    · exact h.elim
  · exact h.elim
theorem pd_ix (ha : PD X ct a f) (hb : PD X ct b g) (hs : PlainIx b := by exact fun _ _ => rfl) : PD X ct (.Subscript a b pos) (dOp ixD f g) := PE.imp (pe_ix ix_seq ha hb hs) (op2_of op2_ix)
theorem wd_ix (ha : WD X ct a f) (hb : WD X ct b g) (hs : PlainIx b := by exact fun _ _ => rfl) : WD X ct (.Subscript a b pos) (dOp ixD f g) := ⟨pd_ix (ha := ha.out) (hb := hb.out) (hs := hs)⟩
theorem pd_add (ha : PD X ct a f) (hb : PD X ct b g) : PD X ct (.BinOp a .Add b pos) (dOp addD f g) := by
  refine pd_op (OpR.or op_add op_add_str) (fun σ H x y d1 d2 Q lL lB t1 t2 h => ?_) ha hb
  unfold addD at h
  split at h
  · simp only [Tl] at t1 t2
    subst t1 t2
    exact .inl ⟨_, _, rfl, rfl, h _ H (Same.refl H) (by simp [Tl])⟩
  · split at h
    · rename_i hl
      simp only [Tl] at t1 t2
      subst t1 t2
      exact .inr ⟨_, _, rfl, rfl, hl, h _ H (Same.refl H) (by simp [Tl])⟩
    · exact h.elim
  · exact h.elim
theorem wd_add (ha : WD X ct a f) (hb : WD X ct b g) : WD X ct (.BinOp a .Add b pos) (dOp addD f g) := ⟨pd_add (ha := ha.out) (hb := hb.out)⟩
def rCatF (K : PySem.W.Frag) : R2 := fun x y H Q => ∃ l b xs zs, x = .ref l ∧ y = .ref b ∧ SqL K H l xs ∧ SqL K H b zs ∧ xs.length + zs.length ≤ sizeLine ∧ ∀ p, H p = none → Q (.ref p) (upd H p (.lst (xs ++ zs)))
theorem op_catF : OpR X (binaryOp .Add) (rCatF X.K) := by
  intro pins s σ H x y v u Q I rx ry h
  obtain ⟨l, b, xs, zs, rfl, rfl, hH, hB, hz, q⟩ := h
  cases rx
  cases ry
  obtain ⟨its, r, ⟨⟨oc, od, odt, osl⟩, n, e, hc, _, hd⟩, _⟩ := I.list hH
  obtain ⟨its2, r2, ⟨⟨oc2, od2, odt2, osl2⟩, n2, e2, hc2, _, hd2⟩, _⟩ := I.list hB
  simp only at hc hd hc2 hd2
  subst hc hd hc2 hd2
  have hl := r.length
  have hl2 := r2.length
  have ea : its.toArray ++ its2.toArray = (its ++ its2).toArray := by simp
  refine concat_meets ⟨_, e, rfl⟩ ⟨_, e2, rfl⟩ noFill_list_add seq_list_add PySem.F.slot_list_add PySem.F.entry_list_add
    (PySem.F.args_list_add_2 _ _) (list_addW l b its.toArray its2.toArray n n2 od od2 osl osl2 (by simp only [List.size_toArray]; omega)) ⟨e, e2, ?_⟩
  rw [ea]
  exact ⟨.ref _, _, I.lnew (t' := s.toks) (r.append r2) (by rw [List.length_append]; omega), rfl, q _ I.fresh⟩
theorem pl_cat (ha : PD X ct a f) (hb : PD X ct b g) : PL X ct (.BinOp a .Add b pos) (lOp catD f g) := by
  refine PE.imp (pe_op op_catF ha hb) ?_
  rintro σ H Q ⟨Γ, j, h⟩
  refine eOf.bnd j h fun d1 v H1 s1 t1 j1 h1 => ?_
  refine eOf.bnd (W := Wl X ct H Q) j1 (Ok.mono s1 h1 fun _ z => z) fun d2 u H2 s2 t2 j2 h2 => ?_
  have t1 := t1.keep (Same.keep s2)
  unfold catD at h2
  split at h2
  · rename_i e1 e2
    split at h2
    · rename_i hl
      obtain ⟨a, vs, rfl, q1, q2⟩ := t1.seqL j2.lL j2.lB e1
      obtain ⟨b, us, rfl, q3, q4⟩ := t2.seqL j2.lL j2.lB e2
      refine ⟨a, b, vs, us, rfl, rfl, q1, q3, by rw [← q2.length, ← q4.length]; exact hl, fun p hp => ?_⟩
      have s3 := same_new hp (.lst (vs ++ us))
      exact h2 p _ _ ((s1.trans s2).trans s3) ((s1.trans s2).free hp) upd_same ((q2.append q4).keep (Same.keep s3))
    · exact h2.elim
  · exact h2.elim
theorem wl_cat (ha : WD X ct a f) (hb : WD X ct b g) : WL X ct (.BinOp a .Add b pos) (lOp catD f g) := ⟨pl_cat (ha := ha.out) (hb := hb.out)⟩
def oOf (X : Cx) (ct : Ct) (f : Sg → Res (Option Int)) : TO := fun σ H Q => ∃ Γ, Jx X ct Γ σ H ∧ Ok X ct σ H (f Γ) fun i => ∀ H', Same H H' → Q i H'
abbrev PDO (X : Cx) (ct : Ct) (e : Option Expr) (f : Sg → Res (Option Int)) : Prop := PO X e (oOf X ct f)
structure WO (X : Cx) (e : Option Expr) (t : TO) : Prop where
  out : PO X e t
abbrev WDO (X : Cx) (ct : Ct) (e : Option Expr) (f : Sg → Res (Option Int)) : Prop := WO X e (oOf X ct f)
theorem PO.imp {e : Option Expr} {t u : TO} (h : PO X e t) (k : ∀ σ H Q, u σ H Q → t σ H Q) : PO X e u := fun pins s σ H Q I q => h pins s σ H Q I (k σ H Q q)
theorem pdo_none : PDO X ct none dNoP := PO.imp po_none fun σ H Q ⟨Γ, j, h⟩ => h H (Same.refl H)
theorem wdo_none  : WDO X ct none dNoP := ⟨pdo_none⟩
theorem pdo_some (he : PD X ct e f) : PDO X ct (some e) (dP f) := by
  refine PO.imp (po_some he) fun σ H Q ⟨Γ, j, h⟩ => ?_
  refine eOf.bnd j h fun d v H' s t j' h' => ?_
  cases d with
  | int i => simp only [Tl] at t; exact ⟨i, t, h' H' s⟩
  | _ => exact h'.elim
theorem wdo_some (he : WD X ct e f) : WDO X ct (some e) (dP f) := ⟨pdo_some (he := he.out)⟩
theorem cutL_tls {K : PySem.W.Frag} {H : Hp} {ds : List D} {vs : List V} (t : Tls K ct H ds vs) (lo hi : Option Int) : Tls K ct H (cutL ds lo hi) (cutV vs lo hi) := by
  unfold cutL cutV
  rw [t.length]
  exact (t.drop _).take _
theorem pl_cut {lo hi : Option Expr} {l u : Sg → Res (Option Int)} {p2 : Pos} (he : PD X ct e f) (hl : PDO X ct lo l) (hu : PDO X ct hi u) : PL X ct (.Subscript e (.Slice lo hi none p2) pos) (lCut f l u) := by
  refine PE.imp (pe_slice sl_list he hl hu) fun σ H Q ⟨Γ, j, h⟩ => ?_
  refine eOf.bnd j h fun d v H1 s1 t1 j1 h1 => ?_
  refine ⟨Γ, j1, (Ok.mono s1 h1 fun _ z => z).bnd (W := Wl X ct H Q) fun lo _ h2 H2 s2 => ?_⟩
  refine ⟨Γ, j1.mono s2, (Ok.mono s2 h2 fun _ z => z).bnd (W := Wl X ct H Q) fun hi _ h3 H3 s3 => ?_⟩
  have t3 := t1.keep (Same.keep (s2.trans s3))
  cases q : asL d with
  | some xs =>
    rw [q] at h3
    have j3 := j1.mono (s2.trans s3)
    obtain ⟨a, vs, rfl, fz, tl⟩ := t3.seqL j3.lL j3.lB q
    refine ⟨a, vs, rfl, fz, fun p hp => ?_⟩
    have s4 := same_new hp (.lst (cutV vs lo hi))
    exact h3 p _ _ (((s1.trans s2).trans s3).trans s4) (((s1.trans s2).trans s3).free hp) upd_same ((cutL_tls tl lo hi).keep (Same.keep s4))
  | none => rw [q] at h3; exact h3.elim
theorem wl_cut {lo hi : Option Expr} {l u : Sg → Res (Option Int)} {p2 : Pos} (he : WD X ct e f) (hl : WDO X ct lo l) (hu : WDO X ct hi u) : WL X ct (.Subscript e (.Slice lo hi none p2) pos) (lCut f l u) := ⟨pl_cut (he := he.out) (hl := hl.out) (hu := hu.out)⟩
end
end L4
end
section
set_option Elab.async false
set_option linter.all false
set_option maxRecDepth 100000
namespace L4
open PySem PySem.Spec PyProof.Rows L2
section
variable {K : PySem.W.Frag} {ct : Ct} {H H' : Hp}
def Walk (H : Hp) : M → V → List Nat → V → Prop
  | _, v, [], v' => v' = v
  | .n ms, v, k :: ks, v' => ∃ a vs v1 m1, v = .ref a ∧ H a = some (.lst vs) ∧ vs[k]? = some v1 ∧ ms[k]? = some m1 ∧ Walk H m1 v1 ks v'
  | .t ms, v, k :: ks, v' => ∃ a vs v1 m1, v = .ref a ∧ H a = some (.tup vs) ∧ vs[k]? = some v1 ∧ ms[k]? = some m1 ∧ Walk H m1 v1 ks v'
  | _, _, _ :: _, _ => False
theorem Walk.same (e : Same H H') : ∀ {ks : List Nat} {m : M} {v v' : V}, Walk H m v ks v' → Walk H' m v ks v'
  | [], m, v, v', h => by cases m <;> simpa only [Walk] using h
  | k :: ks, .n ms, v, v', h => by
    simp only [Walk] at h ⊢
    obtain ⟨a, vs, v1, m1, h1, h2, h3, h4, h5⟩ := h
    exact ⟨a, vs, v1, m1, h1, e _ _ h2, h3, h4, Walk.same e h5⟩
  | k :: ks, .t ms, v, v', h => by
    simp only [Walk] at h ⊢
    obtain ⟨a, vs, v1, m1, h1, h2, h3, h4, h5⟩ := h
    exact ⟨a, vs, v1, m1, h1, e _ _ h2, h3, h4, Walk.same e h5⟩
  | k :: ks, .d x, v, v', h => by simp only [Walk] at h
  | k :: ks, .l x, v, v', h => by simp only [Walk] at h
  | k :: ks, .k x y, v, v', h => by simp only [Walk] at h
  | k :: ks, .o x y z, v, v', h => by simp only [Walk] at h
theorem Walk.snoc {k : Nat} {v1 : V} : ∀ {ks : List Nat} {m m' : M} {v v' : V}, Walk H m v ks v' → atM m ks = some m' → Walk H m' v' [k] v1 → Walk H m v (ks ++ [k]) v1
  | [], m, m', v, v', h, e, w => by
    simp only [Walk] at h
    simp only [atM, Option.some.injEq] at e
    subst h e
    exact w
  | j :: ks, .n ms, m', v, v', h, e, w => by
    simp only [Walk] at h
    obtain ⟨a, vs, v2, m2, h1, h2, h3, h4, h5⟩ := h
    simp only [atM, h4, Option.bind_some] at e
    show Walk H (.n ms) v (j :: (ks ++ [k])) v1
    simp only [Walk]
    exact ⟨a, vs, v2, m2, h1, h2, h3, h4, Walk.snoc h5 e w⟩
  | j :: ks, .t ms, m', v, v', h, e, w => by
    simp only [Walk] at h
    obtain ⟨a, vs, v2, m2, h1, h2, h3, h4, h5⟩ := h
    simp only [atM, h4, Option.bind_some] at e
    show Walk H (.t ms) v (j :: (ks ++ [k])) v1
    simp only [Walk]
    exact ⟨a, vs, v2, m2, h1, h2, h3, h4, Walk.snoc h5 e w⟩
  | j :: ks, .d x, m', v, v', h, e, w => by simp only [Walk] at h
  | j :: ks, .l x, m', v, v', h, e, w => by simp only [Walk] at h
  | j :: ks, .k x y, m', v, v', h, e, w => by simp only [Walk] at h
  | j :: ks, .o x y z, m', v, v', h, e, w => by simp only [Walk] at h
theorem Ows.length : ∀ {ms : List M} {vs : List V} {S : Fp}, Ows K ct H ms vs S → ms.length = vs.length
  | [], vs, S, h => by simp only [Ows] at h; subst h; rfl
  | m :: ms, vs, S, h => by
    simp only [Ows] at h
    obtain ⟨v, r, S1, S2, rfl, _, _, _, _, h6⟩ := h
    simp [Ows.length h6]
theorem Ows.foc : ∀ {ms : List M} {vs : List V} {S : Fp} {k : Nat} {m1 : M}, Ows K ct H ms vs S → ms[k]? = some m1 → ∃ v1 S1, vs[k]? = some v1 ∧ Ow K ct H m1 v1 S1 ∧ (∀ b, S1 b → S b) ∧
    ∀ H' m'' S'', Keep ct.f.cb H H' → (∀ b o, S b → ¬ S1 b → H b = some o → H' b = some o) → Ow K ct H' m'' v1 S'' → (∀ b, S'' b → S b → S1 b) → Ows K ct H' (ms.set k m'') vs (fun b => (S b ∧ ¬ S1 b) ∨ S'' b)
  | [], vs, S, k, m1, h, e => by simp at e
  | m :: ms, vs, S, 0, m1, h, e => by
    simp only [Ows] at h
    obtain ⟨v, r, S1, S2, rfl, h2, h3, h4, h5, h6⟩ := h
    simp only [List.getElem?_cons_zero, Option.some.injEq] at e
    subst e
    refine ⟨v, S1, rfl, h5, h2, fun H' m'' S'' kp un o fr => ?_⟩
    simp only [List.set_cons_zero, Ows]
    refine ⟨v, r, S'', S2, rfl, fun b z => .inr z, fun b z => .inl ⟨h3 b z, fun w => h4 b w z⟩, fun b z w => h4 b (fr b z (h3 b w)) w, o, h6.frame kp fun b o z => un b o (h3 b z) fun w => h4 b w z⟩
  | m :: ms, vs, S, k + 1, m1, h, e => by
    simp only [Ows] at h
    obtain ⟨v, r, S1, S2, rfl, h2, h3, h4, h5, h6⟩ := h
    simp only [List.getElem?_cons_succ] at e
    obtain ⟨v1, T1, g1, g2, g3, g4⟩ := Ows.foc h6 e
    refine ⟨v1, T1, by simpa using g1, g2, fun b z => h3 b (g3 b z), fun H' m'' S'' kp un o fr => ?_⟩
    have q := g4 H' m'' S'' kp (fun b o z w => un b o (h3 b z) w) o fun b z w => fr b z (h3 b w)
    simp only [List.set_cons_succ, Ows]
    refine ⟨v, r, S1, fun b => (S2 b ∧ ¬ T1 b) ∨ S'' b, rfl, fun b z => .inl ⟨h2 b z, fun w => h4 b z (g3 b w)⟩, fun b z => ?_, fun b z w => ?_, h5.frame kp fun b o z => un b o (h2 b z) fun w => h4 b z (g3 b w), q⟩
    · rcases z with z | z
      · exact .inl ⟨h3 b z.1, z.2⟩
      · exact .inr z
    · rcases w with w | w
      · exact h4 b z w.1
      · exact h4 b z (g3 b (fr b w (h2 b z)))
theorem Ow.foc : ∀ {ks : List Nat} {m m' : M} {v v' : V} {S : Fp}, Ow K ct H m v S → Walk H m v ks v' → atM m ks = some m' → ∃ S', Ow K ct H m' v' S' ∧ (∀ b, S' b → S b) ∧
    ∀ H' m'' S'', Keep ct.f.cb H H' → (∀ b o, S b → ¬ S' b → H b = some o → H' b = some o) → Ow K ct H' m'' v' S'' → (∀ b, S'' b → S b → S' b) → Ow K ct H' (putM m ks m'') v (fun b => (S b ∧ ¬ S' b) ∨ S'' b)
  | [], m, m', v, v', S, o, w, e => by
    simp only [Walk] at w
    simp only [atM, Option.some.injEq] at e
    subst w e
    refine ⟨S, o, fun _ z => z, fun H' m'' S'' kp un o' fr => ?_⟩
    have : putM m [] m'' = m'' := by cases m <;> rfl
    rw [this]
    exact o'.wide fun b z => .inr z
  | k :: ks, .n ms, m', v, v', S, o, w, e => by
    simp only [Walk] at w
    obtain ⟨a, vs, v1, m1, rfl, w2, w3, w4, w5⟩ := w
    simp only [atM, w4, Option.bind_some] at e
    simp only [Ow] at o
    obtain ⟨a', us, e1, o2, o3, o4⟩ := o
    cases e1
    rw [w2] at o3; cases o3
    obtain ⟨u1, T1, g1, g2, g3, g4⟩ := Ows.foc o4 w4
    rw [w3] at g1; cases g1
    obtain ⟨S', q1, q2, q3⟩ := Ow.foc g2 w5 e
    refine ⟨S', q1, fun b z => (g3 b (q2 b z)).1, fun H' m'' S'' kp un o' fr => ?_⟩
    have na : ¬ S' a := fun z => (g3 a (q2 a z)).2 rfl
    have r1 := q3 H' m'' S'' kp (fun b o z => un b o (g3 b z).1) o' fun b z z' => fr b z (g3 b z').1
    have r2 := g4 H' (putM m1 ks m'') _ kp (fun b o z z' => un b o z.1 fun y => z' (q2 b y)) r1 fun b z z' => by
      rcases z with z | z
      · exact z.1
      · exact q2 b (fr b z z'.1)
    simp only [putM, w4, Ow]
    refine ⟨a, vs, rfl, .inl ⟨o2, na⟩, un a _ o2 na w2, r2.wide fun b z => ?_⟩
    rcases z with z | z | z
    · exact ⟨.inl ⟨z.1.1, fun y => z.2 (q2 b y)⟩, z.1.2⟩
    · exact ⟨.inl ⟨(g3 b z.1).1, z.2⟩, (g3 b z.1).2⟩
    · refine ⟨.inr z, ?_⟩
      rintro rfl
      exact na (fr b z o2)
  | k :: ks, .t ms, m', v, v', S, o, w, e => by
    simp only [Walk] at w
    obtain ⟨a, vs, v1, m1, rfl, w2, w3, w4, w5⟩ := w
    simp only [atM, w4, Option.bind_some] at e
    simp only [Ow] at o
    obtain ⟨a', us, e1, o3, o4⟩ := o
    cases e1
    rw [w2] at o3; cases o3
    obtain ⟨u1, T1, g1, g2, g3, g4⟩ := Ows.foc o4 w4
    rw [w3] at g1; cases g1
    obtain ⟨S', q1, q2, q3⟩ := Ow.foc g2 w5 e
    refine ⟨S', q1, fun b z => g3 b (q2 b z), fun H' m'' S'' kp un o' fr => ?_⟩
    have r1 := q3 H' m'' S'' kp (fun b o z => un b o (g3 b z)) o' fun b z z' => fr b z (g3 b z')
    have r2 := g4 H' (putM m1 ks m'') _ kp (fun b o z z' => un b o z fun y => z' (q2 b y)) r1 fun b z z' => by
      rcases z with z | z
      · exact z.1
      · exact q2 b (fr b z z')
    simp only [putM, w4, Ow]
    refine ⟨a, vs, rfl, kp _ _ w2 trivial, r2.wide fun b z => ?_⟩
    rcases z with z | z | z
    · exact .inl ⟨z.1, fun y => z.2 (q2 b y)⟩
    · exact .inl ⟨g3 b z.1, z.2⟩
    · exact .inr z
  | k :: ks, .d x, m', v, v', S, o, w, e => by simp only [Walk] at w
  | k :: ks, .l x, m', v, v', S, o, w, e => by simp only [Walk] at w
  | k :: ks, .k x y, m', v, v', S, o, w, e => by simp only [Walk] at w
  | k :: ks, .o x y z, m', v, v', S, o, w, e => by simp only [Walk] at w
theorem J.up {c : Cf} {H₀ : Hp} {Γ : Sg} {σ : St} {i : Nat} {s : Slot} {m m' m'' : M} {v0 : V} {a : Addr} {ks : List Nat} {o' : HO} (j : J K c.z H₀ Γ σ H) (hi : Γ[i]? = some s) (hm : slM s = some m) (hσ : σ[i]? = some (some v0)) (w : Walk H m v0 ks (.ref a)) (e : atM m ks = some m')
    (kp : Keep c.cb H (upd H a o')) (new : ∀ S', Ow K c.z H m' (.ref a) S' → S' a ∧ Ow K c.z (upd H a o') m'' (.ref a) S') : J K c.z H₀ (Γ.set i (reS s (putM m ks m''))) σ (upd H a o') := by
  obtain ⟨S, h1, h2⟩ := j.chg i
  have sl := h1 s _ hi hσ
  have key : ∀ (v : V) (o : Ow K c.z H m v S) (hv : v = v0), ∃ S2 : Fp, Ow K c.z (upd H a o') (putM m ks m'') v0 S2 ∧ (∀ b, S2 b → S b) ∧ S a := fun v o hv => by
    subst hv
    obtain ⟨S', q1, q2, q3⟩ := o.foc w e
    obtain ⟨n1, n2⟩ := new S' q1
    refine ⟨_, q3 _ m'' S' kp (fun b u z z' q => by rw [upd_ne (by rintro rfl; exact z' n1)]; exact q) n2 fun b z _ => z, fun b z => ?_, q2 a n1⟩
    rcases z with z | z
    · exact z.1
    · exact q2 b z
  have fin : ∀ (sl' : Slot) (S2 : Fp), S a → (∀ b, S2 b → S b) → SlotOk K c.z H₀ (upd H a o') i S2 sl' (some v0) → J K c.z H₀ (Γ.set i sl') σ (upd H a o') := fun sl' S2 sa sub ok => by
    have q := h2 (upd H a o') sl' (some v0) S2 kp (fun b u z z' => by rw [upd_ne (by rintro rfl; exact z' sa)]; exact z) (fun b z => by
      by_cases eb : b = a
      · subst eb; rw [upd_same] at z; cases z
      · rwa [upd_ne eb] at z) (fun b u z => nomatch z) ok fun b z => .inl (sub b z)
    have hil : i < σ.length := (List.getElem?_eq_some_iff.mp hσ).1
    have : σ.set i (some v0) = σ := by
      have e2 := (List.getElem?_eq_some_iff.mp hσ).2
      rw [← e2, List.set_getElem_self]
    rwa [this] at q
  have sok : ∀ S2 : Fp, (∀ b, S2 b → S b) → SOk c.z H₀ H S → SOk c.z H₀ (upd H a o') S2 := fun S2 sub so => ⟨fun b z => so.new b (sub b z), fun b z q => so.here b (sub b z) (by
      by_cases eb : b = a
      · subst eb; rw [upd_same] at q; cases q
      · rwa [upd_ne eb] at q), fun b z => so.notL b (sub b z), fun b z t => nomatch t⟩
  cases s with
  | no => cases hm
  | val d => cases hm
  | own m0 =>
    cases hm
    obtain ⟨v, e1, o, so, n⟩ := sl
    obtain ⟨S2, o2, sub, sa⟩ := key v o (by cases e1; rfl)
    exact fin (.own (putM m ks m'')) S2 sa sub ⟨v0, rfl, o2, sok S2 sub so, fun b z => n b (sub b z)⟩
  | par m0 =>
    cases hm
    obtain ⟨v, e1, o, so, n⟩ := sl
    obtain ⟨S2, o2, sub, sa⟩ := key v o (by cases e1; rfl)
    exact fin (.par (putM m ks m'')) S2 sa sub ⟨v0, rfl, o2, sok S2 sub so, by cases e1; exact n⟩
end
end L4
end
section
set_option Elab.async false
set_option linter.all false
set_option maxRecDepth 100000
namespace L4
open PySem PySem.Spec PyProof.Rows L2
section
variable {X : Cx} {ct : Ct} {c : Cf} {r ix e : Expr} {i : Nat} {g : Sg → Res (List Nat)} {f fk : Sg → Res D} {pos : Pos} {Γ : Sg} {σ : St} {H : Hp}
def PathAt (Γ : Sg) (σ : St) (H : Hp) (i : Nat) (ks : List Nat) (v : V) : Prop := ∃ s m v0 m', Γ[i]? = some s ∧ slM s = some m ∧ σ[i]? = some (some v0) ∧ Walk H m v0 ks v ∧ atM m ks = some m'
theorem PathAt.same {H' : Hp} {ks : List Nat} {v : V} (e : Same H H') (h : PathAt Γ σ H i ks v) : PathAt Γ σ H' i ks v := by
  obtain ⟨s, m, v0, m', h1, h2, h3, h4, h5⟩ := h
  exact ⟨s, m, v0, m', h1, h2, h3, h4.same e, h5⟩
def pOf (X : Cx) (ct : Ct) (i : Nat) (g : Sg → Res (List Nat)) : TE := fun σ H Q => ∃ Γ, Jx X ct Γ σ H ∧ Ok X ct σ H (g Γ) fun ks => ∀ v H', Same H H' → PathAt Γ σ H' i ks v → Q v H'
abbrev PP (X : Cx) (ct : Ct) (e : Expr) (i : Nat) (g : Sg → Res (List Nat)) : Prop := PE X e (pOf X ct i g)
abbrev WP (X : Cx) (ct : Ct) (e : Expr) (i : Nat) (g : Sg → Res (List Nat)) : Prop := WE X e (pOf X ct i g)
theorem J.ofM {K : PySem.W.Frag} {H₀ : Hp} {s : Slot} {m : M} (j : J K ct H₀ Γ σ H) (h : Γ[i]? = some s) (hm : slM s = some m) : ∃ v S, σ[i]? = some (some v) ∧ Ow K ct H m v S := by
  cases s with
  | no => cases hm
  | val d => cases hm
  | own m' => cases hm; obtain ⟨v, S, h1, h2, _⟩ := j.own h; exact ⟨v, S, h1, h2⟩
  | par m' => cases hm; obtain ⟨v, S, h1, h2, _⟩ := j.par h; exact ⟨v, S, h1, h2⟩
theorem pp_name (i : Nat) {x : Str} {pos : Pos} (hN : X.N[i]? = some x := by rfl) (hv : Vis X.env.scope x := by first | exact Or.inl rfl | exact Or.inr (Or.inl rfl) | exact Or.inr (Or.inr rfl)) (hd : (x == ("__debug__" : Str)) = false := by decide)
    (hcd : (x == ("__classdict__" : Str)) = false := by decide) : PP X ct (.Name x pos) i (pVar i) := by
  refine PE.imp (pe_var hN hv hd hcd) fun σ H Q ⟨Γ, j, h⟩ => ?_
  unfold pVar at h
  split at h
  · rename_i m hm
    obtain ⟨s, h1, h2⟩ := Option.bind_eq_some_iff.mp hm
    obtain ⟨v, S, h3, h4⟩ := j.ofM h1 h2
    refine ⟨v, h3, h v H (Same.refl H) ⟨s, m, v, m, h1, h2, h3, ?_, ?_⟩⟩
    · cases m <;> rfl
    · cases m <;> rfl
  · exact h.elim
theorem wp_name (i : Nat) {x : Str} {pos : Pos} (hN : X.N[i]? = some x := by rfl) (hv : Vis X.env.scope x := by first | exact Or.inl rfl | exact Or.inr (Or.inl rfl) | exact Or.inr (Or.inr rfl)) (hd : (x == ("__debug__" : Str)) = false := by decide) (hcd : (x == ("__classdict__" : Str)) = false := by decide) : WP X ct (.Name x pos) i (pVar i) := ⟨pp_name (i := i) (hN := hN) (hv := hv) (hd := hd) (hcd := hcd)⟩
end
section
variable {X : Cx} {c : Cf} {r ix e : Expr} {i : Nat} {g : Sg → Res (List Nat)} {f fk : Sg → Res D} {pos : Pos} {Γ : Sg} {σ : St} {H : Hp}
theorem sizeLine_big : 1000000 < sizeLine := by rw [sizeLine_eq]; decide
theorem Ows.snoc {K : PySem.W.Frag} {ct : Ct} {d : D} {y : V} : ∀ {ms : List M} {vs : List V} {S : Fp}, Ows K ct H ms vs S → Tl K ct H d y → Ows K ct H (ms ++ [.d d]) (vs ++ [y]) S
  | [], vs, S, h, t => by
    simp only [Ows] at h; subst h
    simp only [List.nil_append, Ows, Ow]
    exact ⟨y, [], fun _ => False, fun _ => False, rfl, fun _ z => z.elim, fun _ z => z.elim, fun _ z => z.elim, t, rfl⟩
  | m :: ms, vs, S, h, t => by
    simp only [Ows] at h
    obtain ⟨v, r, S1, S2, rfl, h2, h3, h4, h5, h6⟩ := h
    simp only [List.cons_append, Ows]
    exact ⟨v, r ++ [y], S1, S2, rfl, h2, h3, h4, h5, Ows.snoc h6 t⟩
theorem node_list {ks : List Nat} {v : V} (j : Jx X c.z Γ σ H) (pa : PathAt Γ σ H i ks v) (hl : isLM (nodeM i ks Γ) = true) : ∃ a vs, v = .ref a ∧ H a = some (.lst vs) := by
  obtain ⟨s, m, v0, m', p1, p2, p3, p4, p5⟩ := pa
  have e1 : nodeM i ks Γ = some m' := by unfold nodeM; rw [p1, Option.bind_some, p2, Option.bind_some, p5]
  rw [e1] at hl
  obtain ⟨vv, S, g1, o⟩ := j.ofM p1 p2
  rw [p3] at g1; cases g1
  obtain ⟨S', o', _⟩ := o.foc p4 p5
  cases m' with
  | l xs => simp only [Ow] at o'; obtain ⟨a, vs, h1, _, h2, _⟩ := o'; exact ⟨a, vs, h1, h2⟩
  | n xs => simp only [Ow] at o'; obtain ⟨a, vs, h1, _, h2, _⟩ := o'; exact ⟨a, vs, h1, h2⟩
  | _ => cases hl
theorem up_list {ks : List Nat} {a : Addr} {vs vs' : List V} {F : M → Option M} {E : Ends} {H0 : Hp} (j : Jx X c.z Γ σ H) (k0 : Keep c.cb H0 H) (pa : PathAt Γ σ H i ks (.ref a)) (ha : H a = some (.lst vs)) (q : Fn X c H0 (oUp (upM i ks F Γ)) E)
    (hF : ∀ m' m'' S', F m' = some m'' → Ow X.K c.z H m' (.ref a) S' → S' a ∧ Ow X.K c.z (upd H a (.lst vs')) m'' (.ref a) S') : E.nx σ (upd H a (.lst vs')) := by
  obtain ⟨s, m, v0, m', p1, p2, p3, p4, p5⟩ := pa
  have e1 : upM i ks F Γ = (F m').map fun m'' => Γ.set i (reS s (putM m ks m'')) := by unfold upM; rw [p1, Option.bind_some, p2, Option.bind_some, p5, Option.bind_some]
  rw [e1] at q
  cases z : F m' with
  | none => rw [z] at q; exact q.elim
  | some m'' =>
    rw [z] at q
    have kp : Keep c.cb H (upd H a (.lst vs')) := Keep.lst ha
    exact q σ _ (k0.trans kp) (j.up p1 p2 p3 p4 p5 kp fun S' o => hF m' m'' S' z o)
theorem up_some {ks : List Nat} {v : V} {F : M → Option M} {E : Ends} {H0 : Hp} (j : Jx X c.z Γ σ H) (pa : PathAt Γ σ H i ks v) (q : Fn X c H0 (oUp (upM i ks F Γ)) E) : ∃ m' m'' S', F m' = some m'' ∧ Ow X.K c.z H m' v S' := by
  obtain ⟨s, m, v0, m', p1, p2, p3, p4, p5⟩ := pa
  have e1 : upM i ks F Γ = (F m').map fun m'' => Γ.set i (reS s (putM m ks m'')) := by unfold upM; rw [p1, Option.bind_some, p2, Option.bind_some, p5, Option.bind_some]
  rw [e1] at q
  obtain ⟨vv, S, g1, o⟩ := j.ofM p1 p2
  rw [p3] at g1; cases g1
  obtain ⟨S', o', _⟩ := o.foc p4 p5
  cases z : F m' with
  | none => rw [z] at q; exact q.elim
  | some m'' => exact ⟨m', m'', S', z, o'⟩
theorem app_ok {K : PySem.W.Frag} {d : D} {y : V} {a : Addr} {vs : List V} {B : Hp} {m' m'' : M} {S' : Fp} (t : Tl K (c.at' B) H d y) (ha : H a = some (.lst vs)) (e : appM d m' = some m'') (o : Ow K c.z H m' (.ref a) S') :
    vs.length < 1000000 ∧ S' a ∧ Ow K c.z (upd H a (.lst (vs ++ [y]))) m'' (.ref a) S' := by
  have kp : Keep c.cb H (upd H a (.lst (vs ++ [y]))) := Keep.lst ha
  cases m' with
  | l xs =>
    simp only [appM] at e
    split at e
    · rename_i hc
      cases e
      simp only [Ow] at o ⊢
      obtain ⟨a', us, e1, o2, o3, o4⟩ := o
      cases e1
      rw [ha] at o3; cases o3
      exact ⟨by rw [← o4.length]; exact hc.1, o2, a, _, rfl, o2, upd_same, (o4.append (Tls.cons (Tl.down (B := B) (tm := true) t hc.2) Tls.nil)).keep kp⟩
    · cases e
  | n ms =>
    simp only [appM] at e
    split at e
    · rename_i hc
      cases e
      simp only [Ow] at o ⊢
      obtain ⟨a', us, e1, o2, o3, o4⟩ := o
      cases e1
      rw [ha] at o3; cases o3
      refine ⟨by rw [← o4.length]; exact hc.1, o2, a, _, rfl, o2, upd_same, (o4.snoc (Tl.down (B := B) (tm := true) t hc.2)).frame kp fun b o z q => ?_⟩
      rw [upd_ne z.2]; exact q
    · cases e
  | _ => cases e
theorem pds_append {ap cp : Pos} (hr : ∀ B, PP X (c.at' B) r i g) (he : ∀ B, PD X (c.at' B) e f)
    (hbase : attributeBase r "append" X.env (eval r X.env) = eval r X.env := by rfl)
    (hfew : ((backTo cp (starEach [e] X.env)).all (fun x => !x.1) && (backToKw cp (keywordEach [] X.env)).all (fun x => x.1.isSome)
      && decide ([e].length + ([] : List Keyword).length + (if ([] : List Keyword).isEmpty then 0 else 1) < 30)) = true := by rfl)
    (hline : (ap.endLine == cp.line) = true := by rfl) (hs : starEach [e] X.env = (false, eval e X.env) :: starEach [] X.env := by rfl) (hplain : (backTo cp (starEach [] X.env)).any (·.1) = false := by rfl)
    (hw : swapsWith (.Call (.Attribute r "append" ap) [e] [] cp) none pos.line X.env = pure false := by rfl) :
    PDS X c (.Expr (.Call (.Attribute r "append" ap) [e] [] cp) pos) (sAppend i g f) := by
  intro pins s σ H E I ⟨Γ, j, h⟩
  refine ps_expr (pe_bm PySem.F.plainAttrs_list PySem.F.slot_list_append PySem.F.type_list_append mt_append (hr H) (pa_cons (he H) pa_nil hs) hbase hfew hline hs hplain) hw pins s σ H E I ?_
  refine ⟨Γ, j.lift, Fn.ok j h fun ks _ q v H1 s1 pa => ?_⟩
  split at q
  · rename_i hl
    have j1 := j.mono s1
    obtain ⟨a, vs, rfl, ha⟩ := node_list j1 pa hl
    refine ⟨.inl ⟨rfl, vs, SqL.of ha⟩, Γ, j.lift.mono s1, Ok.mono (H := H) s1 (Fn.ok (tm := true) (B := H) j q fun d _ q y H2 s2 t => ?_) fun _ z => z⟩
    have j2 := j1.mono s2
    have pa2 := pa.same s2
    have ha2 := s2 _ _ ha
    obtain ⟨m', m'', S', e1, o1⟩ := up_some j2 pa2 q
    refine ⟨a, vs, y, rfl, rfl, ha2, Nat.lt_trans (app_ok t ha2 e1 o1).1 sizeLine_big, ?_⟩
    exact up_list j2 (Same.keep (s1.trans s2)) pa2 ha2 q fun m' m'' S' e o => (app_ok t ha2 e o).2
  · exact q.elim
theorem wds_append {ap cp : Pos} (hr : ∀ B, WP X (c.at' B) r i g) (he : ∀ B, WD X (c.at' B) e f) (hbase : attributeBase r "append" X.env (eval r X.env) = eval r X.env := by rfl) (hfew : ((backTo cp (starEach [e] X.env)).all (fun x => !x.1) && (backToKw cp (keywordEach [] X.env)).all (fun x => x.1.isSome)
      && decide ([e].length + ([] : List Keyword).length + (if ([] : List Keyword).isEmpty then 0 else 1) < 30)) = true := by rfl) (hline : (ap.endLine == cp.line) = true := by rfl) (hs : starEach [e] X.env = (false, eval e X.env) :: starEach [] X.env := by rfl) (hplain : (backTo cp (starEach [] X.env)).any (·.1) = false := by rfl) (hw : swapsWith (.Call (.Attribute r "append" ap) [e] [] cp) none pos.line X.env = pure false := by rfl) : WDS X c (.Expr (.Call (.Attribute r "append" ap) [e] [] cp) pos) (sAppend i g f) := ⟨pds_append (hr := (fun B => (hr B).out)) (he := (fun B => (he B).out)) (hbase := hbase) (hfew := hfew) (hline := hline) (hs := hs) (hplain := hplain) (hw := hw)⟩
end
end L4
end
section
set_option Elab.async false
set_option linter.all false
set_option maxRecDepth 100000
namespace L4
open PySem PySem.Spec PyProof.Rows L2
def ItD (K : PySem.W.Frag) (ct : Ct) (J : It) (xs : List D) (H : Hp) : Prop :=
  ∃ P : Hp → Prop, P H ∧ (∀ H1 H2, P H1 → Keep ct.f.cb H1 H2 → Same ct.f.L H2 → Same ct.B H2 → P H2) ∧ (∀ i d H1, P H1 → xs[i]? = some d → J.go i H1 ∧ ∀ x H2, J.yld i H1 x H2 → Same H1 H2 ∧ Tl K ct H2 d x) ∧ ∀ i H1, P H1 → xs.length ≤ i → J.stop i H1
def Itsg (x : Str) : It := ⟨fun i _ => i < x.cps.size, fun i H v H' => H' = H ∧ ∃ c, x.cps[i]? = some c ∧ v = .str ⟨#[c]⟩, fun i _ => x.cps.size ≤ i⟩
theorem turn_str {P : Program} {w : World} {K : PySem.W.Frag} {tg : Expr} (it : Addr) (x : Str) (u : Tok) {T : String} (hT : T = "str_ascii_iterator" ∨ T = "str_iterator") : Turn P w K tg (Itsg x) [it] it (fun i h => h.IsStrIter it T x u i) where
  mem := by simp
  obj := fun i h st b hb => by
    have e : b = it := by simpa using hb
    subst e
    obtain ⟨o, e, c, d⟩ := st
    exact ⟨o, e, fun v z => by rw [d] at z; cases z⟩
  keep := fun i h h' st k => let ⟨o, e, r⟩ := st; ⟨o, k it (by simp) o e, r⟩
  item := by
    intro X hP hw hK hc i pins s σ H E I hf st hg
    subst hP hw hK
    obtain ⟨f0, f1, f2, f3, f4, f5⟩ := hf it (by simp)
    rcases hT with rfl | rfl
    · refine (Walks.strAscii (prog := X.prog) (w := X.w) (I.ok.hd hc) it x u).item i s _ _ hg st fun v h' tk hv st' kk => ?_
      obtain ⟨c, t, hx, rfl⟩ := hv
      have I1 : Inv X pins σ H { s with heap := h', toks := tk } := I.turned (fun b o hb e => kk b o (by simpa using hb) e) f0 f1 f3 f4 f5
      obtain ⟨o, e, c1, d⟩ := id st'
      exact ⟨_, rfl, go_of (s := { s with heap := h', toks := tk }) e c1 d (by decide) ⟨.str ⟨#[c]⟩, H, I1, ⟨t, rfl⟩, ⟨rfl, c, hx, rfl⟩, st', fun b hb => (hf b hb).1⟩⟩
    · refine (Walks.strWide (prog := X.prog) (w := X.w) (I.ok.hd hc) it x u).item i s _ _ hg st fun v h' tk hv st' kk => ?_
      obtain ⟨c, t, hx, rfl⟩ := hv
      have I1 : Inv X pins σ H { s with heap := h', toks := tk } := I.turned (fun b o hb e => kk b o (by simpa using hb) e) f0 f1 f3 f4 f5
      obtain ⟨o, e, c1, d⟩ := id st'
      exact ⟨_, rfl, go_of (s := { s with heap := h', toks := tk }) e c1 d (by decide) ⟨.str ⟨#[c]⟩, H, I1, ⟨t, rfl⟩, ⟨rfl, c, hx, rfl⟩, st', fun b hb => (hf b hb).1⟩⟩
  done := by
    intro X hP hw hK hc i pins s σ H E I hf st hg
    subst hP hw hK
    obtain ⟨f0, f1, f2, f3, f4, f5⟩ := hf it (by simp)
    have hx : x.cps[i]? = none := by
      have : x.cps.size ≤ i := hg
      simp [this]
    rcases hT with rfl | rfl
    · exact wpAny_pyNext_ascii_end (I.ok.hd hc) st hx fun h' eb => ⟨rfl, I.turned (t' := s.toks) (fun b o hb e => eb b o hb e) f0 f1 f3 f4 f5⟩
    · exact wpAny_pyNext_wide_end (I.ok.hd hc) st hx fun h' eb => ⟨rfl, I.turned (t' := s.toks) (fun b o hb e => eb b o hb e) f0 f1 f3 f4 f5⟩
  self := fun _ _ _ _ _ st h => by
    rcases hT with rfl | rfl
    · exact wpAny_pyIter_striter_ascii st h
    · exact wpAny_pyIter_striter_wide st h
theorem pi_str {X : Cx} {tg l : Expr} {tl : TE} (hl : PE X l tl) : PI X tg l (fun σ H R => tl σ H fun x H1 => ∃ z, x = .str z ∧ R (Itsg z) H1) := by
  intro pins s σ H R I h
  refine thn (hl pins s σ H _ I h) fun v s1 ⟨x, H1, I1, r1, z, e, q⟩ => ?_
  subst e
  obtain ⟨u, rfl⟩ := r1
  have fp : ∀ b ∈ [s1.heap.objs.size], FpOk X pins H1 b := fun b hb => by
    have e : b = s1.heap.objs.size := by simpa using hb
    subst e
    exact I1.fpOk (Nat.le_refl _) (I1.hok.fresh (Nat.le_refl _))
  cases ha : z.cps.all (· < 128)
  · exact wpAny_pyIter_wide ha ⟨s1.heap.objs.size, [s1.heap.objs.size], _, _, H1, rfl, I1.kept (t' := s1.toks) fun b o e => Heap.get?_push_of_some _ e, turn_str _ z u (.inr rfl), ⟨_, Heap.get?_push_size _ rfl, rfl, rfl⟩, fp, q⟩
  · exact wpAny_pyIter_ascii ha ⟨s1.heap.objs.size, [s1.heap.objs.size], _, _, H1, rfl, I1.kept (t' := s1.toks) fun b o e => Heap.get?_push_of_some _ e, turn_str _ z u (.inl rfl), ⟨_, Heap.get?_push_size _ rfl, rfl, rfl⟩, fp, q⟩
section
variable {X : Cx} {ct : Ct} {tg iter e : Expr} {f : Sg → Res D} {pos : Pos}
theorem signs_len (x : Str) : (signs x).length = x.cps.size := by simp [signs]
theorem itD_str {K : PySem.W.Frag} {H : Hp} {x : Str} : ItD K ct (Itsg x) (signs x) H := by
  refine ⟨fun _ => True, trivial, fun _ _ _ _ _ _ => trivial, fun i d H1 _ hd => ?_, fun i H1 _ hi => by rw [signs_len] at hi; exact hi⟩
  have hi : i < x.cps.size := by
    have := (List.getElem?_eq_some_iff.mp hd).1
    rwa [signs_len] at this
  simp only [signs, List.getElem?_map, Array.getElem?_toList] at hd
  refine ⟨hi, fun v H2 ⟨e, c, hc, y⟩ => ⟨by rw [e]; exact Same.refl _, ?_⟩⟩
  rw [hc] at hd
  cases hd
  simp [Tl, y]
theorem itD_list {K : PySem.W.Frag} {H : Hp} {a : Addr} {vs : List V} {xs : List D} (fz : FzL K H a vs) (t : Tls K ct H xs vs) : ItD K ct (Itl K a) xs H := by
  refine ⟨fun H1 => Keep ct.f.cb H H1, Keep.refl H, fun H1 H2 k1 k2 _ _ => k1.trans k2, fun i d H1 k1 hd => ?_, fun i H1 k1 hi => ⟨vs, (k1.fzL fz).sq, by rw [← t.length]; exact hi⟩⟩
  obtain ⟨v, hv, tv⟩ := t.get hd
  refine ⟨⟨vs, v, (k1.fzL fz).sq, hv⟩, fun x H2 ⟨e, y⟩ => ⟨by rw [e]; exact Same.refl _, ?_⟩⟩
  subst e
  have := y vs (k1.fzL fz).sq
  rw [hv] at this; cases this
  exact tv.keep k1
theorem itD_bor {K : PySem.W.Frag} {H : Hp} {tm : Bool} {v : V} {xs : List D} (l : Same ct.f.L H) (b : Same ct.B H) (t : Tl K ct H (.bor tm xs) v) : ∃ a, v = .ref a ∧ (∃ vs, SqL K H a vs) ∧ ItD K ct (Itl K a) xs H := by
  simp only [Tl] at t
  obtain ⟨a, vs, rfl, h2, t⟩ := t
  have sq : ∀ H1, Same ct.f.L H1 → Same ct.B H1 → SqL K H1 a vs := fun H1 l b => by
    cases tm with
    | true => exact .inl (.inl (b a _ h2))
    | false => exact .inl (.inl (l a _ h2))
  refine ⟨a, rfl, ⟨vs, sq H l b⟩, fun H1 => Keep ct.f.cb H H1 ∧ Same ct.f.L H1 ∧ Same ct.B H1, ⟨Keep.refl H, l, b⟩, fun H1 H2 k1 k2 l2 b2 => ⟨k1.1.trans k2, l2, b2⟩, fun i d H1 k1 hd => ?_, fun i H1 k1 hi => ⟨vs, sq H1 k1.2.1 k1.2.2, by rw [← t.length]; exact hi⟩⟩
  obtain ⟨v, hv, tv⟩ := t.get hd
  refine ⟨⟨vs, v, sq H1 k1.2.1 k1.2.2, hv⟩, fun x H2 ⟨e, y⟩ => ⟨by rw [e]; exact Same.refl _, ?_⟩⟩
  subst e
  have := y vs (sq _ k1.2.1 k1.2.2)
  rw [hv] at this; cases this
  exact tv.keep k1.1
theorem itD_tup {K : PySem.W.Frag} {H : Hp} {a : Addr} {vs : List V} {xs : List D} (fz : SqT K H a vs) (t : Tls K ct H xs vs) : ItD K ct (Itt K a) xs H := by
  refine ⟨fun H1 => Keep ct.f.cb H H1, Keep.refl H, fun H1 H2 k1 k2 _ _ => k1.trans k2, fun i d H1 k1 hd => ?_, fun i H1 k1 hi => ⟨vs, k1.sqT fz, by rw [← t.length]; exact hi⟩⟩
  obtain ⟨v, hv, tv⟩ := t.get hd
  refine ⟨⟨vs, v, k1.sqT fz, hv⟩, fun x H2 ⟨e, y⟩ => ⟨by rw [e]; exact Same.refl _, ?_⟩⟩
  subst e
  have := y vs (k1.sqT fz)
  rw [hv] at this; cases this
  exact tv.keep k1
def iOf (X : Cx) (ct : Ct) (f : Sg → Res (List D)) : TI := fun σ H R => ∃ Γ, Jx X ct Γ σ H ∧ Ok X ct σ H (f Γ) fun xs => ∀ J H', Same H H' → ItD X.K ct J xs H' → R J H'
abbrev PID (X : Cx) (ct : Ct) (tg iter : Expr) (f : Sg → Res (List D)) : Prop := PI X tg iter (iOf X ct f)
structure WI (X : Cx) (tg iter : Expr) (wi : TI) : Prop where
  out : PI X tg iter wi
abbrev WID (X : Cx) (ct : Ct) (tg iter : Expr) (f : Sg → Res (List D)) : Prop := WI X tg iter (iOf X ct f)
theorem pid_seq (he : PD X ct iter f) : PID X ct tg iter (iSeq f) := by
  intro pins s σ H R I ⟨Γ, j, h⟩
  cases q : f Γ with
  | bad => simp only [iSeq, q, Res.bnd_bad] at h; exact h.elim
  | err c =>
    simp only [iSeq, q, Res.bnd_err] at h
    exact pi_list he pins s σ H R I ⟨Γ, j, by rw [q]; exact h⟩
  | ok d =>
    simp only [iSeq, q, Res.bnd_ok] at h
    cases d with
    | lst xs =>
      replace h : ∀ J H', Same H H' → ItD X.K ct J xs H' → R J H' := h
      refine pi_list he pins s σ H R I ⟨Γ, j, ?_⟩
      rw [q]
      intro v H' sm tl
      simp only [Tl] at tl
      obtain ⟨a, vs, rfl, fz, tl⟩ := tl
      exact ⟨a, rfl, ⟨vs, fz.sq⟩, h _ H' sm (itD_list fz tl)⟩
    | bor tm xs =>
      replace h : ∀ J H', Same H H' → ItD X.K ct J xs H' → R J H' := h
      refine pi_list he pins s σ H R I ⟨Γ, j, ?_⟩
      rw [q]
      intro v H' sm tl
      have j' := j.mono sm
      obtain ⟨a, rfl, sq, it⟩ := itD_bor j'.lL j'.lB tl
      exact ⟨a, rfl, sq, h _ H' sm it⟩
    | tup xs =>
      replace h : ∀ J H', Same H H' → ItD X.K ct J xs H' → R J H' := h
      refine pi_tup he pins s σ H R I ⟨Γ, j, ?_⟩
      rw [q]
      intro v H' sm tl
      simp only [Tl] at tl
      obtain ⟨a, vs, rfl, fz, tl⟩ := tl
      exact ⟨a, rfl, ⟨vs, sq_of fz⟩, h _ H' sm (itD_tup (sq_of fz) tl)⟩
    | gt xs =>
      replace h : ∀ J H', Same H H' → ItD X.K ct J xs H' → R J H' := h
      refine pi_tup he pins s σ H R I ⟨Γ, j, ?_⟩
      rw [q]
      intro v H' sm tl
      simp only [Tl] at tl
      obtain ⟨a, vs, rfl, fz, tl⟩ := tl
      exact ⟨a, rfl, ⟨vs, fz.sq⟩, h _ H' sm (itD_tup fz.sq tl)⟩
    | str x =>
      replace h : ∀ J H', Same H H' → ItD X.K ct J (signs x) H' → R J H' := h
      refine pi_str he pins s σ H R I ⟨Γ, j, ?_⟩
      rw [q]
      intro v H' sm tl
      simp only [Tl] at tl
      exact ⟨x, tl, h _ H' sm itD_str⟩
    | _ => exact h.elim
theorem wid_seq (he : WD X ct iter f) : WID X ct tg iter (iSeq f) := ⟨pid_seq (he := he.out)⟩
end
def clOf (cells : List (Str × Addr)) : List (Str × NameKind) → List (Str × Addr) → Option (List (Str × Addr))
  | [], acc => some acc
  | (n, k) :: r, acc => if k == .free then (match cells.lookup n with
      | some c => clOf cells r ((n, c) :: acc)
      | none => none) else clOf cells r acc
theorem clOf_sub {cells : List (Str × Addr)} : ∀ {names : List (Str × NameKind)} {acc cl : List (Str × Addr)}, clOf cells names acc = some cl → (∀ y c, acc.lookup y = some c → cells.lookup y = some c) → ∀ y c, cl.lookup y = some c → cells.lookup y = some c
  | [], acc, cl, h, ha => by cases h; exact ha
  | (n, k) :: r, acc, cl, h, ha => by
    unfold clOf at h
    split at h
    · split at h
      · rename_i c hc
        refine clOf_sub h fun y c' hy => ?_
        rw [List.lookup_cons] at hy
        split at hy
        · rename_i e
          cases hy
          rw [eq_of_beq e]; exact hc
        · exact ha y c' hy
      · cases h
    · exact clOf_sub h ha
theorem closure_of {env : Env} {scope : Scope} {cl : List (Str × Addr)} (h : clOf env.cells scope.names [] = some cl) : closureFor scope env = pure cl := by
  unfold closureFor
  generalize scope.names = names at h ⊢
  generalize ([] : List (Str × Addr)) = acc at h ⊢
  dsimp only
  induction names generalizing acc with
  | nil => cases h; rfl
  | cons p r ih =>
    obtain ⟨n, k⟩ := p
    unfold clOf at h
    rw [List.forIn_cons]
    by_cases hk : (k == NameKind.free) = true
    · rw [if_pos hk] at h
      split at h
      · rename_i c hc
        have e : cellOf env n = pure c := by unfold cellOf; rw [hc]
        simp only [hk, if_true, e, pure_bind]
        exact ih _ h
      · cases h
    · rw [if_neg hk] at h
      simp only [hk, Bool.false_eq_true, if_false, pure_bind]
      exact ih _ h
def cxB (X : Cx) (scope : Scope) (cl : List (Str × Addr)) (C : Addr) (s₀ : Shared) (H₀ : Hp) (ex : List Addr) (N' : List Str) : Cx where
  prog := X.prog
  w := X.w
  K := X.K
  mg := X.mg
  base := X.base
  A := X.A
  N := N'
  s₀ := s₀
  H₀ := H₀
  env := compEnvC scope cl C X.env
  outer := X.stack
  stack := X.stack
  ex := ex
  fn := fun _ => false
  calm := X.calm
  pn := []
  xe := fun _ _ => False
def blkV (k : Nat) (caps : List Nat) (σ : St) : St := List.replicate k none ++ caps.map fun i => (σ[i]?).join
theorem j_blk {X : Cx} {ct : Ct} {tm : Bool} {k : Nat} {caps : List Nat} {Γ : Sg} {σ : St} {H : Hp} (j : Jx X ct Γ σ H) (ht : tm = true → ct.tm = true) : J X.K ct H (blk tm k caps Γ) (blkV k caps σ) H := by
  refine ⟨fun _ _ q _ => q, fun _ q => q, j.lL, j.lB, by simp [blk, blkV], fun _ _ => False, fun i sl ov h1 h2 => ?_, fun _ _ _ _ z => z.elim, fun _ _ z => z.elim⟩
  rcases blk_get h1 with rfl | ⟨c, sc, hc, hk, hd, rfl⟩
  · exact fun _ z => z
  · have at2 : ∀ v, σ[c]? = some (some v) → ov = some v := fun v g1 => by
      unfold blkV at h2
      rw [List.getElem?_append_right (by simpa using hk), List.length_replicate, List.getElem?_map, hc] at h2
      simp only [Option.map_some, Option.some.injEq] at h2
      rw [g1] at h2
      exact h2.symm
    cases sc with
    | no => exact fun _ z => z
    | val d =>
      obtain ⟨v, g1, g2⟩ := j.val hd
      exact ⟨⟨v, at2 v g1, g2⟩, fun _ z => z⟩
    | own m =>
      cases tm with
      | false => exact fun _ z => z
      | true =>
        obtain ⟨v, S, g1, g2, g3, _⟩ := j.own hd
        exact ⟨⟨v, at2 v g1, g2.lend fun b z => g3.lent b z (ht rfl)⟩, fun _ z => z⟩
    | par m =>
      cases tm with
      | false => exact fun _ z => z
      | true =>
        obtain ⟨v, S, g1, g2, g3, _⟩ := j.par hd
        exact ⟨⟨v, at2 v g1, g2.lend fun b z => g3.lent b z (ht rfl)⟩, fun _ z => z⟩
end L4
end
section
set_option Elab.async false
set_option linter.all false
set_option maxRecDepth 100000
namespace L4
open PySem PySem.Spec PyProof.Rows L2
theorem clOf_mono {cells : List (Str × Addr)} : ∀ {names : List (Str × NameKind)} {acc cl : List (Str × Addr)}, clOf cells names acc = some cl → ∀ y, (acc.lookup y).isSome = true → (cl.lookup y).isSome = true
  | [], acc, cl, h => by cases h; exact fun _ z => z
  | (n, k) :: r, acc, cl, h => by
    unfold clOf at h
    split at h
    · split at h
      · rename_i c hc
        intro y hy
        refine clOf_mono h y ?_
        rw [List.lookup_cons]
        split
        · rfl
        · exact hy
      · cases h
    · exact clOf_mono h
theorem clOf_has {cells : List (Str × Addr)} : ∀ {names : List (Str × NameKind)} {acc cl : List (Str × Addr)}, clOf cells names acc = some cl → ∀ y, (y, NameKind.free) ∈ names → (cl.lookup y).isSome = true
  | [], acc, cl, h => fun y hy => by cases hy
  | (n, k) :: r, acc, cl, h => by
    unfold clOf at h
    intro y hy
    split at h
    · split at h
      · rename_i c hc
        rcases List.mem_cons.mp hy with e | hy
        · cases e
          exact clOf_mono h _ (by simp [List.lookup_cons])
        · exact clOf_has h y hy
      · cases h
    · rename_i hk
      rcases List.mem_cons.mp hy with e | hy
      · cases e; exact absurd rfl hk
      · exact clOf_has h y hy
theorem relabel_kind {env : Env} : ∀ {names : List (Str × NameKind)} {y : Str}, (∀ z ∈ names, z.2 ≠ .cell) →
    ((names.map fun (n, k) => if (k == NameKind.free && env.scope.kind == .function && env.kindOf n == some .cell) then (n, NameKind.cell) else (n, k)).lookup y = some .cell ∨
     (names.map fun (n, k) => if (k == NameKind.free && env.scope.kind == .function && env.kindOf n == some .cell) then (n, NameKind.cell) else (n, k)).lookup y = some .free) → (y, NameKind.free) ∈ names
  | [], y, _, h => by simp at h
  | (n, k) :: r, y, hc, h => by
    have ih := @relabel_kind env r y fun z hz => hc z (.tail _ hz)
    have hk : k ≠ .cell := hc (n, k) (.head _)
    have e1 : (((n, k) :: r).map fun (n, k) => if (k == NameKind.free && env.scope.kind == .function && env.kindOf n == some .cell) then (n, NameKind.cell) else (n, k)) =
      (if (k == NameKind.free && env.scope.kind == .function && env.kindOf n == some .cell) = true then (n, NameKind.cell) else (n, k)) :: (r.map fun (n, k) => if (k == NameKind.free && env.scope.kind == .function && env.kindOf n == some .cell) then (n, NameKind.cell) else (n, k)) := rfl
    rw [e1] at h
    by_cases hcnd : (k == NameKind.free && env.scope.kind == .function && env.kindOf n == some .cell) = true
    · rw [if_pos hcnd] at h
      have hkf : k = .free := by
        have := (Bool.and_eq_true_iff.mp (Bool.and_eq_true_iff.mp hcnd).1).1
        exact eq_of_beq this
      simp only [List.lookup_cons] at h
      split at h
      · rename_i e
        rw [eq_of_beq e, hkf]; exact .head _
      · exact .tail _ (ih h)
    · rw [if_neg hcnd] at h
      simp only [List.lookup_cons] at h
      split at h
      · rename_i e
        rcases h with h | h
        · exact absurd (Option.some.inj h) hk
        · rw [eq_of_beq e, Option.some.inj h]; exact .head _
      · exact .tail _ (ih h)
theorem compLoop_any {prog : Program} {w : World} {A : Around} {R : Result → Shared → Prop} {s : Shared} {elt target iter : Expr} {ifs : List Expr} {scope : Scope} {pos : Pos} {it acc : Value} {env : Env} (I : Nat → Shared → Prop)
    (turn : ∀ n s, I n s → wpAny (model prog w) A (pyNext it) (fun r s₁ => match r with
      | none => R (.ok .next) s₁
      | some v => wpAny (model prog w) A (letOwnedTupleGo target it v) (fun _ s₁' => wpAny (model prog w) A (assign target env v) (fun _ s₂ =>
          wpAny (model prog w) A (forIn ifs true fun c r => if r = true then do let ok ← isTrue c env (eval c env); pure (ForInStep.yield ok) else pure (ForInStep.yield r)) (fun ok s₃ =>
            if ok = true then wpAny (model prog w) A (eval elt env) (fun x s₄ =>
              wpAny (model prog w) A (call (.builtin "list.append") [acc, x]) (fun _ s₅ => ∃ m, m < n ∧ I m s₅) (fun _ _ => False) s₄) (fun _ _ => False) s₃
            else ∃ m, m < n ∧ I m s₃) (fun _ _ => False) s₂) (fun _ _ => False) s₁') (fun _ _ => False) s₁) (fun _ _ => False) s)
    (n : Nat) (h : I n s) :
    codeAny (model prog w) A (.compLoop (.ListComp elt [⟨target, iter, ifs, 0⟩] scope pos) 0 it acc env) R s := by
  refine codeAny_loop rfl I (fun n s hI => ?_) n h
  show wpAny _ A ((compTurn (.ListComp elt [⟨target, iter, ifs, 0⟩] scope pos) 0 it acc env).onRaise (fun x => do noteFrame x env; theTreesLotGoes x)) _ _ s
  refine wpAny_noted ?_
  rw [compTurn_list]
  refine wpAny_bind (wpAny_standAt (wpAny_bind (wpAny_mono (turn n s hI) (fun r s₁ h₁ => ?_) fun _ _ h' => h'.elim)))
  cases r with
  | none => exact wpAny_pure h₁
  | some v =>
    refine wpAny_bind (wpAny_mono h₁ (fun _ s₁' h₁' => ?_) fun _ _ h' => h'.elim)
    refine wpAny_bind (wpAny_mono h₁' (fun _ s₂ h₂ => wpAny_bind (wpAny_mono h₂ (fun ok s₃ h₃ => ?_) fun _ _ h' => h'.elim)) fun _ _ h' => h'.elim)
    cases ok with
    | false => exact wpAny_pure ⟨rfl, h₃⟩
    | true =>
      exact wpAny_bind (wpAny_bind (wpAny_mono h₃ (fun x s₄ h₄ => wpAny_bind (wpAny_mono h₄ (fun _ s₅ h₅ => wpAny_pure (wpAny_pure ⟨rfl, h₅⟩)) fun _ _ h' => h'.elim)) fun _ _ h' => h'.elim))
def PTs (X : Cx) (ct : Ct) (ifs : List Expr) (p : Sg → Res Bool) : Prop :=
  ∀ (pins : List (Addr × Obj)) (s : Shared) (σ : St) (H : Hp) (Q : Bool → Hp → Prop), Inv X pins σ H s → cOf X ct p σ H Q →
    wpAny (model X.prog X.w) X.A (forIn ifs true fun c r => if r = true then do let ok ← isTrue c X.env (eval c X.env); pure (ForInStep.yield ok) else pure (ForInStep.yield r)) (TP X pins σ Q) X.xe s
structure WTs (X : Cx) (ct : Ct) (ifs : List Expr) (p : Sg → Res Bool) : Prop where
  out : PTs X ct ifs p
theorem pts_nil {X : Cx} {ct : Ct} : PTs X ct [] cYes := fun pins s σ H Q I ⟨Γ, j, h⟩ => wpAny_tests_nil ⟨H, I, h H (Same.refl H)⟩
theorem wts_nil {X : Cx} {ct : Ct} : WTs X ct [] cYes := ⟨pts_nil⟩
theorem blk_noML {tm : Bool} {k : Nat} {caps : List Nat} {Γ : Sg} : noML (blk tm k caps Γ) := fun i m => by
  refine ⟨fun h => ?_, fun h => ?_⟩ <;>
  · rcases blk_get h with e | ⟨c, sc, _, _, _, e⟩
    · cases e
    · cases sc <;> cases tm <;> cases e
theorem Ows.snocM {K : PySem.W.Frag} {ct : Ct} {H : Hp} {m : M} {y : V} {T : Fp} : ∀ {ms : List M} {vs : List V} {S : Fp}, Ows K ct H ms vs S → Ow K ct H m y T → (∀ b, S b → ¬ T b) → Ows K ct H (ms ++ [m]) (vs ++ [y]) (fun b => S b ∨ T b)
  | [], vs, S, h, t, _ => by
    simp only [Ows] at h; subst h
    simp only [List.nil_append, Ows]
    exact ⟨y, [], T, fun _ => False, rfl, fun _ z => .inr z, fun _ z => z.elim, fun _ _ z => z, t, rfl⟩
  | m' :: ms, vs, S, h, t, n => by
    simp only [Ows] at h
    obtain ⟨v, r, S1, S2, rfl, h2, h3, h4, h5, h6⟩ := h
    simp only [List.cons_append, Ows]
    refine ⟨v, r ++ [y], S1, fun b => S2 b ∨ T b, rfl, fun b z => .inl (h2 b z), fun b z => z.elim (fun z => .inl (h3 b z)) .inr, fun b z w => ?_, h5, Ows.snocM h6 t fun b z => n b (h3 b z)⟩
    rcases w with w | w
    · exact h4 b z w
    · exact n b (h2 b z) w
theorem Ows.datas {K : PySem.W.Frag} {ct : Ct} {H : Hp} : ∀ {ds : List D} {vs : List V} {S : Fp}, Ows K ct H (ds.map M.d) vs S → Tls K ct H ds vs
  | [], vs, S, h => by simpa [Ows, Tls] using h
  | d :: ds, vs, S, h => by
    simp only [List.map_cons, Ows, Ow] at h
    obtain ⟨v, r, S1, S2, rfl, _, _, _, h5, h6⟩ := h
    exact Tls.cons h5 (Ows.datas h6)
end L4
end
section
set_option Elab.async false
set_option linter.all false
set_option maxRecDepth 100000
namespace L4
open PySem PySem.Spec PyProof.Rows L2
structure CompOk (X : Cx) (scope : Scope) (cl : List (Str × Addr)) (k : Nat) (caps : List Nat) (N' : List Str) : Prop where
  clos : clOf X.env.cells scope.names [] = some cl
  cell : ∀ y ∈ scope.names, y.2 ≠ .cell
  kind : scope.kind = .function
  names : ∀ y ∈ scope.names, y.2 = .local → scope.names.lookup y.1 = some .local
  len : N'.length = k + caps.length
  cap : ∀ (i c : Nat) (y : Str), caps[i]? = some c → N'[k + i]? = some y → X.N[c]? = some y ∧ Vis X.env.scope y ∧ X.env.kindOf y ≠ some .local ∧ (y, NameKind.free) ∈ scope.names
theorem relabel_free {env : Env} : ∀ {names : List (Str × NameKind)} {y : Str}, (∀ z ∈ names, z.1 = y → z.2 = .free) → (y, NameKind.free) ∈ names →
    ((names.map fun (n, k) => if (k == NameKind.free && env.scope.kind == .function && env.kindOf n == some .cell) then (n, NameKind.cell) else (n, k)).lookup y = some .cell ∨
     (names.map fun (n, k) => if (k == NameKind.free && env.scope.kind == .function && env.kindOf n == some .cell) then (n, NameKind.cell) else (n, k)).lookup y = some .free)
  | [], y, _, h => by cases h
  | (n, k) :: r, y, hu, h => by
    have e1 : (((n, k) :: r).map fun (n, k) => if (k == NameKind.free && env.scope.kind == .function && env.kindOf n == some .cell) then (n, NameKind.cell) else (n, k)) =
      (if (k == NameKind.free && env.scope.kind == .function && env.kindOf n == some .cell) = true then (n, NameKind.cell) else (n, k)) :: (r.map fun (n, k) => if (k == NameKind.free && env.scope.kind == .function && env.kindOf n == some .cell) then (n, NameKind.cell) else (n, k)) := rfl
    rw [e1]
    by_cases hy : y = n
    · subst hy
      have hk : k = .free := hu (y, k) (.head _) rfl
      subst hk
      by_cases hcnd : (NameKind.free == NameKind.free && env.scope.kind == .function && env.kindOf y == some .cell) = true
      · rw [if_pos hcnd]; left; simp [List.lookup_cons]
      · rw [if_neg hcnd]; right; simp [List.lookup_cons]
    · have hb : (y == n) = false := by simpa using hy
      have hm : (y, NameKind.free) ∈ r := by
        rcases List.mem_cons.mp h with e | h
        · cases e; exact absurd rfl hy
        · exact h
      have ih := @relabel_free env r y (fun z hz => hu z (.tail _ hz)) hm
      by_cases hcnd : (k == NameKind.free && env.scope.kind == .function && env.kindOf n == some .cell) = true
      · rw [if_pos hcnd]; simp only [List.lookup_cons, hb]; exact ih
      · rw [if_neg hcnd]; simp only [List.lookup_cons, hb]; exact ih
section
variable {X : Cx} {ct : Ct} {elt iter tg : Expr} {ifs : List Expr} {scope : Scope} {cl : List (Str × Addr)} {pos : Pos} {k : Nat} {caps : List Nat} {N' : List Str} {fi : Sg → Res (List D)} {t : Tg} {p : Sg → Res Bool} {fe : Sg → Res M} {tm : Bool}
theorem inv_blk {pins : List (Addr × Obj)} {σ : St} {H : Hp} {s : Shared} {fp : List Addr} {h₁ : Heap} {tk : Nat} (I : Inv X pins σ H s) (co : CompOk X scope cl k caps N') (hfr : ∀ z ∈ scope.names, ∀ y, (y, NameKind.free) ∈ scope.names → z.1 = y → z.2 = .free)
    (hfp : ∀ b ∈ fp, FpOk X pins H b) (hfo : ∀ b ∈ fp, ∃ o, s.heap.get? b = some o)
    (hns : h₁.Ns (s.heap.objs.size + 1) (fun x => (([] : List (Str × Value)).reverse).lookup x))
    (hk : ∀ b o, s.heap.get? b = some o → h₁.get? b = some o) (hD : h₁.get? s.heap.objs.size = some { cls := .type "list", data := .seq #[] }) :
    Inv (cxB X scope cl (s.heap.objs.size + 1) s H fp N') [] (blkV k caps σ) (upd H s.heap.objs.size (.lst [])) { s with heap := h₁, toks := tk } := by
  have hsub := clOf_sub co.clos (by simp)
  have hfree : H s.heap.objs.size = none := I.hok.fresh (Nat.le_refl _)
  have cless : ∀ x c, cl.lookup x = some c → c < s.heap.objs.size := fun x c e => by
    obtain ⟨v, o, ho, _⟩ := I.cell x c (hsub x c e)
    exact Heap.lt_size ho
  refine ⟨⟨I.ok.mod, co.kind, I.ok.glob, I.ok.blt, Nat.le_succ _, fun x y c e1 e2 => I.ok.inj x y c (hsub x c e1) (hsub y c e2), fun x hx => ?_, fun x c hf => absurd hf (by exact Bool.false_ne_true), I.ok.hd, I.ok.frames, .inl rfl, fun b hb => ?_, I.bs, Nat.le_trans I.ok.bsz I.sz, fun b o e hb => ?_, fun b hb hs => ?_, I.stack, I.stkFree⟩,
    rfl, I.bare, Un.laid hk (Nat.le_refl _) hfree, ⟨_, hns, fun i y v h1 h2 h3 => ?_⟩, fun x c e => ?_, ?_, fun x c e => ?_, fun p hp => absurd (show p ∈ ([] : List (Addr × Obj)) ++ [] from hp) (by simp), I.hok.laid hk (Nat.le_refl _) ⟨Nat.zero_le _, [], 0, .nil, hD⟩, ?_⟩
  · exact Option.isSome_iff_exists.mp (clOf_has co.clos x (relabel_kind co.cell hx))
  · obtain ⟨o, ho⟩ := hfo b hb
    refine ⟨Nat.ne_of_lt (Nat.lt_succ_of_lt (Heap.lt_size ho)), fun x c e => (hfp b hb).2.2.2.2.1 x c (hsub x c e)⟩
  · rcases (hfp b hb).2.2.2.1 with z | z
    · exact I.ok.noex b o e z
    · exact absurd (Heap.lt_size (I.ok.bs b o e).1) (Nat.not_lt.mpr z)
  · rcases List.mem_cons.mp (I.stkSub b hs) with z | z
    · exact (hfp b hb).2.1 z
    · exact (hfp b hb).2.2.1 z
  · -- what it sees
    by_cases hi : i < k
    · unfold blkV at h2
      rw [List.getElem?_append_left (by simpa using hi), List.getElem?_replicate, if_pos hi] at h2
      cases h2
    · unfold blkV at h2
      rw [List.getElem?_append_right (by simpa using hi), List.length_replicate, List.getElem?_map] at h2
      cases q : caps[i - k]? with
      | none => rw [q] at h2; cases h2
      | some c =>
        rw [q] at h2
        simp only [Option.map_some, Option.some.injEq] at h2
        obtain ⟨g1, g2, g3, g4⟩ := co.cap (i - k) c y q (by rw [Nat.add_sub_cancel' (Nat.le_of_not_lt hi)]; exact h1)
        obtain ⟨m, hn, hl⟩ := I.loc
        have hσ : σ[c]? = some (some v) := by
          cases z : σ[c]? with
          | none => rw [z] at h2; cases h2
          | some w => rw [z] at h2; simp only [Option.join_some] at h2; rw [h2]
        obtain ⟨u, r, lk⟩ := hl c y v g1 hσ g2
        refine ⟨u, r, .inr ⟨relabel_free (fun z hz e => hfr z hz y g4 e) g4, ?_⟩⟩
        rcases lk with ⟨z, _⟩ | ⟨_, c', e, hc⟩
        · exact absurd z g3
        · obtain ⟨c2, e2⟩ := Option.isSome_iff_exists.mp (clOf_has co.clos y g4)
          have : c2 = c' := by
            have := hsub y c2 e2
            rw [e] at this; exact (Option.some.inj this).symm
          subst this
          obtain ⟨o, ho, hd⟩ := hc
          exact ⟨c2, e2, o, hk _ _ ho, hd⟩
  · obtain ⟨v, o, ho, hd⟩ := I.cell x c (hsub x c e)
    exact ⟨v, o, hk _ _ ho, hd⟩
  · show upd H s.heap.objs.size (.lst []) (s.heap.objs.size + 1) = none
    rw [upd_ne (Nat.succ_ne_self _)]
    exact I.hok.fresh (Nat.le_succ _)
  · rw [upd_ne (Nat.ne_of_lt (cless x c e))]
    exact I.freeC x c (hsub x c e)
  · simp [blkV, cxB, co.len]
theorem comp_core {pins : List (Addr × Obj)} {σ : St} {H : Hp} {s : Shared} {Γ : Sg} {cp : Pos} {use : Option (Value → Sem Unit)} {Q' : Value → Shared → Prop} {Wk : List M → Prop} (ht : tm = true → ct.tm = true) (hc : X.calm = true) (hi : PID X ct tg iter fi) (co : CompOk X scope cl k caps N') (hfr : ∀ z ∈ scope.names, ∀ y, (y, NameKind.free) ∈ scope.names → z.1 = y → z.2 = .free)
    (hg : ∀ C s₀ H₀ ex, PGD (cxB X scope cl C s₀ H₀ ex N') ct tg t) (hp : ∀ C s₀ H₀ ex, PTs (cxB X scope cl C s₀ H₀ ex N') ct ifs p) (he : ∀ C s₀ H₀ ex, PM (cxB X scope cl C s₀ H₀ ex N') ct elt fe)
    (hf : ∀ Γ x Γ1 σ H H₀, t x (blk tm k caps Γ) = some Γ1 → J X.K ct H₀ Γ1 σ H → J X.K ct H₀ (blk tm k caps Γ) σ H) (hs : ∀ x, foldedSetIterable iter X.env x = pure x)
    (I : Inv X pins σ H s) (j : Jx X ct Γ σ H) (h : Ok X ct σ H (mComp tm fi k caps t p fe Γ) Wk)
    (fin : ∀ (acc C : Addr) (av : List V) (ys : List M) (T : Fp) (H1 : Hp) (s4 : Shared) (m : Str → Option Value), Inv X pins σ H1 s4 → Same H H1 → H acc = none → H1 acc = some (.lst av) → Ows X.K ct H1 ys av T → (∀ b, T b → H b = none ∧ b ≠ acc ∧ H1 b ≠ none) → Wk ys → s4.heap.Ns C m → H1 C = none → C ≠ X.env.locals → X.s₀.heap.objs.size ≤ C →
      (∀ x c, X.env.cells.lookup x = some c → c ≠ C) → (∀ p ∈ X.pn ++ pins, p.1 ≠ C) → compPost (model X.prog X.w) X.A X.xe use Q' (.ref acc) C (.ok .next) s4) :
    wpAny (model X.prog X.w) X.A (comprehension (.ListComp elt [⟨tg, iter, ifs, 0⟩] scope pos) scope X.env cp (newList []) false (eval iter X.env) use) Q' X.xe s := by
  refine wpAny_comprehension_free (use := use) rfl hs (closure_of co.clos) co.kind co.names ?_
  have hw : iOf X ct fi σ H (fun J H2 => ∃ xs ys, Same H H2 ∧ ItD X.K ct J xs H2 ∧ xs.length < 1000000 ∧ compM (elM t p fe (blk tm k caps Γ)) xs = .ok ys ∧ Wk ys) := by
    refine ⟨Γ, j, h.bnd fun xs _ q J H2 s2 it => ?_⟩
    split at q
    · rename_i hl
      cases z : compM (elM t p fe (blk tm k caps Γ)) xs with
      | ok ys => rw [z] at q; exact ⟨xs, ys, s2, it, hl, z, q⟩
      | err c => exact (compM_ne (fun _ _ => elM_ne) xs c z).elim
      | bad => rw [z] at q; exact q.elim
    · exact q.elim
  refine wpAny_mono (hi pins s σ H _ I hw) (fun v s1 h1 => wpAny_mono h1 (fun itv s2 h2 => ?_) fun _ _ e => e) fun _ _ e => e
  obtain ⟨it, fp, tn, J, H2, rfl, I2, T, st, fok, xs, ys, sm, ⟨Pd, pd0, pdk, pdgo, pdst⟩, hlx, hys, W⟩ := h2
  refine wpAny_newObj_type (wpAny_newFunctionEnv co.cell (by intro y hy; simp at hy) (fun h₁ hns₁ hsb₁ => ?_) co.kind)
  dsimp only at hns₁ hsb₁ ⊢
  have hC : (s2.heap.push { cls := .type "list", dict := none, data := .seq ([] : List Value).toArray }).objs.size = s2.heap.objs.size + 1 := Heap.size_push ..
  rw [hC] at hns₁ hsb₁ ⊢
  have hk : ∀ b o, s2.heap.get? b = some o → h₁.get? b = some o := fun b o e =>
    hsb₁.extBut b o (Nat.ne_of_lt (Nat.lt_succ_of_lt (Heap.lt_size e))) (Heap.get?_push_of_some _ (Heap.get?_push_of_some _ e))
  have hD : h₁.get? s2.heap.objs.size = some { cls := .type "list", data := .seq #[] } :=
    hsb₁.extBut _ _ (Nat.ne_of_lt (Nat.lt_succ_self _)) (Heap.get?_push_of_some _ (Heap.get?_push_size _ rfl))
  have hfo : ∀ b ∈ fp, ∃ o, s2.heap.get? b = some o := fun b hb => let ⟨o, ho, _⟩ := T.obj 0 _ st b hb; ⟨o, ho⟩
  have I4 := inv_blk (tk := s2.toks + ([] : List (Str × Value)).length) I2 co hfr fok hfo hns₁ hk hD
  have j2 := j.mono sm
  let Xb := cxB X scope cl (s2.heap.objs.size + 1) s2 H2 fp N'
  have fresh2 : H2 s2.heap.objs.size = none := I2.hok.fresh (Nat.le_refl _)
  have keep4 : Same H2 (upd H2 s2.heap.objs.size (.lst [])) := same_new fresh2 _
  have tch : ∀ {σ1 : St} {Ha Hb : Hp}, L4.J X.K ct H2 (blk tm k caps Γ) σ1 Ha → Keep ct.f.cb Ha Hb → Same H2 Hb → L4.J X.K ct H2 (blk tm k caps Γ) σ1 Hb := fun j kp sm => j.touch blk_noML kp (fun b o q _ => sm b o q) (fun b q => sm.free q) (j2.lL.trans sm) (j2.lB.trans sm)
  have st4 : tn 0 h₁ := T.keep 0 _ _ st fun b hb o e => hk b o e
  have fpne : ∀ b ∈ fp, b ≠ s2.heap.objs.size := fun b hb => let ⟨o, ho⟩ := hfo b hb; Nat.ne_of_lt (Heap.lt_size ho)
  have fpb : ∀ {H' : Hp}, (∀ b ∈ fp, H' b = none) → ∀ b ∈ fp, FpOk Xb [] H' b := fun hn b hb => by
    obtain ⟨o, ho⟩ := hfo b hb
    refine ⟨hn b hb, Nat.ne_of_lt (Nat.lt_succ_of_lt (Heap.lt_size ho)), I4.ok.exfs b hb, .inl hb, fun x c e => (I4.ok.exf b hb).2 x c e, fun p hp => absurd (show p ∈ ([] : List (Addr × Obj)) ++ [] from hp) (by simp)⟩
  have loop : codeAny (model X.prog X.w) X.A (.compLoop (.ListComp elt [⟨tg, iter, ifs, 0⟩] scope pos) 0 (.ref it) (.ref s2.heap.objs.size) (compEnvC scope cl (s2.heap.objs.size + 1) X.env))
      (compPost (model X.prog X.w) X.A X.xe use Q' (.ref s2.heap.objs.size) (s2.heap.objs.size + 1)) { s2 with heap := h₁, toks := s2.toks + ([] : List (Str × Value)).length } := by
    refine compLoop_any (fun n s' => ∃ (i : Nat) (σ1 : St) (H1 : Hp) (av : List V) (ad rest : List M) (T : Fp), n = xs.length - i ∧ i ≤ xs.length ∧ Inv Xb [] σ1 H1 s' ∧ L4.J X.K ct H2 (blk tm k caps Γ) σ1 H1 ∧ tn i s'.heap ∧ (∀ b ∈ fp, H1 b = none) ∧ Same H2 H1 ∧
      H1 s2.heap.objs.size = some (.lst av) ∧ Ows X.K ct H1 ad av T ∧ (∀ b, T b → H2 b = none ∧ b ≠ s2.heap.objs.size ∧ H1 b ≠ none) ∧ av.length ≤ i ∧ compM (elM t p fe (blk tm k caps Γ)) (xs.drop i) = .ok rest ∧ ad ++ rest = ys) ?_ xs.length
      ⟨0, _, _, [], [], ys, fun _ => False, rfl, Nat.zero_le _, I4, tch (j_blk j2 ht) (Same.keep keep4) keep4, st4, fun b hb => by rw [upd_ne (fpne b hb)]; exact (fok b hb).1, keep4, upd_same, by simp only [Ows], fun _ z => z.elim, Nat.le_refl _, hys, rfl⟩
    rintro n s3 ⟨i, σ1, H1, av, ad, rest, Tf, hn, hil, I3, j3, st3, fr3, k3, hacc, tacc, hT, hal, hrest, hall⟩
    have pd1 := pdk _ _ pd0 (Same.keep k3) j3.lL j3.lB
    by_cases hlt : i < xs.length
    · -- one more item
      have hd : xs[i]? = some xs[i] := List.getElem?_eq_getElem hlt
      obtain ⟨go, yld⟩ := pdgo i _ H1 pd1 hd
      rw [drop_one hd] at hrest
      obtain ⟨o, rest', ho, hr', hro⟩ := compM_cons hrest
      refine wpAny_mono (T.item Xb rfl rfl rfl hc i [] s3 σ1 H1 (fun _ _ => False) I3 (fpb fr3) st3 go) (fun r s4 ⟨u, hr, h4⟩ => ?_) fun _ _ e => e
      subst hr
      refine wpAny_mono h4 (fun _ s5 ⟨x, H5, I5, r5, y5, st5, fr5⟩ => ?_) fun _ _ e => e
      obtain ⟨sm5, tx⟩ := yld x H5 y5
      replace j3 := j3.mono sm5
      replace hacc := sm5 _ _ hacc
      replace tacc := tacc.frame (Same.keep sm5) (fun b o _ q => sm5 b o q)
      replace hT : ∀ b, Tf b → H2 b = none ∧ b ≠ s2.heap.objs.size ∧ H5 b ≠ none := fun b z => ⟨(hT b z).1, (hT b z).2.1, fun q => (hT b z).2.2 (sm5.free q)⟩
      replace k3 := k3.trans sm5
      have I5' := I5.pinned (fpb fr5) (T.obj _ _ st5)
      unfold elM at ho
      cases e1 : t xs[i] (blk tm k caps Γ) with
      | none => rw [e1] at ho; cases ho
      | some Γ1 =>
        rw [e1] at ho
        dsimp only at ho
        refine wpAny_mono (hg _ s2 H2 fp _ s5 σ1 H5 x u (fun σ2 H' => H' = H5 ∧ L4.J X.K ct H2 Γ1 σ2 H5) I5' r5 ⟨_, _, Γ1, j3, tx, e1, fun σ2 j6 => ⟨rfl, j6⟩⟩) (fun _ s6 ⟨σ2, H6, I6, e6, j6⟩ => ?_) fun _ _ e => e
        subst e6
        have tnk : ∀ {σ7 : St} {H7 : Hp} {s7 : Shared}, Inv Xb ([] ++ pinsAt fp s5.heap) σ7 H7 s7 → tn (i + 1) s7.heap ∧ ∀ b ∈ fp, H7 b = none := fun {σ7 H7 s7} I7 => by
          refine ⟨T.keep _ _ _ st5 fun b hb o e => (I7.pin (b, o) (List.mem_append_right _ (List.mem_append_right _ (mem_pinsAt hb e)))).1, fun b hb => ?_⟩
          obtain ⟨o, e, d⟩ := T.obj _ _ st5 b hb
          exact (I7.pin (b, o) (List.mem_append_right _ (List.mem_append_right _ (mem_pinsAt hb e)))).2.1
        cases ep : p Γ1 with
        | bad => rw [ep] at ho; cases ho
        | err c => rw [ep] at ho; cases ho
        | ok c =>
          refine wpAny_mono (hp _ s2 H2 fp _ s6 σ2 H6 (fun b H' => b = c ∧ Same H6 H') I6 ⟨Γ1, j6, by rw [ep]; exact fun H' s => ⟨rfl, s⟩⟩) (fun b s7 ⟨H7, I7, eb, s7'⟩ => ?_) fun _ _ e => e
          subst eb
          have j7 := j6.mono s7'
          cases b with
          | false =>
            rw [ep] at ho
            dsimp only at ho
            cases ho
            have hro' : rest = rest' := hro
            rw [hro'] at hall
            obtain ⟨tn7, fr7⟩ := tnk I7
            rw [if_neg Bool.false_ne_true]
            exact ⟨xs.length - (i + 1), by omega, i + 1, σ2, H7, av, ad, rest', Tf, rfl, hlt, I7.unpinned, hf Γ _ Γ1 σ2 H7 H2 e1 j7, tn7, fr7, k3.trans s7', s7' _ _ hacc, tacc.frame (Same.keep s7') (fun b o _ q => s7' b o q), fun b z => ⟨(hT b z).1, (hT b z).2.1, fun q => (hT b z).2.2 (s7'.free q)⟩, Nat.le_succ_of_le hal, hr', hall⟩
          | true =>
            rw [ep] at ho
            dsimp only at ho
            rw [if_pos rfl]
            cases ee : fe Γ1 with
            | bad => rw [ee] at ho; cases ho
            | err c => rw [ee] at ho; cases ho
            | ok d =>
              rw [ee] at ho
              dsimp only at ho
              cases ho
              subst hro
              refine wpAny_mono (he _ s2 H2 fp _ s7 σ2 H7 (fun v H' => ∃ S, Same H7 H' ∧ Ow X.K ct H' d v S ∧ (∀ b, S b → H7 b = none) ∧ ∀ b, S b → H' b ≠ none) I7 ⟨Γ1, j7, by rw [ee]; exact fun v H' S s t n k => ⟨S, s, t, n, k⟩⟩) (fun yv s8 ⟨y, H8, I8, r8, S8, s8', t8, n8, h8⟩ => ?_) fun _ _ e => e
              have hacc8 : H8 s2.heap.objs.size = some (.lst av) := s8' _ _ (s7' _ _ hacc)
              refine wpAny_mono (mt_append (X := Xb) _ s8 σ2 H8 (.ref s2.heap.objs.size) [y] (.ref s2.heap.objs.size) [yv] (fun _ H' => H' = upd H8 s2.heap.objs.size (.lst (av ++ [y]))) I8 rfl (.cons r8 .nil) ⟨_, av, y, rfl, rfl, hacc8, Nat.lt_trans (by omega) sizeLine_big, rfl⟩) (fun _ s9 ⟨_, H9, I9, _, e9⟩ => ?_) fun _ _ e => e
              subst e9
              obtain ⟨tn9, fr9⟩ := tnk I9
              have kp : Keep ct.f.cb H8 (upd H8 s2.heap.objs.size (.lst (av ++ [y]))) := Keep.lst hacc8
              have k8 : Same H2 H8 := (k3.trans s7').trans s8'
              have j8 := hf Γ _ Γ1 σ2 H8 H2 e1 (j7.mono s8')
              have sm9 : Same H2 (upd H8 s2.heap.objs.size (.lst (av ++ [y]))) := fun b o hb => by
                have : b ≠ s2.heap.objs.size := ne_of_none hb fresh2
                rw [upd_ne this]; exact k8 b o hb
              have sne : ∀ b, S8 b → b ≠ s2.heap.objs.size := fun b z => by
                rintro rfl
                have := n8 _ z
                rw [s7' _ _ hacc] at this; cases this
              have T8 : ∀ b, Tf b → H8 b ≠ none := fun b z q => (hT b z).2.2 (s7'.free (s8'.free q))
              have dis : ∀ b, Tf b → ¬ S8 b := fun b z w => (hT b z).2.2 (s7'.free (n8 b w))
              have up8 : ∀ b, b ≠ s2.heap.objs.size → upd H8 s2.heap.objs.size (.lst (av ++ [y])) b = H8 b := fun b z => upd_ne z
              refine ⟨xs.length - (i + 1), by omega, i + 1, σ2, _, av ++ [y], ad ++ [d], rest', fun b => Tf b ∨ S8 b, rfl, hlt, I9.unpinned, tch j8 kp sm9, tn9, fr9, sm9, upd_same, ?_, fun b z => ?_, ?_, hr', ?_⟩
              · have o1 := tacc.frame (Same.keep (s7'.trans s8')) (fun b o _ q => (s7'.trans s8') b o q)
                exact (o1.snocM t8 dis).frame kp fun b o z q => by
                  rw [up8 b (z.elim (fun z => (hT b z).2.1) (sne b))]; exact q
              · rcases z with z | z
                · exact ⟨(hT b z).1, (hT b z).2.1, by rw [up8 b (hT b z).2.1]; exact T8 b z⟩
                · exact ⟨k3.free (s7'.free (n8 b z)), sne b z, by rw [up8 b (sne b z)]; exact h8 b z⟩
              · rw [List.length_append, List.length_singleton]; omega
              · rw [← hall]; simp
    · -- through
      have hie : xs.length ≤ i := Nat.le_of_not_lt hlt
      refine wpAny_mono (T.done Xb rfl rfl rfl hc i [] s3 σ1 H1 (fun _ _ => False) I3 (fpb fr3) st3 (pdst i H1 pd1 hie)) (fun r s4 ⟨hr, I4'⟩ => ?_) fun _ _ e => e
      subst hr
      rw [List.drop_eq_nil_of_le hie] at hrest
      cases hrest
      rw [List.append_nil] at hall
      subst hall
      obtain ⟨m, hm, _⟩ := I4'.loc
      have nC : H1 (s2.heap.objs.size + 1) = none := I4'.free
      have un : Un (frs X.stack) fp H2 H1 s2.heap s4.heap := by
        have u := I4'.base
        exact ⟨u.keep, u.slot, u.free, u.there, u.tups, u.frzs, u.tbls⟩
      have IE : Inv X pins σ H1 s4 := I2.call' (s' := s4) (ch := fp) I4'.os un I4'.hok I4'.bare fun b hb => ⟨(fok b hb).2.2.2.1, (fok b hb).2.1, (fok b hb).2.2.2.2.1, (fok b hb).2.2.2.2.2⟩
      have old : ∀ {b : Addr} {o : Obj}, s2.heap.get? b = some o → b ≠ s2.heap.objs.size + 1 := fun e => Nat.ne_of_lt (Nat.lt_succ_of_lt (Heap.lt_size e))
      refine fin _ _ av _ Tf H1 s4 m IE (sm.trans k3) (sm.free fresh2) hacc tacc (fun b z => ⟨sm.free (hT b z).1, (hT b z).2.1, (hT b z).2.2⟩) W hm nC (Ne.symm (Nat.ne_of_lt (Nat.lt_succ_of_lt I2.lt))) (Nat.le_succ_of_le I2.sz) (fun x c e => ?_) fun p hp => old (I2.pin p hp).1
      obtain ⟨v, o, ho, _⟩ := I2.cell x c e
      exact old ho
  exact codeAny_compStart_list loop (T.self _ 0 _ _ _ st4 loop)
variable {fd : Sg → Res D}
theorem lComp_m (Γ : Sg) : mComp tm fi k caps t p (mD fd) Γ = (lComp tm fi k caps t p fd Γ).bnd fun ds => .ok (ds.map M.d) := by
  unfold mComp lComp
  cases fi Γ with
  | ok xs =>
    simp only [Res.bnd_ok]
    split
    · exact compM_compD xs
    · rfl
  | err x => rfl
  | bad => rfl
theorem pl_comp (ht : tm = true → ct.tm = true) (hc : X.calm = true) (hi : PID X ct tg iter fi) (co : CompOk X scope cl k caps N') (hfr : ∀ z ∈ scope.names, ∀ y, (y, NameKind.free) ∈ scope.names → z.1 = y → z.2 = .free)
    (hg : ∀ C s₀ H₀ ex, PGD (cxB X scope cl C s₀ H₀ ex N') ct tg t) (hp : ∀ C s₀ H₀ ex, PTs (cxB X scope cl C s₀ H₀ ex N') ct ifs p) (he : ∀ C s₀ H₀ ex, PD (cxB X scope cl C s₀ H₀ ex N') ct elt fd)
    (hf : ∀ Γ x Γ1 σ H H₀, t x (blk tm k caps Γ) = some Γ1 → J X.K ct H₀ Γ1 σ H → J X.K ct H₀ (blk tm k caps Γ) σ H)
    (hs : ∀ x, foldedSetIterable iter X.env x = pure x := by intro _; rfl) : PL X ct (.ListComp elt [⟨tg, iter, ifs, 0⟩] scope pos) (lComp tm fi k caps t p fd) := by
  intro pins s σ H Q I ⟨Γ, j, h⟩
  rw [eval_ListComp]
  have h' : Ok X ct σ H (mComp tm fi k caps t p (mD fd) Γ) fun ms => ∃ ds : List D, ms = ds.map M.d ∧ Wl X ct H Q ds := by
    rw [lComp_m]
    cases z : lComp tm fi k caps t p fd Γ with
    | ok ms => rw [z] at h; exact ⟨ms, rfl, h⟩
    | err x => rw [z] at h; exact h
    | bad => rw [z] at h; exact h
  refine comp_core ht hc hi co hfr hg hp (fun C s₀ H₀ ex => pm_of_pd (he C s₀ H₀ ex)) hf hs I j h' fun acc C av ys T H1 s4 m IE sm na ha ta hT W hm nC nl hz ncl npn => ?_
  obtain ⟨ds, rfl, W⟩ := W
  refine ⟨m, hm, fun h' hsb => ?_⟩
  have I5 : Inv X pins σ H1 { s4 with heap := h', toks := s4.toks } := IE.turned (h' := h') (t' := s4.toks) (it := C) (fun b o hb e => (hsb.2 b hb).trans e) nC nl (.inr hz) ncl npn
  exact ⟨.ref acc, H1, I5, rfl, W acc av H1 sm na ha ta.datas⟩
end
end L4
end
section
set_option Elab.async false
set_option linter.all false
set_option maxRecDepth 100000
namespace L4
open PySem PySem.Spec PyProof.Rows L2
section
variable {X : Cx} {ct : Ct} {c : Cf} {elt iter tg : Expr} {ifs : List Expr} {scope : Scope} {cl : List (Str × Addr)} {pos : Pos} {k : Nat} {caps : List Nat} {N' : List Str} {fi : Sg → Res (List D)} {t : Tg} {p : Sg → Res Bool} {fe : Sg → Res M} {fd : Sg → Res D} {tm : Bool}
def TgK (k : Nat) (t : Tg) : Prop := ∀ x Γ Γ1, t x Γ = some Γ1 → Γ1.length = Γ.length ∧ ∀ i, k ≤ i → Γ1[i]? = Γ[i]?
def TgsK (k : Nat) (t : Tgs) : Prop := ∀ x Γ Γ1, t x Γ = some Γ1 → Γ1.length = Γ.length ∧ ∀ i, k ≤ i → Γ1[i]? = Γ[i]?
theorem tk_name {k i : Nat} (h : i < k) : TgK k (tgName i) := fun x Γ Γ1 e => by
  cases e
  exact ⟨by simp, fun j hj => by rw [List.getElem?_set_ne (by omega)]⟩
theorem tk_nil {k : Nat} : TgsK k tgNil := fun x Γ Γ1 e => by
  cases x with
  | nil => cases e; exact ⟨rfl, fun _ _ => rfl⟩
  | cons a r => cases e
theorem tk_cons {k : Nat} {t : Tg} {u : Tgs} (h1 : TgK k t) (h2 : TgsK k u) : TgsK k (tgCons t u) := fun x Γ Γ1 e => by
  cases x with
  | nil => cases e
  | cons d r =>
    simp only [tgCons, Option.bind_eq_some_iff] at e
    obtain ⟨Γ2, e1, e2⟩ := e
    obtain ⟨a1, a2⟩ := h1 _ _ _ e1
    obtain ⟨b1, b2⟩ := h2 _ _ _ e2
    exact ⟨b1.trans a1, fun i hi => (b2 i hi).trans (a2 i hi)⟩
theorem tk_tup {k n : Nat} {t : Tgs} (h : TgsK k t) : TgK k (tgTup n t) := fun x Γ Γ1 e => by
  cases x with
  | tup ds =>
    simp only [tgTup] at e
    split at e
    · exact h _ _ _ e
    · cases e
  | _ => cases e
theorem tk_forget {K : PySem.W.Frag} (hk : TgK k t) : ∀ Γ x Γ1 σ H H₀, t x (blk tm k caps Γ) = some Γ1 → J K ct H₀ Γ1 σ H → J K ct H₀ (blk tm k caps Γ) σ H := fun Γ x Γ1 σ H H₀ e j => by
  obtain ⟨h1, h2⟩ := hk _ _ _ e
  refine j.weak h1 fun i => ?_
  by_cases hik : i < k
  · left
    unfold blk
    rw [List.getElem?_append_left (by simpa using hik), List.getElem?_replicate, if_pos hik]
  · exact .inr (h2 i (Nat.le_of_not_lt hik)).symm
theorem free_of (hfb : (scope.names.all fun z => scope.names.all fun y => !(y.2 == .free && z.1 == y.1) || z.2 == .free) = true) : ∀ z ∈ scope.names, ∀ y, (y, NameKind.free) ∈ scope.names → z.1 = y → z.2 = .free := fun z hz y hy e => by
  have q := List.all_eq_true.mp (List.all_eq_true.mp hfb z hz) _ hy
  simp only [e, BEq.rfl, Bool.and_self, Bool.not_true, Bool.false_or] at q
  exact eq_of_beq q
theorem pl_compD (ht : tm = true → ct.tm = true) (hc : X.calm = true) (hi : PID X ct tg iter fi) (co : CompOk X scope cl k caps N') (hfb : (scope.names.all fun z => scope.names.all fun y => !(y.2 == .free && z.1 == y.1) || z.2 == .free) = true)
    (hg : ∀ C s₀ H₀ ex, PGD (cxB X scope cl C s₀ H₀ ex N') ct tg t) (hp : ∀ C s₀ H₀ ex, PTs (cxB X scope cl C s₀ H₀ ex N') ct ifs p) (he : ∀ C s₀ H₀ ex, PD (cxB X scope cl C s₀ H₀ ex N') ct elt fd)
    (hk : TgK k t) (hs : ∀ x, foldedSetIterable iter X.env x = pure x := by intro _; rfl) : PL X ct (.ListComp elt [⟨tg, iter, ifs, 0⟩] scope pos) (lComp tm fi k caps t p fd) :=
  pl_comp ht hc hi co (free_of hfb) hg hp he (tk_forget hk) hs
theorem wl_compD (ht : tm = true → ct.tm = true) (hc : X.calm = true) (hi : WID X ct tg iter fi) (co : CompOk X scope cl k caps N') (hfb : (scope.names.all fun z => scope.names.all fun y => !(y.2 == .free && z.1 == y.1) || z.2 == .free) = true) (hg : ∀ C s₀ H₀ ex, WGD (cxB X scope cl C s₀ H₀ ex N') ct tg t) (hp : ∀ C s₀ H₀ ex, WTs (cxB X scope cl C s₀ H₀ ex N') ct ifs p) (he : ∀ C s₀ H₀ ex, WD (cxB X scope cl C s₀ H₀ ex N') ct elt fd) (hk : TgK k t) (hs : ∀ x, foldedSetIterable iter X.env x = pure x := by intro _; rfl) : WL X ct (.ListComp elt [⟨tg, iter, ifs, 0⟩] scope pos) (lComp tm fi k caps t p fd) := ⟨pl_compD (ht := ht) (hc := hc) (hi := hi.out) (co := co) (hfb := hfb) (hg := (fun C s₀ H₀ ex => (hg C s₀ H₀ ex).out)) (hp := (fun C s₀ H₀ ex => (hp C s₀ H₀ ex).out)) (he := (fun C s₀ H₀ ex => (he C s₀ H₀ ex).out)) (hk := hk) (hs := hs)⟩
end
end L4
end
section
set_option Elab.async false
set_option linter.all false
set_option maxRecDepth 100000
namespace L4
open PySem PySem.Spec PyProof.Rows L2
abbrev bmVE : List Value := [.type "ValueError", .type "Exception", .type "BaseException", .type "object"]
structure XC (K : PySem.W.Frag) (mg : Str → Option Value) (cb : Cb) (x : Str) (n : String) (C : Addr) : Prop where
  bnd : mg x = some (.ref C)
  exc : PySem.W.excIn K C bmVE "ValueError.__new__" = true
  at' : cb.exc n = some C
theorem excObj {K : PySem.W.Frag} {h : Heap} {C : Addr} {newId : String} (X : K.In h) (q : PySem.W.excIn K C bmVE newId = true) :
    ∃ bm N nm qn bs hdct sn sub ab col dd k0 k1 k2 k3 k5 mN, h.get? C = some (excClassObj nm qn C N bs bm hdct sn sub ab col dd k0 k1 k2 k3 k5 newId) ∧ h.Ns N mN ∧ mN "__init__" = none ∧ OwnTail h bmVE bm := by
  unfold PySem.W.excIn at q
  split at q
  case h_2 => cases q
  case h_1 dd cd sl lk =>
    split at q
    case h_2 => cases q
    case h_1 C' bm k0 k1 k2 k3 n k5 em es =>
      simp only [Bool.and_eq_true, beq_iff_eq, Bool.not_eq_true'] at q
      obtain ⟨⟨⟨⟨⟨e1, e2⟩, e3⟩, e4⟩, e5⟩, e6⟩ := q
      subst e1 e2
      obtain ⟨nm, bs, mr, ns, qn, hd, sn, sub, ab, col, dl⟩ := cd
      simp only at em e3 e5 e6
      subst em e3
      obtain ⟨sl⟩ := sl
      simp only at es
      subst es
      exact ⟨bm, ns, nm, qn, bs, hd, sn, sub, ab, col, dd, k0, k1, k2, k3, k5, _, X _ _ lk, .of_isNs (PySem.W.isNs_of_in X e5), PySem.W.nsMap_none_of_in X e5 e6, PySem.W.tail_of_in X e4⟩
section
variable {X : Cx} {cf : Cf} {e₀ : Expr} {rest : List Expr} {fa : Sg → Res (List D)} {x : Str} {c : String} {C : Addr} {np cpos pos : Pos}
theorem pds_raise (g : Good X) (M : XC X.K X.mg cf.cb x c C) (ha : PDA X cf.z (e₀ :: rest) fa) (hg : Gl X x := by rfl) (hd : (x == ("__debug__" : Str)) = false := by decide)
    (he : starEach (e₀ :: rest) X.env = (false, eval e₀ X.env) :: starEach rest X.env := by rfl) (hpl : (backTo cpos (starEach rest X.env)).any (·.1) = false := by rfl) :
    PDS X cf (.Raise (some (.Call (.Name x np) (e₀ :: rest) [] cpos)) none pos) (sRaise c fa) := by
  intro pins s σ H E I ⟨Γ, j, h⟩
  obtain ⟨tl, N, nm, q, bs, hdct, sn, sub, ab, col, dd, k0, k1, k2, k3, k5, mN, hC, hN, hni, T⟩ := excObj I.ok.mod.kin M.exc
  refine wpAny_Raise_call_subT (C := C) (nm := nm) (q := q) (N := N) (bs := bs) (bm := tl) (hdct := hdct) (sn := sn) (sub := sub) (ab := ab) (col := col) (dd := dd) (k0 := k0) (k1 := k1) (k2 := k2) (k3 := k3) (k5 := k5)
    PySem.F.excBase_ValueError (mN := mN) (T.hasType PySem.F.excBase_ValueError.hasBase) (I.ok.hd g.calm) (by rw [he]; show (false || (backTo cpos (starEach rest X.env)).any (·.1)) = false; rw [hpl]; rfl) hni (ld_glob I hg M.bnd ⟨rfl, ?_⟩ hd)
  have h' : aOf X cf.z fa σ H (fun vs H1 => Same H H1 ∧ vs.length ≤ 1000 ∧ Fn X cf H (.err c Γ) E) :=
    ⟨Γ, j, Fn.ok j h fun ds _ q vs H1 s1 t1 => by
      split at q
      · rename_i hl; exact ⟨s1, by rw [← t1.length]; exact hl, q⟩
      · exact q.elim⟩
  have hp := ha cpos pins s σ H _ I h'
  rw [he] at hp ⊢
  refine Calls.evalArgs_plain (wpAny_mono hp (fun us s1 ⟨vs, H1, I1, r, sm, hl, q⟩ => ⟨rfl, ?_, I1.bk _ _ hC, hN.keeps I1.bk, T.keeps I1.bk, fun h2 e hm => ?_⟩) fun _ _ y => y)
  · show us.length ≤ sizeLine
    rw [← r.length]; exact Nat.le_of_lt (small1000 hl)
  · exact q σ H1 _ _ (Same.keep sm) (j.mono sm) ⟨pins, H1, s1, C, I1, Same.refl H1, M.at', .inl ⟨e, us, h2, rfl, rfl, hm⟩⟩
theorem wds_raise (g : Good X) (M : XC X.K X.mg cf.cb x c C) (ha : WDA X cf.z (e₀ :: rest) fa) (hg : Gl X x := by rfl) (hd : (x == ("__debug__" : Str)) = false := by decide) (he : starEach (e₀ :: rest) X.env = (false, eval e₀ X.env) :: starEach rest X.env := by rfl) (hpl : (backTo cpos (starEach rest X.env)).any (·.1) = false := by rfl) : WDS X cf (.Raise (some (.Call (.Name x np) (e₀ :: rest) [] cpos)) none pos) (sRaise c fa) := ⟨pds_raise (g := g) (M := M) (ha := ha.out) (hg := hg) (hd := hd) (he := he) (hpl := hpl)⟩
end
section
variable {X : Cx} {ct : Ct} {pins : List (Addr × Obj)} {σ : St} {H : Hp} {s : Shared}
theorem gone_ok {M : Model} {A : Around} {E : Value → Shared → Prop} {i : Nat} {n : Str} {pos : Pos} {Q : Unit → Shared → Prop} (I : Inv X pins σ H s) (hN : X.N.Nodup) (hi : X.N[i]? = some n) (hl : X.env.kindOf n = some .local)
    (h : ∀ s', Inv X pins (σ.set i none) H s' → Q () s') : wpAny M A (do bindName X.env n .none; unbindBehindTheSuite X.env n pos) Q E s := by
  obtain ⟨m, hn, hlk⟩ := id I.loc
  have hcls : (X.env.scope.kind == .class || (X.env.scope.kind == .module && X.env.locals != X.env.globals)) = false := by rw [I.ok.kind]; rfl
  refine wpAny_nameGoes_keeps hl hn hcls fun h' v hn' hs => h _ ?_
  obtain ⟨oL, _, _, hoL, _⟩ := id hn
  have old : ∀ {b : Addr} {o : Obj}, X.s₀.heap.get? b = some o → b ≠ X.env.locals := fun e => Nat.ne_of_lt (Nat.lt_of_lt_of_le (Heap.lt_size e) I.ok.above)
  have cne := I.cne
  refine ⟨I.ok, I.os, I.bare, ⟨fun b o e n hb hx => (hs.2 b (old e)).trans (I.base.keep b o e n hb hx), fun b o e n hb hx => ?_, I.base.free, fun b o e hx => ?_, I.base.tups, I.base.frzs, I.base.tbls⟩,
    ⟨_, hn', fun k y v' e1 e2 e3 => ?_⟩, fun y c e => ?_, I.free, I.freeC, fun p hp => ?_, fun b ob e => ?_, by simpa using I.len⟩
  · obtain ⟨sl, e1⟩ := I.base.slot b o e n hb hx
    exact ⟨sl, (hs.2 b (old e)).trans e1⟩
  · obtain ⟨o', e1⟩ := I.base.there b o e hx
    exact ⟨o', (hs.2 b (old e)).trans e1⟩
  · by_cases hk : k = i
    · subst hk
      by_cases hlen : k < σ.length
      · rw [List.getElem?_set_self hlen] at e2; cases e2
      · rw [List.getElem?_eq_none (by rw [List.length_set]; omega)] at e2; cases e2
    · rw [List.getElem?_set_ne (Ne.symm hk)] at e2
      obtain ⟨u', r', q⟩ := hlk k y v' e1 e2 e3
      refine ⟨u', r', ?_⟩
      rcases q with ⟨kk, e⟩ | ⟨kk, c, e, z⟩
      · have : y ≠ n := fun e => hk (nodup_ix hN e1 (e ▸ hi))
        exact .inl ⟨kk, by simp [this, e]⟩
      · exact .inr ⟨kk, c, e, z.sameBut hs (cne y c e)⟩
  · obtain ⟨w', z⟩ := I.cell y c e
    exact ⟨w', z.sameBut hs (cne y c e)⟩
  · obtain ⟨e, n, ne, nf, d⟩ := I.pin p hp
    exact ⟨(hs.2 p.1 ne).trans e, n, ne, nf, d⟩
  · refine (I.hok b ob e).stay (fun c w' hc q => (hs.2 c ?_).trans q) (fun _ q => q) fun _ _ q => q
    rintro rfl
    rcases hc with rfl | hc
    · rw [I.free] at e; cases e
    · rw [I.free] at hc; cases hc
theorem Inv.track {a : Addr} {φ : Heap → Prop} {s1 : Shared} (I : Inv X pins σ H s) (ha : H a = none) (old : Inv X pins σ H1 s1) (nw : s1.heap.get? a = none) (new : ObjOk X.prog X.w (upd H a (.ext φ)) s.heap a (.ext φ)) :
    Inv X pins σ (upd H a (.ext φ)) s := by
  have there : ∀ b o, X.s₀.heap.get? b = some o → b ∉ X.ex → b ≠ a := fun b o e hx z => by
    subst z
    obtain ⟨o', q⟩ := old.base.there b o e hx
    rw [nw] at q; cases q
  have nl : X.env.locals ≠ a := fun z => by
    obtain ⟨m, ⟨o, _, _, ho, _⟩, _⟩ := old.loc
    rw [z, nw] at ho; cases ho
  have nc : ∀ x c, X.env.cells.lookup x = some c → c ≠ a := fun x c e z => by
    obtain ⟨v, o, ho, _⟩ := old.cell x c e
    rw [z, nw] at ho; cases ho
  have np : ∀ p ∈ X.pn ++ pins, p.1 ≠ a := fun p hp z => by
    have := (old.pin p hp).1
    rw [z, nw] at this; cases this
  have ne : ∀ b u, H b = some u → b ≠ a := fun b u e => ne_of_none e ha
  refine ⟨I.ok, I.os, I.bare, ⟨I.base.keep, I.base.slot, fun b o e n hx => ?_, I.base.there, fun b xs e => ?_, fun b o u e => ?_, fun b ps e => ?_⟩, I.loc, I.cell, ?_, fun x c e => ?_, fun p hp => ?_, fun b u e => ?_, I.len⟩
  · rw [upd_ne (there b o e hx)]; exact I.base.free b o e n hx
  · have q := I.base.tups b xs e
    rw [upd_ne (ne _ _ q)]; exact q
  · have q := I.base.frzs b o u e
    rw [upd_ne (ne _ _ q)]; exact q
  · obtain ⟨more, q⟩ := I.base.tbls b ps e
    exact ⟨more, by rw [upd_ne (ne _ _ q)]; exact q⟩
  · rw [upd_ne nl]; exact I.free
  · rw [upd_ne (nc x c e)]; exact I.freeC x c e
  · obtain ⟨h1, h2, h3⟩ := I.pin p hp
    exact ⟨h1, by rw [upd_ne (np p hp)]; exact h2, h3⟩
  · by_cases hb : b = a
    · subst hb; rw [upd_same] at e; cases e; exact new
    · rw [upd_ne hb] at e
      exact (I.hok b u e).stay (fun _ _ _ q => q) (fun c q => by rw [upd_ne (ne _ _ q)]; exact q) fun c xs q => by rw [upd_ne (ne _ _ q)]; exact q
end
end L4
end
section
set_option Elab.async false
set_option linter.all false
set_option maxRecDepth 100000
namespace L4
open PySem PySem.Spec PyProof.Rows L2
section
variable {X : Cx} {cf : Cf}
abbrev cxT (X : Cx) (pn : List (Addr × Obj)) (xe : Value → Shared → Prop) : Cx := { X with pn := pn, xe := xe }
abbrev cxE (X : Cx) (ev : Value) (pn : List (Addr × Obj)) : Cx := { X with A := X.A.mark (some ev), calm := false, pn := pn, xe := fun _ _ => False }
theorem ok_T (ok : X.Ok) (pn : List (Addr × Obj)) (xe : Value → Shared → Prop) : (cxT X pn xe).Ok :=
  ⟨ok.mod, ok.kind, ok.glob, ok.blt, ok.above, ok.inj, ok.has, ok.cab, ok.hd, ok.frames, ok.stk, ok.exf, ok.bs, ok.bsz, ok.noex, ok.exfs, ok.funs, ok.frf⟩
theorem ok_E (ok : X.Ok) (ev : Value) (pn : List (Addr × Obj)) : (cxE X ev pn).Ok :=
  ⟨ok.mod, ok.kind, ok.glob, ok.blt, ok.above, ok.inj, ok.has, ok.cab, fun z => absurd z (by exact Bool.false_ne_true), ok.frames, ok.stk, ok.exf, ok.bs, ok.bsz, ok.noex, ok.exfs, ok.funs, ok.frf⟩
variable {pins : List (Addr × Obj)} {σ : St} {H : Hp} {s : Shared}
theorem Inv.toT (I : Inv X pins σ H s) (xe : Value → Shared → Prop) : Inv (cxT X (X.pn ++ pins) xe) [] σ H s :=
  ⟨ok_T I.ok _ _, I.os, I.bare, I.base, I.loc, I.cell, I.free, I.freeC, fun p hp => I.pin p (by simpa using hp), I.hok, I.len⟩
theorem Inv.ofT {pins' : List (Addr × Obj)} {xe : Value → Shared → Prop} (ok : X.Ok) (I : Inv (cxT X (X.pn ++ pins) xe) pins' σ H s) : Inv X pins σ H s :=
  ⟨ok, I.os, I.bare, I.base, I.loc, I.cell, I.free, I.freeC, fun p hp => I.pin p (List.mem_append_left _ hp), I.hok, I.len⟩
theorem Inv.toE (I : Inv X pins σ H s) (ev : Value) : Inv (cxE X ev (X.pn ++ pins)) [] σ H s :=
  ⟨ok_E I.ok _ _, I.os, I.bare, I.base, I.loc, I.cell, I.free, I.freeC, fun p hp => I.pin p (by simpa using hp), I.hok, I.len⟩
theorem Inv.ofE {ev : Value} (ok : X.Ok) (I : Inv (cxE X ev (X.pn ++ pins)) [] σ H s) : Inv X pins σ H s :=
  ⟨ok, I.os, I.bare, I.base, I.loc, I.cell, I.free, I.freeC, fun p hp => I.pin p (by simpa using hp), I.hok, I.len⟩
theorem ld_globA {A : Around} {E : Value → Shared → Prop} {x : Str} {u : Value} {pos : Pos} {Q : Value → Shared → Prop} (I : Inv X pins σ H s) (hg : Gl X x) (hm : X.mg x = some u) (h : Q u s)
    (hd : (x == ("__debug__" : Str)) = false := by decide) : wpAny (model X.prog X.w) A (eval (.Name x pos) X.env) Q E s :=
  Calls.Name_function_global I.ok.kind hg (Calls.loadGlobal_global (by rw [I.ok.glob]; exact I.mod.glob.keeps I.bk) hm h) hd
theorem looks_made {M : Model} {A : Around} {E : Value → Shared → Prop} {base h : Heap} {env : Env} {outer : List Env} {L e : Addr} {cls : Value} {args : List Value} {s : Shared} {Q : Unit → Shared → Prop} (hfr : A.frames = some (env :: outer)) (hf : env.frame = some L)
    (hkb : base.StaysIn h) (hl : h.FunFrames base (env :: outer)) (hx : Heap.MadeExcOf h s.heap e cls args)
    (hQ : ∀ h' t, Heap.HeldW base (env :: outer) e cls (.ref t) L h' → s.heap.UpToSlots h' → Q () { s with heap := h' }) : wpAny M A (noteFrame (.ref e) env) Q E s := by
  obtain ⟨t, he, htn, ht⟩ := hx.there
  have nb : base.get? e = none := by
    cases q : base.get? e with
    | none => rfl
    | some o => have := hkb e o q; rw [hx.new] at this; cases this
  unfold noteFrame
  simp only [hf]
  refine wpAny_bind (wpAny_field he rfl (x := .none) rfl ?_)
  rw [if_neg (by simp)]
  refine wpAny_entryW (a0 := .ref t) hfr (hl.of_keeps fun b o q _ => ⟨o, hx.keeps b o q, rfl⟩) hf he (fun b o q => hx.keeps b o (hkb b o q)) nb rfl (by simp) rfl fun h' hN => ?_
  obtain ⟨k1, k2, k3, k4⟩ := hN
  exact hQ h' t ⟨k1, nb, k2, k3⟩ k4
theorem lands_ok {σ' : St} {H' : Hp} {c : String} {e : Value} {s' : Shared} {E : Value → Shared → Prop} {Q : Unit → Shared → Prop} {xe : Value → Shared → Prop} (g : Good X) (ok : X.Ok) (r : RaisedAt (cxT X (X.pn ++ pins) xe) cf.cb σ' H' c e s')
    (k : ∀ (a C : Addr) (B : Heap) (a0 : Value) (H1 H2 : Hp) (s1 : Shared) (h5 : Heap), e = .ref a → cf.cb.exc c = some C → Same H' H1 → Same H1 H2 → Inv X pins σ' H1 s1 → s1.heap.get? a = none → H2 a = none → s'.os = s1.os → AllBare s'.gens →
      Heap.FlyingW B (X.env :: X.outer) a (.ref C) a0 h5 → (∀ h : Heap, B.StaysIn h → h5.UpToSlots h → Un (frs X.stack) [] H1 H2 s1.heap h ∧ HOk X.prog X.w H2 h) → Q () { s' with heap := h5 }) :
    wpAny (model X.prog X.w) X.A (noteFrame e X.env) (fun _ s₂ => wpAny (model X.prog X.w) X.A (setFlight e none) Q E s₂) E s' := by
  obtain ⟨pins1, H1, s1, C, I1, sm, hc, r⟩ := r
  have I1 : Inv X pins σ' H1 s1 := Inv.ofT ok I1
  obtain ⟨own, hf⟩ := g.own
  have hfr : X.A.frames = some (X.env :: X.outer) := by rw [← own]; exact ok.frames
  rcases r with ⟨a, args, h', rfl, rfl, hx⟩ | ⟨a, C', H2, B, a0, rfl, ⟨q1, q2, q3⟩, q4, q5, fl, na, nw, cl⟩
  · have hst : s1.heap.FunFrames X.base X.stack := I1.stack
    have hin : ∀ env ∈ X.stack, ∀ b, env.frame = some b → b ∈ frs X.stack := fun env he b hb => List.mem_filterMap.mpr ⟨env, he, hb⟩
    have hkb : (PySem.W.hideAll s1.heap (frs X.stack)).StaysIn s1.heap := fun b o q => PySem.W.of_hideAll _ q
    have na : H1 a = none := by
      cases z : H1 a with
      | none => rfl
      | some o =>
        obtain ⟨ob, hb⟩ := objOk_there (I1.hok a o z)
        rw [hx.new] at hb; cases hb
    have hff : s1.heap.FunFrames (PySem.W.hideAll s1.heap (frs X.stack)) (X.env :: X.outer) := by
      have z := PySem.W.funFrames_hide hst hin
      generalize PySem.W.hideAll s1.heap (frs X.stack) = B at z ⊢
      rw [own] at z
      exact z
    refine looks_made (s := { s1 with heap := h' }) hfr hf hkb hff hx fun h4 t held up4 => ?_
    refine wpAny_landsW held fun h5 fl5 up5 => ?_
    refine k a C _ _ H1 H1 s1 h5 rfl hc sm (Same.refl H1) I1 hx.new na rfl I1.bare fl5 fun h3 st3 up3 => ?_
    have keep : ∀ b o, s1.heap.get? b = some o → b ∉ frs X.stack → h3.get? b = some o := fun b o q nb => st3 b o (PySem.W.hideAll_get _ q nb)
    have slot : ∀ b o, s1.heap.get? b = some o → b ∈ frs X.stack → ∃ sl, h3.get? b = some { o with slots := sl } := fun b o q hb => by
      obtain ⟨_, o', ho', hd⟩ := hst.mem hb
      rw [q] at ho'; cases ho'
      exact ((up4.trans up5).trans up3) b o (hx.keeps b o q) hd
    have un : Un (frs X.stack) [] H1 H1 s1.heap h3 := ⟨fun b o q n nb _ => keep b o q nb, fun b o q n hb _ => slot b o q hb, fun b o q n _ => n, fun b o q _ => by
      by_cases hb : b ∈ frs X.stack
      · obtain ⟨sl, z⟩ := slot b o q hb; exact ⟨_, z⟩
      · exact ⟨o, keep b o q hb⟩, fun b xs q => q, fun b o u q => q, fun b ps q => ⟨#[], by rw [q]; simp⟩⟩
    refine ⟨un, fun b o q => (I1.hok b o q).stay (fun b' u hb' e' => ?_) (fun _ q => q) fun _ _ q => q⟩
    have tr : H1 b' ≠ none := by
      rcases hb' with rfl | hb'
      · rw [q]; exact fun z => nomatch z
      · rw [hb']; exact fun z => nomatch z
    exact keep b' u e' fun z => tr (I1.stkFree b' z)
  · cases q1
    have fl : Heap.FlyingW B X.stack a (.ref C) a0 s'.heap := fl
    rw [own] at fl
    refine wpAny_looks_onW hfr hf fl fun h4 held up4 => ?_
    refine wpAny_landsW held fun h5 fl5 up5 => ?_
    exact k a C B a0 H1 H2 s1 h5 rfl hc sm q3 I1 nw na q4 q5 fl5 fun h3 st3 up3 => cl h3 st3 ((up4.trans up5).trans up3)
end
section
variable {X : Cx} {cf : Cf} {body suite : List Stmt} {b₀ : Stmt} {F G : Sg → Out} {t n : Str} {hit : String → Option Bool} {T : Value} {np hpos pos : Pos}
def Hits (K : PySem.W.Frag) (cb : Cb) (T : Value) (hit : String → Option Bool) : Prop := ∀ c C b, cb.exc c = some C → hit c = some b → PySem.W.exmOne K (.ref C) T = some b
theorem excOk {P : Program} {w : World} {H : Hp} {h : Heap} {a C : Addr} (q : ∃ o, h.get? a = some o ∧ o.cls = .ref C) : ObjOk P w (upd H a (.ext (IsExc a C))) h a (.ext (IsExc a C)) := by
  obtain ⟨o, h1, h2⟩ := q
  exact ⟨⟨o, h1, h2⟩, ⟨o, h1⟩, fun hA hB ⟨o', e1, e2⟩ k => ⟨o', k o' e1, e2⟩⟩
theorem pds_tryAs (i : Nat) (g : Good X) (hT : X.mg t = some T) (hh : Hits X.K cf.cb T hit) (hb : ∀ pn xe, Good (cxT X pn xe) → PDSs (cxT X pn xe) cf body F) (hs : ∀ ev pn, PDSs (cxE X ev pn) cf (b₀ :: suite) G)
    (hg : Gl X t := by rfl) (hd : (t == ("__debug__" : Str)) = false := by decide) (hi : X.N[i]? = some n := by rfl) (hl : X.env.scope.names.lookup n = some .local := by rfl) (hkl : X.env.kindOf n = some .local := by rfl) :
    PDS X cf (.Try body [.ExceptHandler (some (.Name t np)) (some n) (b₀ :: suite) hpos] [] [] pos) (sTryAs i hit F G) := by
  intro pins s σ H E I ⟨Γ, j, h⟩
  let E1 : Value → Shared → Prop := fun e s' => wpAny (model X.prog X.w) X.A (noteFrame e X.env) (fun _ s₂ => wpAny (model X.prog X.w) X.A (setFlight e none) (fun _ s₃ =>
    wpAny (model X.prog X.w) X.A (handleBy e X.env [.ExceptHandler (some (.Name t np)) (some n) (b₀ :: suite) hpos]) (SP X pins E) X.xe s₃) X.xe s₂) X.xe s'
  have g1 : Good (cxT X (X.pn ++ pins) E1) := ⟨PassesOwn.looking, g.calm, g.nd, g.own⟩
  have hF : Fn (cxT X (X.pn ++ pins) E1) cf H (F Γ) E := by
    simp only [sTryAs, tryD] at h
    cases q : F Γ with
    | nx Γ' => rw [q] at h; exact h
    | bk Γ' => rw [q] at h; exact h
    | ct Γ' => rw [q] at h; exact h
    | rt d => rw [q] at h; exact fun v H' b t => h v H' ⟨b.same, b.free⟩ t
    | rtm ds => rw [q] at h; exact fun v H' S b => h v H' S ⟨b.same, b.free⟩
    | rtG ds Γ9 => rw [q] at h; exact h
    | rtmG ds Γ9 => rw [q] at h; exact h
    | bad => rw [q] at h; exact h
    | err c Γ1 =>
      rw [q] at h
      intro σ' H' e s' kp j1 r
      dsimp only at h
      split at h
      · rename_i hc'
        refine lands_ok g I.ok r fun a C B a0 H1 H2 s1 h5 ea hc sm1 sm2 I1 nw na os' bare fl cl => ?_
        subst ea
        have inv : ∀ h : Heap, B.StaysIn h → h5.UpToSlots h → Inv X pins σ' H2 { s' with heap := h } := fun h st up =>
          I1.call' (s' := { s' with heap := h }) (ch := []) os' (cl h st up).1 (cl h st up).2 bare (fun b z => absurd z (by simp))
        have I5 := inv h5 fl.1 (Heap.UpToSlots.refl h5)
        refine wpAny_handleBy_cons (codeAny_handlers_test (ld_globA I5 hg hT ?_ hd)) (by intro z; cases z)
        have LT : PySem.W.Looks (model X.prog X.w) h5 (typeOf (.ref a)) (.ref C) := by
          obtain ⟨ob, hob, hcl⟩ := fl.there
          rw [← hcl]
          exact (PySem.W.Looks.ld hob).andThen .now
        refine (PySem.W.exm_one I5.kIn LT (hh c C true hc hc')).here ?_
        refine codeAny_handlers_suite_as ?_
        refine lands_againW fl fun h6 fl6 up6 => ?_
        have I6 := inv h6 fl6.1 up6
        have I7 : Inv X pins σ' (upd H2 a (.ext (IsExc a C))) { s' with heap := h6 } := Inv.track I6 na (I1.kept (h' := s1.heap) (t' := s1.toks) fun _ _ z => z) nw (excOk fl6.there)
        have k7 : Keep cf.cb H (upd H2 a (.ext (IsExc a C))) := ((kp.trans (Same.keep sm1)).trans (Same.keep sm2)).trans (Same.keep (same_new na _))
        refine store_ok (A := X.A.mark (some (.ref a))) (i := i) (v := .ref a) I7 g.nd hi (Or.inl hl) rfl (fun s8 I8 => ?_) (.inr hl)
        have j7 : Jx X cf.z (Γ1.set i (.val (.exc c))) (σ'.set i (some (.ref a))) (upd H2 a (.ext (IsExc a C))) := by
          refine ((j1.mono (sm1.trans sm2)).mono (same_new na _)).set ?_
          simp only [Tl]
          exact ⟨a, C, rfl, hc, upd_same⟩
        refine wpAny_mono (hs (.ref a) (X.pn ++ pins) [] s8 _ _ { nx := fun σ9 H9 => E.nx (σ9.set i none) H9, bk := fun σ9 H9 => E.bk (σ9.set i none) H9, ct := fun σ9 H9 => E.ct (σ9.set i none) H9, rt := E.rt } (Inv.toE I8 (.ref a)) ⟨_, j7, ?_⟩) (fun f s9 q9 => ?_) fun _ _ z => z.elim
        · cases qG : G (Γ1.set i (.val (.exc c))) with
          | nx Γ9 => rw [qG] at h; exact fun σ9 H9 k9 j9 => h _ H9 (k7.trans k9) j9.unset
          | bk Γ9 => rw [qG] at h; exact fun σ9 H9 k9 j9 => h _ H9 (k7.trans k9) j9.unset
          | ct Γ9 => rw [qG] at h; exact fun σ9 H9 k9 j9 => h _ H9 (k7.trans k9) j9.unset
          | rt d => rw [qG] at h; exact fun v H' b t => h v H' ⟨b.same, b.free⟩ t
          | rtm ds => rw [qG] at h; exact fun v H' S b => h v H' S ⟨b.same, b.free⟩
          | rtG ds Γ9 => rw [qG] at h; exact h
          | rtmG ds Γ9 => rw [qG] at h; exact h.elim
          | err c' Γ9 => rw [qG] at h; exact h.elim
          | bad => rw [qG] at h; exact h.elim
        · cases f with
          | next => obtain ⟨σ9, H9, I9, q⟩ := q9; exact gone_ok (Inv.ofE I.ok I9) g.nd hi hkl fun s' I' => ⟨_, H9, I', q⟩
          | brk => obtain ⟨σ9, H9, I9, q⟩ := q9; exact gone_ok (Inv.ofE I.ok I9) g.nd hi hkl fun s' I' => ⟨_, H9, I', q⟩
          | cont => obtain ⟨σ9, H9, I9, q⟩ := q9; exact gone_ok (Inv.ofE I.ok I9) g.nd hi hkl fun s' I' => ⟨_, H9, I', q⟩
          | ret u => obtain ⟨v, σ9, H9, I9, rv, q⟩ := q9; exact gone_ok (Inv.ofE I.ok I9) g.nd hi hkl fun s' I' => ⟨v, _, H9, I', rv, q⟩
      · exact h.elim
  refine wpAny_Try_except (wpAny_mono (hb (X.pn ++ pins) E1 g1 [] s σ H E (Inv.toT I E1) ⟨Γ, j, hF⟩) (fun f s1 q => ?_) fun e s1 q => q)
  cases f with
  | next =>
    obtain ⟨σ', H', I', q⟩ := q
    exact wpAny_execs_nil ⟨σ', H', Inv.ofT I.ok I', q⟩
  | brk => obtain ⟨σ', H', I', q⟩ := q; exact ⟨σ', H', Inv.ofT I.ok I', q⟩
  | cont => obtain ⟨σ', H', I', q⟩ := q; exact ⟨σ', H', Inv.ofT I.ok I', q⟩
  | ret u => obtain ⟨v, σ', H', I', r, q⟩ := q; exact ⟨v, σ', H', Inv.ofT I.ok I', r, q⟩
theorem wds_tryAs (i : Nat) (g : Good X) (hT : X.mg t = some T) (hh : Hits X.K cf.cb T hit) (hb : ∀ pn xe, Good (cxT X pn xe) → WDSs (cxT X pn xe) cf body F) (hs : ∀ ev pn, WDSs (cxE X ev pn) cf (b₀ :: suite) G) (hg : Gl X t := by rfl) (hd : (t == ("__debug__" : Str)) = false := by decide) (hi : X.N[i]? = some n := by rfl) (hl : X.env.scope.names.lookup n = some .local := by rfl) (hkl : X.env.kindOf n = some .local := by rfl) : WDS X cf (.Try body [.ExceptHandler (some (.Name t np)) (some n) (b₀ :: suite) hpos] [] [] pos) (sTryAs i hit F G) := ⟨pds_tryAs (i := i) (g := g) (hT := hT) (hh := hh) (hb := (fun pn xe h_1 => (hb pn xe h_1).out)) (hs := (fun ev pn => (hs ev pn).out)) (hg := hg) (hd := hd) (hi := hi) (hl := hl) (hkl := hkl)⟩
end
end L4
end
section
set_option Elab.async false
set_option linter.all false
set_option maxRecDepth 100000
namespace L4
open PySem PySem.Spec PyProof.Rows L2
structure XT (K : PySem.W.Frag) (C : Addr) : Prop where
  ga : PySem.W.findIn K (.ref C) "__getattribute__" = some (some (.builtin "BaseException.__getattribute__"))
  gt : PySem.W.findIn K (.ref C) "__getattr__" = some none
  ca : PySem.W.findIn K (.ref C) "__class__" = some (some (.builtin "object.__class__"))
  mo : PySem.W.mroIn K C (.type "object") = some true
  mb : PySem.W.subIn K (.ref C) (.type "BaseException") = some true
  cl : (PySem.W.clsIn K C).isSome = true
section
open PySem.W Builtin Builtin.ObjectAttr Builtin.Getset_descriptor
variable {prog : Program} {w : World} {A : Around} {E : Value → Shared → Prop} {h : Heap} {g : Array GenState} {d : Drawn} {t : Nat} {os : OsState} {a C : Addr} {K : Frag}
theorem xt_ty {M : Model} (p : IsExc a C h) : Looks M h (typeOf (.ref a)) (.ref C) := by
  obtain ⟨o, h1, h2⟩ := p
  exact h2 ▸ (Looks.ld h1).andThen .now
theorem xt_get {R : Result → Shared → Prop} (X : K.In h) (T : XT K C) (p : IsExc a C h) (hq : R (.ok (.ret (.ref C))) ⟨h, g, d, t, os⟩) :
    codeAny (model prog w) A (.call (.builtin "getset_descriptor.__get__") ⟨[.builtin "object.__class__", .ref a, .ref C], []⟩) R ⟨h, g, d, t, os⟩ := by
  have la := xt_ty (M := model prog w) p
  have lb := looks_mroIn (M := model prog w) X T.mo
  refine codeAny_call_builtin KF.slot_gs.plain KF.entry_gs
    (KF.slot_gs.check _ _ _ _ _ _ _ _ KF.type_class (KF.args_gs _ _ _) ?_)
  unfold Builtin.«getset_descriptor.__get__» descrGet
  rw [dga_obj]
  refine wpAny_bind (wpAny_pure ?_)
  unfold descrGetter descrCheckInstance descrNameAndClass isInstance
  simp only [KF.owner_class]
  repeat lk
  refine ⟨Code.quiet_builtin _ (by decide +kernel),
    codeAny_builtin KF.entry_class ?_⟩
  unfold Builtin.«object.__class__» shownTypeOf
  repeat lk
  exact hq
theorem xt_entry {tk : Tok} {Q : Fin → Shared → Prop} (X : K.In h) (T : XT K C) (p : IsExc a C h) (hq : Q (.done (.ret (.ref C))) ⟨h, g, d, t, os⟩) :
    wpAny (model prog w) A (Builtin.«object.__getattribute__» ⟨[.ref a, .str "__class__" tk], []⟩) Q E ⟨h, g, d, t, os⟩ := by
  have hT5 : (⟨h, g, d, t, os⟩ : Shared).TypeIs (.builtin "object.__class__") "getset_descriptor" :=
    F.typeOf_object_class
  have f5 := F.typeOf_object_class
  have f6 := F.slot_gs_get.lookup
  have f7 := F.slot_gs_set.lookup
  have la := xt_ty (M := model prog w) p
  have lb := looks_findIn (M := model prog w) X T.ca
  obtain ⟨o, h1, h2⟩ := p
  repeat (any_goals (first | assumption | (with_reducible refine wpAny_loadPart_at h1 ?_; rw [h2]) | with_reducible refine Looks.at lb ?_ | wp_step))
  refine xt_get X T ⟨o, h1, h2⟩ ?_
  repeat (any_goals (first | assumption | wp_step))
theorem xt_check {nameV : Value} {Q : Unit → Shared → Prop} (X : K.In h) (T : XT K C) (p : IsExc a C h) (hq : Q () ⟨h, g, d, t, os⟩) :
    wpAny (model prog w) A (checkBuiltinCall "BaseException.__getattribute__" ⟨[.ref a, nameV], []⟩) Q E ⟨h, g, d, t, os⟩ := by
  have hk : builtinKind "BaseException.__getattribute__" = some .slot := by decide +kernel
  have hsp : splitId "BaseException.__getattribute__" = some ("BaseException", "__getattribute__") := by decide +kernel
  have hargs := F.args_bexc_ga (.ref a) nameV
  have la := xt_ty (M := model prog w) p
  have lb := looks_subIn (M := model prog w) X T.mb
  simp only [checkBuiltinCall, hk, hsp]
  refine wpAny_bind ?_
  unfold isInstance
  obtain ⟨o, h1, h2⟩ := p
  repeat (first | (with_reducible refine wpAny_loadPart_at h1 ?_; rw [h2]) | with_reducible refine Looks.at lb ?_ | wp_step)
  exact hq
theorem xt_call {tk : Tok} {R : Result → Shared → Prop} (X : K.In h) (T : XT K C) (p : IsExc a C h) (hq : R (.ok (.ret (.ref C))) ⟨h, g, d, t, os⟩) :
    codeAny (model prog w) A (.call (.builtin "BaseException.__getattribute__") ⟨[.ref a, .str "__class__" tk], []⟩) R ⟨h, g, d, t, os⟩ :=
  codeAny_call_builtin F.attr_ValueError.ga.plain F.entry_bexc_ga (xt_check X T p (xt_entry X T p hq))
theorem xt_by {tk : Tok} {Q : Value → Shared → Prop} (X : K.In h) (T : XT K C) (p : IsExc a C h) (hq : Q (.ref C) ⟨h, g, d, t, os⟩) :
    wpAny (model prog w) A (getAttrBy (.ref a) (.str "__class__" tk) false) Q E ⟨h, g, d, t, os⟩ := by
  have f3 := F.attr_ValueError.ga.bind (.ref a)
  have hx2 : (Value.builtin "BaseException.__getattribute__" == Value.builtin "object.__getattribute__") = false := by decide +kernel
  have hx1 : (onTheHeap (Value.ref C) && Value.builtin "BaseException.__getattribute__" == Value.builtin "object.__getattribute__") = false := by rw [hx2]; rfl
  have lb := looks_findIn (M := model prog w) X T.ga
  have lc := looks_findIn (M := model prog w) X T.gt
  obtain ⟨o, h1, h2⟩ := p
  repeat (any_goals (first | assumption | (with_reducible refine wpAny_loadPart_at h1 ?_; rw [h2]) | with_reducible refine Looks.at lb ?_ | with_reducible refine Looks.at lc ?_ | wp_step))
  refine xt_call X T ⟨o, h1, h2⟩ ?_
  repeat (any_goals (first | assumption | wp_step))
theorem kitx_exc (T : XT K C) : KitX K (.ref a) (.ref C) (IsExc a C) where
  ty := fun _ _ _ p => xt_ty p
  it := fun _ _ X _ => by
    have z := T.cl
    unfold clsIn at z
    split at z
    · rename_i c' d' cd' sl' ho
      intro A' Q' E' s' k q
      unfold isType loadHead
      exact wpAny_bind (wpAny_loadPart (k _ _ (X _ _ ho))
        (wpAny_pure q))
    · cases z
  ne := fun h tp dd its n sl X htp => by
    have z := T.cl
    refine Bool.eq_false_iff.mpr fun q => ?_
    have e : C = tp := Value.ref.inj (beq_iff_eq.mp q)
    subst e
    unfold clsIn at z
    split at z
    · rename_i ho
      have z := (X _ _ ho).symm.trans htp
      cases z
    · cases z
  ca := fun {_ _ _ _ _ s} X p k => by
    obtain ⟨h, g, d, t, os⟩ := s
    unfold getAttr? getAttrBy?
    repeat (any_goals (first | assumption | with_reducible apply xt_by X T p | wp_step))
end
end L4
end
section
set_option Elab.async false
set_option linter.all false
set_option maxRecDepth 100000
namespace L4
open PySem PySem.Spec PyProof.Rows L2
structure IC (K : PySem.W.Frag) (C : Addr) : Prop where
  cl : Cls K C
  ha : PySem.W.findIn K (.ref C) "__class__" = some (some (.builtin "object.__class__"))
  hn : PySem.W.specialIn K (.builtin "object.__class__") "__get__" = some (some (.builtin "getset_descriptor.__get__"))
  tk : PySem.W.takesIn K (.builtin "object.__class__") = some true
  hm : PySem.W.mroIn K C (.type "object") = some true
structure XTs (K : PySem.W.Frag) (cb : Cb) (mt : List (String × List String)) : Prop where
  xt : ∀ c C, cb.exc c = some C → (mt.lookup c).isSome = true → XT K C
  ic : ∀ c C ns, cb.cls c = some (C, ns) → IC K C
structure IsK (K : PySem.W.Frag) (cb : Cb) (mt : List (String × List String)) (cv : Value) (n : String) : Prop where
  nn : PySem.W.kitOne K (.type "NoneType") cv = some (["NoneType"].contains n)
  bb : PySem.W.kitOne K (.type "bool") cv = some (["bool", "int"].contains n)
  ii : PySem.W.kitOne K (.type "int") cv = some (["int"].contains n)
  ss : PySem.W.kitOne K (.type "str") cv = some (["str"].contains n)
  tt : PySem.W.kitOne K (.type "tuple") cv = some (["tuple"].contains n)
  ll : PySem.W.kitOne K (.type "list") cv = some (["list"].contains n)
  dd : PySem.W.kitOne K (.type "dict") cv = some (["dict"].contains n)
  own : ∀ c C ks, cb.exc c = some C → mt.lookup c = some ks → PySem.W.kitOne K (.ref C) cv = some (ks.contains n)
  ins : ∀ c C ns ks, cb.cls c = some (C, ns) → mt.lookup c = some ks → PySem.W.kitOne K (.ref C) cv = some (ks.contains n)
theorem kitx_data {X : Cx} {ct : Ct} {mt : List (String × List String)} {pins : List (Addr × Obj)} {σ : St} {H : Hp} {s : Shared} {d : D} {v : V} {u : Value} {ks : List String} (I : Inv X pins σ H s) (lL : Same ct.f.L H) (lB : Same ct.B H) (t : Tl X.K ct H d v) (r : RelV v u) (hk : kinds mt d = some ks)
    (hx : XTs X.K ct.f.cb mt) :
    u ≠ .builtin "__main__.__loader__#opaque" ∧ ∃ (ty : Value) (P : Heap → Prop), PySem.W.KitX X.K u ty P ∧ P s.heap ∧ ∀ cv n, IsK X.K ct.f.cb mt cv n → PySem.W.kitOne X.K ty cv = some (ks.contains n) := by
  cases d with
  | non => simp only [Tl] at t; subst t; cases r; cases hk; exact ⟨(fun z => nomatch z), _, _, PySem.W.kitx_none, trivial, fun cv n k => k.nn⟩
  | bl b => simp only [Tl] at t; subst t; cases r; cases hk; exact ⟨(fun z => nomatch z), _, _, PySem.W.kitx_bool, trivial, fun cv n k => k.bb⟩
  | int i => simp only [Tl] at t; subst t; obtain ⟨tk, rfl⟩ := r; cases hk; exact ⟨(fun z => nomatch z), _, _, PySem.W.kitx_int, trivial, fun cv n k => k.ii⟩
  | str x => simp only [Tl] at t; subst t; obtain ⟨tk, rfl⟩ := r; cases hk; exact ⟨(fun z => nomatch z), _, _, PySem.W.kitx_str, trivial, fun cv n k => k.ss⟩
  | tup ds =>
    simp only [Tl] at t
    obtain ⟨a, vs, rfl, t1, _⟩ := t
    cases r; cases hk
    obtain ⟨its, _, ⟨o, h1, h2, _⟩, _⟩ := I.tuple (sq_of t1)
    exact ⟨(fun z => nomatch z), _, _, PySem.W.kitx_tuple, ⟨o, h1, h2⟩, fun cv n k => k.tt⟩
  | gt ds =>
    simp only [Tl] at t
    obtain ⟨a, vs, rfl, t1, _⟩ := t
    cases r; cases hk
    obtain ⟨its, _, ⟨o, h1, h2, _⟩, _⟩ := I.tuple t1.sq
    exact ⟨(fun z => nomatch z), _, _, PySem.W.kitx_tuple, ⟨o, h1, h2⟩, fun cv n k => k.tt⟩
  | lst ds =>
    simp only [Tl] at t
    obtain ⟨a, vs, rfl, t1, _⟩ := t
    cases r; cases hk
    obtain ⟨its, _, ⟨o, _, h1, h2, _⟩, _⟩ := I.list t1.sq
    exact ⟨(fun z => nomatch z), _, _, PySem.W.kitx_list, ⟨o, h1, h2⟩, fun cv n k => k.ll⟩
  | bor tm ds =>
    obtain ⟨a, vs, rfl, t1, _⟩ := t.seqL lL lB rfl
    cases r; cases hk
    obtain ⟨its, _, ⟨o, _, h1, h2, _⟩, _⟩ := I.list t1
    exact ⟨(fun z => nomatch z), _, _, PySem.W.kitx_list, ⟨o, h1, h2⟩, fun cv n k => k.ll⟩
  | dic ks' xs =>
    simp only [Tl] at t
    obtain ⟨a, vs, rfl, ⟨o, t1⟩, _⟩ := t
    cases r; cases hk
    cases ks' with
    | s _ =>
      obtain ⟨_, _, _, vs', _, o', es, ep, h1, h2, _⟩ := I.hok a _ t1
      exact ⟨(fun z => nomatch z), _, _, PySem.W.kitx_dict, ⟨o', h1, h2.1⟩, fun cv n k => k.dd⟩
    | t _ =>
      obtain ⟨_, _, _, vs', _, o', es, ep, h1, h2, _⟩ := I.hok a _ t1
      exact ⟨(fun z => nomatch z), _, _, PySem.W.kitx_dict, ⟨o', h1, h2.1⟩, fun cv n k => k.dd⟩
  | bdc tm ks' xs =>
    simp only [Tl] at t
    obtain ⟨a, vs, rfl, t1, _⟩ := t
    cases r; cases hk
    have t2 : H a = some (ks'.ho vs) := by
      cases tm with
      | true => exact lB a _ t1
      | false => exact lL a _ t1
    cases ks' with
    | s _ =>
      obtain ⟨_, _, vs', _, o', es, ep, h1, h2, _⟩ := I.hok a _ t2
      exact ⟨(fun z => nomatch z), _, _, PySem.W.kitx_dict, ⟨o', h1, h2.1⟩, fun cv n k => k.dd⟩
    | t _ =>
      obtain ⟨_, _, vs', _, o', es, ep, h1, h2, _⟩ := I.hok a _ t2
      exact ⟨(fun z => nomatch z), _, _, PySem.W.kitx_dict, ⟨o', h1, h2.1⟩, fun cv n k => k.dd⟩
  | bob tm c ns xs => cases hk
  | obj c ns xs =>
    simp only [Tl] at t
    obtain ⟨a, C, dx, vs, rfl, hc, ha, _⟩ := t
    cases r
    have hk : mt.lookup c = some ks := hk
    obtain ⟨mA, O, _⟩ := ins_get I.hok ha
    obtain ⟨od, J, _⟩ := O.look
    have ic := hx.ic c C ns hc
    exact ⟨(fun z => nomatch z), _, _, PySem.W.kitx_own (ic.cl.get _) ic.cl.hd ic.ha ic.hn ic.tk ic.hm, J, fun cv n k => k.ins c C ns ks hc hk⟩
  | exc c =>
    simp only [Tl] at t
    obtain ⟨a, C, rfl, hc, ha⟩ := t
    cases r
    obtain ⟨p, _⟩ := I.hok a _ ha
    have hk : mt.lookup c = some ks := hk
    exact ⟨(fun z => nomatch z), _, _, kitx_exc (hx.xt c C hc (by rw [hk]; rfl)), p, fun cv n k => k.own c C ks hc hk⟩
section
variable {X : Cx} {ct : Ct} {mt : List (String × List String)} {a b e : Expr} {f g : Sg → Res D} {c : Str} {n : String} {cv : Value} {p p2 pos : Pos}
structure ClsV (X : Cx) (c : Str) (v : V) (u : Value) : Prop where
  rel : RelV v u
  one : ∀ u', RelV v u' → u' = u
  ld : (X.mg c = some u) ∨ (X.mg c = none ∧ bootBuiltins c = some u ∧ c ≠ "__name__")
theorem clsV_ref {C : Addr} (h : X.mg c = some (.ref C)) : ClsV X c (.ref C) (.ref C) := ⟨rfl, fun _ z => z, .inl h⟩
theorem clsV_ty {T : String} (h : X.mg c = none) (hv : bootBuiltins c = some (.type T)) (hn : c ≠ "__name__") : ClsV X c (.ty T) (.type T) := ⟨rfl, fun _ z => z, .inr ⟨h, hv, hn⟩⟩
theorem pe_cls {v : V} {u : Value} {pos : Pos} (h : ClsV X c v u) (hg : Gl X c := by rfl) (hd : (c == ("__debug__" : Str)) = false := by decide) : PE X (.Name c pos) (tC v) := by
  rcases h.ld with q | ⟨q1, q2, q3⟩
  · exact pe_glob hg q h.rel hd
  · exact pe_bltn hg q1 q2 h.rel q3 hd
theorem call_isi {y : V} (hx : XTs X.K ct.f.cb mt) (hk : IsK X.K ct.f.cb mt cv n) (hy : ∀ u, RelV y u → u = cv) : CallR X (.builtin "isinstance") (fun xs H Q => Same ct.f.L H ∧ Same ct.B H ∧ ∃ d v ks, xs = [v, y] ∧ Tl X.K ct H d v ∧ kinds mt d = some ks ∧ Q (.bl (ks.contains n)) H) := by
  intro pins s σ H xs us Q I r ⟨lL, lB, d, v, ks, ex, t, hd, q⟩
  subst ex
  cases r with
  | cons r1 r2 =>
    cases r2 with
    | cons r2 r3 =>
      cases r3
      obtain ⟨nb, ty, P, Z, pp, k⟩ := kitx_data I lL lB t r1 hd hx
      rw [hy _ r2]
      exact PySem.W.kia_one Z I.kIn pp (k cv n hk) nb fun tk => ⟨.bl _, H, I.tok tk, rfl, q⟩
theorem isiD_ok {cs : List String} {d x : D} (h : isiD mt cs d = .ok x) : ∃ ks, kinds mt d = some ks ∧ x = .bl (cs.any fun c => ks.contains c) := by
  unfold isiD at h
  split at h
  · rename_i ks hk; cases h; exact ⟨ks, hk, rfl⟩
  · cases h
theorem isiD_ne {cs : List String} {d : D} {c : String} : isiD mt cs d ≠ .err c := by
  unfold isiD
  split <;> exact fun z => nomatch z
theorem pd_isi {y : V} (hm : X.mg "isinstance" = none) (hx : XTs X.K ct.f.cb mt) (hk : IsK X.K ct.f.cb mt cv n) (hc : ClsV X c y cv) (he : PD X ct e f) (hg : Gl X "isinstance" := by rfl) (hgc : Gl X c := by rfl) (hdc : (c == ("__debug__" : Str)) = false := by decide)
    (hs : starEach [e, .Name c p2] X.env = (false, eval e X.env) :: starEach [.Name c p2] X.env := by rfl) (hs2 : starEach [.Name c p2] X.env = (false, eval (.Name c p2) X.env) :: starEach [] X.env := by rfl)
    (hpl : (backTo pos (starEach [.Name c p2] X.env)).any (·.1) = false := by rfl) : PD X ct (.Call (.Name "isinstance" p) [e, .Name c p2] [] pos) (dIsi mt [n] f) := by
  refine PE.imp (pe_callB (call_isi hx hk hc.one) hg hm PyProof.Rows.boot_isinstance (pa_cons he (pa_cons (pe_cls hc hgc hdc) pa_nil hs2) hs) (by decide) (by decide) hs hpl) fun σ H Q ⟨Γ, j, h⟩ => ?_
  refine eOf.bnd j h fun d v H' s t j' h' => ?_
  cases q : isiD mt [n] d with
  | bad => rw [q] at h'; exact h'.elim
  | err c => exact (isiD_ne q).elim
  | ok x =>
    rw [q] at h'
    obtain ⟨ks, hks, rfl⟩ := isiD_ok q
    exact ⟨j'.lL, j'.lB, d, v, ks, rfl, t, hks, by simpa using h' (.bl _) H' s (by simp [Tl])⟩
theorem wd_isi {y : V} (hm : X.mg "isinstance" = none) (hx : XTs X.K ct.f.cb mt) (hk : IsK X.K ct.f.cb mt cv n) (hc : ClsV X c y cv) (he : WD X ct e f) (hg : Gl X "isinstance" := by rfl) (hgc : Gl X c := by rfl) (hdc : (c == ("__debug__" : Str)) = false := by decide) (hs : starEach [e, .Name c p2] X.env = (false, eval e X.env) :: starEach [.Name c p2] X.env := by rfl) (hs2 : starEach [.Name c p2] X.env = (false, eval (.Name c p2) X.env) :: starEach [] X.env := by rfl) (hpl : (backTo pos (starEach [.Name c p2] X.env)).any (·.1) = false := by rfl) : WD X ct (.Call (.Name "isinstance" p) [e, .Name c p2] [] pos) (dIsi mt [n] f) := ⟨pd_isi (hm := hm) (hx := hx) (hk := hk) (hc := hc) (he := he.out) (hg := hg) (hgc := hgc) (hdc := hdc) (hs := hs) (hs2 := hs2) (hpl := hpl)⟩
end
end L4
end
section
set_option Elab.async false
set_option linter.all false
set_option maxRecDepth 100000
namespace L4
open PySem PySem.Spec PyProof.Rows L2
theorem bt_list : bootBuiltins "list" = some (.type "list") := by decide +kernel
theorem bt_ValueError : bootBuiltins "ValueError" = some (.type "ValueError") := by decide +kernel
section
variable {X : Cx} {ct : Ct} {c : Cf} {k n : Nat} {f : Addr} {fd : FuncData} {ps : List Str} {F : List Slot → Ans} {x : Str} {p pos : Pos} {e : Expr} {es : List Expr} {fa : Sg → Res (List D)}
theorem pd_fn (G : FnD X.prog X.w X.K X.mg X.base c.z.f.cb k f fd ps F) (hr : Room k X.A) (hm : X.mg x = some (.ref f)) (hk : PySem.W.keepIn X.K (.ref f) = true) (hb : Binds X.K fd ps []) (ha : PDA X c.z (e :: es) fa) (hn : ps.length = n := by rfl) (hg : Gl X x := by rfl)
    (hdb : (x == ("__debug__" : Str)) = false := by decide) (he : starEach (e :: es) X.env = (false, eval e X.env) :: starEach es X.env := by rfl) (hpl : (backTo pos (starEach es X.env)).any (·.1) = false := by rfl) :
    PD X c.z (.Call (.Name x p) (e :: es) [] pos) (dCall n F fa) := by
  subst hn
  exact pd_callP (pe_callD (lends_plain c) G hr hm hk hb ha hg hdb he hpl)
theorem wd_fn (G : FnD X.prog X.w X.K X.mg X.base c.z.f.cb k f fd ps F) (hr : Room k X.A) (hm : X.mg x = some (.ref f)) (hk : PySem.W.keepIn X.K (.ref f) = true) (hb : Binds X.K fd ps []) (ha : WDA X c.z (e :: es) fa) (hn : ps.length = n := by rfl) (hg : Gl X x := by rfl) (hdb : (x == ("__debug__" : Str)) = false := by decide) (he : starEach (e :: es) X.env = (false, eval e X.env) :: starEach es X.env := by rfl) (hpl : (backTo pos (starEach es X.env)).any (·.1) = false := by rfl) : WD X c.z (.Call (.Name x p) (e :: es) [] pos) (dCall n F fa) := ⟨pd_fn (G := G) (hr := hr) (hm := hm) (hk := hk) (hb := hb) (ha := ha.out) (hn := hn) (hg := hg) (hdb := hdb) (he := he) (hpl := hpl)⟩
theorem pd_fnN (G : FnD X.prog X.w X.K X.mg X.base ct.f.cb k f fd ps F) (hr : Room k X.A) (hm : X.mg x = some (.ref f)) (hk : PySem.W.keepIn X.K (.ref f) = true) (hb : Binds X.K fd ps []) (ha : PDA X ct (e :: es) fa) (hn : ps.length = n := by rfl) (hg : Gl X x := by rfl)
    (hdb : (x == ("__debug__" : Str)) = false := by decide) (he : starEach (e :: es) X.env = (false, eval e X.env) :: starEach es X.env := by rfl) (hpl : (backTo pos (starEach es X.env)).any (·.1) = false := by rfl) :
    PD X ct (.Call (.Name x p) (e :: es) [] pos) (dCallN n F fa) := by
  subst hn
  exact pd_callN (pe_callD (lends_N ct) G hr hm hk hb ha hg hdb he hpl)
theorem wd_fnN (G : FnD X.prog X.w X.K X.mg X.base ct.f.cb k f fd ps F) (hr : Room k X.A) (hm : X.mg x = some (.ref f)) (hk : PySem.W.keepIn X.K (.ref f) = true) (hb : Binds X.K fd ps []) (ha : WDA X ct (e :: es) fa) (hn : ps.length = n := by rfl) (hg : Gl X x := by rfl) (hdb : (x == ("__debug__" : Str)) = false := by decide) (he : starEach (e :: es) X.env = (false, eval e X.env) :: starEach es X.env := by rfl) (hpl : (backTo pos (starEach es X.env)).any (·.1) = false := by rfl) : WD X ct (.Call (.Name x p) (e :: es) [] pos) (dCallN n F fa) := ⟨pd_fnN (G := G) (hr := hr) (hm := hm) (hk := hk) (hb := hb) (ha := ha.out) (hn := hn) (hg := hg) (hdb := hdb) (he := he) (hpl := hpl)⟩
theorem pm_fnN (G : FnD X.prog X.w X.K X.mg X.base ct.f.cb k f fd ps F) (hr : Room k X.A) (hm : X.mg x = some (.ref f)) (hk : PySem.W.keepIn X.K (.ref f) = true) (hb : Binds X.K fd ps []) (ha : PDA X ct (e :: es) fa) (hn : ps.length = n := by rfl) (hg : Gl X x := by rfl)
    (hdb : (x == ("__debug__" : Str)) = false := by decide) (he : starEach (e :: es) X.env = (false, eval e X.env) :: starEach es X.env := by rfl) (hpl : (backTo pos (starEach es X.env)).any (·.1) = false := by rfl) :
    PM X ct (.Call (.Name x p) (e :: es) [] pos) (mCallN n F fa) := by
  subst hn
  exact pm_callN (pe_callD (lends_N ct) G hr hm hk hb ha hg hdb he hpl)
theorem wm_fnN (G : FnD X.prog X.w X.K X.mg X.base ct.f.cb k f fd ps F) (hr : Room k X.A) (hm : X.mg x = some (.ref f)) (hk : PySem.W.keepIn X.K (.ref f) = true) (hb : Binds X.K fd ps []) (ha : WDA X ct (e :: es) fa) (hn : ps.length = n := by rfl) (hg : Gl X x := by rfl) (hdb : (x == ("__debug__" : Str)) = false := by decide) (he : starEach (e :: es) X.env = (false, eval e X.env) :: starEach es X.env := by rfl) (hpl : (backTo pos (starEach es X.env)).any (·.1) = false := by rfl) : WM X ct (.Call (.Name x p) (e :: es) [] pos) (mCallN n F fa) := ⟨pm_fnN (G := G) (hr := hr) (hm := hm) (hk := hk) (hb := hb) (ha := ha.out) (hn := hn) (hg := hg) (hdb := hdb) (he := he) (hpl := hpl)⟩
theorem pd_fnO (G : FnD X.prog X.w X.K X.mg X.base ct.f.cb k f fd ps F) (hr : Room k X.A) (hm : X.mg x = some (.ref f)) (hk : PySem.W.keepIn X.K (.ref f) = true) (hb : Binds X.K fd ps []) (ha : PDA X ct (e :: es) fa) (hn : ps.length = n := by rfl) (hg : Gl X x := by rfl)
    (hdb : (x == ("__debug__" : Str)) = false := by decide) (he : starEach (e :: es) X.env = (false, eval e X.env) :: starEach es X.env := by rfl) (hpl : (backTo pos (starEach es X.env)).any (·.1) = false := by rfl) :
    PD X ct (.Call (.Name x p) (e :: es) [] pos) (dCallO n F fa) := by
  subst hn
  exact pd_callO (pe_callD (lends_O ct) G hr hm hk hb ha hg hdb he hpl)
theorem wd_fnO (G : FnD X.prog X.w X.K X.mg X.base ct.f.cb k f fd ps F) (hr : Room k X.A) (hm : X.mg x = some (.ref f)) (hk : PySem.W.keepIn X.K (.ref f) = true) (hb : Binds X.K fd ps []) (ha : WDA X ct (e :: es) fa) (hn : ps.length = n := by rfl) (hg : Gl X x := by rfl) (hdb : (x == ("__debug__" : Str)) = false := by decide) (he : starEach (e :: es) X.env = (false, eval e X.env) :: starEach es X.env := by rfl) (hpl : (backTo pos (starEach es X.env)).any (·.1) = false := by rfl) : WD X ct (.Call (.Name x p) (e :: es) [] pos) (dCallO n F fa) := ⟨pd_fnO (G := G) (hr := hr) (hm := hm) (hk := hk) (hb := hb) (ha := ha.out) (hn := hn) (hg := hg) (hdb := hdb) (he := he) (hpl := hpl)⟩
end
def spL (K : PySem.W.Frag) : Sp := fun vs H Q _ => ∃ (a : Addr) (ns : List Int), vs = [.ref a] ∧ FzL K H a (ns.map V.int) ∧ ns.length ≤ 63 ∧ ∀ H', Q (.bl true) H'
theorem tls_ints {K : PySem.W.Frag} {ct : Ct} {H : Hp} : ∀ ns : List Int, Tls K ct H (ns.map D.int) (ns.map V.int)
  | [] => by simp [Tls]
  | n :: ns => Tls.cons (by simp [Tl]) (tls_ints ns)
theorem walkD {l : PySem.W.OpenLaw} {q : Program} {loose : List Str} {XP : (Str → Option Value) → Heap → Prop} {YP : World → Heap → Prop} {d : DefRec} {K : Params → PySem.W.Frag} {k : Nat} {F : List Slot → Ans} (hn : l.most = some 63) (hdf : d.params.defaults = [])
    (h1 : callerA.depth + 3 * k + 5 < recursionLimit) (h2 : callerA.units + 16 * k + 200 < cLine) (hY : ∀ (w : World) (h : Heap), YP w h → (K w.params).In h)
    (hF : ∀ (w : World) (mg : Str → Option Value) (fa : Addr) (h : Heap), (K w.params).In h → h.Ns mainGlobals mg → mg d.name = some (.ref fa) →
      ∃ (cb : Cb) (fd : FuncData), (∀ (s : Shared) (u : Value), BindsTo s fd ⟨[u], []⟩ [("_law_script", u)]) ∧ ∀ base : Heap, FnD l.prog w (K w.params) mg base cb k fa fd ["_law_script"] F)
    (ht : ∀ ns : List Int, ns.length ≤ 63 → F [.val (.lst (ns.map D.int))] = .ok (.bl true)) : PySem.W.WalkO q loose XP YP l.row.toRowW d [] (fun f vs => PySem.call f vs) := by
  refine L2.walk_of (n := 63) (k := k) (x := "_law_script") (K := K) (CX := fun w => CX1 l.prog w) (sp := fun w => spL (K w.params)) hn (by decide) hdf ⟨rfl, h1, h2⟩ hY (fun w mg fa h X G hm => ?_) (fun w H a ns hl hO hS => ⟨a, ns, rfl, ?_, hl, fun _ => rfl⟩) (fun w H s e s' z => ?_)
  · obtain ⟨cb, fd, hb, hf⟩ := hF w mg fa h X G hm
    refine ⟨fd, hb, fun base _ _ => (hf base).imp fun vs H Q E ⟨a, ns, e1, fz, hl, hq⟩ => ?_⟩
    subst e1
    refine ⟨rfl, cfOf cb (fun _ => none) [.ref a], [.val (.lst (ns.map D.int))], rfl, rfl, j_args (ds := [.lst (ns.map D.int)]) (fun _ _ q => nomatch q) (Tls.cons ?_ Tls.nil), ?_⟩
    · simp only [Tl]; exact ⟨a, _, rfl, fz, tls_ints ns⟩
    · rw [ht ns hl]
      intro v H' _ _ tv
      simp only [Tl] at tv
      subst tv
      exact hq H'
  · rcases hS with (h | ⟨o, h⟩) | h
    · rcases hO a with z | ⟨o, xs, z⟩
      · rw [z] at h; cases h
      · rw [z] at h; cases h
    · exact .inl ⟨o, h⟩
    · exact .inr h
  · obtain ⟨_, _, _, _, _, _, z, _⟩ := z
    exact z.elim
theorem walkZ {l : PySem.W.OpenLaw} {q : Program} {loose : List Str} {XP : (Str → Option Value) → Heap → Prop} {d : DefRec} {K : Params → PySem.W.Frag} {as : List Addr} {nz tz : Nat} {k : Nat} {F : List Slot → Ans} (hn : l.most = some 63) (hdf : d.params.defaults = [])
    (h1 : callerA.depth + 3 * k + 5 < recursionLimit) (h2 : callerA.units + 16 * k + 200 < cLine) (hK : ∀ P, as = (K P).map (·.1))
    (hF : ∀ (w : World) (mg : Str → Option Value) (fa : Addr) (h : Heap), (K w.params).In h → h.Ns mainGlobals mg → mg d.name = some (.ref fa) →
      ∃ (cb : Cb) (fd : FuncData), (∀ (s : Shared) (u : Value), BindsTo s fd ⟨[u], []⟩ [("_law_script", u)]) ∧ ∀ base : Heap, FnD l.prog w (K w.params) mg base cb k fa fd ["_law_script"] F)
    (ht : ∀ ns : List Int, ns.length ≤ 63 → F [.val (.lst (ns.map D.int))] = .ok (.bl true)) : PySem.W.WalkX q loose XP (PySem.W.X.obsZ as) (PySem.W.X.valZ K nz tz) l.row.toRowW d [] (fun f vs => PySem.call f vs) :=
  fun w s₀ s₁ mg mb G y a o pm cd doc dV kV ho hd hcd hD hmg hg args vals as' L hpre hlay hrd hwl hlo =>
    walkD (YP := fun w h => (K w.params).In h) hn hdf h1 h2 (fun _ _ Y => Y) hF ht w s₀ s₁ mg mb G (PySem.W.InK.keeps w s₀.heap s₁.heap (PySem.W.X.z_facts hK y).2.1 (PySem.W.Laid.keeps L)) a o pm cd doc dV kV ho hd hcd hD hmg hg args vals as' hpre hlay hrd hwl hlo
end L4
end
section
set_option Elab.async false
set_option linter.all false
set_option maxRecDepth 100000
namespace L4
open PySem PySem.Spec PyProof.Rows L2
section
variable {X : Cx} {ct : Ct} {c : Cf} {o e : Expr} {es : List Expr} {f m : Str} {fo g : Sg → Res D} {fa : Sg → Res (List D)} {pos apos : Pos}
variable {md : List D → Option (List D)} {bk : D → Bool} {bkM : M → Bool} {tbl : List (String × (List Slot → Ans))} {n : Nat}
def FtOk (cb : Cb) (ft : List (String × List Str)) : Prop := ∀ c C full, cb.ins c = some C → ft.lookup c = some full → ∀ c' ns', cb.cls c' = some (C, ns') → ns' = full
end
end L4
end
section
set_option Elab.async false
set_option linter.all false
set_option maxRecDepth 100000
namespace L4
open PySem PySem.Spec PyProof.Rows L2
section
variable {X : Cx} {ct : Ct} {c : Cf} {o e : Expr} {es : List Expr} {x : Str} {fa : Sg → Res (List D)} {p pos : Pos} {md : List D → Option (List D)} {bk : D → Bool} {bkM : M → Bool} {n k : Nat} {F : List Slot → Ans} {cn : String} {ns : List Str} {C f : Addr} {fd : FuncData} {ps : List Str}
end
section
variable {P : Program} {w : World} {K : PySem.W.Frag} {mg : Str → Option Value} {base : Heap} {cb : Cb}
end
end L4
end
section
set_option Elab.async false
set_option linter.all false
set_option maxRecDepth 100000
namespace L4
open PySem PySem.Spec PyProof.Rows L2
section
variable {K : PySem.W.Frag} {ct : Ct} {H : Hp}
end
section
variable {X : Cx} {c : Cf} {x : Str} {e : Expr} {es : List Expr} {i q n k : Nat} {f : Sg → Res D} {r fa : Sg → Res (List D)} {p pos : Pos} {F : List Slot → Ans} {fn : Addr} {fd : FuncData} {ps : List Str}
variable {g : Sg → Res (D × Sg)} {Γ : Sg} {σ : St} {H : Hp}
end
end L4
end
section
set_option Elab.async false
set_option linter.all false
set_option maxRecDepth 100000
namespace L4
open PySem PySem.Spec PyProof.Rows L2
section
variable {X : Cx} {ct : Ct} {a b e : Expr} {f g : Sg → Res D} {fa : Sg → Res (List D)} {p pos : Pos}
theorem Tl.seqO {K : PySem.W.Frag} {H : Hp} {d : D} {v : V} {ds : List D} (l : Same ct.f.L H) (b : Same ct.B H) (h : Tl K ct H d v) (e : L4.seqO d = some ds) : ∃ a vs, v = .ref a ∧ (SqL K H a vs ∨ SqT K H a vs) ∧ Tls K ct H ds vs := by
  cases d with
  | lst xs => cases e; obtain ⟨a, vs, h1, h2, h3⟩ := h.seqL l b rfl; exact ⟨a, vs, h1, .inl h2, h3⟩
  | bor t xs => cases e; obtain ⟨a, vs, h1, h2, h3⟩ := h.seqL l b rfl; exact ⟨a, vs, h1, .inl h2, h3⟩
  | tup xs => cases e; simp only [Tl] at h; obtain ⟨a, vs, h1, h2, h3⟩ := h; exact ⟨a, vs, h1, .inr (sq_of h2), h3⟩
  | gt xs => cases e; simp only [Tl] at h; obtain ⟨a, vs, h1, h2, h3⟩ := h; exact ⟨a, vs, h1, .inr h2.sq, h3⟩
  | _ => cases e
variable {cc : Expr} {h : Sg → Res D}
variable {es : List Expr}
theorem pl_list (hm : X.mg "list" = none) (ha : PDA X ct (e :: es) fa) (hg : Gl X "list" := by rfl) (he : starEach (e :: es) X.env = (false, eval e X.env) :: starEach es X.env := by rfl) (hpl : (backTo pos (starEach es X.env)).any (·.1) = false := by rfl) : PL X ct (.Call (.Name "list" p) (e :: es) [] pos) (lCB listD fa) := by
  refine PE.imp (pe_callTy call_list_of hg hm (by decide +kernel) ha (by decide) (by decide) he hpl) fun σ H Q ⟨Γ, j, h⟩ => ?_
  refine aOf.bnd j h fun ds vs H' s t j' h' => ?_
  unfold listD at h'
  split at h'
  · rename_i x
    split at h'
    · rename_i xs hs
      obtain ⟨v, rfl, t1⟩ := tls1 t
      obtain ⟨a, us, rfl, q1, q2⟩ := t1.seqO j'.lL j'.lB hs
      refine ⟨a, us, rfl, q1, fun l hl => ?_⟩
      have s2 := same_new hl (.lst us)
      exact h' l us _ (s.trans s2) (s.free hl) upd_same (q2.keep (Same.keep s2))
    · exact h'.elim
  · exact h'.elim
theorem wl_list (hm : X.mg "list" = none) (ha : WDA X ct (e :: es) fa) (hg : Gl X "list" := by rfl) (he : starEach (e :: es) X.env = (false, eval e X.env) :: starEach es X.env := by rfl) (hpl : (backTo pos (starEach es X.env)).any (·.1) = false := by rfl) : WL X ct (.Call (.Name "list" p) (e :: es) [] pos) (lCB listD fa) := ⟨pl_list (hm := hm) (ha := ha.out) (hg := hg) (he := he) (hpl := hpl)⟩
end
end L4
end
section
set_option Elab.async false
set_option linter.all false
set_option maxRecDepth 100000
namespace L4
open PySem PySem.Spec PyProof.Rows L2
section
variable {X : Cx} {ct : Ct} {a b e : Expr} {f g : Sg → Res D} {pos : Pos}
theorem keyD_kV {K : PySem.W.Frag} {H : Hp} {d : D} {v : V} {k : Key} (h : Tl K ct H d v) (e : keyD d = some k) : v = kV k := by
  cases d with
  | int i => cases e; simp only [Tl] at h; exact h
  | str x => cases e; simp only [Tl] at h; exact h
  | _ => cases e
theorem Tl.dict {K : PySem.W.Frag} {H : Hp} {d : D} {v : V} {ks : List Key} {xs : List D} (l : Same ct.f.L H) (b : Same ct.B H) (h : Tl K ct H d v) (e : dcO d = some (ks, xs)) : ∃ a vs, v = .ref a ∧ Rd H a (.dK (ks.zip vs)) ∧ ks.length = vs.length ∧ Tls K ct H xs vs := by
  cases d with
  | dic ks' xs' =>
    cases ks' with
    | t _ => cases e
    | s ks' =>
    cases e
    simp only [Tl] at h
    obtain ⟨a, vs, h1, ⟨o, h2⟩, h3, h4⟩ := h
    exact ⟨a, vs, h1, .inr ⟨o, h2⟩, h3, h4⟩
  | bdc t ks' xs' =>
    cases ks' with
    | t _ => cases e
    | s ks' =>
    cases e
    simp only [Tl] at h
    obtain ⟨a, vs, h1, h2, h3, h4⟩ := h
    refine ⟨a, vs, h1, .inl ?_, h3, h4⟩
    cases t with
    | true => exact b a _ h2
    | false => exact l a _ h2
  | _ => cases e
end
section
variable {X : Cx} {c : Cf} {r ix e : Expr} {i : Nat} {g : Sg → Res (List Nat)} {f fk : Sg → Res D} {pos : Pos} {Γ : Sg} {σ : St} {H : Hp}
end
section
variable {X : Cx} {ct : Ct} {pos : Pos} {e : Expr} {f : Sg → Res D} {fa : Sg → Res (List D)} {keys : List (Option Expr)} {values : List Expr} {ks : List Key}
end
end L4
end
section
set_option Elab.async false
set_option linter.all false
set_option maxRecDepth 100000
namespace L4
open PySem PySem.Spec PyProof.Rows L2
section
variable {X : Cx} {c : Cf} {tg iter : Expr} {fi : Sg → Res (List D)} {t : Tg} {B : Sg → Out} {body : List Stmt} {pos : Pos}
theorem pds_forI (g : Good X) (hi : PID X c.z tg iter fi) (hg : PGD X c.z tg t) (hb : PDSs X c body B) (hs : ∀ x, foldedSetIterable iter X.env x = pure x := by intro _; rfl) : PDS X c (.For tg iter body [] pos) (sForI fi t B) := by
  refine PS.imp (ps_for g.po g.calm hi hg hb hs) fun E σ H ⟨Γ, j, h⟩ => ⟨Γ, j, Fn.ok j h fun xs _ q J H' s it => ?_⟩
  obtain ⟨P, p0, pk, pg, pst⟩ := it
  have h' : Fn X c H' (forD t B xs Γ) E := q.mono (Same.keep s)
  refine ⟨fun i m σ1 H1 => i + m = xs.length ∧ P H1 ∧ ∃ Γ1, Jx X c.z Γ1 σ1 H1 ∧ Keep c.cb H' H1 ∧ forD t B (xs.drop i) Γ1 = forD t B xs Γ, ⟨xs.length, by simp, p0, Γ, j.mono s, Keep.refl H', rfl⟩, ?_⟩
  rintro i m σ1 H1 ⟨hm, p1, Γ1, j1, k1, e1⟩
  cases hd : xs[i]? with
  | none =>
    have hl : xs.length ≤ i := by simpa using hd
    refine .inl ⟨pst i H1 p1 hl, ?_⟩
    rw [List.drop_eq_nil_of_le hl] at e1
    rw [← e1] at h'
    exact h' σ1 H1 k1 j1
  | some d =>
    obtain ⟨g1, g2⟩ := pg i d H1 p1 hd
    have hl : i < xs.length := (List.getElem?_eq_some_iff.mp hd).1
    refine .inr ⟨g1, fun σ3 H3 => P H3 ∧ ∃ Γ3, Jx X c.z Γ3 σ3 H3 ∧ Keep c.cb H' H3 ∧ forD t B (xs.drop (i + 1)) Γ3 = forD t B xs Γ, fun σ3 H3 ⟨p3, z⟩ => ⟨m - 1, by omega, by omega, p3, z⟩, fun x H2 y => ?_⟩
    obtain ⟨sm2, td⟩ := g2 x H2 y
    have k2 : Keep c.cb H' H2 := k1.trans (Same.keep sm2)
    rw [drop_one hd] at e1
    cases e2 : t d Γ1 with
    | none => exact (no_turn e2 e1 h').elim
    | some Γ2 => exact ⟨Γ1, d, Γ2, j1.mono sm2, td, e2, fun σ2 j2 => ⟨Γ2, j2, turn_ok k2 e2 e1 h' fun Γ3 σ3 H3 k3 j3 e3 => ⟨pk H' H3 p0 k3 j3.lL j3.lB, Γ3, j3, k3, e3⟩⟩⟩
theorem wds_forI (g : Good X) (hi : WID X c.z tg iter fi) (hg : WGD X c.z tg t) (hb : WDSs X c body B) (hs : ∀ x, foldedSetIterable iter X.env x = pure x := by intro _; rfl) : WDS X c (.For tg iter body [] pos) (sForI fi t B) := ⟨pds_forI (g := g) (hi := hi.out) (hg := hg.out) (hb := hb.out) (hs := hs)⟩
end
section
variable {X : Cx} {ct : Ct} {a b e : Expr} {f g : Sg → Res D} {fa : Sg → Res (List D)} {p pos : Pos}
end
section
variable {X : Cx} {ct : Ct} {x : Str} {p pos : Pos} {C a : Addr} {cn : String}
theorem tl_const {K : PySem.W.Frag} {H : Hp} {ds : List D} {vs : List V} {o : Obj} {its : Array Value} {n : Nat} (hl : K.lookup a = some o) (hc : o.cls = .type "tuple") (hd : o.data = .seq its n) (hz : its.size ≤ sizeLine) (r : Vals vs its.toList) (t : Tls K ct H ds vs) : Tl K ct H (.gt ds) (.ref a) := by
  simp only [Tl]
  exact ⟨a, vs, rfl, ⟨o, its, n, hl, hc, hd, hz, r⟩, t⟩
def GlT (K : PySem.W.Frag) (u : Value) (d : D) : Prop := ∃ v : V, RelV v u ∧ ∀ (ct : Ct) (H : Hp), Tl K ct H d v
theorem pd_globD {u : Value} {d : D} (hm : X.mg x = some u) (ht : GlT X.K u d) (hg : Gl X x := by rfl) (hd : (x == ("__debug__" : Str)) = false := by decide) : PD X ct (.Name x pos) (dC d) := by
  obtain ⟨v, r, t⟩ := ht
  exact pd_glob (v := v) hg hm r (fun H => t ct H) hd
theorem wd_globD {u : Value} {d : D} (hm : X.mg x = some u) (ht : GlT X.K u d) (hg : Gl X x := by rfl) (hd : (x == ("__debug__" : Str)) = false := by decide) : WD X ct (.Name x pos) (dC d) := ⟨pd_globD (hm := hm) (ht := ht) (hg := hg) (hd := hd)⟩
theorem glt_int {K : PySem.W.Frag} {i : Int} {t : Tok} : GlT K (.int i t) (.int i) := ⟨.int i, ⟨t, rfl⟩, fun _ _ => by simp [Tl]⟩
def GlTs (K : PySem.W.Frag) (us : List Value) (ds : List D) : Prop := ∃ vs : List V, Vals vs us ∧ ∀ (ct : Ct) (H : Hp), Tls K ct H ds vs
theorem glts_nil {K : PySem.W.Frag} : GlTs K [] [] := ⟨[], .nil, fun _ _ => Tls.nil⟩
theorem glts_cons {K : PySem.W.Frag} {u : Value} {us : List Value} {d : D} {ds : List D} (h : GlT K u d) (t : GlTs K us ds) : GlTs K (u :: us) (d :: ds) := by
  obtain ⟨v, r, q⟩ := h
  obtain ⟨vs, rs, qs⟩ := t
  exact ⟨v :: vs, .cons r rs, fun ct H => Tls.cons (q ct H) (qs ct H)⟩
theorem glt_tup {K : PySem.W.Frag} {us : List Value} {ds : List D} {od : Option Addr} {sl : Array (Option Value)} {n : Nat} (hl : K.lookup a = some ⟨.type "tuple", od, .seq us.toArray n, sl⟩) (hz : us.length ≤ 1000) (h : GlTs K us ds) : GlT K (.ref a) (.gt ds) := by
  obtain ⟨vs, rs, qs⟩ := h
  exact ⟨.ref a, rfl, fun ct H => tl_const hl rfl rfl (by rw [sizeLine_eq]; simp; omega) (by simpa using rs) (qs ct H)⟩
structure Mk0 (K : PySem.W.Frag) (C : Addr) : Prop where
  makes : PySem.W.makesIn K C = true
  init : PySem.W.findIn K (.ref C) "__init__" = some (some (.builtin "object.__init__"))
  kp : PySem.W.keepIn K (.ref C) = true
end
section
variable {X : Cx} {c : Cf} {e : Expr} {f : Sg → Res D} {p : Sg → Res Bool} {F G B : Sg → Out} {pos : Pos} {body : List Stmt}
theorem pds_exprZ (he : PD X c.z e f) (hs : swapsWith e none pos.line X.env = pure false := by rfl) : PDS X c (.Expr e pos) (sDrop f) := by
  intro pins s σ H E I ⟨Γ, j, h⟩
  exact ps_expr he hs pins s σ H E I ⟨Γ, j, Fn.ok j h fun d _ q v H' s t => q σ H' (Same.keep s) (j.mono s)⟩
theorem wds_exprZ (he : WD X c.z e f) (hs : swapsWith e none pos.line X.env = pure false := by rfl) : WDS X c (.Expr e pos) (sDrop f) := ⟨pds_exprZ (he := he.out) (hs := hs)⟩
theorem pds_ifZ {ce : Expr} {a b : List Stmt} (hc : PDT X c.z ce p) (ha : PDSs X c a F) (hb : PDSs X c b G) : PDS X c (.If ce a b pos) (sIf p F G) := by
  intro pins s σ H E I ⟨Γ, j, h⟩
  refine ps_if hc ha hb pins s σ H E I ⟨Γ, j, Fn.ok j h fun x _ q H' s => ?_⟩
  cases x with
  | true => exact iteT ⟨Γ, j.mono s, Fn.mono (Same.keep s) q⟩
  | false => exact iteF ⟨Γ, j.mono s, Fn.mono (Same.keep s) q⟩
theorem wds_ifZ {ce : Expr} {a b : List Stmt} (hc : WDT X c.z ce p) (ha : WDSs X c a F) (hb : WDSs X c b G) : WDS X c (.If ce a b pos) (sIf p F G) := ⟨pds_ifZ (hc := hc.out) (ha := ha.out) (hb := hb.out)⟩
theorem pds_whileZ (n : Nat) {ce : Expr} (g : Good X) (hc : PDT X c.z ce p) (hb : PDSs X c body B) : PDS X c (.While ce body [] pos) (whileD p B n) := by
  refine PS.imp (ps_while g.po hc hb) fun E σ H ⟨Γ, j, h⟩ => ?_
  refine ⟨fun m σ1 H1 => ∃ Γ1, Jx X c.z Γ1 σ1 H1 ∧ Keep c.cb H H1 ∧ whileD p B m Γ1 = whileD p B n Γ, ⟨n, Γ, j, Keep.refl H, rfl⟩, ?_⟩
  rintro m σ1 H1 ⟨Γ1, j1, k1, e1⟩
  cases m with
  | zero => rw [← e1] at h; exact h.elim
  | succ m =>
    refine ⟨Γ1, j1, ?_⟩
    rw [← e1] at h
    have h2 := h.mono k1
    simp only [whileD] at h2
    refine Fn.ok j1 h2 fun x ec q H2 s2 => ?_
    cases x with
    | false => exact iteF (q σ1 H2 (Same.keep s2) (j1.mono s2))
    | true =>
      refine iteT ⟨fun σ3 H3 => ∃ Γ3, Jx X c.z Γ3 σ3 H3 ∧ Keep c.cb H H3 ∧ whileD p B m Γ3 = whileD p B n Γ, fun σ3 H3 z => ⟨m, Nat.lt_succ_self m, z⟩, Γ1, j1.mono s2, ?_⟩
      simp only [if_true] at q
      simp only [whileD, ec, oE_ok, if_true] at e1
      have k2 : Keep c.cb H H2 := k1.trans (Same.keep s2)
      cases eb : B Γ1 with
      | nx Γ3 => rw [eb] at e1; exact fun σ3 H3 k3 j3 => ⟨Γ3, j3, k2.trans k3, e1⟩
      | ct Γ3 => rw [eb] at e1; exact fun σ3 H3 k3 j3 => ⟨Γ3, j3, k2.trans k3, e1⟩
      | bk Γ3 => rw [eb] at q; exact fun σ3 H3 k3 j3 => q σ3 H3 ((Same.keep s2).trans k3) j3
      | rt d => rw [eb] at q; exact q
      | rtm d => rw [eb] at q; exact q
      | rtG d Γ3 => rw [eb] at q; exact q
      | rtmG d Γ3 => rw [eb] at q; exact q
      | err x Γ3 => rw [eb] at q; exact fun σ3 H3 e s' k3 j3 r => q σ3 H3 e s' ((Same.keep s2).trans k3) j3 r
      | bad => rw [eb] at q; exact q
theorem wds_whileZ (n : Nat) {ce : Expr} (g : Good X) (hc : WDT X c.z ce p) (hb : WDSs X c body B) : WDS X c (.While ce body [] pos) (whileD p B n) := ⟨pds_whileZ (n := n) (g := g) (hc := hc.out) (hb := hb.out)⟩
end
section
variable {X : Cx} {ct : Ct}
end
theorem tlook_cons {α : Type} {a c : String} {A C : α} {r : List (String × α)} (h : ((a, A) :: r).lookup c = some C) : (c = a ∧ C = A) ∨ r.lookup c = some C := by
  rw [List.lookup_cons] at h
  by_cases q : (c == a) = true
  · rw [q] at h
    exact .inl ⟨by simpa using q, (Option.some.inj h).symm⟩
  · rw [Bool.not_eq_true] at q
    rw [q] at h
    exact .inr h
theorem tlook_mem {α : Type} {c : String} {C : α} : ∀ {r : List (String × α)}, r.lookup c = some C → (c, C) ∈ r
  | [], h => by cases h
  | (a, A) :: r, h => by
    rcases tlook_cons h with ⟨rfl, rfl⟩ | h
    · exact List.mem_cons_self ..
    · exact List.mem_cons_of_mem _ (tlook_mem h)
abbrev ClsTb := List (String × (Addr × List Str))
abbrev cbOf (E : List (String × Addr)) (T : ClsTb) : Cb := ⟨fun c => E.lookup c, fun c => T.lookup c, fun c => (T.lookup c).map (·.1)⟩
theorem al_nil {α : Type} {p : α → Prop} : ∀ e ∈ ([] : List α), p e := fun e h => nomatch h
theorem al_cons {α : Type} {p : α → Prop} {a : α} {r : List α} (h : p a) (t : ∀ e ∈ r, p e) : ∀ e ∈ a :: r, p e := fun e he => by
  rcases List.mem_cons.mp he with rfl | he
  · exact h
  · exact t e he
theorem ex_all {E : List (String × Addr)} {P : String → Addr → Prop} (h : ∀ e ∈ E, P e.1 e.2) {c : String} {C : Addr} (hc : E.lookup c = some C) : P c C := h _ (tlook_mem hc)
theorem lk1 {mt : List (String × List String)} {c : String} {l : List String} (e : mt.lookup c = some l) {P : List String → Prop} (h : P l) : ∀ ks, mt.lookup c = some ks → P ks := fun ks q => by
  rw [e] at q; cases q; exact h
theorem hb1 {f : String → Option Bool} {c : String} {b : Bool} (e : f c = some b) {P : Bool → Prop} (h : P b) : ∀ b', f c = some b' → P b' := fun b' q => by
  rw [e] at q; cases q; exact h
theorem len0 {us : List Value} (h : us.length = 0) : us = [] := List.eq_nil_of_length_eq_zero h
theorem len1 {us : List Value} (h : us.length = 1) : ∃ u0, us = [u0] := by
  cases us with
  | nil => cases h
  | cons a r => obtain rfl := len0 (us := r) (Nat.succ.inj h); exact ⟨a, rfl⟩
theorem len2 {us : List Value} (h : us.length = 2) : ∃ u0 u1, us = [u0, u1] := by
  cases us with
  | nil => cases h
  | cons a r => obtain ⟨v0, rfl⟩ := len1 (us := r) (Nat.succ.inj h); exact ⟨a, v0, rfl⟩
end L4
end
section
set_option Elab.async false
set_option linter.all false
set_option maxRecDepth 100000
namespace L4
open PySem PySem.Spec PyProof.Rows L2 PySem.W
def kIn {α : Type} (n : Nat) : KasT α → Prop
  | .ret _ => True
  | .ask i j k => i < n ∧ j < n ∧ i ≠ j ∧ ∀ b, kIn n (k b)
section
variable {prog : Program} {w : World} {A : Around} {E : Value → Shared → Prop} {s : Shared}
theorem range_getD (vs : List Value) : ((List.range vs.length).map fun i => vs.getD i Value.none) = vs := by
  apply List.ext_getElem
  · simp
  · intro i h1 h2
    simp at h1
    simp [h1]
end
section
variable {X : Cx} {ct : Ct} {e : Expr} {es : List Expr} {fa : Sg → Res (List D)} {p pos : Pos}
theorem looks_int {M : Model} {h : Heap} {i : Int} {t : Tok} : Looks M h (typeOf (.int i t)) (.type "int") := Looks.of_pure rfl
end
end L4
end
section
set_option Elab.async false
set_option linter.all false
set_option maxRecDepth 100000
namespace L4
open PySem
abbrev KeyQ := Sum Int Str
def keysD : List D → Option (List KeyQ)
  | [] => some []
  | d :: ds => match keyD d, keysD ds with
    | some k, some ks => some (k :: ks)
    | _, _ => none
def keyT : D → Option (List KeyQ)
  | .tup ds => keysD ds
  | _ => none
def dcT : D → Option (List (List KeyQ) × List D)
  | .dic (.t ks) xs => some (ks, xs)
  | .bdc _ (.t ks) xs => some (ks, xs)
  | _ => none
def getT (ks : List (List KeyQ)) (xs : List D) (k : List KeyQ) : Option D := ((ks.zip xs).find? fun kv => decide (kv.1 = k)).map (·.2)
def getDT (o y : D) : Res D := match dcT o, keyT y with
  | some (ks, xs), some k => (match getT ks xs k with
    | some d => .ok d
    | none => .bad)
  | _, _ => .bad
def getD2 (o y z : D) : Res D := match dcT o, keyT y with
  | some (ks, xs), some k => .ok ((getT ks xs k).getD z)
  | _, _ => .bad
def dGet2 (f g h : Sg → Res D) : Sg → Res D := fun Γ => (f Γ).bnd fun o => match dcT o with
  | some _ => (g Γ).bnd fun y => (h Γ).bnd fun z => getD2 o y z
  | none => .bad
def setTs (ks : List (List KeyQ)) (k : List KeyQ) : List (List KeyQ) := if (ks.any fun n => decide (n = k)) = true then ks else ks ++ [k]
def setTx (ks : List (List KeyQ)) (xs : List D) (k : List KeyQ) (d : D) : List D := if (ks.any fun n => decide (n = k)) = true then (ks.zip xs).map (fun kv => if kv.1 = k then d else kv.2) else xs ++ [d]
def putTM (k : List KeyQ) (d : D) : M → Option M
  | .k (.t ks) xs => if nt d = true ∧ ks.length < 1000000 then some (.k (.t (setTs ks k)) (setTx ks xs k d)) else none
  | _ => none
def sPutT (i : Nat) (g : Sg → Res (List Nat)) (fk f : Sg → Res D) : Sg → Out := fun Γ => oE (f Γ) Γ fun d => oE (g Γ) Γ fun ks => oE (fk Γ) Γ fun z => match keyT z with
  | some k => oUp (upM i ks (putTM k d) Γ)
  | none => .bad
def lexI : List Int → List Int → Bool
  | [], [] => false
  | [], _ :: _ => true
  | _ :: _, [] => false
  | x :: xs, y :: ys => if x = y then lexI xs ys else decide (x < y)
theorem lexI_tot : ∀ (x y : List Int), x ≠ y → lexI x y = !lexI y x
  | [], [], h => absurd rfl h
  | [], _ :: _, _ => rfl
  | _ :: _, [], _ => rfl
  | a :: x, b :: y, h => by
    simp only [lexI]
    by_cases e : a = b
    · subst e
      simp only [if_true]
      exact lexI_tot x y fun z => h (by rw [z])
    · have e' : b ≠ a := fun z => e z.symm
      simp only [e, e', if_false]
      by_cases q : a < b
      · have : ¬ b < a := by omega
        simp [q, this]
      · have : b < a := by omega
        simp [q, this]
theorem lexI_tr : ∀ (x y z : List Int), lexI x y = true → lexI y z = true → lexI x z = true
  | [], [], _, h, _ => by simp [lexI] at h
  | [], _ :: _, [], _, h => by simp [lexI] at h
  | [], _ :: _, _ :: _, _, _ => rfl
  | _ :: _, [], _, h, _ => by simp [lexI] at h
  | _ :: _, _ :: _, [], _, h => by simp [lexI] at h
  | a :: x, b :: y, c :: z, h1, h2 => by
    simp only [lexI] at h1 h2 ⊢
    by_cases e1 : a = b
    · subst e1
      simp only [if_true] at h1
      by_cases e2 : a = c
      · subst e2
        simp only [if_true] at h2 ⊢
        exact lexI_tr x y z h1 h2
      · simp only [e2, if_false] at h2 ⊢; exact h2
    · simp only [e1, if_false] at h1
      have h1 : a < b := by simpa using h1
      by_cases e2 : b = c
      · subst e2
        simp only [e1, if_false]; simpa using h1
      · simp only [e2, if_false] at h2
        have h2 : b < c := by simpa using h2
        have e3 : a ≠ c := by omega
        simp only [e3, if_false]
        have : a < c := by omega
        simpa using this
abbrev KD := List Int × D
def srtI (x : KD) : List KD → List KD
  | [] => [x]
  | y :: l => if lexI x.1 y.1 = true then x :: y :: l else y :: srtI x l
def srt : List KD → List KD
  | [] => []
  | x :: l => srtI x (srt l)
theorem srtI_perm (x : KD) : ∀ l, (srtI x l).Perm (x :: l)
  | [] => .refl _
  | y :: l => by
    unfold srtI
    split
    · exact .refl _
    · exact ((srtI_perm x l).cons y).trans (.swap x y l)
theorem srt_perm : ∀ l, (srt l).Perm l
  | [] => .refl _
  | x :: l => (srtI_perm x (srt l)).trans ((srt_perm l).cons x)
def LtK (a b : KD) : Prop := lexI a.1 b.1 = true
theorem srtI_up {x : KD} : ∀ {l : List KD}, l.Pairwise LtK → (∀ y ∈ l, x.1 ≠ y.1) → (srtI x l).Pairwise LtK
  | [], _, _ => List.pairwise_singleton _ _
  | y :: l, h, hn => by
    unfold srtI
    have h1 := (List.pairwise_cons.mp h).1
    have h2 := (List.pairwise_cons.mp h).2
    split
    · rename_i q
      refine List.pairwise_cons.mpr ⟨fun z hz => ?_, h⟩
      rcases List.mem_cons.mp hz with rfl | hz
      · exact q
      · exact lexI_tr _ _ _ q (h1 z hz)
    · rename_i q
      refine List.pairwise_cons.mpr ⟨fun z hz => ?_, srtI_up h2 fun y' hy' => hn y' (.tail _ hy')⟩
      have hz := (srtI_perm x l).mem_iff.mp hz
      rcases List.mem_cons.mp hz with rfl | hz
      · show lexI y.1 z.1 = true
        rw [lexI_tot _ _ (fun e => hn y (.head _) e.symm)]
        simpa using q
      · exact h1 z hz
theorem srt_up : ∀ {l : List KD}, (l.map (·.1)).Nodup → (srt l).Pairwise LtK
  | [], _ => List.Pairwise.nil
  | x :: l, h => srtI_up (srt_up (List.nodup_cons.mp h).2) fun y hy e => by
    have hy := (srt_perm l).mem_iff.mp hy
    exact (List.nodup_cons.mp h).1 (List.mem_map.mpr ⟨y, hy, e.symm⟩)
theorem lexI_irr (x : List Int) : lexI x x = false := by
  induction x with
  | nil => rfl
  | cons a x ih => simp [lexI, ih]
theorem up_unique : ∀ {l m : List KD}, l.Perm m → l.Pairwise LtK → m.Pairwise LtK → l = m
  | [], m, p, _, _ => (List.nil_perm.mp p).symm ▸ rfl
  | x :: l, [], p, _, _ => by simpa using p.length_eq
  | x :: l, y :: m, p, h1, h2 => by
    have e : x = y := by
      have hx := p.mem_iff.mp (.head (a := x) l)
      have hy := p.mem_iff.mpr (.head (a := y) m)
      rcases List.mem_cons.mp hx with e | hx
      · exact e
      · rcases List.mem_cons.mp hy with e | hy
        · exact e.symm
        · have a1 : lexI y.1 x.1 = true := (List.pairwise_cons.mp h2).1 x hx
          have a2 : lexI x.1 y.1 = true := (List.pairwise_cons.mp h1).1 y hy
          have := lexI_tr _ _ _ a1 a2
          rw [lexI_irr] at this; cases this
    subst e
    rw [up_unique (List.Perm.cons_inv p) (List.pairwise_cons.mp h1).2 (List.pairwise_cons.mp h2).2]
theorem map_ix {α β : Type} {n : Nat} {f : Nat → β} {l : List α} {g : α → β} (hl : l.length = n) (h : ∀ i a, l[i]? = some a → f i = g a) : (List.range n).map f = l.map g := by
  apply List.ext_getElem?
  intro i
  rw [List.getElem?_map, List.getElem?_map]
  by_cases hi : i < n
  · rw [List.getElem?_range hi, List.getElem?_eq_getElem (by rw [hl]; exact hi)]
    exact congrArg some (h i _ (List.getElem?_eq_getElem (by rw [hl]; exact hi)))
  · rw [List.getElem?_eq_none (by simp; omega), List.getElem?_eq_none (by omega)]; rfl
theorem srt_ix {ns : List (List Int)} {xs : List D} {ix : List Nat} (hl : xs.length = ns.length) (nd : ns.Nodup) (hp : ix.Perm (List.range ns.length)) (pw : ix.Pairwise (fun i j => lexI (ns.getD i []) (ns.getD j []) = true)) :
    (ix.map fun i => ((ns.getD i [], xs.getD i .non) : KD)) = srt (ns.zip xs) := by
  have e1 : (ns.zip xs).map (·.1) = ns := List.map_fst_zip (by omega)
  refine up_unique ?_ (List.pairwise_map.mpr (pw.imp fun h => h)) (srt_up (by rw [e1]; exact nd))
  refine (hp.map _).trans (List.Perm.trans ?_ (srt_perm _).symm)
  rw [map_ix (l := ns.zip xs) (g := id) (by rw [List.length_zip, hl]; exact Nat.min_self _) fun i a e => ?_]
  · rw [List.map_id]
  · rw [List.getElem?_zip_eq_some] at e
    rw [List.getD_eq_getElem?_getD, List.getD_eq_getElem?_getD, e.1, e.2]; rfl
def int3 : List KeyQ → Option (List Int)
  | [.inl a, .inl b, .inl c] => some [a, b, c]
  | _ => none
def ints3 : List (List KeyQ) → Option (List (List Int))
  | [] => some []
  | k :: ks => match int3 k, ints3 ks with
    | some n, some ns => some (n :: ns)
    | _, _ => none
theorem int3_eq {k : List KeyQ} {n : List Int} (h : int3 k = some n) : k = n.map Sum.inl ∧ n.length = 3 := by
  unfold int3 at h
  split at h
  · cases h; exact ⟨rfl, rfl⟩
  · cases h
theorem ints3_eq : ∀ {ks : List (List KeyQ)} {ns : List (List Int)}, ints3 ks = some ns → ks = ns.map (·.map Sum.inl) ∧ ∀ n ∈ ns, n.length = 3
  | [], ns, h => by cases h; exact ⟨rfl, fun _ z => nomatch z⟩
  | k :: ks, ns, h => by
    unfold ints3 at h
    split at h
    · rename_i n ms e1 e2
      cases h
      obtain ⟨a1, a2⟩ := int3_eq e1
      obtain ⟨b1, b2⟩ := ints3_eq e2
      refine ⟨by rw [a1, b1]; rfl, fun m hm => ?_⟩
      rcases List.mem_cons.mp hm with rfl | hm
      · exact a2
      · exact b2 m hm
    · cases h
def tupI (n : List Int) : D := .tup (n.map D.int)
def sortK1 (x : D) : Res (List D) := match dcT x with
  | some (ks, xs) => (match ints3 ks with
    | some ns => if ns.length < 64 ∧ ns.Nodup then .ok ((srt (ns.zip xs)).map fun p => tupI p.1) else .bad
    | none => .bad)
  | none => .bad
def sortI1 (x : D) : Res (List D) := match dcT x with
  | some (ks, xs) => (match ints3 ks with
    | some ns => if ns.length < 64 ∧ ns.Nodup then .ok ((srt (ns.zip xs)).map fun p => .tup [tupI p.1, p.2]) else .bad
    | none => .bad)
  | none => .bad
def sortKD : List D → Res (List D)
  | [x] => sortK1 x
  | _ => .bad
def sClearT (fm : Sg → Res M) : Sg → Out := fun Γ => oE (fm Γ) Γ fun m => match m with
  | .l _ => .nx Γ
  | _ => .bad
end L4
end
section
set_option Elab.async false
set_option linter.all false
set_option maxRecDepth 100000
namespace L4
open PySem PySem.Spec PyProof.Rows L2
open AutoSeq1 (wpAny_loadPart')
section
variable {prog : Program} {w : World} {A : Around} {E : Value → Shared → Prop} {s : Shared}
end
section
variable {X : Cx} {pins : List (Addr × Obj)} {σ : St} {H : Hp} {s : Shared}
end
end L4
end
section
set_option Elab.async false
set_option linter.all false
set_option maxRecDepth 100000
namespace L4
open PySem PySem.Spec PyProof.Rows L2
section
variable {X : Cx} {ct : Ct} {a b e : Expr} {f g h : Sg → Res D} {pos : Pos}
theorem keysD_kV {K : PySem.W.Frag} {H : Hp} : ∀ {ds : List D} {vs : List V} {ks : List Key}, Tls K ct H ds vs → keysD ds = some ks → vs = ks.map kV
  | [], vs, ks, h, e => by cases e; simp only [Tls] at h; subst h; rfl
  | d :: ds, vs, ks, h, e => by
    simp only [Tls] at h
    obtain ⟨v, r, rfl, t1, t2⟩ := h
    simp only [keysD] at e
    split at e
    · rename_i k ks' e1 e2
      cases e
      rw [keyD_kV t1 e1, keysD_kV t2 e2]; rfl
    · cases e
theorem keyT_kV {K : PySem.W.Frag} {H : Hp} {d : D} {v : V} {k : List Key} (h : Tl K ct H d v) (e : keyT d = some k) : ∃ p, v = .ref p ∧ H p = some (.tup (k.map kV)) := by
  cases d with
  | tup ds =>
    simp only [Tl] at h
    obtain ⟨p, vs, rfl, h2, h3⟩ := h
    rw [keysD_kV h3 e] at h2
    exact ⟨p, rfl, h2⟩
  | _ => cases e
theorem getT_tl {K : PySem.W.Frag} {H : Hp} {k : List Key} : ∀ {ks : List (List Key)} {xs : List D} {vs : List V}, Tls K ct H xs vs → ks.length = vs.length → (∀ d, getT ks xs k = some d → ∃ v, valV (ks.zip vs) k = some v ∧ Tl K ct H d v) ∧ (getT ks xs k = none → valV (ks.zip vs) k = none)
  | [], xs, vs, t, _ => ⟨fun d h => by simp [getT] at h, fun _ => by simp [valV]⟩
  | n :: ks, [], vs, t, hl => by simp only [Tls] at t; subst t; simp at hl
  | n :: ks, x :: xs, vs, t, hl => by
    simp only [Tls] at t
    obtain ⟨v, r, rfl, t1, t2⟩ := t
    obtain ⟨g1, g2⟩ := getT_tl (k := k) t2 (by simpa using hl)
    by_cases q : n = k
    · subst q
      refine ⟨fun d h => ?_, fun h => ?_⟩
      · simp only [getT, List.zip_cons_cons, List.find?_cons, decide_true, Option.map_some, Option.some.injEq] at h
        subst h
        exact ⟨v, by simp [valV, List.find?_cons], t1⟩
      · simp [getT, List.find?_cons] at h
    · refine ⟨fun d h => ?_, fun h => ?_⟩
      · simp only [getT, List.zip_cons_cons, List.find?_cons, q, decide_false] at h
        obtain ⟨v', w1, w2⟩ := g1 d h
        exact ⟨v', by simpa [valV, List.find?_cons, q] using w1, w2⟩
      · simp only [getT, List.zip_cons_cons, List.find?_cons, q, decide_false] at h
        simpa [valV, List.find?_cons, q] using g2 h
theorem Tl.dictT {K : PySem.W.Frag} {H : Hp} {d : D} {v : V} {ks : List (List Key)} {xs : List D} (l : Same ct.f.L H) (b : Same ct.B H) (h : Tl K ct H d v) (e : dcT d = some (ks, xs)) : ∃ a vs, v = .ref a ∧ Rd H a (.dT (ks.zip vs)) ∧ ks.length = vs.length ∧ Tls K ct H xs vs := by
  cases d with
  | dic ks' xs' =>
    cases ks' with
    | s _ => cases e
    | t ks' =>
    cases e
    simp only [Tl] at h
    obtain ⟨a, vs, h1, ⟨o, h2⟩, h3, h4⟩ := h
    exact ⟨a, vs, h1, .inr ⟨o, h2⟩, h3, h4⟩
  | bdc t ks' xs' =>
    cases ks' with
    | s _ => cases e
    | t ks' =>
    cases e
    simp only [Tl] at h
    obtain ⟨a, vs, h1, h2, h3, h4⟩ := h
    refine ⟨a, vs, h1, .inl ?_, h3, h4⟩
    cases t with
    | true => exact b a _ h2
    | false => exact l a _ h2
  | _ => cases e
theorem pd_getT (hu : X.A.units + 1 < cLine) (ha : PD X ct a f) (hb : PD X ct b g) (hn : NoSl b := by exact fun _ _ => rfl) : PD X ct (.Subscript a b pos) (dOp getDT f g) := by
  intro pins s σ H Q I ⟨Γ, j, h⟩
  refine pe_dget hu ha hb hn pins s σ H Q I ?_
  refine eOf.bnd j h fun o v H1 s1 t1 j1 h1 => ?_
  refine eOf.bnd (f := g) (r := fun y => getDT o y) (W := Wd X ct H Q) j1 (Ok.mono s1 h1 fun _ z => z) fun y u H2 s2 t2 j2 h2 => ?_
  unfold getDT at h2
  split at h2
  · rename_i ks xs k e1 e2
    split at h2
    · rename_i d hd
      obtain ⟨a, vs, rfl, q1, q2, q3⟩ := (t1.keep (Same.keep s2)).dictT j2.lL j2.lB e1
      obtain ⟨w, w1, w2⟩ := (getT_tl q3 q2).1 d hd
      obtain ⟨p, rfl, hp⟩ := keyT_kV t2 e2
      exact ⟨a, w, rfl, .inr ⟨_, k, p, q1, rfl, hp, w1.symm⟩, h2 w H2 (s1.trans s2) w2⟩
    · exact h2.elim
  · exact h2.elim
theorem wd_getT (hu : X.A.units + 1 < cLine) (ha : WD X ct a f) (hb : WD X ct b g) (hn : NoSl b := by exact fun _ _ => rfl) : WD X ct (.Subscript a b pos) (dOp getDT f g) := ⟨pd_getT (hu := hu) (ha := ha.out) (hb := hb.out) (hn := hn)⟩
theorem pd_get2T {apos cpos : Pos} {d : Expr} (hu : X.A.units + 1 < cLine) (ha : PD X ct a f) (hb : PD X ct b g) (hd : PD X ct d h)
    (h1 : attributeBase a "get" X.env (eval a X.env) = eval a X.env := by rfl)
    (h2 : ((backTo cpos (starEach [b, d] X.env)).all (fun x => !x.1) && (backToKw cpos (keywordEach [] X.env)).all (fun x => x.1.isSome) && decide (([b, d] : List Expr).length + ([] : List Keyword).length + (if ([] : List Keyword).isEmpty then 0 else 1) < 30)) = true := by rfl)
    (h3 : (apos.endLine == cpos.line) = true := by rfl) (h4 : backTo cpos (starEach [b, d] X.env) = [(false, eval b X.env), (false, eval d X.env)] := by rfl) :
    PD X ct (.Call (.Attribute a "get" apos) [b, d] [] cpos) (dGet2 f g h) := by
  intro pins s σ H Q I ⟨Γ, j, hh⟩
  refine pe_dget2 hu ha hb hd ⟨h1, h2, h3, h4⟩ pins s σ H Q I ?_
  refine eOf.bnd j hh fun o v H1 s1 t1 j1 q1 => ?_
  split at q1
  · rename_i p e0
    obtain ⟨ks, xs⟩ := p
    obtain ⟨a, vs, rfl, r1, r2, r3⟩ := t1.dictT j1.lL j1.lB e0
    refine ⟨a, rfl, .inr ⟨_, r1⟩, ?_⟩
    refine eOf.bnd (f := g) (W := Wd X ct H Q) j1 (Ok.mono s1 q1 fun _ z => z) fun y u H2 s2 t2 j2 q2 => ?_
    refine eOf.bnd (f := h) (W := Wd X ct H Q) j2 (Ok.mono s2 q2 fun _ z => z) fun z u3 H3 s3 t3 j3 q3 => ?_
    unfold getD2 at q3
    rw [e0] at q3
    split at q3
    · rename_i ks' xs' k e1 e2
      cases e1
      obtain ⟨a', vs', ea, w1, w2, w3⟩ := (t1.keep (Same.keep (s2.trans s3))).dictT j3.lL j3.lB e0
      cases ea
      obtain ⟨p, rfl, hp⟩ := keyT_kV (t2.keep (Same.keep s3)) e2
      refine ⟨_, .inr ⟨_, k, p, w1, rfl, hp, rfl⟩, ?_⟩
      cases hg : getT ks xs k with
      | none =>
        rw [(getT_tl w3 w2).2 hg]
        rw [hg] at q3
        exact q3 _ H3 ((s1.trans s2).trans s3) t3
      | some d =>
        obtain ⟨w, x1, x2⟩ := (getT_tl w3 w2).1 d hg
        rw [x1]
        rw [hg] at q3
        exact q3 _ H3 ((s1.trans s2).trans s3) x2
    · exact q3.elim
  · exact q1.elim
theorem wd_get2T {apos cpos : Pos} {d : Expr} (hu : X.A.units + 1 < cLine) (ha : WD X ct a f) (hb : WD X ct b g) (hd : WD X ct d h) (h1 : attributeBase a "get" X.env (eval a X.env) = eval a X.env := by rfl) (h2 : ((backTo cpos (starEach [b, d] X.env)).all (fun x => !x.1) && (backToKw cpos (keywordEach [] X.env)).all (fun x => x.1.isSome) && decide (([b, d] : List Expr).length + ([] : List Keyword).length + (if ([] : List Keyword).isEmpty then 0 else 1) < 30)) = true := by rfl) (h3 : (apos.endLine == cpos.line) = true := by rfl) (h4 : backTo cpos (starEach [b, d] X.env) = [(false, eval b X.env), (false, eval d X.env)] := by rfl) : WD X ct (.Call (.Attribute a "get" apos) [b, d] [] cpos) (dGet2 f g h) := ⟨pd_get2T (hu := hu) (ha := ha.out) (hb := hb.out) (hd := hd.out) (h1 := h1) (h2 := h2) (h3 := h3) (h4 := h4)⟩
theorem pm_newT : PM X ct (.Dict [] [] pos) (fun _ => .ok (.k (.t []) [])) := by
  refine PE.imp pe_dnewT fun σ H Q ⟨Γ, j, h⟩ => ?_
  intro p hp
  refine h (.ref p) _ (fun b => b = p) (same_new hp _) ?_ (fun b z => z ▸ hp) fun b z q => by subst z; rw [upd_same] at q; cases q
  simp only [Ow]
  exact ⟨p, [], rfl, rfl, upd_same, rfl, Tls.nil⟩
theorem wm_newT  : WM X ct (.Dict [] [] pos) (fun _ => .ok (.k (.t []) [])) := ⟨pm_newT⟩
end
theorem zip_anyT {ks : List (List Key)} {vs : List V} {k : List Key} (h : ks.length = vs.length) : ((ks.zip vs).any fun kv => decide (kv.1 = k)) = ks.any fun n => decide (n = k) := by
  induction ks generalizing vs with
  | nil => simp
  | cons n ks ih =>
    cases vs with
    | nil => simp at h
    | cons v vs =>
      simp only [List.zip_cons_cons, List.any_cons]
      rw [ih (by simpa using h)]
theorem put_zipT {K : PySem.W.Frag} {ct : Ct} {H : Hp} {ks : List (List Key)} {xs : List D} {vs : List V} {k : List Key} {d : D} {v : V} (h : ks.length = vs.length) (t : Tls K ct H xs vs) (td : Tl K ct H d v) :
    ∃ us, putK (ks.zip vs) k v = (setTs ks k).zip us ∧ (setTs ks k).length = us.length ∧ Tls K ct H (setTx ks xs k d) us := by
  unfold putK setTs setTx
  rw [zip_anyT h]
  by_cases q : (ks.any fun n => decide (n = k)) = true
  · simp only [q, if_true]
    clear q
    induction ks generalizing xs vs with
    | nil =>
      cases vs with
      | nil => exact ⟨[], by simp, rfl, by simp [Tls]⟩
      | cons v vs => simp at h
    | cons n ks ih =>
      cases vs with
      | nil => simp at h
      | cons w vs =>
        cases xs with
        | nil => simp only [Tls] at t; cases t
        | cons x xs =>
          simp only [Tls] at t
          obtain ⟨w', r, e, t1, t2⟩ := t
          cases e
          obtain ⟨us, u1, u2, u3⟩ := ih (by simpa using h) t2
          simp only [List.zip_cons_cons, List.map_cons]
          by_cases q : n = k
          · subst q
            exact ⟨v :: us, by simp [u1], by simp [u2], by simpa using Tls.cons td u3⟩
          · exact ⟨w :: us, by simp [q, u1], by simp [u2], by simpa [q] using Tls.cons t1 u3⟩
  · simp only [q, if_false, Bool.false_eq_true]
    exact ⟨vs ++ [v], by rw [List.zip_append h]; simp, by simp [h], t.append (Tls.cons td Tls.nil)⟩
section
variable {X : Cx} {c : Cf} {r ix e : Expr} {i : Nat} {g : Sg → Res (List Nat)} {f fk : Sg → Res D} {pos : Pos} {Γ : Sg} {σ : St} {H : Hp}
theorem putT_ok {K : PySem.W.Frag} {d : D} {y : V} {k : List Key} {v : V} {B : Hp} {m' m'' : M} {S' : Fp} (t : Tl K (c.at' B) H d y) (e : putTM k d m' = some m'') (o : Ow K c.z H m' v S') :
    ∃ a kvs, v = .ref a ∧ H a = some (.dT kvs) ∧ kvs.length < 1000000 ∧ S' a ∧ Ow K c.z (upd H a (.dT (putK kvs k y))) m'' (.ref a) S' := by
  cases m' with
  | k ks xs =>
    cases ks with
    | s _ => cases e
    | t ks =>
    simp only [putTM] at e
    split at e
    · rename_i hc
      cases e
      simp only [Ow] at o ⊢
      obtain ⟨a, vs, rfl, o2, o3, o4, o5⟩ := o
      have o3 : H a = some (.dT (ks.zip vs)) := o3
      obtain ⟨us, u1, u2, u3⟩ := put_zipT (k := k) o4 o5 (Tl.down (B := B) (tm := true) t hc.1)
      refine ⟨a, _, rfl, o3, by rw [List.length_zip]; omega, o2, a, us, rfl, o2, ?_, u2, u3.keep (Keep.dT o3)⟩
      rw [upd_same, u1]; rfl
    · cases e
  | _ => cases e
theorem pds_putT {pt : Pos} (hu : X.A.units + 1 < cLine) (hr : ∀ B, PP X (c.at' B) r i g) (hk : ∀ B, PD X (c.at' B) ix fk) (he : ∀ B, PD X (c.at' B) e f) (hs : swapsWith e (some (.Subscript r ix pt)) pos.line X.env = pure false := by rfl) :
    PDS X c (.Assign [.Subscript r ix pt] e pos) (sPutT i g fk f) := by
  intro pins s σ H E I ⟨Γ, j, h⟩
  refine ps_dput hu (hr H) (hk H) (he H) hs pins s σ H E I ?_
  refine ⟨Γ, j.lift, Fn.ok j h fun d _ q y H1 s1 t => ?_⟩
  refine ⟨Γ, j.lift.mono s1, Ok.mono (H := H) s1 (Fn.ok (tm := true) (B := H) j q fun ks _ q v H2 s2 pa => ?_) fun _ z => z⟩
  refine ⟨Γ, (j.lift.mono s1).mono s2, Ok.mono (H := H) (s1.trans s2) (Fn.ok (tm := true) (B := H) j q fun z _ q u H3 s3 t3 => ?_) fun _ z => z⟩
  split at q
  · rename_i k hk'
    have sm := (s1.trans s2).trans s3
    have j3 := j.mono sm
    obtain ⟨sl, m, v0, m', p1, p2, p3, p4, p5⟩ := pa.same s3
    have ty := t.keep (Same.keep (s2.trans s3))
    have e1 : upM i ks (putTM k d) Γ = (putTM k d m').map fun m'' => Γ.set i (reS sl (putM m ks m'')) := by unfold upM; rw [p1, Option.bind_some, p2, Option.bind_some, p5, Option.bind_some]
    rw [e1] at q
    cases z : putTM k d m' with
    | none => rw [z] at q; exact q.elim
    | some m'' =>
      rw [z] at q
      obtain ⟨vv, S, g1, o1⟩ := j3.ofM p1 p2
      rw [p3] at g1; cases g1
      obtain ⟨S', o', _⟩ := o1.foc p4 p5
      obtain ⟨a, kvs, rfl, ha, hl, _⟩ := putT_ok ty z o'
      obtain ⟨p, rfl, hp⟩ := keyT_kV t3 hk'
      refine ⟨a, _, rfl, .inr ⟨kvs, k, p, ha, rfl, hp, Nat.lt_trans hl sizeLine_big, rfl⟩, ?_⟩
      have kp : Keep c.cb H3 (upd H3 a (.dT (putK kvs k y))) := Keep.dT ha
      refine q σ _ ((Same.keep sm).trans kp) (j3.up p1 p2 p3 p4 p5 kp fun S' o => ?_)
      obtain ⟨a', kvs', e2, ha', _, w1, w2⟩ := putT_ok ty z o
      cases e2
      rw [ha] at ha'; cases ha'
      exact ⟨w1, w2⟩
  · exact q.elim
theorem wds_putT {pt : Pos} (hu : X.A.units + 1 < cLine) (hr : ∀ B, WP X (c.at' B) r i g) (hk : ∀ B, WD X (c.at' B) ix fk) (he : ∀ B, WD X (c.at' B) e f) (hs : swapsWith e (some (.Subscript r ix pt)) pos.line X.env = pure false := by rfl) : WDS X c (.Assign [.Subscript r ix pt] e pos) (sPutT i g fk f) := ⟨pds_putT (hu := hu) (hr := (fun B => (hr B).out)) (hk := (fun B => (hk B).out)) (he := (fun B => (he B).out)) (hs := hs)⟩
end
end L4
end
section
set_option Elab.async false
set_option linter.all false
namespace L4
open PySem PySem.W PyProof.Rows
def kWp {α : Type} (lt : Nat → Nat → Bool) (n : Nat) : KasT α → (α → Prop) → Prop
  | .ret a, Q => Q a
  | .ask i j k, Q => i < n ∧ j < n ∧ i ≠ j ∧ kWp lt n (k (lt i j)) Q
theorem kWp_bind {α β : Type} {lt : Nat → Nat → Bool} {n : Nat} {f : α → KasT β} {Q : β → Prop} : ∀ {t : KasT α}, kWp lt n t (fun a => kWp lt n (f a) Q) → kWp lt n (t.bind f) Q
  | .ret _, h => h
  | .ask _ _ _, ⟨h1, h2, h3, h4⟩ => ⟨h1, h2, h3, kWp_bind h4⟩
theorem kas_of_wp {α : Type} {n : Nat} {lt : Nat → Nat → Bool} {cmp : Nat → Nat → (Bool → Shared → Prop) → Shared → Prop} {s : Shared} {Q : α → Shared → Prop} (hc : ∀ i j C, i < n → j < n → i ≠ j → C (lt i j) s → cmp i j C s) :
    ∀ {t : KasT α}, kWp lt n t (fun a => Q a s) → t.kasWp cmp Q s
  | .ret _, h => h
  | .ask i j k, ⟨h1, h2, h3, h4⟩ => hc i j _ h1 h2 h3 (kas_of_wp hc h4)
structure Ord (lt : Nat → Nat → Bool) (n : Nat) : Prop where
  tot : ∀ i j, i < n → j < n → i ≠ j → lt i j = !lt j i
  tr : ∀ i j k, i < n → j < n → k < n → lt i j = true → lt j k = true → lt i k = true
structure Pm (n : Nat) (p : Array Nat) : Prop where
  size : p.size = n
  low : ∀ k, k < n → p.getD k 0 < n
  inj : ∀ i j, i < n → j < n → p.getD i 0 = p.getD j 0 → i = j
theorem Pm.of_perm {n : Nat} {p : Array Nat} (h : p.toList.Perm (List.range n)) : Pm n p := by
  have hl : p.size = n := by have := h.length_eq; simpa using this
  have nd : p.toList.Nodup := h.nodup_iff.mpr List.nodup_range
  have gd : ∀ k, k < n → ∃ hk : k < p.toList.length, p.getD k 0 = p.toList[k] := fun k hk => by
    have hk' : k < p.size := by omega
    exact ⟨by simpa using hk', by simp [Array.getD_eq_getD_getElem?, hk']⟩
  refine ⟨hl, fun k hk => ?_, fun i j hi hj e => ?_⟩
  · obtain ⟨hk', e⟩ := gd k hk
    rw [e]
    have := h.mem_iff.mp (List.getElem_mem hk')
    simpa using this
  · obtain ⟨hi', ei⟩ := gd i hi
    obtain ⟨hj', ej⟩ := gd j hj
    rw [ei, ej] at e
    have pw := List.pairwise_iff_getElem.mp nd
    by_cases h1 : i < j
    · exact absurd e (pw i j hi' hj' h1)
    · by_cases h2 : j < i
      · exact absurd e.symm (pw j i hj' hi' h2)
      · omega
theorem getD_of {p q : Array Nat} {i j : Nat} (h : p[i]? = q[j]?) : p.getD i 0 = q.getD j 0 := by
  simp only [Array.getD_eq_getD_getElem?, h]
section
variable {lt : Nat → Nat → Bool} {n : Nat}
def Up (lt : Nat → Nat → Bool) (p : Array Nat) (r : Nat) : Prop := ∀ i j, i < j → j < r → lt (p.getD i 0) (p.getD j 0) = true
theorem Up.of_adj {p : Array Nat} {r : Nat} (O : Ord lt n) (P : Pm n p) (hr : r ≤ n) (h : ∀ k, 1 ≤ k → k < r → lt (p.getD k 0) (p.getD (k - 1) 0) = false) : Up lt p r := by
  have adj : ∀ k, k + 1 < r → lt (p.getD k 0) (p.getD (k + 1) 0) = true := fun k hk => by
    have h1 := h (k + 1) (by omega) hk
    rw [O.tot _ _ (P.low k (by omega)) (P.low (k + 1) (by omega)) (fun e => by have := P.inj k (k + 1) (by omega) (by omega) e; omega)]
    simpa using h1
  have all : ∀ d i, i + d + 1 < r → lt (p.getD i 0) (p.getD (i + d + 1) 0) = true := by
    intro d
    induction d with
    | zero => intro i hi; exact adj i hi
    | succ d ih =>
      intro i hi
      exact O.tr _ _ _ (P.low i (by omega)) (P.low (i + d + 1) (by omega)) (P.low (i + (d + 1) + 1) (by omega)) (ih i (by omega)) (adj (i + d + 1) (by omega))
  intro i j hij hj
  have := all (j - i - 1) i (by omega)
  rwa [show i + (j - i - 1) + 1 = j by omega] at this
theorem kWp_asc {p : Array Nat} (P : Pm n p) {Q : Nat → Prop} : ∀ (f m : Nat), 1 ≤ m → m + f = n →
    (∀ r, m ≤ r → r ≤ n → (∀ k, m ≤ k → k < r → lt (p.getD k 0) (p.getD (k - 1) 0) = false) → (r < n → lt (p.getD r 0) (p.getD (r - 1) 0) = true) → Q r) → kWp lt n (kas_asc p f m) Q
  | 0, m, _, hf, q => q m (Nat.le_refl _) (by omega) (fun k h1 h2 => by omega) (fun h => by omega)
  | f + 1, m, h1, hf, q => by
    refine ⟨P.low m (by omega), P.low (m - 1) (by omega), fun e => by have := P.inj m (m - 1) (by omega) (by omega) e; omega, ?_⟩
    cases hc : lt (p.getD m 0) (p.getD (m - 1) 0) with
    | true => exact q m (Nat.le_refl _) (by omega) (fun k h1 h2 => by omega) (fun _ => hc)
    | false =>
      simp only [Bool.false_eq_true, if_false]
      refine kWp_asc P f (m + 1) (by omega) (by omega) fun r hr hr2 ha hd => q r (by omega) hr2 (fun k k1 k2 => ?_) hd
      by_cases e : k = m
      · subst e; exact hc
      · exact ha k (by omega) k2
theorem kWp_desc (O : Ord lt n) {p : Array Nat} (P : Pm n p) {Q : Array Nat × Nat × Nat → Prop} : ∀ (f m : Nat), 1 ≤ m → m + f = n → (∀ k, 1 ≤ k → k < m → lt (p.getD k 0) (p.getD (k - 1) 0) = true) →
    (∀ r, m ≤ r → r ≤ n → (∀ k, 1 ≤ k → k < r → lt (p.getD k 0) (p.getD (k - 1) 0) = true) → Q (p, r, 0)) → kWp lt n (kas_desc f p m 0) Q
  | 0, m, _, hf, ha, q => q m (Nat.le_refl _) (by omega) ha
  | f + 1, m, h1, hf, ha, q => by
    have ne : p.getD m 0 ≠ p.getD (m - 1) 0 := fun e => by have := P.inj m (m - 1) (by omega) (by omega) e; omega
    refine ⟨P.low m (by omega), P.low (m - 1) (by omega), ne, ?_⟩
    cases hc : lt (p.getD m 0) (p.getD (m - 1) 0) with
    | true =>
      simp only [if_true, Nat.lt_irrefl, if_false, gt_iff_lt]
      refine kWp_desc O P f (m + 1) (by omega) (by omega) (fun k k1 k2 => ?_) fun r hr hr2 hd => q r (by omega) hr2 hd
      by_cases e : k = m
      · subst e; exact hc
      · exact ha k k1 (by omega)
    | false =>
      simp only [Bool.false_eq_true, if_false]
      refine ⟨P.low (m - 1) (by omega), P.low m (by omega), Ne.symm ne, ?_⟩
      have : lt (p.getD (m - 1) 0) (p.getD m 0) = true := by
        rw [O.tot _ _ (P.low (m - 1) (by omega)) (P.low m (by omega)) (Ne.symm ne), hc]; rfl
      rw [this]
      simp only [if_true]
      exact q m (Nat.le_refl _) (by omega) ha
theorem rev_perm {p : Array Nat} {i j : Nat} : (kas_rev p i j).toList.Perm p.toList := by
  have := mirror_perm p i j ((j - i) / 2)
  exact Array.perm_iff_toList_perm.mp this
theorem rev_getD {p : Array Nat} {m k : Nat} (hm : m ≤ p.size) (hk : k < m) : (kas_rev p 0 m).getD k 0 = p.getD (m - 1 - k) 0 := by
  refine getD_of ?_
  unfold kas_rev
  rw [getElem?_mirror_all hm k, if_pos ⟨Nat.zero_le _, hk⟩]
  congr 1
  omega
theorem kWp_count (O : Ord lt n) {p : Array Nat} (hp : p.toList.Perm (List.range n)) (h1 : 1 ≤ n) {Q : Nat × Array Nat → Prop}
    (q : ∀ r p', p'.toList.Perm (List.range n) → 1 ≤ r → r ≤ n → Up lt p' r → Q (r, p')) : kWp lt n (kas_count n p) Q := by
  have P := Pm.of_perm hp
  refine kWp_bind (kWp_asc P (n - 1) 1 (Nat.le_refl _) (by omega) fun r hr hr2 ha hd => ?_)
  have up : Up lt p r := Up.of_adj O P hr2 ha
  by_cases e : r = n
  · simp only [e, beq_self_eq_true, if_true]
    exact q n p hp h1 (Nat.le_refl _) (e ▸ up)
  · have e' : (r == n) = false := by simpa using e
    simp only [e', Bool.false_eq_true, if_false]
    by_cases r1 : r > 1
    · simp only [r1, if_true]
      have lt0 : lt (p.getD 0 0) (p.getD (r - 1) 0) = true := up 0 (r - 1) (by omega) (by omega)
      refine ⟨P.low 0 (by omega), P.low (r - 1) (by omega), fun z => by have := P.inj 0 (r - 1) (by omega) (by omega) z; omega, ?_⟩
      rw [lt0]
      simp only [if_true]
      exact q r p hp hr hr2 up
    · simp only [r1, if_false]
      have r1 : r = 1 := by omega
      subst r1
      have d1 := hd (by omega)
      have d2 : ∀ k, 1 ≤ k → k < 1 + 1 → lt (p.getD k 0) (p.getD (k - 1) 0) = true := fun k k1 k2 => by
        have z : k = 1 := by omega
        subst z
        exact d1
      refine kWp_bind (kWp_desc O P (n - (1 + 1)) (1 + 1) (by omega) (by omega) d2 fun m hm hm2 hdn => ?_)
      simp only [gt_iff_lt, Nat.lt_irrefl, if_false]
      have hp' : (kas_rev p 0 m).toList.Perm (List.range n) := rev_perm.trans hp
      have P' := Pm.of_perm hp'
      refine kWp_bind (kWp_asc P' (n - m) m (by omega) (by omega) fun r' hr' hr2' ha' _ => ?_)
      refine q r' _ hp' (by omega) hr2' (Up.of_adj O P' hr2' fun k k1 k2 => ?_)
      by_cases hk : k < m
      · rw [rev_getD (by rw [P.size]; omega) hk, rev_getD (by rw [P.size]; omega) (by omega)]
        have := hdn (m - 1 - (k - 1)) (by omega) (by omega)
        rw [show m - 1 - (k - 1) - 1 = m - 1 - k by omega] at this
        rw [O.tot _ _ (P.low _ (by omega)) (P.low _ (by omega)) (fun z => by have := P.inj _ _ (by omega) (by omega) z; omega), this]; rfl
      · exact ha' k (by omega) k2
theorem kWp_place (O : Ord lt n) {p : Array Nat} (P : Pm n p) {k : Nat} (hk : k < n) (up : Up lt p k) {Q : Nat → Prop} : ∀ (f l r : Nat), l ≤ r → r ≤ k → r - l ≤ f →
    (∀ i, i < l → lt (p.getD i 0) (p.getD k 0) = true) → (∀ i, r ≤ i → i < k → lt (p.getD k 0) (p.getD i 0) = true) →
    (∀ m, m ≤ k → (∀ i, i < m → lt (p.getD i 0) (p.getD k 0) = true) → (∀ i, m ≤ i → i < k → lt (p.getD k 0) (p.getD i 0) = true) → Q m) → kWp lt n (kas_place p k f l r) Q
  | 0, l, r, hl, hr, hf, a, b, q => q l (by omega) a (fun i h1 h2 => b i (by omega) h2)
  | f + 1, l, r, hl, hr, hf, a, b, q => by
    unfold kas_place
    by_cases e : l ≥ r
    · rw [if_pos e]
      exact q l (by omega) a (fun i h1 h2 => b i (by omega) h2)
    · rw [if_neg e]
      have ne : p.getD k 0 ≠ p.getD ((l + r) / 2) 0 := fun z => by have := P.inj _ _ hk (by omega) z; omega
      refine ⟨P.low k hk, P.low _ (by omega), ne, ?_⟩
      cases hc : lt (p.getD k 0) (p.getD ((l + r) / 2) 0) with
      | true =>
        simp only [if_true]
        refine kWp_place O P hk up f l ((l + r) / 2) (by omega) (by omega) (by omega) a (fun i h1 h2 => ?_) q
        by_cases z : i = (l + r) / 2
        · subst z; exact hc
        · exact O.tr _ _ _ (P.low k hk) (P.low ((l + r) / 2) (by omega)) (P.low i (by omega)) hc (up _ _ (by omega) h2)
      | false =>
        simp only [Bool.false_eq_true, if_false]
        have hm : lt (p.getD ((l + r) / 2) 0) (p.getD k 0) = true := by
          rw [O.tot _ _ (P.low _ (by omega)) (P.low k hk) (Ne.symm ne), hc]; rfl
        refine kWp_place O P hk up f ((l + r) / 2 + 1) r (by omega) hr (by omega) (fun i h1 => ?_) b q
        by_cases z : i = (l + r) / 2
        · subst z; exact hm
        · exact O.tr _ _ _ (P.low i (by omega)) (P.low ((l + r) / 2) (by omega)) (P.low k hk) (up _ _ (by omega) (by omega)) hm
theorem bub_perm {p : Array Nat} {k d : Nat} : (bubble p k d).toList.Perm p.toList := Array.perm_iff_toList_perm.mp (bubble_perm p k d)
theorem bub_up (O : Ord lt n) {p : Array Nat} (P : Pm n p) {k m : Nat} (hk : k < n) (hm : m ≤ k) (up : Up lt p k) (a : ∀ i, i < m → lt (p.getD i 0) (p.getD k 0) = true) (b : ∀ i, m ≤ i → i < k → lt (p.getD k 0) (p.getD i 0) = true) :
    Up lt (bubble p k (k - m)) (k + 1) := by
  have g : ∀ i, (bubble p k (k - m)).getD i 0 = if i = m then p.getD k 0 else if m < i ∧ i ≤ k then p.getD (i - 1) 0 else p.getD i 0 := fun i => by
    have h := getElem?_bubble (xs := p) (src := k) (by rw [P.size]; exact hk) (k - m) (by omega) i
    rw [show k - (k - m) = m by omega] at h
    split
    · rename_i z; rw [if_pos z] at h; exact getD_of h
    · rename_i z
      rw [if_neg z] at h
      split
      · rename_i y; rw [if_pos y] at h; exact getD_of h
      · rename_i y; rw [if_neg y] at h; exact getD_of h
  intro i j hij hj
  rw [g i, g j]
  by_cases i1 : i = m
  · rw [if_pos i1, if_neg (by omega), if_pos (by omega)]
    exact b (j - 1) (by omega) (by omega)
  · rw [if_neg i1]
    by_cases i2 : m < i
    · rw [if_pos (by omega), if_neg (by omega), if_pos (by omega)]
      exact up _ _ (by omega) (by omega)
    · rw [if_neg (by omega)]
      by_cases j1 : j = m
      · rw [if_pos j1]; exact a i (by omega)
      · rw [if_neg j1]
        by_cases j2 : m < j
        · rw [if_pos (by omega)]
          exact up _ _ (by omega) (by omega)
        · rw [if_neg (by omega)]
          exact up _ _ hij (by omega)
theorem kWp_bin (O : Ord lt n) {Q : Array Nat → Prop} (q : ∀ p, p.toList.Perm (List.range n) → Up lt p n → Q p) : ∀ (f : Nat) (p : Array Nat) (k : Nat), p.toList.Perm (List.range n) → k + f = n → Up lt p k → kWp lt n (kas_bin f p k) Q
  | 0, p, k, hp, hf, up => q p hp (by rwa [show k = n by omega] at up)
  | f + 1, p, k, hp, hf, up => by
    have P := Pm.of_perm hp
    refine kWp_bind (kWp_place O P (by omega) up k 0 k (Nat.zero_le _) (Nat.le_refl _) (by omega) (fun i h => by omega) (fun i h1 h2 => by omega) fun m hm a b => ?_)
    exact kWp_bin O q f _ (k + 1) (bub_perm.trans hp) (by omega) (bub_up O P (by omega) hm up a b)
theorem kWp_sort (O : Ord lt n) (h1 : 1 ≤ n) {Q : Array Nat → Prop} (q : ∀ p, p.toList.Perm (List.range n) → Up lt p n → Q p) : kWp lt n (kas_sort n) Q := by
  refine kWp_bind (kWp_count O (p := (List.range n).toArray) (by simp) h1 fun r p hp r1 r2 up => ?_)
  by_cases e : r < n
  · simp only [e, if_true]
    rw [show max r 1 = r by omega]
    exact kWp_bin O q _ _ _ hp (by omega) up
  · simp only [e, if_false]
    exact q p hp (by rwa [show r = n by omega] at up)
theorem Up.pairwise {p : Array Nat} (h : Up lt p p.size) : p.toList.Pairwise (fun a b => lt a b = true) := by
  rw [List.pairwise_iff_getElem]
  intro i j hi hj hij
  have := h i j hij (by simpa using hj)
  simp only [Array.getD_eq_getD_getElem?] at this
  have hi' : i < p.size := by simpa using hi
  have hj' : j < p.size := by simpa using hj
  simpa [hi', hj'] using this
end
end L4
end
section
set_option Elab.async false
set_option linter.all false
set_option maxRecDepth 100000
namespace L4
open PySem PySem.Calls PyProof.Rows PySem.W PyProof.V PySem.Spec
def Ent (h : Heap) (d : Addr) (es : Array DictEntry) (ep : Nat) : Prop := ∃ o, h.get? d = some o ∧ o.data = .dict es ep
theorem Ent.at {h h' : Heap} {d : Addr} {es : Array DictEntry} {ep : Nat} (e : Ent h d es ep) (k : ∀ o, h.get? d = some o → h'.get? d = some o) : Ent h' d es ep := let ⟨o, a, b⟩ := e; ⟨o, k o a, b⟩
abbrev itO (x y : Value) (d : Addr) (i n ep : Nat) (p q : Value) : Obj := { cls := .type "dict_itemiterator", dict := none, data := .fields #[x, y, .ref d, .int i 0, .int n 0, .int ep 0, p, q], slots := #[] }
abbrev prO (a b : Value) : Obj := { cls := .type "tuple", data := .seq #[a, b] }
def Gone (h : Heap) (it S : Addr) (x y : Value) : Prop := ∃ (a : Addr) (f : Bool) (o : Obj), x = rawInt a ∧ y = .bool f ∧ h.get? a = some o ∧ a ≠ it ∧ a ≠ S
section
variable {prog : Program} {w : World} {A : Around} {E : Value → Shared → Prop} {s : Shared}
theorem nx_item {it d S : Addr} {i ep : Nat} {es : Array DictEntry} {x y p q : Value} {Q : Option Value → Shared → Prop} (hit : s.heap.get? it = some (itO x y d i es.size ep p q)) (hx : (x = .none ∧ y = .bool false) ∨ Gone s.heap it S x y) (hd : Ent s.heap d es ep) (hi : i < es.size) (hS : S < s.heap.objs.size)
    (hQ : ∀ h' x' y' p' q', h'.get? it = some (itO x' y' d (i + 1) es.size ep p' q') → Gone h' it S x' y' → h'.get? s.heap.objs.size = some (prO es[i].key es[i].val) → h'.objs.size = s.heap.objs.size + 1 → (∀ b o, b ≠ it → s.heap.get? b = some o → h'.get? b = some o) → Q (some (.ref s.heap.objs.size)) { s with heap := h' }) :
    wpAny (model prog w) A (pyNext (.ref it)) Q E s := by
  obtain ⟨hp, g, dr, tk, os⟩ := s
  obtain ⟨od, ho, hdd⟩ := hd
  have ty : Shared.TypeIs ⟨hp, g, dr, tk, os⟩ (.ref it) "dict_itemiterator" := ⟨_, hit, rfl⟩
  unfold pyNext
  refine wpAny_bind (wpAny_attempt (wpAny_callSpecial?_slot (name := Str.ofString "__next__") ty PySem.F.slot_dict_itemiterator_next (wpAny_call_entry PySem.F.slot_dict_itemiterator_next ty PySem.F.entry_dict_itemiterator_next ?_ (PySem.F.args_dict_itemiterator_next_1 _))))
  refine wpAny_bind (wpAny_pure (wpAny_bind (wpAny_bind ?_)))
  first | refine wpAny_bind (wpAny_typeNameOfWhole_itemiter ty (wpAny_pure (wpAny_bind (wpAny_fieldsOf hit rfl ?_)))) | refine wpAny_bind (wpAny_typeNameOf_itemiter ty (wpAny_pure (wpAny_bind (wpAny_fieldsOf hit rfl ?_))))
  have own : Builtin.Dict_items.ownsTuple "dict_itemiterator" = true := by decide
  simp only [own, if_true]
  show wpAny _ _ (if (Value.ref d == Value.none) = true then _ else _) _ _ (Shared.mk hp g dr tk os)
  rw [if_neg (fun z : (Value.ref d == Value.none) = true => Bool.false_ne_true z)]
  refine wpAny_bind (wpAny_pure (wpAny_bind (wpAny_dictEntries ho hdd ?_)))
  rw [if_neg (by simp)]
  refine wpAny_bind (wpAny_pure (wpAny_bind (wpAny_dictEpoch ho hdd ?_)))
  rw [if_neg (by simp)]
  refine wpAny_pure ?_
  simp only [show ¬ ((i : Int) < 0) from by omega, if_false, Int.toNat_natCast, Array.getElem?_eq_getElem hi]
  refine wpAny_bind ?_
  first | refine wpAny_bind (wpAny_typeNameOfWhole_itemiter ty (wpAny_pure (wpAny_bind (wpAny_isOneOf_itemiter ty ?_)))) | refine wpAny_bind (wpAny_typeNameOf_itemiter ty (wpAny_pure (wpAny_bind (wpAny_isOneOf_itemiter ty ?_))))
  show wpAny _ _ (setField (.ref it) 3 (rawInt ((i : Int) + 1)) >>= _) _ _ (Shared.mk hp g dr tk os)
  refine wpAny_bind (wpAny_setField_rec hit (by simp) fun h1 e1 s1 => ?_)
  replace s1 : Heap.SameBut it hp h1 := s1
  replace e1 : h1.get? it = some (itO x y d (i + 1) es.size ep p q) := by
    have e : ((i + 1 : Nat) : Int) = (i : Int) + 1 := by omega
    simp only [itO, e]; simpa [rawInt] using e1
  have ty1 : Shared.TypeIs ⟨h1, g, dr, tk, os⟩ (.ref it) "dict_itemiterator" := ⟨_, e1, rfl⟩
  refine wpAny_bind (wpAny_holding (wpAny_bind (wpAny_isOneOf_itemiter ty1 (wpAny_bind (wpAny_isOneOf_itemiter ty1 ?_)))))
  show wpAny _ _ (Builtin.Dict_items.pairFromOwner (.ref it) 6 es[i].key es[i].val) _ _ (Shared.mk h1 g dr tk os)
  unfold Builtin.Dict_items.pairFromOwner
  refine wpAny_bind (wpAny_newTuple ?_)
  have e2 : (h1.push (prO es[i].key es[i].val)).get? it = some (itO x y d (i + 1) es.size ep p q) := Heap.get?_push_of_some _ e1
  have z1 : h1.objs.size = hp.objs.size := s1.1
  have il : it < hp.objs.size := Heap.lt_size hit
  have t2 : (h1.push (prO es[i].key es[i].val)).get? hp.objs.size = some (prO es[i].key es[i].val) := by rw [← z1]; exact Heap.get?_push_size _ rfl
  have z2 : (h1.push (prO es[i].key es[i].val)).objs.size = hp.objs.size + 1 := by rw [Heap.size_push, z1]
  have k2 : ∀ b o, b ≠ it → hp.get? b = some o → (h1.push (prO es[i].key es[i].val)).get? b = some o := fun b o hb e => Heap.get?_push_of_some _ (s1.extBut b o hb e)
  show wpAny _ _ (Builtin.Dict_items.ownedTupleIsFree (.ref it) >>= _) _ _ (Shared.mk (h1.push (prO es[i].key es[i].val)) g dr tk os)
  rw [z1]
  generalize h1.push (prO es[i].key es[i].val) = h2 at e2 t2 z2 k2
  refine wpAny_bind ?_
  unfold Builtin.Dict_items.ownedTupleIsFree
  rcases hx with ⟨rfl, rfl⟩ | ⟨a, f, oa, rfl, rfl, ha, hai, haS⟩
  · refine wpAny_bind (wpAny_field e2 rfl (x := .none) rfl (wpAny_pure ?_))
    simp only [if_true]
    refine wpAny_bind (wpAny_field e2 rfl (x := p) rfl (wpAny_bind (wpAny_field e2 rfl (x := q) rfl ?_)))
    refine wpAny_bind (wpAny_setField_rec e2 (by simp) fun h3 e3 s3 => wpAny_bind (wpAny_setField_rec e3 (by simp) fun h4 e4 s4 => wpAny_bind (wpAny_setField_rec e4 (by simp) fun h5 e5 s5 => wpAny_bind (wpAny_setField_rec e5 (by simp) fun h6 e6 s6 => ?_))))
    replace s3 : Heap.SameBut it h2 h3 := s3
    replace s4 : Heap.SameBut it h3 h4 := s4
    replace s5 : Heap.SameBut it h4 h5 := s5
    replace s6 : Heap.SameBut it h5 h6 := s6
    replace e6 : h6.get? it = some (itO (rawInt hp.objs.size) (.bool false) d (i + 1) es.size ep es[i].key es[i].val) := e6
    have up : ∀ b o, b ≠ it → h2.get? b = some o → h6.get? b = some o := fun b o hb e => s6.extBut b o hb (s5.extBut b o hb (s4.extBut b o hb (s3.extBut b o hb e)))
    have t6 := up _ _ (Nat.ne_of_gt il) t2
    refine wpAny_bind (wpAny_letGo (wpAny_pure (wpAny_pure ⟨_, rfl, wpAny_pure (hQ h6 _ _ _ _ e6 ⟨_, false, _, rfl, rfl, t6, Nat.ne_of_gt il, Nat.ne_of_gt hS⟩ t6 ?_ fun b o hb e => up b o hb (k2 b o hb e))⟩)))
    show h6.objs.size = hp.objs.size + 1
    rw [s6.1, s5.1, s4.1, s3.1, z2]
  · have fin : ∀ h3 : Heap, h3.get? it = some (itO (rawInt a) (.bool true) d (i + 1) es.size ep p q) → Heap.SameBut it h2 h3 → Q (some (.ref hp.objs.size)) ⟨h3, g, dr, tk, os⟩ := fun h3 e3 s3 =>
      hQ h3 _ _ _ _ e3 ⟨a, true, oa, rfl, rfl, s3.extBut _ _ hai (k2 _ _ hai ha), hai, haS⟩ (s3.extBut _ _ (Nat.ne_of_gt il) t2) (by show h3.objs.size = hp.objs.size + 1; rw [s3.1, z2]) fun b o hb e => s3.extBut b o hb (k2 b o hb e)
    refine wpAny_bind (wpAny_field e2 rfl (x := rawInt a) rfl ?_)
    show wpAny _ _ (loadIfAlive ((a : Int).toNat) >>= _) _ _ (Shared.mk h2 g dr tk os)
    rw [Int.toNat_natCast]
    refine wpAny_bind (kdx_alive (k2 _ _ hai ha) ?_)
    simp only [Option.isNone_some, Bool.false_eq_true, if_false]
    refine wpAny_bind (wpAny_field e2 rfl (x := .bool f) rfl ?_)
    cases f with
    | true =>
      rw [if_neg (by decide)]
      refine wpAny_pure ?_
      simp only [Bool.false_eq_true, if_false]
      exact wpAny_pure (wpAny_pure ⟨_, rfl, wpAny_pure (fin h2 e2 (Heap.SameBut.refl _ _))⟩)
    | false =>
      rw [if_pos (by decide)]
      refine wpAny_bind (wpAny_setField_rec e2 (by simp) fun h3 e3 s3 => wpAny_pure ?_)
      simp only [Bool.false_eq_true, if_false]
      exact wpAny_pure (wpAny_pure ⟨_, rfl, wpAny_pure (fin h3 e3 s3)⟩)
theorem nx_end {it d : Addr} {i ep : Nat} {es : Array DictEntry} {x y p q : Value} {Q : Option Value → Shared → Prop} (hh : A.handled = none) (hit : s.heap.get? it = some (itO x y d i es.size ep p q)) (hd : Ent s.heap d es ep) (hi : es.size ≤ i)
    (hQ : ∀ h', Heap.ExtBut it s.heap h' → Q none { s with heap := h' }) : wpAny (model prog w) A (pyNext (.ref it)) Q E s := by
  obtain ⟨od, ho, hdd⟩ := hd
  have ty : s.TypeIs (.ref it) "dict_itemiterator" := ⟨_, hit, rfl⟩
  unfold pyNext
  refine wpAny_bind (wpAny_attempt (wpAny_callSpecial?_slot (name := Str.ofString "__next__") ty PySem.F.slot_dict_itemiterator_next (wpAny_call_entry PySem.F.slot_dict_itemiterator_next ty PySem.F.entry_dict_itemiterator_next ?_ (PySem.F.args_dict_itemiterator_next_1 _))))
  refine wpAny_bind (wpAny_pure (wpAny_bind (wpAny_bind ?_)))
  first | refine wpAny_bind (wpAny_typeNameOfWhole_itemiter ty (wpAny_pure (wpAny_bind (wpAny_fieldsOf hit rfl ?_)))) | refine wpAny_bind (wpAny_typeNameOf_itemiter ty (wpAny_pure (wpAny_bind (wpAny_fieldsOf hit rfl ?_))))
  have own : Builtin.Dict_items.ownsTuple "dict_itemiterator" = true := by decide
  simp only [own, if_true]
  show wpAny _ _ (if (Value.ref d == Value.none) = true then _ else _) _ _ s
  rw [if_neg (fun z : (Value.ref d == Value.none) = true => Bool.false_ne_true z)]
  refine wpAny_bind (wpAny_pure (wpAny_bind (wpAny_dictEntries ho hdd ?_)))
  rw [if_neg (by simp)]
  refine wpAny_bind (wpAny_pure (wpAny_bind (wpAny_dictEpoch ho hdd ?_)))
  rw [if_neg (by simp)]
  refine wpAny_pure ?_
  simp only [show ¬ ((i : Int) < 0) from by omega, if_false, Int.toNat_natCast, Array.getElem?_eq_none hi]
  refine wpAny_bind ?_
  first | refine wpAny_bind (wpAny_typeNameOfWhole_itemiter ty (wpAny_pure ?_)) | refine wpAny_bind (wpAny_typeNameOf_itemiter ty (wpAny_pure ?_))
  show wpAny _ _ (setField (.ref it) 2 .none >>= _) _ _ s
  refine wpAny_bind (wpAny_setField hit rfl (by simp) ?_)
  show wpAny _ _ (newExc (.type "StopIteration") [] >>= _) _ _ _
  refine wpAny_bind ?_
  simp only [newExc, newTuple]
  refine wpAny_bind (wpAny_newObj_type (wpAny_bind (m := firstArgMember _ _) (wpAny_of_eq (a := Value.none) (by first | rfl | (simp only [firstArgMember]; rfl)) (wpAny_newObj_type ?_ (by size_fits)))) (by size_fits))
  simp only [raiseNew]
  refine wpAny_bind (wpAny_handled ?_)
  rw [show A.in1.handled = none from hh]
  refine wpAny_bind (wpAny_pure (wpAny_throw ?_)); refine wpAny_bind (wpAny_isInstance (T := "StopIteration") (b := true) ⟨_, Heap.get?_push_size _ rfl, rfl⟩ isSubtype_stop ?_)
  exact wpAny_pure (hQ _ (((Heap.SameBut.update ..).extBut.push _).push _))
def Wlk (h : Heap) (it d S : Addr) (i n ep : Nat) : Prop := ∃ x y p q, h.get? it = some (itO x y d i n ep p q) ∧ ((x = .none ∧ y = .bool false) ∨ Gone h it S x y)
theorem Wlk.keep {h h' : Heap} {it d S : Addr} {i n ep : Nat} (z : Wlk h it d S i n ep) (k : ∀ b o, b ≠ S → h.get? b = some o → h'.get? b = some o) (hI : it ≠ S) : Wlk h' it d S i n ep := by
  obtain ⟨x, y, p, q, e, g⟩ := z
  refine ⟨x, y, p, q, k _ _ hI e, g.imp id ?_⟩
  rintro ⟨a, f, o, r1, r2, r3, r4, r5⟩
  exact ⟨a, f, o, r1, r2, k _ _ r5 r3, r4, r5⟩
structure Told (h : Heap) (es : Array DictEntry) (lo : Addr) (as : List Addr) : Prop where
  above : ∀ a ∈ as, lo < a ∧ a < h.objs.size
  nd : as.Pairwise (· < ·)
  pair : ∀ (j : Nat) (a : Addr), as[j]? = some a → ∃ e : DictEntry, es[j]? = some e ∧ h.get? a = some (prO e.key e.val)
abbrev lsO (xs : Array Value) (c : Nat) : Obj := { cls := .type "list", dict := none, data := .seq xs c, slots := #[] }
theorem ext_loop {R : Result → Shared → Prop} {S I d : Addr} {es : Array DictEntry} {ep : Nat} (hh : A.handled = none) (hSI : S < I) (hSd : d ≠ S) (hId : d ≠ I) (hn : es.size ≤ sizeLine) (res : Value) {h0 : Heap}
    (hR : ∀ h' tk xs c as, (∀ b o, b ≠ S → b ≠ I → h0.get? b = some o → h'.get? b = some o) → h'.get? S = some (lsO xs c) → as.length = es.size → Told h' es I as → xs.toList = as.map Value.ref → R (.ok (.ret res)) { s with heap := h', toks := tk }) :
    ∀ (k i : Nat) (h : Heap) (tk c : Nat) (xs : Array Value) (as : List Addr), es.size - i = k → i ≤ es.size → Wlk h I d S i es.size ep → Ent h d es ep → (∀ b o, b ≠ S → b ≠ I → h0.get? b = some o → h.get? b = some o) →
      h.get? S = some (lsO xs c) → xs.toList = as.map Value.ref → as.length = i → Told h es I as → codeAny (model prog w) A (.builtin "list.extend.loop" ⟨[.ref S, .ref I, res], []⟩) R { s with heap := h, toks := tk } := by
  have ne : S ≠ I := Nat.ne_of_lt hSI
  intro k
  induction k with
  | zero =>
    intro i h tk c xs as hk hi wk en kp hS hx hl T
    refine codeAny_builtin PySem.F.entry_extend_loop ?_
    rw [Around.under_plainId PySem.F.plain_extend_loop _]
    obtain ⟨x, y, p, q, e, _⟩ := wk
    show wpAny _ A.in1 (pyNext (.ref I) >>= _) _ _ (Shared.mk h s.gens s.drawn tk s.os)
    refine wpAny_bind (nx_end (s := Shared.mk h s.gens s.drawn tk s.os) (A := A.in1) hh e en (by omega) fun h' he => ?_)
    refine wpAny_pure (hR h' tk xs c as (fun b o h1 h2 z => he b o h2 (kp b o h1 h2 z)) (he S _ ne hS) (by omega) ⟨fun a ha => ?_, T.nd, fun j a hj => ?_⟩ hx)
    · obtain ⟨j, hj⟩ := List.mem_iff_getElem?.mp ha
      obtain ⟨e', _, z⟩ := T.pair j a hj
      exact ⟨(T.above a ha).1, Heap.lt_size (he a _ (Nat.ne_of_gt (T.above a ha).1) z)⟩
    · obtain ⟨e', z1, z2⟩ := T.pair j a hj
      exact ⟨e', z1, he a _ (Nat.ne_of_gt (T.above a (List.mem_of_getElem? hj)).1) z2⟩
  | succ k ih =>
    intro i h tk c xs as hk hi wk en kp hS hx hl T
    have lt : i < es.size := by omega
    have sz : xs.size = i := by rw [← Array.length_toList, hx, List.length_map, hl]
    refine codeAny_builtin PySem.F.entry_extend_loop ?_
    rw [Around.under_plainId PySem.F.plain_extend_loop _]
    obtain ⟨x, y, p, q, e, gn⟩ := wk
    have Il : I < h.objs.size := Heap.lt_size e
    have Sl : S < h.objs.size := Heap.lt_size hS
    show wpAny _ A.in1 (pyNext (.ref I) >>= _) _ _ (Shared.mk h s.gens s.drawn tk s.os)
    refine wpAny_bind (nx_item (s := Shared.mk h s.gens s.drawn tk s.os) (S := S) e gn en lt Sl fun h' x' y' p' q' e' gn' t' z' k' => ?_)
    replace k' : ∀ b o, b ≠ I → h.get? b = some o → h'.get? b = some o := k'
    replace t' : h'.get? h.objs.size = some (prO es[i].key es[i].val) := t'
    replace z' : h'.objs.size = h.objs.size + 1 := z'
    have hS' := k' S _ ne hS
    have up : ∀ b o, b ≠ S → h'.get? b = some o → (h'.update S (Obj.mapSeq (·.push (Value.ref h.objs.size)))).get? b = some o := fun b o hb z => (Heap.get?_update_other _ _ (Ne.symm hb)).trans z
    show wpAny _ A.in1 (updateSeq S (·.push (Value.ref h.objs.size)) >>= _) _ _ (Shared.mk h' s.gens s.drawn tk s.os)
    have W' : Wlk h' I d S (i + 1) es.size ep := ⟨x', y', p', q', e', .inr gn'⟩
    refine wpAny_bind (wpAny_updateSeq hS' rfl (wpAny_pure ⟨plainId_quiet PySem.F.plain_extend_loop _, ih (i + 1) _ tk _ (xs.push (Value.ref h.objs.size)) (as ++ [h.objs.size]) (by omega) lt (W'.keep up (Ne.symm ne)) (en.at fun o z => up d o hSd (k' d o hId z))
      (fun b o h1 h2 z => up b o h1 (k' b o h2 (kp b o h1 h2 z))) (Heap.get?_update_self _ hS' rfl) (by rw [Array.toList_push, hx, List.map_append]; rfl) (by rw [List.length_append, hl]; rfl) ⟨?_, ?_, ?_⟩⟩) (by rw [sz]; omega) (by show (xs.push (Value.ref h.objs.size)).size ≤ sizeLine + 1; rw [Array.size_push, sz]; omega))
    · intro a ha
      have sz2 : (h'.update S (Obj.mapSeq (·.push (Value.ref h.objs.size)))).objs.size = h.objs.size + 1 := by rw [Heap.size_update, z']
      rw [sz2]
      rcases List.mem_append.mp ha with ha | ha
      · exact ⟨(T.above a ha).1, Nat.lt_succ_of_lt (T.above a ha).2⟩
      · rw [List.mem_singleton.mp ha]; exact ⟨Il, Nat.lt_succ_self _⟩
    · refine List.pairwise_append.mpr ⟨T.nd, List.pairwise_singleton _ _, fun a ha b hb => ?_⟩
      rw [List.mem_singleton.mp hb]; exact (T.above a ha).2
    · intro j b hj
      by_cases h1 : j < as.length
      · rw [List.getElem?_append_left h1] at hj
        obtain ⟨e2, z1, z2⟩ := T.pair j b hj
        have hb := (T.above b (List.mem_of_getElem? hj)).1
        exact ⟨e2, z1, up b _ (Nat.ne_of_gt (Nat.lt_trans hSI hb)) (k' b _ (Nat.ne_of_gt hb) z2)⟩
      · have h2 : j = as.length := by
          have := (List.getElem?_eq_some_iff.mp hj).1
          rw [List.length_append, List.length_singleton] at this; omega
        subst h2
        have hb : h.objs.size = b := by simpa using hj
        subst hb
        exact ⟨es[i], by rw [hl]; simp [lt], up _ _ (Nat.ne_of_gt Sl) t'⟩
abbrev vwO (d : Addr) : Obj := { cls := .type "dict_items", data := .fields #[.ref d] }
theorem iter_items {v d : Addr} {es : Array DictEntry} {ep : Nat} {Q : Value → Shared → Prop} (hv : s.heap.get? v = some (vwO d)) (hd : Ent s.heap d es ep)
    (hQ : Q (.ref s.heap.objs.size) { s with heap := s.heap.push (itO .none (.bool false) d 0 es.size ep .none .none) }) : wpAny (model prog w) A (pyIter (.ref v)) Q E s := by
  obtain ⟨od, ho, hdd⟩ := hd
  have ty : s.TypeIs (.ref v) "dict_items" := ⟨_, hv, rfl⟩
  refine wpAny_pyIter_slot ty PySem.F.slot_dict_items_iter (wpAny_call_entry PySem.F.slot_dict_items_iter ty PySem.F.entry_dict_items_iter ?_ (PySem.F.args_dict_items_iter_1 _))
  unfold Builtin.«dict_items.__iter__»
  refine wpAny_bind (wpAny_pure (wpAny_bind ?_))
  unfold Builtin.Dict_items.dictOf
  refine wpAny_bind (wpAny_field hv rfl (x := .ref d) rfl (wpAny_pure (wpAny_bind ?_)))
  unfold Builtin.Dict_items.newIterator
  refine wpAny_bind (wpAny_dictEntries ho hdd (wpAny_bind (wpAny_dictEpoch ho hdd ?_)))
  have own : Builtin.Dict_items.ownsTuple "dict_itemiterator" = true := by decide
  simp only [own, if_true]
  refine wpAny_newObj_type (wpAny_pure ⟨_, rfl, "dict_itemiterator", _, ⟨_, Heap.get?_push_size _ rfl, rfl⟩, PySem.F.slot_dict_itemiterator_next.lookup, ?_⟩) (by simp only [sizeOk, Builtin.Dict_items.ownedTupleFields, List.size_toArray, List.length_append, List.length_cons, List.length_nil, sizeLine_eq]; omega)
  simpa [rawInt, itO, Builtin.Dict_items.ownedTupleFields] using hQ
theorem ext_items {R : Result → Shared → Prop} {r d S : Addr} {es : Array DictEntry} {ep : Nat} (hh : A.handled = none) (hv : s.heap.get? r = some (vwO d)) (hd : Ent s.heap d es ep) (hSr : S ≠ r) (hSd : d ≠ S) (res : Value) (c0 : Nat) (hS : s.heap.get? S = some (lsO #[] c0)) (hn : es.size ≤ sizeLine)
    (hR : ∀ h' tk xs c as, (∀ b o, b ≠ S → s.heap.get? b = some o → h'.get? b = some o) → h'.get? S = some (lsO xs c) → as.length = es.size → Told h' es s.heap.objs.size as → xs.toList = as.map Value.ref → R (.ok (.ret res)) { s with heap := h', toks := tk }) :
    wpAny (model prog w) A.in1 (Builtin.List.listExtendWith (.ref S) (.ref r) res) (fun fin s' => match fin with | .done f => R (.ok f) s' | .again c' => c'.quiet = true ∧ codeAny (model prog w) A c' R s') (fun e s' => R (.error e) s') s := by
  have Sl : S < s.heap.objs.size := Heap.lt_size hS
  have dl : d < s.heap.objs.size := let ⟨_, z, _⟩ := hd; Heap.lt_size z
  have key : ∀ (h : Heap) (c1 tk : Nat), (∀ b o, b ≠ S → (s.heap.push (itO .none (.bool false) d 0 es.size ep .none .none)).get? b = some o → h.get? b = some o) → h.get? S = some (lsO #[] c1) →
      codeAny (model prog w) A (.builtin "list.extend.loop" ⟨[.ref S, .ref s.heap.objs.size, res], []⟩) R { s with heap := h, toks := tk } := fun h c1 tk hk hS1 =>
    ext_loop (s := s) (h0 := s.heap) hh Sl hSd (Nat.ne_of_lt dl) hn res (fun h' tk' xs c as hk' => hR h' tk' xs c as fun b o hb e => hk' b o hb (Nat.ne_of_lt (Heap.lt_size e)) e) es.size 0 h tk c1 #[] [] (Nat.sub_zero _) (Nat.zero_le _)
      ⟨_, _, _, _, hk _ _ (Nat.ne_of_gt Sl) (Heap.get?_push_size _ rfl), .inl ⟨rfl, rfl⟩⟩ (hd.at fun o e => hk d o hSd (Heap.get?_push_of_some _ e)) (fun b o hb _ e => hk b o hb (Heap.get?_push_of_some _ e)) hS1 rfl rfl
      ⟨(fun _ ha => nomatch ha), List.Pairwise.nil, fun j a hj => by simp at hj⟩
  have ty : s.TypeIs (.ref r) "dict_items" := ⟨_, hv, rfl⟩
  unfold Builtin.List.listExtendWith
  refine wpAny_bind (wpAny_typeOf (T := "dict_items") ty ?_)
  simp only [show Builtin.List.listSameRef (.ref S) (.ref r) = false by simp [Builtin.List.listSameRef, hSr], show (Value.type "dict_items" == Value.type "list") = false by decide, show (Value.type "dict_items" == Value.type "tuple") = false by decide, Bool.or_false, Bool.false_eq_true, if_false]
  refine wpAny_bind (iter_items hv hd ?_)
  have hS1 : (s.heap.push (itO .none (.bool false) d 0 es.size ep .none .none)).get? S = some (lsO #[] c0) := Heap.get?_push_of_some _ hS
  refine wpAny_bind (wpAny_holding (kdx_hint ⟨_, Heap.get?_push_of_some _ hv, rfl⟩ ?_))
  refine wpAny_ite_split (fun _ => ?_) (fun _ => wpAny_pure ⟨plainId_quiet PySem.F.plain_extend_loop _, key _ c0 _ (fun b o _ e => e) hS1⟩)
  refine wpAny_bind (wpAny_rule (wpAny_bind ?_))
  show wpAny _ _ (updateSeq S (·.push .none) >>= fun _ => updateSeq S (·.pop)) _ _ (Shared.mk _ s.gens s.drawn s.toks s.os)
  refine wpAny_bind (wpAny_updateSeq hS1 rfl ?_)
  have hS2 := Heap.get?_update_self (Obj.mapSeq (·.push Value.none)) hS1 rfl
  refine wpAny_updateSeq (hz := by seq_fits) hS2 rfl ?_
  have hS3 := Heap.get?_update_self (Obj.mapSeq (·.pop)) hS2 rfl
  exact wpAny_pure ⟨plainId_quiet PySem.F.plain_extend_loop _, key _ _ _ (fun b o hb e => (Heap.get?_update_other _ _ (Ne.symm hb)).trans ((Heap.get?_update_other _ _ (Ne.symm hb)).trans e)) hS3⟩
theorem collect_items {R : List Value → Shared → Prop} {r d : Addr} {es : Array DictEntry} {ep : Nat} (hh : A.handled = none) (hv : s.heap.get? r = some (vwO d)) (hd : Ent s.heap d es ep) (hn : es.size ≤ sizeLine)
    (h : ∀ (h' : Heap) (tk : Nat) (as : List Addr), (∀ b o, s.heap.get? b = some o → h'.get? b = some o) → as.length = es.size → Told h' es s.heap.objs.size as → s.heap.objs.size < h'.objs.size → R (as.map Value.ref) { s with heap := h', toks := tk }) :
    wpAny (model prog w) A (collect (.ref r)) R E s := by
  have rl : r < s.heap.objs.size := Heap.lt_size hv
  have dl : d < s.heap.objs.size := let ⟨_, z, _⟩ := hd; Heap.lt_size z
  have out : ∀ (h' : Heap) (tk : Nat) (xs : Array Value) (c : Nat) (as : List Addr), (∀ b o, b ≠ s.heap.objs.size → (s.heap.push (lsO #[] 0)).get? b = some o → h'.get? b = some o) → h'.get? s.heap.objs.size = some (lsO xs c) → as.length = es.size → Told h' es (s.heap.push (lsO #[] 0)).objs.size as → xs.toList = as.map Value.ref →
      wpAny (model prog w) A (load s.heap.objs.size >>= fun o => match o.data with | .seq xs _ => pure xs.toList | _ => unsupported "internal:collect") R E { s with heap := h', toks := tk } := fun h' tk xs c as hk hS hl T hx => by
    refine wpAny_bind (wpAny_load hS (wpAny_pure ?_))
    show R xs.toList _
    rw [hx]
    refine h h' tk as (fun b o e => hk b o (Nat.ne_of_lt (Heap.lt_size e)) (Heap.get?_push_of_some _ e)) hl ⟨fun a ha => ⟨?_, (T.above a ha).2⟩, T.nd, T.pair⟩ (Heap.lt_size hS)
    have := (T.above a ha).1
    rw [Heap.size_push] at this
    exact Nat.lt_of_succ_lt this
  unfold collect
  refine wpAny_bind (wpAny_runValue (codeAny_builtin entry_proto_collect' ?_))
  rw [Around.under_plainId PySem.F.plain_proto_collect _]
  show wpAny _ A.in1 (newList [] >>= fun l => again (.builtin "list.__iadd__" ⟨[l, .ref r], []⟩)) _ _ (Shared.mk s.heap s.gens s.drawn s.toks s.os)
  refine wpAny_bind (wpAny_newObj_type (wpAny_pure ⟨plainId_quiet PySem.F.plain_list_iadd _, codeAny_builtin entry_list_iadd' ?_⟩))
  rw [Around.under_plainId PySem.F.plain_list_iadd _]
  have hS1 : (s.heap.push (lsO #[] 0)).get? s.heap.objs.size = some (lsO #[] 0) := Heap.get?_push_size _ rfl
  have key := ext_items (prog := prog) (w := w) (A := A) (s := { s with heap := s.heap.push (lsO #[] 0) }) (S := s.heap.objs.size) (R := fun (q : Result) (s' : Shared) => ∃ (h' : Heap) (tk : Nat) (xs : Array Value) (c : Nat) (as : List Addr), q = .ok (.ret (.ref s.heap.objs.size)) ∧ s' = { s with heap := h', toks := tk } ∧
      (∀ b o, b ≠ s.heap.objs.size → (s.heap.push (lsO #[] 0)).get? b = some o → h'.get? b = some o) ∧ h'.get? s.heap.objs.size = some (lsO xs c) ∧ as.length = es.size ∧ Told h' es (s.heap.push (lsO #[] 0)).objs.size as ∧ xs.toList = as.map Value.ref)
    hh (Heap.get?_push_of_some _ hv) (hd.at fun o e => Heap.get?_push_of_some _ e) (Nat.ne_of_gt rl) (Nat.ne_of_lt dl) (.ref s.heap.objs.size) 0 hS1 hn (fun h' tk xs c as a1 a2 a3 a4 a5 => ⟨h', tk, xs, c, as, rfl, rfl, a1, a2, a3, a4, a5⟩)
  refine wpAny_mono key (fun fin s' x => ?_) fun e s' x => ?_
  · cases fin with
    | done f =>
      obtain ⟨h', tk, xs, c, as, e, rfl, a1, a2, a3, a4, a5⟩ := x
      cases e
      exact out h' tk xs c as a1 a2 a3 a4 a5
    | again c1 =>
      refine ⟨x.1, codeAny_mono x.2 fun q s2 y => ?_⟩
      obtain ⟨h', tk, xs, c, as, rfl, rfl, a1, a2, a3, a4, a5⟩ := y
      exact out h' tk xs c as a1 a2 a3 a4 a5
  · obtain ⟨_, _, _, _, _, e', _⟩ := x
    cases e'
end
end L4
end
section
set_option Elab.async false
set_option linter.all false
set_option maxRecDepth 100000
namespace L4
open PySem PySem.Calls PyProof.Rows PySem.W PyProof.V PySem.Spec
abbrev kyO (d : Addr) (i n ep : Nat) : Obj := { cls := .type "dict_keyiterator", dict := none, data := .fields #[.ref d, .int i 0, .int n 0, .int ep 0], slots := #[] }
theorem len_dict : typeLookup (.type "dict") "__len__" = pure (some (.builtin "dict.__len__")) := by rw [typeLookup_type, builtinLookup_eq_fast]; kernel_rfl
section
variable {prog : Program} {w : World} {A : Around} {E : Value → Shared → Prop} {s : Shared}
theorem nk_item {it d : Addr} {i ep : Nat} {es : Array DictEntry} {Q : Option Value → Shared → Prop} (hit : s.heap.get? it = some (kyO d i es.size ep)) (hd : Ent s.heap d es ep) (hi : i < es.size)
    (hQ : ∀ h', h'.get? it = some (kyO d (i + 1) es.size ep) → Heap.SameBut it s.heap h' → Q (some es[i].key) { s with heap := h' }) : wpAny (model prog w) A (pyNext (.ref it)) Q E s := by
  obtain ⟨hp, g, dr, tk, os⟩ := s
  obtain ⟨od, ho, hdd⟩ := hd
  have ty : Shared.TypeIs ⟨hp, g, dr, tk, os⟩ (.ref it) "dict_keyiterator" := ⟨_, hit, rfl⟩
  unfold pyNext
  refine wpAny_bind (wpAny_attempt (wpAny_callSpecial?_slot (name := Str.ofString "__next__") ty PySem.F.slot_dict_keyiterator_next (wpAny_call_entry PySem.F.slot_dict_keyiterator_next ty PySem.F.entry_dict_keyiterator_next ?_ (PySem.F.args_dict_keyiterator_next_1 _))))
  refine wpAny_bind (wpAny_pure (wpAny_bind (wpAny_bind ?_)))
  first | refine wpAny_bind (wpAny_typeNameOfWhole_keyiter ty (wpAny_pure (wpAny_bind (wpAny_fieldsOf hit rfl ?_)))) | refine wpAny_bind (wpAny_typeNameOf_keyiter ty (wpAny_pure (wpAny_bind (wpAny_fieldsOf hit rfl ?_))))
  have own : Builtin.Dict_items.ownsTuple "dict_keyiterator" = false := by decide
  simp only [own, Bool.false_eq_true, if_false]
  show wpAny _ _ (if (Value.ref d == Value.none) = true then _ else _) _ _ (Shared.mk hp g dr tk os)
  rw [if_neg (fun z : (Value.ref d == Value.none) = true => Bool.false_ne_true z)]
  refine wpAny_bind (wpAny_pure (wpAny_bind (wpAny_dictEntries ho hdd ?_)))
  rw [if_neg (by simp)]
  refine wpAny_bind (wpAny_pure (wpAny_bind (wpAny_dictEpoch ho hdd ?_)))
  rw [if_neg (by simp)]
  refine wpAny_pure ?_
  simp only [show ¬ ((i : Int) < 0) from by omega, if_false, Int.toNat_natCast, Array.getElem?_eq_getElem hi]
  refine wpAny_bind ?_
  first | refine wpAny_bind (wpAny_typeNameOfWhole_keyiter ty (wpAny_pure (wpAny_bind (wpAny_isOneOf_keyiter ty ?_)))) | refine wpAny_bind (wpAny_typeNameOf_keyiter ty (wpAny_pure (wpAny_bind (wpAny_isOneOf_keyiter ty ?_))))
  show wpAny _ _ (setField (.ref it) 1 (rawInt ((i : Int) + 1)) >>= _) _ _ (Shared.mk hp g dr tk os)
  refine wpAny_bind (wpAny_setField_rec hit (by simp) fun h1 e1 s1 => ?_)
  replace s1 : Heap.SameBut it hp h1 := s1
  replace e1 : h1.get? it = some (kyO d (i + 1) es.size ep) := by
    have e : ((i + 1 : Nat) : Int) = (i : Int) + 1 := by omega
    simp only [kyO, e]; simpa [rawInt] using e1
  have ty1 : Shared.TypeIs ⟨h1, g, dr, tk, os⟩ (.ref it) "dict_keyiterator" := ⟨_, e1, rfl⟩
  refine wpAny_bind (wpAny_holding (wpAny_bind (wpAny_isOneOf_keyiter ty1 ?_)))
  show wpAny _ _ (pure es[i].key) _ _ (Shared.mk h1 g dr tk os)
  exact wpAny_pure (wpAny_pure ⟨_, rfl, wpAny_pure (hQ h1 e1 s1)⟩)
theorem nk_end {it d : Addr} {i ep : Nat} {es : Array DictEntry} {Q : Option Value → Shared → Prop} (hh : A.handled = none) (hit : s.heap.get? it = some (kyO d i es.size ep)) (hd : Ent s.heap d es ep) (hi : es.size ≤ i)
    (hQ : ∀ h', Heap.ExtBut it s.heap h' → Q none { s with heap := h' }) : wpAny (model prog w) A (pyNext (.ref it)) Q E s := by
  obtain ⟨od, ho, hdd⟩ := hd
  have ty : s.TypeIs (.ref it) "dict_keyiterator" := ⟨_, hit, rfl⟩
  unfold pyNext
  refine wpAny_bind (wpAny_attempt (wpAny_callSpecial?_slot (name := Str.ofString "__next__") ty PySem.F.slot_dict_keyiterator_next (wpAny_call_entry PySem.F.slot_dict_keyiterator_next ty PySem.F.entry_dict_keyiterator_next ?_ (PySem.F.args_dict_keyiterator_next_1 _))))
  refine wpAny_bind (wpAny_pure (wpAny_bind (wpAny_bind ?_)))
  first | refine wpAny_bind (wpAny_typeNameOfWhole_keyiter ty (wpAny_pure (wpAny_bind (wpAny_fieldsOf hit rfl ?_)))) | refine wpAny_bind (wpAny_typeNameOf_keyiter ty (wpAny_pure (wpAny_bind (wpAny_fieldsOf hit rfl ?_))))
  have own : Builtin.Dict_items.ownsTuple "dict_keyiterator" = false := by decide
  simp only [own, Bool.false_eq_true, if_false]
  show wpAny _ _ (if (Value.ref d == Value.none) = true then _ else _) _ _ s
  rw [if_neg (fun z : (Value.ref d == Value.none) = true => Bool.false_ne_true z)]
  refine wpAny_bind (wpAny_pure (wpAny_bind (wpAny_dictEntries ho hdd ?_)))
  rw [if_neg (by simp)]
  refine wpAny_bind (wpAny_pure (wpAny_bind (wpAny_dictEpoch ho hdd ?_)))
  rw [if_neg (by simp)]
  refine wpAny_pure ?_
  simp only [show ¬ ((i : Int) < 0) from by omega, if_false, Int.toNat_natCast, Array.getElem?_eq_none hi]
  refine wpAny_bind ?_
  first | refine wpAny_bind (wpAny_typeNameOfWhole_keyiter ty (wpAny_pure ?_)) | refine wpAny_bind (wpAny_typeNameOf_keyiter ty (wpAny_pure ?_))
  show wpAny _ _ (setField (.ref it) 0 .none >>= _) _ _ s
  refine wpAny_bind (wpAny_setField hit rfl (by simp) ?_)
  show wpAny _ _ (newExc (.type "StopIteration") [] >>= _) _ _ _
  refine wpAny_bind ?_
  simp only [newExc, newTuple]
  refine wpAny_bind (wpAny_newObj_type (wpAny_bind (m := firstArgMember _ _) (wpAny_of_eq (a := Value.none) (by first | rfl | (simp only [firstArgMember]; rfl)) (wpAny_newObj_type ?_ (by size_fits)))) (by size_fits))
  simp only [raiseNew]
  refine wpAny_bind (wpAny_handled ?_)
  rw [show A.in1.handled = none from hh]
  refine wpAny_bind (wpAny_pure (wpAny_throw ?_)); refine wpAny_bind (wpAny_isInstance (T := "StopIteration") (b := true) ⟨_, Heap.get?_push_size _ rfl, rfl⟩ isSubtype_stop ?_)
  exact wpAny_pure (hQ _ (((Heap.SameBut.update ..).extBut.push _).push _))
def EntD (h : Heap) (d : Addr) (es : Array DictEntry) (ep : Nat) : Prop := ∃ o, h.get? d = some o ∧ o.cls = .type "dict" ∧ o.data = .dict es ep
theorem EntD.ent {h : Heap} {d : Addr} {es : Array DictEntry} {ep : Nat} (e : EntD h d es ep) : Ent h d es ep := let ⟨o, a, _, b⟩ := e; ⟨o, a, b⟩
theorem EntD.at {h h' : Heap} {d : Addr} {es : Array DictEntry} {ep : Nat} (e : EntD h d es ep) (k : ∀ o, h.get? d = some o → h'.get? d = some o) : EntD h' d es ep := let ⟨o, a, c, b⟩ := e; ⟨o, k o a, c, b⟩
theorem iter_keys {d : Addr} {es : Array DictEntry} {ep : Nat} {Q : Value → Shared → Prop} (hy : (d == sysModules) = false) (hd : EntD s.heap d es ep)
    (hQ : Q (.ref s.heap.objs.size) { s with heap := s.heap.push (kyO d 0 es.size ep) }) : wpAny (model prog w) A (pyIter (.ref d)) Q E s := by
  obtain ⟨od, ho, hc, hdd⟩ := hd
  have ty : s.TypeIs (.ref d) "dict" := ⟨_, ho, hc⟩
  refine wpAny_pyIter_slot ty PySem.F.slot_dict_iter (wpAny_call_entry PySem.F.slot_dict_iter ty PySem.F.entry_dict_iter ?_ (PySem.F.args_dict_iter_1 _))
  unfold Builtin.«dict.__iter__»
  refine wpAny_bind ?_
  unfold Builtin.Dict.dictSlotNone
  refine wpAny_bind (wpAny_notOrdered_dict ty ?_)
  show wpAny _ _ (pure (Value.ref d)) _ _ s
  refine wpAny_pure ?_
  show wpAny _ _ (Builtin.Dict.showsAll d >>= _) _ _ s
  unfold Builtin.Dict.showsAll
  rw [if_neg (by rw [hy]; exact Bool.false_ne_true)]
  refine wpAny_bind (wpAny_pure (wpAny_bind (wpAny_dictEntries ho hdd (wpAny_bind (wpAny_dictEpoch ho hdd ?_)))))
  refine wpAny_bind (wpAny_newObj_type (wpAny_pure ⟨_, rfl, "dict_keyiterator", _, ⟨_, Heap.get?_push_size _ rfl, rfl⟩, PySem.F.slot_dict_keyiterator_next.lookup, ?_⟩))
  simpa [rawInt, kyO] using hQ
theorem kd_hint {r : Addr} (hT : s.TypeIs (.ref r) "dict") {Q : Bool → Shared → Prop} (h : Q false s) : wpAny (model prog w) A (Builtin.List.listLengthHint (.ref r)) Q E s := by
  unfold Builtin.List.listLengthHint
  refine wpAny_bind (wpAny_specialOf hT len_dict ?_)
  generalize hid : ("dict.__len__" : String) = id0
  wp_delta
  rw [show splitId id0 = some ("dict", "__len__") from by subst hid; decide +kernel]
  subst hid
  refine wpAny_bind (wpAny_isInstance (T := "dict") (b := true) hT (by rw [isSubtype_type]; kernel_rfl) ?_)
  refine wpAny_ite_split (fun hab => absurd hab (by decide)) (fun _ => wpAny_ite_split (fun _ => ?_) (fun hab => absurd (by decide +kernel) hab))
  first | exact wpAny_pure h | exact wpAny_bind (wpAny_typeOf hT (wpAny_pure h))
theorem keys_loop {R : Result → Shared → Prop} {S I d : Addr} {es : Array DictEntry} {ep : Nat} (hh : A.handled = none) (hSI : S < I) (hSd : d ≠ S) (hId : d ≠ I) (hn : es.size ≤ sizeLine) (res : Value) {h0 : Heap}
    (hR : ∀ h' tk xs c, (∀ b o, b ≠ S → b ≠ I → h0.get? b = some o → h'.get? b = some o) → h'.get? S = some (lsO xs c) → xs.toList = es.toList.map (·.key) → R (.ok (.ret res)) { s with heap := h', toks := tk }) :
    ∀ (k i : Nat) (h : Heap) (tk c : Nat) (xs : Array Value), es.size - i = k → i ≤ es.size → h.get? I = some (kyO d i es.size ep) → Ent h d es ep → (∀ b o, b ≠ S → b ≠ I → h0.get? b = some o → h.get? b = some o) →
      h.get? S = some (lsO xs c) → xs.toList = (es.toList.take i).map (·.key) → codeAny (model prog w) A (.builtin "list.extend.loop" ⟨[.ref S, .ref I, res], []⟩) R { s with heap := h, toks := tk } := by
  have ne : S ≠ I := Nat.ne_of_lt hSI
  intro k
  induction k with
  | zero =>
    intro i h tk c xs hk hi wk en kp hS hx
    refine codeAny_builtin PySem.F.entry_extend_loop ?_
    rw [Around.under_plainId PySem.F.plain_extend_loop _]
    show wpAny _ A.in1 (pyNext (.ref I) >>= _) _ _ (Shared.mk h s.gens s.drawn tk s.os)
    refine wpAny_bind (nk_end (s := Shared.mk h s.gens s.drawn tk s.os) (A := A.in1) hh wk en (by omega) fun h' he => ?_)
    exact wpAny_pure (hR h' tk xs c (fun b o h1 h2 z => he b o h2 (kp b o h1 h2 z)) (he S _ ne hS) (by rw [hx, List.take_of_length_le (by simp; omega)]))
  | succ k ih =>
    intro i h tk c xs hk hi wk en kp hS hx
    have lt : i < es.size := by omega
    have sz : xs.size = i := by rw [← Array.length_toList, hx, List.length_map, List.length_take, Array.length_toList]; omega
    refine codeAny_builtin PySem.F.entry_extend_loop ?_
    rw [Around.under_plainId PySem.F.plain_extend_loop _]
    show wpAny _ A.in1 (pyNext (.ref I) >>= _) _ _ (Shared.mk h s.gens s.drawn tk s.os)
    refine wpAny_bind (nk_item (s := Shared.mk h s.gens s.drawn tk s.os) wk en lt fun h' e' k' => ?_)
    replace k' : Heap.SameBut I h h' := k'
    have hS' := k'.extBut S _ ne hS
    have up : ∀ b o, b ≠ S → h'.get? b = some o → (h'.update S (Obj.mapSeq (·.push es[i].key))).get? b = some o := fun b o hb z => (Heap.get?_update_other _ _ (Ne.symm hb)).trans z
    show wpAny _ A.in1 (updateSeq S (·.push es[i].key) >>= _) _ _ (Shared.mk h' s.gens s.drawn tk s.os)
    refine wpAny_bind (wpAny_updateSeq hS' rfl (wpAny_pure ⟨plainId_quiet PySem.F.plain_extend_loop _, ih (i + 1) _ tk _ (xs.push es[i].key) (by omega) lt (up I _ (Ne.symm ne) e') (en.at fun o z => up d o hSd (k'.extBut d o hId z))
      (fun b o h1 h2 z => up b o h1 (k'.extBut b o h2 (kp b o h1 h2 z))) (Heap.get?_update_self _ hS' rfl) ?_⟩) (by rw [sz]; omega) (by show (xs.push es[i].key).size ≤ sizeLine + 1; rw [Array.size_push, sz]; omega))
    rw [Array.toList_push, hx, List.take_succ_eq_append_getElem (by simpa using lt), List.map_append]
    simp
def Kd (s : Shared) (es : Array DictEntry) (q : Result) (s' : Shared) : Prop := ∃ (h' : Heap) (tk : Nat) (xs : Array Value) (c : Nat), q = .ok (.ret (.ref s.heap.objs.size)) ∧ s' = { s with heap := h', toks := tk } ∧ (∀ b o, s.heap.get? b = some o → h'.get? b = some o) ∧ h'.get? s.heap.objs.size = some (lsO xs c) ∧ xs.toList = es.toList.map (·.key)
theorem collect_keys {R : List Value → Shared → Prop} {d : Addr} {es : Array DictEntry} {ep : Nat} (hh : A.handled = none) (hy : (d == sysModules) = false) (hd : EntD s.heap d es ep) (hn : es.size ≤ sizeLine)
    (h : ∀ (h' : Heap) (tk : Nat), (∀ b o, s.heap.get? b = some o → h'.get? b = some o) → s.heap.objs.size < h'.objs.size → R (es.toList.map (·.key)) { s with heap := h', toks := tk }) :
    wpAny (model prog w) A (collect (.ref d)) R E s := by
  have dl : d < s.heap.objs.size := let ⟨_, z, _⟩ := hd; Heap.lt_size z
  have out : ∀ (h' : Heap) (tk : Nat) (xs : Array Value) (c : Nat), (∀ b o, s.heap.get? b = some o → h'.get? b = some o) → h'.get? s.heap.objs.size = some (lsO xs c) → xs.toList = es.toList.map (·.key) →
      wpAny (model prog w) A (load s.heap.objs.size >>= fun o => match o.data with | .seq xs _ => pure xs.toList | _ => unsupported "internal:collect") R E { s with heap := h', toks := tk } := fun h' tk xs c hk hS hx => by
    refine wpAny_bind (wpAny_load hS (wpAny_pure ?_))
    show R xs.toList _
    rw [hx]
    exact h h' tk hk (Heap.lt_size hS)
  unfold collect
  refine wpAny_bind (wpAny_runValue (codeAny_builtin entry_proto_collect' ?_))
  rw [Around.under_plainId PySem.F.plain_proto_collect _]
  show wpAny _ A.in1 (newList [] >>= fun l => again (.builtin "list.__iadd__" ⟨[l, .ref d], []⟩)) _ _ (Shared.mk s.heap s.gens s.drawn s.toks s.os)
  refine wpAny_bind (wpAny_newObj_type (wpAny_pure ⟨plainId_quiet PySem.F.plain_list_iadd _, codeAny_builtin entry_list_iadd' ?_⟩))
  rw [Around.under_plainId PySem.F.plain_list_iadd _]
  have hS1 : (s.heap.push (lsO #[] 0)).get? s.heap.objs.size = some (lsO #[] 0) := Heap.get?_push_size _ rfl
  have hd1 : EntD (s.heap.push (lsO #[] 0)) d es ep := hd.at fun o e => Heap.get?_push_of_some _ e
  have z1 : (s.heap.push (lsO #[] 0)).objs.size = s.heap.objs.size + 1 := Heap.size_push ..
  have key : ∀ (h : Heap) (c1 tk : Nat), (∀ b o, b ≠ s.heap.objs.size → ((s.heap.push (lsO #[] 0)).push (kyO d 0 es.size ep)).get? b = some o → h.get? b = some o) → h.get? s.heap.objs.size = some (lsO #[] c1) →
      codeAny (model prog w) A (.builtin "list.extend.loop" ⟨[.ref s.heap.objs.size, .ref (s.heap.push (lsO #[] 0)).objs.size, .ref s.heap.objs.size], []⟩) (Kd s es) { s with heap := h, toks := tk } := fun h c1 tk hk hS => by
    refine keys_loop (s := s) (h0 := s.heap) hh (by rw [z1]; exact Nat.lt_succ_self _) (Nat.ne_of_lt dl) (by rw [z1]; exact Nat.ne_of_lt (Nat.lt_succ_of_lt dl)) hn _ (fun h' tk' xs c hk' a2 a3 => ⟨h', tk', xs, c, rfl, rfl, fun b o e => hk' b o (Nat.ne_of_lt (Heap.lt_size e)) (by rw [z1]; exact Nat.ne_of_lt (Nat.lt_succ_of_lt (Heap.lt_size e))) e, a2, a3⟩) es.size 0 h tk c1 #[] (Nat.sub_zero _) (Nat.zero_le _)
      (hk _ _ (by rw [z1]; exact Nat.succ_ne_self _) (Heap.get?_push_size _ rfl)) (hd.ent.at fun o e => hk d o (Nat.ne_of_lt dl) (Heap.get?_push_of_some _ (Heap.get?_push_of_some _ e))) (fun b o hb _ e => hk b o hb (Heap.get?_push_of_some _ (Heap.get?_push_of_some _ e))) hS rfl
  have fin : wpAny (model prog w) A.in1 (Builtin.List.listExtendWith (.ref s.heap.objs.size) (.ref d) (.ref s.heap.objs.size)) (fun fin s' => match fin with | .done f => Kd s es (.ok f) s' | .again c' => c'.quiet = true ∧ codeAny (model prog w) A c' (Kd s es) s') (fun _ _ => False) { s with heap := s.heap.push (lsO #[] 0) } := by
    unfold Builtin.List.listExtendWith
    have ty : Shared.TypeIs { s with heap := s.heap.push (lsO #[] 0) } (.ref d) "dict" := let ⟨o, a, c, _⟩ := hd1; ⟨o, a, c⟩
    refine wpAny_bind (wpAny_typeOf (T := "dict") ty ?_)
    simp only [show Builtin.List.listSameRef (.ref s.heap.objs.size) (.ref d) = false by simp [Builtin.List.listSameRef, Nat.ne_of_gt dl], show (Value.type "dict" == Value.type "list") = false by decide, show (Value.type "dict" == Value.type "tuple") = false by decide, Bool.or_false, Bool.false_eq_true, if_false]
    refine wpAny_bind (iter_keys hy hd1 ?_)
    have hS2 : ((s.heap.push (lsO #[] 0)).push (kyO d 0 es.size ep)).get? s.heap.objs.size = some (lsO #[] 0) := Heap.get?_push_of_some _ hS1
    refine wpAny_bind (wpAny_holding (kd_hint (let ⟨o, a, c, _⟩ := hd1; ⟨o, Heap.get?_push_of_some _ a, c⟩) ?_))
    refine wpAny_ite_split (fun _ => ?_) (fun _ => wpAny_pure ⟨plainId_quiet PySem.F.plain_extend_loop _, key _ 0 _ (fun b o _ e => e) hS2⟩)
    refine wpAny_bind (wpAny_rule (wpAny_bind ?_))
    show wpAny _ _ (updateSeq s.heap.objs.size (·.push .none) >>= fun _ => updateSeq s.heap.objs.size (·.pop)) _ _ (Shared.mk _ s.gens s.drawn s.toks s.os)
    refine wpAny_bind (wpAny_updateSeq hS2 rfl ?_)
    have hS3 := Heap.get?_update_self (Obj.mapSeq (·.push Value.none)) hS2 rfl
    refine wpAny_updateSeq (hz := by seq_fits) hS3 rfl ?_
    have hS4 := Heap.get?_update_self (Obj.mapSeq (·.pop)) hS3 rfl
    exact wpAny_pure ⟨plainId_quiet PySem.F.plain_extend_loop _, key _ _ _ (fun b o hb e => (Heap.get?_update_other _ _ (Ne.symm hb)).trans ((Heap.get?_update_other _ _ (Ne.symm hb)).trans e)) hS4⟩
  refine wpAny_mono fin (fun fin s' x => ?_) fun e s' x => x.elim
  cases fin with
  | done f =>
    obtain ⟨h', tk, xs, c, e, rfl, a1, a2, a3⟩ := x
    cases e
    exact out h' tk xs c a1 a2 a3
  | again c1 =>
    refine ⟨x.1, codeAny_mono x.2 fun q s2 y => ?_⟩
    obtain ⟨h', tk, xs, c, rfl, rfl, a1, a2, a3⟩ := y
    exact out h' tk xs c a1 a2 a3
end
end L4
end
section
set_option Elab.async false
set_option linter.all false
set_option maxRecDepth 100000
namespace L4
open PySem PySem.Spec PyProof.Rows L2 PySem.W
section
variable {prog : Program} {w : World} {A : Around} {E : Value → Shared → Prop} {s : Shared}
theorem list_sort_ord {a : Addr} {vs : List Value} {n : Nat} {lt : Nat → Nat → Bool} {κ : SortKind} {P : PySem.Fin → Shared → Prop} (ho : s.heap.get? a = some (seqObj "list" vs.toArray n)) (h64 : vs.length < 64) (O : Ord lt vs.length)
    (hk : 2 ≤ vs.length → ∀ (h' : Heap) (Q : SortKind → Shared → Prop), (∀ b o, b ≠ a → s.heap.get? b = some o → h'.get? b = some o) → Q κ { s with heap := h' } → wpAny (model prog w) A (keyKind' vs.toArray) Q E { s with heap := h' })
    (hc : ∀ (h' : Heap) (i j : Nat) (Q : Bool → Shared → Prop), (∀ b o, b ≠ a → s.heap.get? b = some o → h'.get? b = some o) → 2 ≤ vs.length → i < vs.length → j < vs.length → i ≠ j → Q (lt i j) { s with heap := h' } → wpAny (model prog w) A (keyLt' κ (vs.getD i .none) (vs.getD j .none)) Q (fun _ _ => False) { s with heap := h' })
    (h : ∀ h' e (ix : List Nat), (∀ b o, b ≠ a → s.heap.get? b = some o → h'.get? b = some o) → h'.get? a = some (seqObj "list" (ix.map fun i => vs.getD i Value.none).toArray e) → ix.Perm (List.range vs.length) → ix.Pairwise (fun a b => lt a b = true) → P (.done (.ret .none)) { s with heap := h' }) :
    wpAny (model prog w) A (Builtin.«list.sort» ⟨[.ref a], []⟩) P E s := by
  rw [list_sort_plain]
  have ha : a < s.heap.objs.size := Heap.lt_size ho
  refine wpAny_bind (listItems_at ho rfl ?_)
  refine wpAny_bind (listUpdate_at ho rfl ?_ (by rw [List.size_toArray, sizeLine_eq]; omega) (Nat.zero_le _))
  obtain ⟨e1, ho1⟩ : ∃ e1, (s.heap.update a (Obj.mapSeq fun _ => #[])).get? a = some (seqObj "list" #[] e1) := ⟨_, get?_update_seq ho (fun _ => #[])⟩
  refine wpAny_bind (seqEpoch_at ho1 rfl ?_)
  refine wpAny_bind (wpAny_newTuple ?_ (by show vs.length ≤ _; rw [sizeLine_eq]; omega))
  refine wpAny_bind (wpAny_newList ?_ (Nat.zero_le _))
  refine wpAny_holding ?_
  have s1 := Heap.SameBut.update s.heap a (Obj.mapSeq fun _ => (#[] : Array Value))
  have ho6 : (((s.heap.update a (Obj.mapSeq fun _ => #[])).push (seqObj "tuple" vs.toArray 0)).push (seqObj "list" #[] 0)).get? a = some (seqObj "list" #[] e1) := Heap.get?_push_of_some _ (Heap.get?_push_of_some _ ho1)
  have kp : ∀ b o, b ≠ a → s.heap.get? b = some o → (((s.heap.update a (Obj.mapSeq fun _ => (#[] : Array Value))).push (seqObj "tuple" vs.toArray 0)).push (seqObj "list" #[] 0)).get? b = some o := fun b o hb q =>
    Heap.get?_push_of_some _ (Heap.get?_push_of_some _ ((s1.2 b hb).trans q))
  show wpAny (model prog w) A _ P E { s with heap := ((s.heap.update a (Obj.mapSeq fun _ => #[])).push (seqObj "tuple" vs.toArray 0)).push (seqObj "list" #[] 0) }
  dsimp only
  generalize hh : ((s.heap.update a (Obj.mapSeq fun _ => (#[] : Array Value))).push (seqObj "tuple" vs.toArray 0)).push (seqObj "list" #[] 0) = h1 at *
  have fin : ∀ (st : SortSt) (out : List Value), (arrOf st).map (·.2) = out.toArray → failedOf st = none → ∀ ix : List Nat, out = (ix.map fun i => vs.getD i Value.none) → ix.Perm (List.range vs.length) → ix.Pairwise (fun a b => lt a b = true) → wpAny (model prog w) A (do
      let touched := (← seqEpoch a) != e1
      Builtin.List.listUpdate (.ref a) fun _ => (arrOf st).map (·.2)
      if let some e := failedOf st then rule "list.sort.comparison-raised"; throw e
      if touched then rule "list.sort.modified"; raiseError "ValueError" "list modified during sort"
      ret .none) P E { s with heap := h1 } := by
    intro st out har hf ix eo hp pw
    have hl : out.length = vs.length := by rw [eo, List.length_map, hp.length_eq, List.length_range]
    refine wpAny_bind (seqEpoch_at ho6 rfl ?_)
    rw [har, hf]
    refine wpAny_bind (listUpdate_at ho6 rfl ?_ (Nat.zero_le _) (by rw [List.size_toArray, sizeLine_eq]; omega))
    simp only [bne_self_eq_false, Bool.false_eq_true, if_false]
    have s2 := Heap.SameBut.update h1 a (Obj.mapSeq fun _ => out.toArray)
    refine wpAny_pure (h _ _ ix (fun b o hb q => (s2.2 b hb).trans (kp b o hb q)) (by rw [← eo]; exact get?_update_seq ho6 fun _ => out.toArray) hp pw)
  by_cases h2 : vs.toArray.size < 2
  · rw [if_pos h2, if_pos h2]
    have h2' : vs.length < 2 := by simpa using h2
    refine wpAny_bind (wpAny_pure ?_)
    rw [StateT.run_pure]
    refine wpAny_bind (wpAny_pure ?_)
    exact fin (SortSt.mk' general' (vs.toArray.zip vs.toArray) #[] 7 none) vs (by
      show (vs.toArray.zip vs.toArray).map (·.2) = vs.toArray
      apply Array.toList_inj.mp
      simp [List.map_snd_zip]) rfl (List.range vs.length) (by rw [range_getD]) (List.Perm.refl _) (by
        rw [List.pairwise_iff_getElem]
        intro i j hi hj hij
        simp at hj; omega)
  · rw [if_neg h2, if_neg h2]
    have h2' : 2 ≤ vs.length := by simp at h2; omega
    have hn2 : ¬ vs.length < 2 := by omega
    refine wpAny_bind (hk h2' h1 _ kp ?_)
    refine wpAny_bind (wpAny_mono (kat_run (E := E) (Q := fun st' s' => ∃ p : Array Nat, s' = { s with heap := h1 } ∧ p.size = vs.length ∧ arrOf st' = p.map (kas_item (vs.toArray.zip vs.toArray)) ∧ failedOf st' = none ∧ p.toList.Perm (List.range vs.length) ∧ Up lt p vs.length) (G := fun p s' => (p.toList.Perm (List.range vs.length) ∧ Up lt p vs.length) ∧ s' = { s with heap := h1 })
      rfl h2' h64 (fun p' st' s' a1 a2 a3 a4 => ⟨p', a4.2, a1, a2, a3, a4.1.1, a4.1.2⟩) (kas_of_wp (n := vs.length) (lt := lt) (fun i j C hi hj hij hq => hc h1 i j C kp h2' hi hj hij hq) (kWp_sort O (by omega) fun p hp up => ⟨⟨hp, up⟩, rfl⟩))) ?_ fun _ _ e => e)
    rintro ⟨⟨⟩, st'⟩ s' ⟨p, es, hz, har, hf, hp, up⟩
    subst es
    exact fin st' _ (kat_snds rfl har) hf p.toList rfl hp (Up.pairwise (by rw [hz]; exact up))
theorem sorted_via {l : Addr} {Good : List Value → Heap → Prop} {Q : Value → Shared → Prop}
    (hcol : ∀ (A' : Around) (E' : Value → Shared → Prop) (R : List Value → Shared → Prop), A'.handled = A.handled → (∀ vs h' tk, (∀ b o, s.heap.get? b = some o → h'.get? b = some o) → s.heap.objs.size ≤ h'.objs.size → Good vs h' → R vs { s with heap := h', toks := tk }) → wpAny (model prog w) A' (collect (.ref l)) R E' s)
    (hg : ∀ vs h1 h2, (∀ b o, h1.get? b = some o → h2.get? b = some o) → Good vs h1 → Good vs h2)
    (hs : ∀ vs h', Good vs h' → vs.length < 64 ∧ ∃ (lt : Nat → Nat → Bool) (κ : SortKind), Ord lt vs.length ∧
      (2 ≤ vs.length → ∀ (A' : Around) (h2 : Heap) (tk : Nat) (E' : Value → Shared → Prop) (Q : SortKind → Shared → Prop), Good vs h2 → Q κ { s with heap := h2, toks := tk } → wpAny (model prog w) A' (keyKind' vs.toArray) Q E' { s with heap := h2, toks := tk }) ∧
      (∀ (A' : Around) (h2 : Heap) (tk i j : Nat) (Q : Bool → Shared → Prop), A'.units < A.units + 8 → Good vs h2 → i < vs.length → j < vs.length → i ≠ j → Q (lt i j) { s with heap := h2, toks := tk } → wpAny (model prog w) A' (keyLt' κ (vs.getD i .none) (vs.getD j .none)) Q (fun _ _ => False) { s with heap := h2, toks := tk }) ∧
      (∀ h2 tk r e (ix : List Nat), (∀ b o, s.heap.get? b = some o → h2.get? b = some o) → s.heap.objs.size ≤ r → Good vs h2 → h2.get? r = some (seqObj "list" (ix.map fun i => vs.getD i Value.none).toArray e) → ix.Perm (List.range vs.length) → ix.Pairwise (fun a b => lt a b = true) → Q (.ref r) { s with heap := h2, toks := tk })) :
    wpAny (model prog w) A (call (.builtin "sorted") [.ref l]) Q E s := by
  refine Calls.call_function_entry kind_sorted plain_sorted entry_sorted (args_sorted1 _) ?_
  unfold Builtin.«sorted»
  refine wpAny_bind (m := checkCount "sorted" 1 1 _) (wpAny_pure ?_)
  refine wpAny_bind (hcol _ _ _ rfl fun vs h' tk kp sz gd => ?_)
  obtain ⟨h64, lt, κ, O, hk, hc, hq⟩ := hs vs h' gd
  refine wpAny_bind (wpAny_newList ?_ (by rw [sizeLine_eq]; omega))
  have hoL : (h'.push (seqObj "list" vs.toArray 0)).get? h'.objs.size = some (seqObj "list" vs.toArray 0) := Heap.get?_push_size _ rfl
  have keep : ∀ b o, h'.get? b = some o → (h'.push (seqObj "list" vs.toArray 0)).get? b = some o := fun b o q => Heap.get?_push_of_some _ q
  show wpAny _ _ _ _ _ (Shared.mk (h'.push (seqObj "list" vs.toArray 0)) s.gens s.drawn tk s.os)
  refine wpAny_bind (wpAny_holding (wpAny_call_entry slot_list_sort ⟨_, hoL, rfl⟩ entry_list_sort ?body (args_list_sort _)))
  case body =>
    have gk : ∀ h2 : Heap, (∀ b o, b ≠ h'.objs.size → (h'.push (seqObj "list" vs.toArray 0)).get? b = some o → h2.get? b = some o) → ∀ b o, h'.get? b = some o → h2.get? b = some o := fun h2 k b o e => k b o (Nat.ne_of_lt (Heap.lt_size e)) (keep b o e)
    refine list_sort_ord (s := Shared.mk (h'.push (seqObj "list" vs.toArray 0)) s.gens s.drawn tk s.os) (lt := lt) (κ := κ) hoL h64 O
      (fun h2 h3 Q' k q => hk h2 _ h3 tk _ Q' (hg vs h' h3 (gk h3 k) gd) q) (fun h3 i j Q' k h2 hi hj hij q => hc _ h3 tk i j Q' ?_ (hg vs h' h3 (gk h3 k) gd) hi hj hij q) fun h3 e ix k ea hp pw => ⟨_, rfl, ?_⟩
    · first | omega | (dsimp only; omega) | (simp [Around.under, Around.in1]; omega)
    · exact wpAny_pure ⟨_, rfl, hq h3 tk _ e ix (fun b o z => gk h3 k b o (kp b o z)) sz (hg vs h' h3 (gk h3 k) gd) ea hp pw⟩
end
end L4
end
section
set_option Elab.async false
set_option linter.all false
set_option maxRecDepth 100000
namespace L4
open PySem PySem.Spec PyProof.Rows L2 PySem.W
section
variable {prog : Program} {w : World} {A : Around} {E : Value → Shared → Prop} {s : Shared} {Q : Bool → Shared → Prop}
theorem one_int {b : Bool} {x y : Int} {t u : Tok} (h : Q (decide (x < y)) s) : wpAny (model prog w) A (oneLt' b (.int x t) (.int y u)) Q E s := by
  cases b with
  | true => exact oneLt_int h
  | false => exact kat_one _ _ (lt_int (show PySem.W.BoolBack Q (.bool (decide (x < y))) s from h))
theorem lex_ints : ∀ {its jts : List Value} {ns ms : List Int} (i : Nat), IntsAre its ns → IntsAre jts ms → ns.length = ms.length → Q (lexI ns ms) s → KatLex prog w A true false Q (its.zip jts) i s
  | _, _, _, _, _, .nil, .nil, _, q => kat_nil q
  | _, _, _, _, _, .nil, .cons _ _ _, h, _ => by simp at h
  | _, _, _, _, _, .cons _ _ _, .nil, h, _ => by simp at h
  | _, _, _, _, i, .cons n t a, .cons m u b, h, q => by
    rw [List.zip_cons_cons]
    refine kat_cons (wpAny_eqBool_int (kat_go (fun z => kat_yes (lex_ints (i + 1) a b (by simpa using h) ?_)) (fun z => kat_no (one_int ?_))))
    · have z : n = m := by simpa using z
      subst z
      simpa [lexI] using q
    · have z : n ≠ m := by simpa using z
      simpa [lexI, z] using q
end
theorem paired_get {α β : Type} {R : α → β → Prop} : ∀ {l : List α} {m : List β} {i : Nat} {x : α} {y : β}, Paired R l m → l[i]? = some x → m[i]? = some y → R x y
  | _, _, 0, _, _, .cons h _, e1, e2 => by cases e1; cases e2; exact h
  | _, _, i + 1, _, _, .cons _ t, e1, e2 => paired_get t (by simpa using e1) (by simpa using e2)
  | _, _, _, _, _, .nil, e1, _ => by simp at e1
theorem kV_ints : ∀ n : List Int, (n.map (Sum.inl : Int → Key)).map kV = n.map V.int
  | [] => rfl
  | x :: n => by simp only [List.map_cons]; rw [kV_ints n]; rfl
theorem map_inl_inj {x y : List Int} (h : x.map (Sum.inl : Int → Key) = y.map Sum.inl) : x = y := by
  induction x generalizing y with
  | nil => cases y with
    | nil => rfl
    | cons _ _ => simp at h
  | cons a x ih => cases y with
    | nil => simp at h
    | cons b y =>
      simp only [List.map_cons, List.cons.injEq, Sum.inl.injEq] at h
      rw [h.1, ih h.2]
theorem kt_of {h : Heap} : ∀ (bs : List Addr) (ns : List (List Int)), bs.length = ns.length → (∀ n ∈ ns, n.length = 3) → (∀ (i : Nat) (b : Addr) (n : List Int), bs[i]? = some b → ns[i]? = some n → ∃ its : List Value, IsTup h b its.toArray ∧ IntsAre its n) →
    ∃ fs, KatTups h (bs.map Value.ref) fs ∧ fs.length = bs.length ∧ ∀ v ∈ fs, ∃ x t, v = Value.int x t
  | [], _, _, _, _ => ⟨[], KatTups.nil, rfl, fun _ z => nomatch z⟩
  | b :: bs, [], h, _, _ => by simp at h
  | b :: bs, n :: ns, hl, h3, hg => by
    obtain ⟨fs, k1, k2, k3⟩ := kt_of bs ns (by simpa using hl) (fun m hm => h3 m (.tail _ hm)) fun i c m e1 e2 => hg (i + 1) c m (by simpa using e1) (by simpa using e2)
    obtain ⟨its, ⟨o, o1, o2, q, o3⟩, i1⟩ := hg 0 b n rfl rfl
    have hn := h3 n (.head _)
    cases i1 with
    | nil => simp at hn
    | cons x t r =>
      refine ⟨.int x t :: fs, KatTups.cons o1 o2 o3 (by simp) k1, by simp [k2], fun v hv => ?_⟩
      rcases List.mem_cons.mp hv with rfl | hv
      · exact ⟨x, t, rfl⟩
      · exact k3 v hv
theorem call_sortedK {X : Cx} (hcm : X.calm = true) : CallR X (.builtin "sorted") (fun xs H Q => ∃ (a : Addr) (kvs : List (List Key × V)) (ns : List (List Int)), xs = [.ref a] ∧ Rd H a (.dT kvs) ∧ kvs.map (·.1) = ns.map (·.map Sum.inl) ∧ ns.length < 64 ∧ (∀ n ∈ ns, n.length = 3) ∧
    ∀ (bs : List Addr) (r : Addr) (ix : List Nat), H r = none → bs.length = ns.length → (∀ (i : Nat) (b : Addr) (n : List Int), bs[i]? = some b → ns[i]? = some n → H b = some (.tup (n.map V.int))) → ix.Perm (List.range ns.length) → ix.Pairwise (fun i j => lexI (ns.getD i []) (ns.getD j []) = true) →
      Q (.ref r) (upd H r (.lst (ix.map fun i => V.ref (bs.getD i 0))))) := by
  intro pins s σ H xs us Q I rr ⟨a, kvs, ns, ex, rd, hk, h64, h3, q⟩
  subst ex
  obtain ⟨u, rfl, ru⟩ := vals1 rr
  cases ru
  obtain ⟨z, hy, ys, rel, od, es, ep, g1, g2, g3, g4, g5, nd⟩ := dt_rd I.hok rd
  have ly : ys.length = ns.length := by
    have e1 := congrArg List.length hk
    simp only [List.length_map] at e1
    rw [← e1]; exact (Paired.length rel).symm
  have P0 : ∀ (i : Nat) (b : Addr) (n : List Int), (ys.map (·.2.1))[i]? = some b → ns[i]? = some n → H b = some (.tup (n.map V.int)) := fun i b n e1 e2 => by
    rw [List.getElem?_map, Option.map_eq_some_iff] at e1
    obtain ⟨y, e1, rfl⟩ := e1
    have e3 : (kvs.map (·.1))[i]? = some (n.map Sum.inl) := by rw [hk, List.getElem?_map, e2]; rfl
    rw [List.getElem?_map, Option.map_eq_some_iff] at e3
    obtain ⟨p, e3, e4⟩ := e3
    obtain ⟨_, r2, _⟩ := paired_get rel e3 e1
    rw [e4, kV_ints] at r2
    exact r2
  have ndn : ns.Nodup := by
    have e1 : ys.map (·.1) = kvs.map (·.1) := by
      apply List.ext_getElem?
      intro i
      rw [List.getElem?_map, List.getElem?_map]
      cases e2 : ys[i]? with
      | none =>
        have : kvs[i]? = none := by rw [List.getElem?_eq_none_iff] at e2 ⊢; rw [Paired.length rel]; exact e2
        rw [this]; rfl
      | some y =>
        have hl : i < kvs.length := by rw [Paired.length rel]; exact (List.getElem?_eq_some_iff.mp e2).1
        rw [List.getElem?_eq_getElem hl]
        exact congrArg some (paired_get rel (List.getElem?_eq_getElem hl) e2).1.symm
    rw [e1, hk] at nd
    exact (List.pairwise_map.mp nd).imp fun h e => h (by rw [e])
  let bs := ys.map (·.2.1)
  have lb : bs.length = ns.length := by rw [List.length_map]; exact ly
  let Good : List Value → Heap → Prop := fun vs h => vs = bs.map Value.ref ∧ ∀ (i : Nat) (b : Addr) (n : List Int), bs[i]? = some b → ns[i]? = some n → ∃ its : List Value, IsTup h b its.toArray ∧ IntsAre its n
  have gk : ∀ vs h1 h2, (∀ b o, h1.get? b = some o → h2.get? b = some o) → Good vs h1 → Good vs h2 := fun vs h1 h2 k ⟨e, g⟩ => ⟨e, fun i b n e1 e2 => let ⟨its, t, i1⟩ := g i b n e1 e2; ⟨its, t.keeps k, i1⟩⟩
  have g0 : Good (bs.map Value.ref) s.heap := ⟨rfl, fun i b n e1 e2 => by
    obtain ⟨_, its, r, t⟩ := I.hok b _ (P0 i b n e1 e2)
    exact ⟨its, t, intsAre_of r⟩⟩
  have at2 : ∀ {i : Nat}, i < ns.length → ∃ b n, bs[i]? = some b ∧ ns[i]? = some n ∧ (bs.map Value.ref).getD i .none = .ref b ∧ ns.getD i [] = n := fun {i} hi => by
    have hb : i < bs.length := by rw [lb]; exact hi
    exact ⟨bs[i], ns[i], List.getElem?_eq_getElem hb, List.getElem?_eq_getElem hi, by simp [List.getD_eq_getElem?_getD, hb], by simp [List.getD_eq_getElem?_getD, hi]⟩
  have O : Ord (fun i j => lexI (ns.getD i []) (ns.getD j [])) ns.length := ⟨fun i j hi hj hij => by
      refine lexI_tot _ _ fun e => hij ?_
      obtain ⟨_, n, _, e1, _, e2⟩ := at2 hi
      obtain ⟨_, m, _, e3, _, e4⟩ := at2 hj
      rw [e2, e4] at e
      subst e
      exact (List.getElem?_inj hi ndn).mp (e1.trans e3.symm), fun i j k _ _ _ => lexI_tr _ _ _⟩
  refine sorted_via (Good := Good) (l := a) (fun A' E' R hA h => ?_) gk fun vs h' gd => ?_
  · refine collect_keys (by rw [hA]; exact I.ok.hd hcm) hy ⟨od, g1, g2.1, g3⟩ ?_ fun h' tk kp sz => ?_
    · have : es.size = ys.length := by rw [← Array.length_toList, g4, List.length_map]
      rw [this, ly, sizeLine_eq]; omega
    · have e : es.toList.map (·.key) = bs.map Value.ref := by rw [g4, List.map_map, List.map_map]; rfl
      rw [e]
      exact h _ h' tk kp (Nat.le_of_lt sz) (gk _ _ _ kp g0)
  · obtain ⟨rfl, _⟩ := id gd
    have lv : (bs.map Value.ref).length = ns.length := by rw [List.length_map, lb]
    refine ⟨by rw [lv]; exact h64, fun i j => lexI (ns.getD i []) (ns.getD j []), tuples' true, by rw [lv]; exact O, fun h2 A' h2' tk E' Q' gd' q' => ?_, fun A' h2' tk i j Q' hu gd' hi hj hij q' => ?_, fun h2' tk r e ix kp hr gd' er hp pw => ?_⟩
    · obtain ⟨fs, k1, k2, k3⟩ := kt_of bs ns lb h3 gd'.2
      rw [lv] at h2
      refine kat_kind (s := Shared.mk h2' s.gens s.drawn tk s.os) (fs := fs) (T := .type "int") k1 (by rw [k2, lb]; omega) (fun v hv => ?_) rfl q'
      obtain ⟨x, t, rfl⟩ := k3 v hv
      exact looks_int
    · rw [lv] at hi hj
      obtain ⟨b, n, e1, e2, e3, e4⟩ := at2 hi
      obtain ⟨c, m, f1, f2, f3, f4⟩ := at2 hj
      rw [e3, f3]
      obtain ⟨its, ⟨ob, o1, o2, k1, o3⟩, i1⟩ := gd'.2 i b n e1 e2
      obtain ⟨jts, ⟨oc, p1, p2, k2, p3⟩, i2⟩ := gd'.2 j c m f1 f2
      have ln := h3 n (List.mem_of_getElem? e2)
      have lm := h3 m (List.mem_of_getElem? f2)
      refine kat_lt (s := Shared.mk h2' s.gens s.drawn tk s.os) o1 o3 p1 p3 ?_
      have z1 : its.length = 3 := by rw [← ln]; exact i1.length
      have z2 : jts.length = 3 := by rw [← lm]; exact i2.length
      rw [show decide (its.toArray.size < jts.toArray.size) = false by simp [z1, z2]]
      refine lex_ints 0 i1 i2 (by rw [ln, lm]) ?_
      rw [← e4, ← f4]; exact q'
    · rw [lv] at hp
      have vals : Vals (ix.map fun i => V.ref (bs.getD i 0)) (ix.map fun i => (bs.map Value.ref).getD i Value.none) := by
        have : ∀ l : List Nat, (∀ i ∈ l, i < ns.length) → Vals (l.map fun i => V.ref (bs.getD i 0)) (l.map fun i => (bs.map Value.ref).getD i Value.none) := by
          intro l
          induction l with
          | nil => exact fun _ => .nil
          | cons i l ih =>
            intro hl
            obtain ⟨b, _, e1, _, e3, _⟩ := at2 (hl i (.head _))
            refine .cons ?_ (ih fun j hj => hl j (.tail _ hj))
            show L2.RelV (V.ref (bs.getD i 0)) ((bs.map Value.ref).getD i Value.none)
            rw [e3]
            show Value.ref b = Value.ref (bs.getD i 0)
            rw [List.getD_eq_getElem?_getD, e1]; rfl
        exact this ix fun i hi => by simpa using hp.mem_iff.mp hi
      have lx : ix.length < 64 := by rw [hp.length_eq, List.length_range]; exact h64
      exact ⟨.ref r, _, I.laid (t' := tk) kp hr (show ObjOk X.prog X.w _ h2' _ (.lst (ix.map fun i => V.ref (bs.getD i 0))) from ⟨by rw [sizeLine_eq, List.length_map]; omega, _, e, vals, er⟩), rfl, q bs r ix (I.hok.fresh hr) lb P0 hp pw⟩
end L4
end
section
set_option Elab.async false
set_option linter.all false
set_option maxRecDepth 100000
namespace L4
open PySem PySem.Spec PyProof.Rows L2 PySem.W
def updL (H : Hp) : List (Addr × HO) → Hp
  | [] => H
  | p :: l => upd (updL H l) p.1 p.2
theorem updL_out {H : Hp} {b : Addr} : ∀ {l : List (Addr × HO)}, (∀ p ∈ l, p.1 ≠ b) → updL H l b = H b
  | [], _ => rfl
  | p :: l, h => by
    show upd (updL H l) p.1 p.2 b = H b
    rw [upd_ne (Ne.symm (h p (.head _)))]
    exact updL_out fun q hq => h q (.tail _ hq)
theorem updL_in {H : Hp} {a : Addr} {o : HO} : ∀ {l : List (Addr × HO)}, (l.map (·.1)).Nodup → (a, o) ∈ l → updL H l a = some o
  | p :: l, nd, hm => by
    show upd (updL H l) p.1 p.2 a = some o
    rcases List.mem_cons.mp hm with e | hm
    · subst e; exact upd_same
    · have : a ≠ p.1 := fun z => by
        have := (List.nodup_cons.mp nd).1
        exact this (List.mem_map.mpr ⟨(a, o), hm, z⟩)
      rw [upd_ne this]
      exact updL_in (List.nodup_cons.mp nd).2 hm
theorem updL_same {H : Hp} {l : List (Addr × HO)} (h : ∀ p ∈ l, H p.1 = none) : Same H (updL H l) := fun b o e => by
  rw [updL_out fun p hp z => by rw [← z, h p hp] at e; cases e]; exact e
theorem hok_laids {P : Program} {w : World} {H : Hp} {h h' : Heap} {l : List (Addr × HO)} (x : HOk P w H h) (k : ∀ b u, h.get? b = some u → h'.get? b = some u) (hp : ∀ p ∈ l, h.objs.size ≤ p.1) (nd : (l.map (·.1)).Nodup) (new : ∀ p ∈ l, ObjOk P w (updL H l) h' p.1 p.2) : HOk P w (updL H l) h' := fun b u e => by
  have fr : ∀ p ∈ l, H p.1 = none := fun p q => x.fresh (hp p q)
  have sm := updL_same fr
  by_cases q : ∃ p ∈ l, p.1 = b
  · obtain ⟨p, hm, rfl⟩ := q
    rw [updL_in nd (show (p.1, p.2) ∈ l from hm)] at e
    cases e
    exact new p hm
  · rw [updL_out fun p hm z => q ⟨p, hm, z⟩] at e
    exact (x b u e).stay (fun c v _ z => k c v z) (fun c z => sm c _ z) fun c xs z => sm c _ z
theorem un_laids {fs ex : List Addr} {H : Hp} {h h' : Heap} {l : List (Addr × HO)} (k : ∀ b u, h.get? b = some u → h'.get? b = some u) (hp : ∀ p ∈ l, h.objs.size ≤ p.1) (fr : ∀ p ∈ l, H p.1 = none) : Un fs ex H (updL H l) h h' where
  keep := fun b u q _ _ _ => k b u q
  slot := fun b u q _ _ _ => ⟨u.slots, k b u q⟩
  free := fun b u q n _ => by rw [updL_out fun p hm => Ne.symm (Nat.ne_of_lt (Nat.lt_of_lt_of_le (Heap.lt_size q) (hp p hm)))]; exact n
  there := fun b u q _ => ⟨u, k b u q⟩
  tups := fun b xs q => updL_same fr b _ q
  frzs := fun b u xs q => updL_same fr b _ q
  tbls := fun b ps q => ⟨#[], by rw [updL_same fr b _ q]; simp⟩
theorem lexLt_eq : ∀ x y : List Int, HT.lexLt x y = lexI x y
  | [], [] => rfl
  | [], _ :: _ => rfl
  | _ :: _, [] => rfl
  | a :: x, b :: y => by show (if a = b then HT.lexLt x y else _) = (if a = b then lexI x y else _); rw [lexLt_eq x y]
def prs (bs : List Addr) (vs : List V) (as : List Addr) : List (Addr × HO) := as.zip ((bs.zip vs).map fun p => HO.tup [.ref p.1, p.2])
theorem call_sortedI {X : Cx} (hcm : X.calm = true) {pins : List (Addr × Obj)} {s : Shared} {σ : St} {H : Hp} {a : Addr} {kvs : List (List Key × V)} {ns : List (List Int)} {Q : VK} {v : Addr} (I : Inv X pins σ H s) (hv : s.heap.get? v = some (vwO a)) (hu : X.A.units + 8 < cLine) (rd : Rd H a (.dT kvs)) (hk : kvs.map (·.1) = ns.map (·.map Sum.inl)) (h64 : ns.length < 64) (h3 : ∀ n ∈ ns, n.length = 3)
    (q : ∀ (bs as : List Addr) (r : Addr) (ix : List Nat), H r = none → r ∉ as → as.Nodup → (∀ b ∈ as, H b = none) → as.length = ns.length → bs.length = ns.length → (∀ (i : Nat) (b : Addr) (n : List Int), bs[i]? = some b → ns[i]? = some n → H b = some (.tup (n.map V.int))) → ix.Perm (List.range ns.length) → ix.Pairwise (fun i j => lexI (ns.getD i []) (ns.getD j []) = true) →
      Q (.ref r) (updL H ((r, HO.lst (ix.map fun i => V.ref (as.getD i 0))) :: prs bs (kvs.map (·.2)) as))) :
    wpAny (model X.prog X.w) X.A (call (.builtin "sorted") [.ref v]) (EP X pins σ Q) X.xe s := by
  obtain ⟨z, hy, ys, rel, od, es, ep, g1, g2, g3, g4, g5, nd⟩ := dt_rd I.hok rd
  have lk : kvs.length = ns.length := by
    have e1 := congrArg List.length hk
    simpa only [List.length_map] using e1
  have ly : ys.length = ns.length := by rw [← lk]; exact (Paired.length rel).symm
  have P0 : ∀ (i : Nat) (b : Addr) (n : List Int), (ys.map (·.2.1))[i]? = some b → ns[i]? = some n → H b = some (.tup (n.map V.int)) := fun i b n e1 e2 => by
    rw [List.getElem?_map, Option.map_eq_some_iff] at e1
    obtain ⟨y, e1, rfl⟩ := e1
    have e3 : (kvs.map (·.1))[i]? = some (n.map Sum.inl) := by rw [hk, List.getElem?_map, e2]; rfl
    rw [List.getElem?_map, Option.map_eq_some_iff] at e3
    obtain ⟨p, e3, e4⟩ := e3
    obtain ⟨_, r2, _⟩ := paired_get rel e3 e1
    rw [e4, kV_ints] at r2
    exact r2
  have ndn : ns.Nodup := by
    have e1 : ys.map (·.1) = kvs.map (·.1) := by
      apply List.ext_getElem?
      intro i
      rw [List.getElem?_map, List.getElem?_map]
      cases e2 : ys[i]? with
      | none =>
        have : kvs[i]? = none := by rw [List.getElem?_eq_none_iff] at e2 ⊢; rw [Paired.length rel]; exact e2
        rw [this]; rfl
      | some y =>
        have hl : i < kvs.length := by rw [Paired.length rel]; exact (List.getElem?_eq_some_iff.mp e2).1
        rw [List.getElem?_eq_getElem hl]
        exact congrArg some (paired_get rel (List.getElem?_eq_getElem hl) e2).1.symm
    rw [e1, hk] at nd
    exact (List.pairwise_map.mp nd).imp fun h e => h (by rw [e])
  let bs := ys.map (·.2.1)
  have lb : bs.length = ns.length := by rw [List.length_map]; exact ly
  have esz : es.size = ns.length := by rw [← Array.length_toList, g4, List.length_map, ly]
  -- the keys, wherever they stand
  let Keys : Heap → Prop := fun h => ∀ (i : Nat) (b : Addr) (n : List Int), bs[i]? = some b → ns[i]? = some n → ∃ its : List Value, IsTup h b its.toArray ∧ IntsAre its n ∧ (tupleKind (mixKind X.prog X.w)).is h (n.map Sum.inl) b
  have kk : ∀ h1 h2, (∀ b o, h1.get? b = some o → h2.get? b = some o) → Keys h1 → Keys h2 := fun h1 h2 k g i b n e1 e2 => by
    obtain ⟨its, t, i1, o, its', m, o1, o2, o3, o4⟩ := g i b n e1 e2
    exact ⟨its, t.keeps k, i1, o, its', m, k _ _ o1, o2, o3, o4⟩
  have k0 : Keys s.heap := fun i b n e1 e2 => by
    have hb := P0 i b n e1 e2
    obtain ⟨_, its, r, t⟩ := I.hok b _ hb
    exact ⟨its, t, intsAre_of r, key_of I.hok (by rw [kV_ints]; exact hb)⟩
  let Good : List Value → Heap → Prop := fun vs h => Keys h ∧ ∃ as : List Addr, vs = as.map Value.ref ∧ as.length = ns.length ∧ as.Pairwise (· < ·) ∧ (∀ b ∈ as, s.heap.objs.size < b) ∧ ∀ (i : Nat) (b : Addr), as[i]? = some b → ∃ y, ys[i]? = some y ∧ h.get? b = some (prO (.ref y.2.1) y.2.2)
  have gk : ∀ vs h1 h2, (∀ b o, h1.get? b = some o → h2.get? b = some o) → Good vs h1 → Good vs h2 := fun vs h1 h2 k ⟨g, as, a1, a2, a3, a4, a5⟩ => ⟨kk _ _ k g, as, a1, a2, a3, a4, fun i b e => let ⟨y, e1, e2⟩ := a5 i b e; ⟨y, e1, k _ _ e2⟩⟩
  have kv : ∀ b o, s.heap.get? b = some o → s.heap.get? b = some o := fun b o e => e
  refine sorted_via (s := s) (Good := Good) (fun A' E' R hA h => ?_) gk fun vs h' gd => ?_
  · refine collect_items (s := s) (es := es) (ep := ep) (by rw [hA]; exact I.ok.hd hcm) hv ⟨od, kv _ _ g1, g3⟩ (by rw [esz, sizeLine_eq]; omega) fun h' tk as kp hl T sz => ?_
    refine h _ h' tk kp (Nat.le_of_lt sz) ⟨kk _ _ (fun b o e => kp b o (kv b o e)) k0, as, rfl, by rw [hl, esz], T.nd, fun b hb => ?_, fun i b e => ?_⟩
    · exact (T.above b hb).1
    · obtain ⟨en, e1, e2⟩ := T.pair i b e
      have e3 : (ys.map (entryOfKey (tupleKind (mixKind X.prog X.w))))[i]? = some en := by rw [← g4]; simpa using e1
      rw [List.getElem?_map, Option.map_eq_some_iff] at e3
      obtain ⟨y, e4, rfl⟩ := e3
      exact ⟨y, e4, e2⟩
  · obtain ⟨_, as, rfl, la, pa, ab, _⟩ := id gd
    have lv : (as.map Value.ref).length = ns.length := by rw [List.length_map, la]
    have at2 : ∀ {i : Nat}, i < ns.length → ∃ b c n y, bs[i]? = some b ∧ as[i]? = some c ∧ ns[i]? = some n ∧ ys[i]? = some y ∧ b = y.2.1 ∧ (as.map Value.ref).getD i .none = .ref c ∧ ns.getD i [] = n := fun {i} hi => by
      have ha : i < as.length := by rw [la]; exact hi
      have hyl : i < ys.length := by rw [ly]; exact hi
      exact ⟨ys[i].2.1, as[i], ns[i], ys[i], by rw [List.getElem?_map, List.getElem?_eq_getElem hyl]; rfl, List.getElem?_eq_getElem ha, List.getElem?_eq_getElem hi, List.getElem?_eq_getElem hyl, rfl, by simp [List.getD_eq_getElem?_getD, ha], by simp [List.getD_eq_getElem?_getD, hi]⟩
    have inj : ∀ {i j : Nat} {n : List Int}, i < ns.length → ns[i]? = some n → ns[j]? = some n → i = j := fun hi e1 e3 => (List.getElem?_inj hi ndn).mp (e1.trans e3.symm)
    have O : Ord (fun i j => lexI (ns.getD i []) (ns.getD j [])) ns.length := ⟨fun i j hi hj hij => by
        refine lexI_tot _ _ fun e => hij ?_
        obtain ⟨_, _, n, _, _, _, e1, _, _, _, e2⟩ := at2 hi
        obtain ⟨_, _, m, _, _, _, e3, _, _, _, e4⟩ := at2 hj
        rw [e2, e4] at e
        subst e
        exact inj hi e1 e3, fun i j k _ _ _ => lexI_tr _ _ _⟩
    refine ⟨by rw [lv]; exact h64, fun i j => lexI (ns.getD i []) (ns.getD j []), tuples' false, by rw [lv]; exact O, fun h2 A' h2' tk E' Q' gd' q' => ?_, fun A' h2' tk i j Q' hu' gd' hi hj hij q' => ?_, fun h2' tk r e ix kp hr gd' er hp pw => ?_⟩
    · obtain ⟨kkk, as', ea, la', _, _, g'⟩ := gd'
      have : as = as' := by
        have := congrArg (List.map fun v => match v with | Value.ref a => a | _ => 0) ea
        simpa [List.map_map, Function.comp_def] using this
      subst this
      rw [lv] at h2
      have mk : ∀ (l : List Addr) (m : List (List Key × Addr × Value)), l.length = m.length → (∀ (i : Nat) (c : Addr), l[i]? = some c → ∃ y, m[i]? = some y ∧ h2'.get? c = some (prO (.ref y.2.1) y.2.2)) → KatTups h2' (l.map Value.ref) (m.map fun y => Value.ref y.2.1) := by
        intro l
        induction l with
        | nil => intro m hl _; cases m with
          | nil => exact KatTups.nil
          | cons _ _ => simp at hl
        | cons c l ih => intro m hl hg; cases m with
          | nil => simp at hl
          | cons y m =>
            obtain ⟨y', z1, z2⟩ := hg 0 c rfl
            cases z1
            exact KatTups.cons z2 rfl rfl rfl (ih m (by simpa using hl) fun i c' e' => hg (i + 1) c' (by simpa using e'))
      have kt := mk as ys (by rw [la, ly]) g'
      refine kat_kind (s := Shared.mk h2' s.gens s.drawn tk s.os) (T := .type "tuple") kt (by rw [List.length_map, ly]; omega) (fun v hv => ?_) rfl q'
      obtain ⟨y, hm, rfl⟩ := List.mem_map.mp hv
      obtain ⟨i, hi⟩ := List.mem_iff_getElem?.mp hm
      have il : i < ns.length := by rw [← ly]; exact (List.getElem?_eq_some_iff.mp hi).1
      obtain ⟨b, c, n, y', e1, _, e3, e4, rfl, _, _⟩ := at2 il
      rw [hi] at e4; cases e4
      obtain ⟨its, ⟨o, o1, o2, _⟩, _⟩ := kkk i _ n e1 e3
      rw [← o2]
      exact (Looks.ld o1).andThen .now
    · rw [lv] at hi hj
      obtain ⟨b, c, n, y, e1, e2, e3, e4, rfl, e5, e6⟩ := at2 hi
      obtain ⟨b', c', m, y', f1, f2, f3, f4, rfl, f5, f6⟩ := at2 hj
      rw [e5, f5]
      obtain ⟨gk', as', ea, _, _, _, g'⟩ := gd'
      have : as = as' := by
        have := congrArg (List.map fun v => match v with | Value.ref a => a | _ => 0) ea
        simpa [List.map_map, Function.comp_def] using this
      subst this
      obtain ⟨y1, z1, z2⟩ := g' i c e2
      rw [e4] at z1; cases z1
      obtain ⟨y2, w1, w2⟩ := g' j c' f2
      rw [f4] at w1; cases w1
      obtain ⟨its, t1, i1, k1⟩ := gk' i _ n e1 e3
      obtain ⟨jts, t2, i2, k2⟩ := gk' j _ m f1 f3
      refine kat_lt (s := Shared.mk h2' s.gens s.drawn tk s.os) z2 rfl w2 rfl ?_
      have hu2 : A'.units < cLine := Nat.lt_trans hu' hu
      refine kat_cons (wpAny_eqBool_tuple (s := Shared.mk h2' s.gens s.drawn tk s.os) hu2 k1 k2 (kat_go (fun z => ?_) (fun z => kat_no (kat_one _ _ (HT.lt_tupInts t1 t2 (by simpa using i1) (by simpa using i2) hu2 ?_)))))
      · have : n = m := map_inl_inj (by simpa using z)
        subst this
        exact absurd (inj hi e3 f3) hij
      · show Q' (HT.lexLt n m) _
        rw [lexLt_eq, ← e6, ← f6]; exact q'
    · rw [lv] at hp
      obtain ⟨_, as', ea, la', _, _, g'⟩ := gd'
      have : as = as' := by
        have := congrArg (List.map fun v => match v with | Value.ref a => a | _ => 0) ea
        simpa [List.map_map, Function.comp_def] using this
      subst this
      have lx : ix.length < 64 := by rw [hp.length_eq, List.length_range]; exact h64
      have rS : s.heap.objs.size ≤ r := hr
      have kp' : ∀ b u, s.heap.get? b = some u → h2'.get? b = some u := fun b u e => kp b u (kv b u e)
      have rna : r ∉ as := fun hm => by
        obtain ⟨i, hi⟩ := List.mem_iff_getElem?.mp hm
        obtain ⟨y, _, z2⟩ := g' i r hi
        rw [er] at z2
        have := congrArg (fun o : Option Obj => o.map (·.cls)) z2
        simp [seqObj, prO] at this
      have ndA : as.Nodup := pa.imp fun h => Nat.ne_of_lt h
      have frA : ∀ b ∈ as, H b = none := fun b hb => I.hok.fresh (Nat.le_of_lt (ab b hb))
      have m1 : (prs bs (kvs.map (·.2)) as).map (·.1) = as := by
        unfold prs
        rw [List.map_fst_zip]
        rw [List.length_map, List.length_zip, List.length_map, List.length_map, la, ly, lk]; exact Nat.le_of_eq (Nat.min_self _).symm
      have memP : ∀ p ∈ prs bs (kvs.map (·.2)) as, ∃ i c b v, p = (c, HO.tup [.ref b, v]) ∧ as[i]? = some c ∧ bs[i]? = some b ∧ (kvs.map (·.2))[i]? = some v := fun p hp => by
        obtain ⟨i, hi⟩ := List.mem_iff_getElem?.mp hp
        unfold prs at hi
        rw [List.getElem?_zip_eq_some] at hi
        obtain ⟨z1, z2⟩ := hi
        rw [List.getElem?_map, Option.map_eq_some_iff] at z2
        obtain ⟨pp, z2, z3⟩ := z2
        rw [List.getElem?_zip_eq_some] at z2
        exact ⟨i, p.1, pp.1, pp.2, by rw [z3], z1, z2.1, z2.2⟩
      have hpl : ∀ p ∈ (r, HO.lst (ix.map fun i => V.ref (as.getD i 0))) :: prs bs (kvs.map (·.2)) as, s.heap.objs.size ≤ p.1 := fun p hp => by
        rcases List.mem_cons.mp hp with rfl | hp
        · exact rS
        · obtain ⟨i, c, b, v, rfl, z1, _⟩ := memP p hp
          exact Nat.le_of_lt (ab c (List.mem_of_getElem? z1))
      have ndl : (((r, HO.lst (ix.map fun i => V.ref (as.getD i 0))) :: prs bs (kvs.map (·.2)) as).map (·.1)).Nodup := by
        rw [List.map_cons, m1]; exact List.nodup_cons.mpr ⟨rna, ndA⟩
      have vals : Vals (ix.map fun i => V.ref (as.getD i 0)) (ix.map fun i => (as.map Value.ref).getD i Value.none) := by
        have : ∀ l : List Nat, (∀ i ∈ l, i < ns.length) → Vals (l.map fun i => V.ref (as.getD i 0)) (l.map fun i => (as.map Value.ref).getD i Value.none) := by
          intro l
          induction l with
          | nil => exact fun _ => .nil
          | cons i l ih =>
            intro hl
            obtain ⟨_, c, _, _, _, e1, _, _, _, e3, _⟩ := at2 (hl i (.head _))
            refine .cons ?_ (ih fun j hj => hl j (.tail _ hj))
            show L2.RelV (V.ref (as.getD i 0)) ((as.map Value.ref).getD i Value.none)
            rw [e3]
            show Value.ref c = Value.ref (as.getD i 0)
            rw [List.getD_eq_getElem?_getD, e1]; rfl
        exact this ix fun i hi => by simpa using hp.mem_iff.mp hi
      refine ⟨.ref r, _, I.un (t' := tk) (un_laids kp' hpl fun p hp => I.hok.fresh (hpl p hp)) (hok_laids I.hok kp' hpl ndl fun p hp => ?_), rfl, q bs as r ix (I.hok.fresh rS) rna ndA frA la lb P0 hp pw⟩
      rcases List.mem_cons.mp hp with rfl | hp
      · exact ⟨by rw [sizeLine_eq, List.length_map]; omega, _, e, vals, er⟩
      · obtain ⟨i, c, b, v, rfl, z1, z2, z3⟩ := memP p hp
        obtain ⟨y, w1, w2⟩ := g' i c z1
        rw [List.getElem?_map, Option.map_eq_some_iff] at z2 z3
        obtain ⟨y', z2, rfl⟩ := z2
        obtain ⟨p, z3, rfl⟩ := z3
        rw [w1] at z2; cases z2
        obtain ⟨_, _, r3⟩ := paired_get rel z3 w1
        exact ⟨by rw [sizeLine_eq]; simp, [.ref y.2.1, y.2.2], .cons rfl (.cons r3 .nil), _, w2, rfl, _, rfl⟩
end L4
end
section
set_option Elab.async false
set_option linter.all false
set_option maxRecDepth 100000
namespace L4
open PySem PySem.Spec PyProof.Rows L2 PySem.W
section
variable {X : Cx} {ct : Ct} {e : Expr} {es : List Expr} {f : Sg → Res D} {fa : Sg → Res (List D)} {p pos : Pos}
theorem tls_intsT {K : PySem.W.Frag} {H : Hp} : ∀ n : List Int, Tls K ct H (n.map D.int) (n.map V.int)
  | [] => Tls.nil
  | i :: n => Tls.cons (by simp [Tl]) (tls_intsT n)
theorem tl_tupI {K : PySem.W.Frag} {H : Hp} {b : Addr} {n : List Int} (h : H b = some (.tup (n.map V.int))) : Tl K ct H (tupI n) (.ref b) := by
  simp only [tupI, Tl]
  exact ⟨b, _, rfl, h, tls_intsT n⟩
theorem tls_map {K : PySem.W.Frag} {H : Hp} {α : Type} {g : α → D} {h : α → V} : ∀ {l : List α}, (∀ a ∈ l, Tl K ct H (g a) (h a)) → Tls K ct H (l.map g) (l.map h)
  | [], _ => Tls.nil
  | a :: l, q => Tls.cons (q a (.head _)) (tls_map fun b hb => q b (.tail _ hb))
theorem pl_sortedK (hcm : X.calm = true) (hm : X.mg "sorted" = none) (ha : PDA X ct (e :: es) fa) (hg : Gl X "sorted" := by rfl) (he : starEach (e :: es) X.env = (false, eval e X.env) :: starEach es X.env := by rfl) (hpl : (backTo pos (starEach es X.env)).any (·.1) = false := by rfl) : PL X ct (.Call (.Name "sorted" p) (e :: es) [] pos) (lCB sortKD fa) := by
  refine PE.imp (pe_callB (call_sortedK hcm) hg hm (by decide +kernel) ha (by decide) (by decide) he hpl) fun σ H Q ⟨Γ, j, h⟩ => ?_
  refine aOf.bnd j h fun ds vs H' s t j' h' => ?_
  unfold sortKD at h'
  split at h'
  · rename_i x
    obtain ⟨v, rfl, t1⟩ := tls1 t
    unfold sortK1 at h'
    split at h'
    · rename_i ks xs hd
      split at h'
      · rename_i ns hn
        split at h'
        · rename_i hc
          obtain ⟨a, us, rfl, q1, q2, q3⟩ := t1.dictT j'.lL j'.lB hd
          obtain ⟨n1, n2⟩ := ints3_eq hn
          have lx : xs.length = ns.length := by rw [q3.length, ← q2, n1, List.length_map]
          refine ⟨a, _, ns, rfl, q1, by rw [zip_keys q2]; exact n1, hc.1, n2, fun bs r ix hr hb hB hp pw => ?_⟩
          have s2 := same_new hr (.lst (ix.map fun i => V.ref (bs.getD i 0)))
          refine h' r _ _ (s.trans s2) (s.free hr) upd_same ?_
          rw [← srt_ix lx hc.2 hp pw, List.map_map]
          refine tls_map fun i hi => ?_
          have il : i < ns.length := by simpa using hp.mem_iff.mp hi
          have ib : i < bs.length := by rw [hb]; exact il
          show Tl X.K ct _ (tupI (ns.getD i [])) (V.ref (bs.getD i 0))
          rw [List.getD_eq_getElem?_getD, List.getD_eq_getElem?_getD, List.getElem?_eq_getElem il, List.getElem?_eq_getElem ib]
          exact tl_tupI (s2 _ _ (hB i _ _ (List.getElem?_eq_getElem ib) (List.getElem?_eq_getElem il)))
        · exact h'.elim
      · exact h'.elim
    · exact h'.elim
  · exact h'.elim
theorem wl_sortedK (hcm : X.calm = true) (hm : X.mg "sorted" = none) (ha : WDA X ct (e :: es) fa) (hg : Gl X "sorted" := by rfl) (he : starEach (e :: es) X.env = (false, eval e X.env) :: starEach es X.env := by rfl) (hpl : (backTo pos (starEach es X.env)).any (·.1) = false := by rfl) : WL X ct (.Call (.Name "sorted" p) (e :: es) [] pos) (lCB sortKD fa) := ⟨pl_sortedK (hcm := hcm) (hm := hm) (ha := ha.out) (hg := hg) (he := he) (hpl := hpl)⟩
end
end L4
end
section
set_option Elab.async false
set_option linter.all false
set_option maxRecDepth 100000
namespace L4
open PySem PySem.Spec PyProof.Rows L2 PySem.W
def IsVw (v a : Addr) : Heap → Prop := fun h => h.get? v = some (vwO a)
theorem isVw_ext {P : Program} {w : World} {H : Hp} {h : Heap} {v a : Addr} (e : h.get? v = some (vwO a)) : ObjOk P w H h v (.ext (IsVw v a)) := ⟨e, ⟨_, e⟩, fun h1 h2 e1 k => k _ e1⟩
def tItems (td : TE) : TE := fun σ H Q => td σ H fun x H1 => ∃ a, x = .ref a ∧ IsD H1 a ∧ ∀ v, H1 v = none → Q (.ref v) (upd H1 v (.ext (IsVw v a)))
section
variable {X : Cx} {ct : Ct} {o : Expr} {td : TE} {f : Sg → Res D} {ap cp p pos : Pos}
theorem pe_items (ho : PE X o td) (h1 : attributeBase o "items" X.env (eval o X.env) = eval o X.env := by rfl) (h3 : (ap.endLine == cp.line) = true := by rfl) : PE X (.Call (.Attribute o "items" ap) [] [] cp) (tItems td) := by
  intro pins s σ H Q I h
  refine wpAny_Call_method h1 rfl h3 PySem.F.plainAttrs_dict PySem.F.slot_dict_items PySem.F.type_dict_items (thn (ho pins s σ H _ I h) fun u s1 ⟨x, H1, I1, rx, a, ex, d, q1⟩ => ?_)
  subst ex
  obtain rfl : u = Value.ref a := rx
  obtain ⟨t1, t2, hy⟩ := isD_at I1 d
  refine ⟨t1, t2, ?_⟩
  show wpAny _ _ (callWith cp (.builtin "dict.items") [.ref a] [] []) _ _ s1
  refine Calls.callWith_builtin rfl (PyProof.Rows.evalArgs_none ?_)
  refine wpAny_call_entry PySem.F.slot_dict_items t1 PySem.F.entry_dict_items ?_ (PySem.F.args_dict_items_1 _)
  unfold Builtin.«dict.items»
  refine wpAny_bind ?_
  unfold Builtin.Dict.noArgs
  refine wpAny_bind (wpAny_notOrdered_dict t1 ?_)
  show wpAny _ _ (pure a) _ _ s1
  refine wpAny_pure ?_
  show wpAny _ _ (Builtin.Dict.showsAll a >>= _) _ _ s1
  unfold Builtin.Dict.showsAll
  rw [if_neg (by rw [hy]; exact Bool.false_ne_true)]
  refine wpAny_bind (wpAny_pure (wpAny_bind (wpAny_newObj_type (wpAny_pure ⟨_, rfl, ?_⟩))))
  have e : (s1.heap.push (vwO a)).get? s1.heap.objs.size = some (vwO a) := Heap.get?_push_size _ rfl
  exact ⟨.ref s1.heap.objs.size, _, I1.laid (t' := s1.toks) (fun _ _ z => Heap.get?_push_of_some _ z) (Nat.le_refl _) (isVw_ext e), rfl, q1 _ (I1.hok.fresh (Nat.le_refl _))⟩
theorem call_sortedV (hcm : X.calm = true) (hu : X.A.units + 8 < cLine) : CallR X (.builtin "sorted") (fun xs H Q => ∃ (v a : Addr) (kvs : List (List Key × V)) (ns : List (List Int)), xs = [.ref v] ∧ H v = some (.ext (IsVw v a)) ∧ Rd H a (.dT kvs) ∧ kvs.map (·.1) = ns.map (·.map Sum.inl) ∧ ns.length < 64 ∧ (∀ n ∈ ns, n.length = 3) ∧
    ∀ (bs as : List Addr) (r : Addr) (ix : List Nat), H r = none → r ∉ as → as.Nodup → (∀ b ∈ as, H b = none) → as.length = ns.length → bs.length = ns.length → (∀ (i : Nat) (b : Addr) (n : List Int), bs[i]? = some b → ns[i]? = some n → H b = some (.tup (n.map V.int))) → ix.Perm (List.range ns.length) → ix.Pairwise (fun i j => lexI (ns.getD i []) (ns.getD j []) = true) →
      Q (.ref r) (updL H ((r, HO.lst (ix.map fun i => V.ref (as.getD i 0))) :: prs bs (kvs.map (·.2)) as))) := by
  intro pins s σ H xs us Q I rr ⟨v, a, kvs, ns, ex, hv, rd, hk, h64, h3, q⟩
  subst ex
  obtain ⟨u, rfl, ru⟩ := vals1 rr
  cases ru
  exact call_sortedI hcm I (I.hok v _ hv).1 hu rd hk h64 h3 q
theorem pl_sortedI (hcm : X.calm = true) (hu : X.A.units + 8 < cLine) (hm : X.mg "sorted" = none) (ho : PD X ct o f) (hg : Gl X "sorted" := by rfl) (h1 : attributeBase o "items" X.env (eval o X.env) = eval o X.env := by rfl) (h3 : (ap.endLine == cp.line) = true := by rfl)
    (he : starEach [.Call (.Attribute o "items" ap) [] [] cp] X.env = (false, eval (.Call (.Attribute o "items" ap) [] [] cp) X.env) :: starEach [] X.env := by rfl) (hpl : (backTo pos (starEach [] X.env)).any (·.1) = false := by rfl) :
    PL X ct (.Call (.Name "sorted" p) [.Call (.Attribute o "items" ap) [] [] cp] [] pos) (fun Γ => (f Γ).bnd sortI1) := by
  refine PE.imp (pe_callB (call_sortedV hcm hu) hg hm (by decide +kernel) (pa_cons (pe_items ho h1 h3) pa_nil) (by decide) (by decide) he hpl) fun σ H Q ⟨Γ, j, h⟩ => ?_
  refine eOf.bnd j h fun d x H1 s t j1 h' => ?_
  unfold sortI1 at h'
  split at h'
  · rename_i ks xs hd
    split at h'
    · rename_i ns hn
      split at h'
      · rename_i hc
        obtain ⟨a, us, rfl, q1, q2, q3⟩ := t.dictT j1.lL j1.lB hd
        obtain ⟨n1, n2⟩ := ints3_eq hn
        have lx : xs.length = ns.length := by rw [q3.length, ← q2, n1, List.length_map]
        refine ⟨a, rfl, .inr ⟨_, q1⟩, fun v hv => ?_⟩
        have s2 := same_new hv (.ext (IsVw v a))
        have q1' : Rd (upd H1 v (.ext (IsVw v a))) a (.dT (ks.zip us)) := q1.imp (fun z => s2 _ _ z) fun ⟨o, z⟩ => ⟨o, s2 _ _ z⟩
        refine ⟨v, a, _, ns, rfl, upd_same, q1', by rw [zip_keys q2]; exact n1, hc.1, n2, fun bs as r ix hr hra hnd hfr la lb hB hp pw => ?_⟩
        have vals : (ks.zip us).map (·.2) = us := List.map_snd_zip (by omega)
        rw [vals]
        have m1 : (prs bs us as).map (·.1) = as := by
          unfold prs
          rw [List.map_fst_zip]
          rw [List.length_map, List.length_zip, la, lb, ← q2, n1, List.length_map]; exact Nat.le_of_eq (Nat.min_self _).symm
        have fr : ∀ p ∈ (r, HO.lst (ix.map fun i => V.ref (as.getD i 0))) :: prs bs us as, (upd H1 v (.ext (IsVw v a))) p.1 = none := fun p hp => by
          rcases List.mem_cons.mp hp with rfl | hp
          · exact hr
          · exact hfr p.1 (by rw [← m1]; exact List.mem_map_of_mem (f := (·.1)) hp)
        have ndl : (((r, HO.lst (ix.map fun i => V.ref (as.getD i 0))) :: prs bs us as).map (·.1)).Nodup := by
          rw [List.map_cons, m1]; exact List.nodup_cons.mpr ⟨hra, hnd⟩
        have s3 := updL_same fr
        have sm := (s.trans s2).trans s3
        refine h' r _ _ sm ((s.trans s2).free hr) (updL_in ndl (.head _)) ?_
        rw [← srt_ix lx hc.2 hp pw, List.map_map]
        refine tls_map fun i hi => ?_
        have il : i < ns.length := by simpa using hp.mem_iff.mp hi
        have ib : i < bs.length := by rw [lb]; exact il
        have ia : i < as.length := by rw [la]; exact il
        have ixx : i < xs.length := by rw [lx]; exact il
        have iu : i < us.length := by rw [← q3.length]; exact ixx
        show Tl X.K ct _ (.tup [tupI (ns.getD i []), xs.getD i .non]) (V.ref (as.getD i 0))
        rw [List.getD_eq_getElem?_getD, List.getD_eq_getElem?_getD, List.getD_eq_getElem?_getD, List.getElem?_eq_getElem il, List.getElem?_eq_getElem ia, List.getElem?_eq_getElem ixx]
        simp only [Tl]
        refine ⟨as[i], [.ref bs[i], us[i]], rfl, updL_in ndl (.tail _ ?_), Tls.cons (tl_tupI (s3 _ _ (hB i _ _ (List.getElem?_eq_getElem ib) (List.getElem?_eq_getElem il)))) (Tls.cons ?_ Tls.nil)⟩
        · refine List.mem_iff_getElem?.mpr ⟨i, ?_⟩
          unfold prs
          rw [List.getElem?_zip_eq_some]
          refine ⟨List.getElem?_eq_getElem ia, ?_⟩
          rw [List.getElem?_map, List.getElem?_eq_getElem (by rw [List.length_zip]; omega), List.getElem_zip]; rfl
        · obtain ⟨d, hd', td⟩ := (q3.keep (Same.keep (s2.trans s3))).get' (List.getElem?_eq_getElem iu)
          rw [List.getElem?_eq_getElem ixx] at hd'
          cases hd'
          exact td
      · exact h'.elim
    · exact h'.elim
  · exact h'.elim
theorem wl_sortedI (hcm : X.calm = true) (hu : X.A.units + 8 < cLine) (hm : X.mg "sorted" = none) (ho : WD X ct o f) (hg : Gl X "sorted" := by rfl) (h1 : attributeBase o "items" X.env (eval o X.env) = eval o X.env := by rfl) (h3 : (ap.endLine == cp.line) = true := by rfl) (he : starEach [.Call (.Attribute o "items" ap) [] [] cp] X.env = (false, eval (.Call (.Attribute o "items" ap) [] [] cp) X.env) :: starEach [] X.env := by rfl) (hpl : (backTo pos (starEach [] X.env)).any (·.1) = false := by rfl) : WL X ct (.Call (.Name "sorted" p) [.Call (.Attribute o "items" ap) [] [] cp] [] pos) (fun Γ => (f Γ).bnd sortI1) := ⟨pl_sortedI (hcm := hcm) (hu := hu) (hm := hm) (ho := ho.out) (hg := hg) (h1 := h1) (h3 := h3) (he := he) (hpl := hpl)⟩
end
section
variable {X : Cx} {c : Cf} {e : Expr} {fm : Sg → Res M} {pos : Pos}
theorem pds_clearT {ap cp : Pos} (he : ∀ B, PM X (c.at' B) e fm) (hbase : attributeBase e "clear" X.env (eval e X.env) = eval e X.env := by rfl) (hline : (ap.endLine == cp.line) = true := by rfl)
    (hw : swapsWith (.Call (.Attribute e "clear" ap) [] [] cp) none pos.line X.env = pure false := by rfl) : PDS X c (.Expr (.Call (.Attribute e "clear" ap) [] [] cp) pos) (sClearT fm) := by
  intro pins s σ H E I ⟨Γ, j, h⟩
  refine ps_expr (pe_bm0 PySem.F.plainAttrs_list PySem.F.slot_list_clear PySem.F.type_list_clear mt_clear (he H) hbase hline) hw pins s σ H E I ?_
  refine ⟨Γ, j.lift, Fn.ok j h fun m _ q v H1 S s1 ow n1 n2 => ?_⟩
  cases m with
  | l xs =>
    simp only [Ow] at ow
    obtain ⟨a, vs, rfl, hS, ha, _⟩ := ow
    have sm : Same H (upd H1 a (.lst [])) := fun b o z => by
      rw [upd_ne (ne_of_none z (n1 a hS))]; exact s1 b o z
    exact ⟨.inl ⟨rfl, vs, SqL.of ha⟩, a, vs, rfl, rfl, ha, q σ _ (Same.keep sm) (j.mono sm)⟩
  | _ => exact q.elim
theorem wds_clearT {ap cp : Pos} (he : ∀ B, WM X (c.at' B) e fm) (hbase : attributeBase e "clear" X.env (eval e X.env) = eval e X.env := by rfl) (hline : (ap.endLine == cp.line) = true := by rfl) (hw : swapsWith (.Call (.Attribute e "clear" ap) [] [] cp) none pos.line X.env = pure false := by rfl) : WDS X c (.Expr (.Call (.Attribute e "clear" ap) [] [] cp) pos) (sClearT fm) := ⟨pds_clearT (he := (fun B => (he B).out)) (hbase := hbase) (hline := hline) (hw := hw)⟩
end
end L4
end
section
set_option Elab.async false
set_option linter.all false
set_option maxRecDepth 100000
namespace L4
open PySem
abbrev Lt := List (List Int × Rat)
def ofR (r : Rat) : Int × Int := (r.num, (r.den : Int))
theorem norm_fr (t : Int) (b : Nat) (h : b ≠ 0) : (frT t b, frB t b) = ofR (Rat.normalize t b h) := by
  have e : frD (b : Int) (Int.gcd t b) = (Int.gcd t b : Int) := by
    unfold frD; rw [if_neg (by omega)]
  have g : Int.gcd t (b : Int) = Nat.gcd t.natAbs b := rfl
  rw [Rat.normalize_eq]
  unfold frT frB ofR
  rw [e, g, Int.fdiv_eq_ediv_of_nonneg _ (by omega), Int.fdiv_eq_ediv_of_nonneg _ (by omega)]
  rfl
theorem add_fr (r s : Rat) : (frT (r.num * s.den + s.num * r.den) ((r.den : Int) * s.den), frB (r.num * s.den + s.num * r.den) ((r.den : Int) * s.den)) = ofR (r + s) := by
  have := norm_fr (r.num * s.den + s.num * r.den) (r.den * s.den) (Nat.mul_ne_zero r.den_nz s.den_nz)
  rw [Rat.add_def, ← this]; simp
theorem mul_fr (r s : Rat) : (frT (r.num * s.num) ((r.den : Int) * s.den), frB (r.num * s.num) ((r.den : Int) * s.den)) = ofR (r * s) := by
  have := norm_fr (r.num * s.num) (r.den * s.den) (Nat.mul_ne_zero r.den_nz s.den_nz)
  rw [Rat.mul_def, ← this]; simp
structure Sz (c k : Nat) (r : Rat) : Prop where
  nn : 0 ≤ r.num
  top : r.num.natAbs < 2 ^ (8 * k + c)
  bot : r.den < 2 ^ (7 * k)
theorem fst_fr {t b : Int} {r : Rat} (h : (frT t b, frB t b) = ofR r) : frT t b = r.num := congrArg Prod.fst h
theorem snd_fr {t b : Int} {r : Rat} (h : (frT t b, frB t b) = ofR r) : frB t b = r.den := congrArg Prod.snd h
theorem num_le {t b : Int} {r : Rat} (h : (frT t b, frB t b) = ofR r) (hb : b ≠ 0) : r.num.natAbs ≤ t.natAbs := by rw [← fst_fr h]; exact frT_le hb
theorem den_le {t b : Int} {r : Rat} (h : (frT t b, frB t b) = ofR r) (hb : b ≠ 0) : r.den ≤ b.natAbs := by
  have := frB_le (t := t) hb
  rw [snd_fr h] at this; simpa using this
theorem num_nn {t b : Int} {r : Rat} (h : (frT t b, frB t b) = ofR r) (hb : 0 < b) (ht : 0 ≤ t) : 0 ≤ r.num := by
  rw [← fst_fr h]
  unfold frT frD
  rw [if_neg (by omega), Int.fdiv_eq_ediv_of_nonneg _ (by omega)]
  exact Int.ediv_nonneg ht (by omega)
theorem dpos (r : Rat) : 0 < (r.den : Int) := by have := r.den_pos; omega
theorem dmul_ne (r s : Rat) : (r.den : Int) * s.den ≠ 0 := Int.ne_of_gt (Int.mul_pos (dpos r) (dpos s))
theorem Sz.mono {c k c' k' : Nat} {r : Rat} (h : Sz c k r) (hc : c ≤ c') (hk : k ≤ k') : Sz c' k' r :=
  ⟨h.nn, Nat.lt_of_lt_of_le h.top (Nat.pow_le_pow_right (by decide) (by omega)), Nat.lt_of_lt_of_le h.bot (Nat.pow_le_pow_right (by decide) (by omega))⟩
theorem mul_lt {a b n m : Nat} (h1 : a < 2 ^ n) (h2 : b < 2 ^ m) : a * b < 2 ^ (n + m) := by
  rw [Nat.pow_add]; exact Nat.mul_lt_mul'' h1 h2
theorem Sz.add {c k j : Nat} {r s : Rat} (h : Sz c k r) (g : Sz c j s) (hk : 1 ≤ k) (hj : 1 ≤ j) : Sz c (k + j) (r + s) := by
  have e := add_fr r s
  refine ⟨num_nn e (Int.mul_pos (dpos r) (dpos s)) (Int.add_nonneg (Int.mul_nonneg h.nn (by omega)) (Int.mul_nonneg g.nn (by omega))), ?_, ?_⟩
  · refine Nat.lt_of_le_of_lt (num_le e (dmul_ne r s)) ?_
    refine Nat.lt_of_le_of_lt (Int.natAbs_add_le _ _) ?_
    rw [Int.natAbs_mul, Int.natAbs_mul]
    have a1 := mul_lt h.top (show (s.den : Int).natAbs < 2 ^ (7 * j) by simpa using g.bot)
    have a2 := mul_lt g.top (show (r.den : Int).natAbs < 2 ^ (7 * k) by simpa using h.bot)
    have b1 : 2 ^ (8 * k + c + 7 * j) ≤ 2 ^ (8 * (k + j) + c - 1) := Nat.pow_le_pow_right (by decide) (by omega)
    have b2 : 2 ^ (8 * j + c + 7 * k) ≤ 2 ^ (8 * (k + j) + c - 1) := Nat.pow_le_pow_right (by decide) (by omega)
    have b3 : 2 ^ (8 * (k + j) + c) = 2 * 2 ^ (8 * (k + j) + c - 1) := by
      rw [← Nat.pow_succ']; congr 1; omega
    omega
  · refine Nat.lt_of_le_of_lt (den_le e (dmul_ne r s)) ?_
    rw [Int.natAbs_mul]
    have := mul_lt h.bot g.bot
    rw [show 7 * (k + j) = 7 * k + 7 * j by omega]
    simpa using this
theorem Sz.mul {c c' k j : Nat} {r s : Rat} (h : Sz c k r) (g : Sz c' j s) : Sz (c + c') (k + j) (r * s) := by
  have e := mul_fr r s
  refine ⟨num_nn e (Int.mul_pos (dpos r) (dpos s)) (Int.mul_nonneg h.nn g.nn), ?_, ?_⟩
  · refine Nat.lt_of_le_of_lt (num_le e (dmul_ne r s)) ?_
    rw [Int.natAbs_mul]
    have := mul_lt h.top g.top
    rw [show 8 * (k + j) + (c + c') = 8 * k + c + (8 * j + c') by omega]
    exact this
  · refine Nat.lt_of_le_of_lt (den_le e (dmul_ne r s)) ?_
    rw [Int.natAbs_mul]
    have := mul_lt h.bot g.bot
    rw [show 7 * (k + j) = 7 * k + 7 * j by omega]
    simpa using this
theorem Sz.zero {c : Nat} : Sz c 1 0 := ⟨by decide, Nat.pos_of_ne_zero (by simp), by decide⟩
def putR (l : Lt) (k : List Int) (r : Rat) : Lt := if (l.any fun p => decide (p.1 = k)) = true then l.map (fun p => if p.1 = k then (p.1, r) else p) else l ++ [(k, r)]
def getR (l : Lt) (k : List Int) : Option Rat := (l.find? fun p => decide (p.1 = k)).map (·.2)
def valR (l : Lt) (k : List Int) : Rat := (getR l k).getD 0
def gat (d : Lt) (l : Lt) : Lt := l.foldl (fun d p => putR d p.1 (valR d p.1 + p.2)) d
def sumAt : Lt → List Int → Rat
  | [], _ => 0
  | p :: l, k => (if p.1 = k then p.2 else 0) + sumAt l k
theorem getR_cons (p : List Int × Rat) (l : Lt) (k : List Int) : getR (p :: l) k = if p.1 = k then some p.2 else getR l k := by
  unfold getR
  by_cases h : p.1 = k <;> simp [List.find?, h]
theorem putR_cons (p : List Int × Rat) (l : Lt) (k : List Int) (r : Rat) : putR (p :: l) k r = if p.1 = k then (p.1, r) :: l.map (fun p => if p.1 = k then (p.1, r) else p) else p :: putR l k r := by
  unfold putR
  by_cases h : p.1 = k
  · simp [h]
  · simp only [List.any_cons, h, decide_false, Bool.false_or, List.map_cons, if_false]
    split <;> rfl
theorem getR_put : ∀ (l : Lt) (k : List Int) (r : Rat) (k' : List Int), getR (putR l k r) k' = if k = k' then some r else getR l k'
  | [], k, r, k' => by by_cases h : k = k' <;> simp [putR, getR, List.find?, h]
  | p :: l, k, r, k' => by
    rw [putR_cons]
    by_cases h : p.1 = k
    · rw [if_pos h, getR_cons, getR_cons]
      by_cases h' : k = k'
      · simp [h, h']
      · have : ¬ p.1 = k' := by rw [h]; exact h'
        simp only [this, h', if_false]
        clear getR_put
        induction l with
        | nil => rfl
        | cons q l ih =>
          rw [List.map_cons, getR_cons, getR_cons, ih]
          by_cases hq : q.1 = k
          · have : ¬ q.1 = k' := by rw [hq]; exact h'
            simp [hq, h']
          · simp [hq]
    · rw [if_neg h, getR_cons, getR_cons, getR_put l k r k']
      by_cases h' : k = k'
      · have : ¬ p.1 = k' := by rw [← h']; exact h
        simp [h', this]
      · simp [h']
theorem keys_put : ∀ (l : Lt) (k : List Int) (r : Rat), (putR l k r).map (·.1) = if k ∈ l.map (·.1) then l.map (·.1) else l.map (·.1) ++ [k] := by
  intro l k r
  unfold putR
  by_cases h : k ∈ l.map (·.1)
  · have : (l.any fun p => decide (p.1 = k)) = true := by
      obtain ⟨p, hp, e⟩ := List.mem_map.mp h
      exact List.any_eq_true.mpr ⟨p, hp, by simpa using e⟩
    rw [if_pos this, if_pos h, List.map_map]
    apply List.map_congr_left
    intro p _
    simp only [Function.comp]
    split <;> rfl
  · have : ¬ (l.any fun p => decide (p.1 = k)) = true := by
      intro z
      obtain ⟨p, hp, e⟩ := List.any_eq_true.mp z
      exact h (List.mem_map.mpr ⟨p, hp, by simpa using e⟩)
    rw [if_neg this, if_neg h]; simp
theorem nodup_put {l : Lt} {k : List Int} {r : Rat} (h : (l.map (·.1)).Nodup) : ((putR l k r).map (·.1)).Nodup := by
  rw [keys_put]
  split
  · exact h
  · rename_i q
    rw [List.nodup_append]
    exact ⟨h, by simp, fun a ha b hb => by simp at hb; subst hb; intro z; subst z; exact q ha⟩
theorem mem_keys_put {l : Lt} {k : List Int} {r : Rat} {k' : List Int} : k' ∈ (putR l k r).map (·.1) ↔ k' = k ∨ k' ∈ l.map (·.1) := by
  rw [keys_put]
  split
  · rename_i q
    exact ⟨.inr, fun h => h.elim (fun e => e ▸ q) id⟩
  · simp only [List.mem_append, List.mem_singleton]
    exact ⟨fun h => h.symm, fun h => h.symm⟩
theorem gat_nodup : ∀ (l d : Lt), (d.map (·.1)).Nodup → ((gat d l).map (·.1)).Nodup
  | [], d, h => h
  | p :: l, d, h => gat_nodup l _ (nodup_put h)
theorem gat_keys : ∀ (l d : Lt) (k : List Int), k ∈ (gat d l).map (·.1) ↔ k ∈ d.map (·.1) ∨ k ∈ l.map (·.1)
  | [], d, k => by simp [gat]
  | p :: l, d, k => by
    have := gat_keys l (putR d p.1 (valR d p.1 + p.2)) k
    rw [mem_keys_put] at this
    rw [show gat d (p :: l) = gat (putR d p.1 (valR d p.1 + p.2)) l from rfl, this, List.map_cons, List.mem_cons]
    constructor
    · rintro ((h | h) | h)
      · exact .inr (.inl h)
      · exact .inl h
      · exact .inr (.inr h)
    · rintro (h | h | h)
      · exact .inl (.inr h)
      · exact .inl (.inl h)
      · exact .inr h
theorem valR_put (l : Lt) (k : List Int) (r : Rat) (k' : List Int) : valR (putR l k r) k' = if k = k' then r else valR l k' := by
  unfold valR
  rw [getR_put]
  split <;> rfl
theorem gat_val : ∀ (l d : Lt) (k : List Int), valR (gat d l) k = valR d k + sumAt l k
  | [], d, k => by simp [gat, sumAt, Rat.add_zero]
  | p :: l, d, k => by
    rw [show gat d (p :: l) = gat (putR d p.1 (valR d p.1 + p.2)) l from rfl, gat_val l, valR_put, sumAt]
    by_cases h : p.1 = k
    · subst h; simp only [if_true]; rw [Rat.add_assoc]
    · simp only [h, if_false]; rw [Rat.zero_add]
theorem sumAt_append (a b : Lt) (k : List Int) : sumAt (a ++ b) k = sumAt a k + sumAt b k := by
  induction a with
  | nil => simp [sumAt, Rat.zero_add]
  | cons p a ih => simp only [List.cons_append, sumAt, ih, Rat.add_assoc]
theorem mem_get : ∀ {l : Lt}, (l.map (·.1)).Nodup → ∀ {k : List Int} {r : Rat}, (k, r) ∈ l ↔ k ∈ l.map (·.1) ∧ valR l k = r
  | [], _, k, r => by simp
  | p :: l, h, k, r => by
    rw [List.map_cons, List.nodup_cons] at h
    have ih := mem_get (l := l) h.2 (k := k) (r := r)
    unfold valR at ih ⊢
    rw [List.mem_cons, List.map_cons, List.mem_cons, getR_cons]
    by_cases e : p.1 = k
    · subst e
      have n : (p.1, r) ∉ l := fun z => h.1 (List.mem_map.mpr ⟨_, z, rfl⟩)
      simp only [n, or_false, if_true, true_or, true_and]
      exact ⟨fun z => (congrArg Prod.snd z).symm, fun z => by
        have : p.2 = r := z
        rw [← this]⟩
    · have e' : ¬ k = p.1 := fun z => e z.symm
      simp only [e, if_false, e', false_or]
      rw [← ih]
      exact ⟨fun z => z.elim (fun z => absurd (congrArg Prod.fst z) e') id, .inr⟩
theorem nodup_of_keys {l : Lt} (h : (l.map (·.1)).Nodup) : l.Nodup := by
  have : l.Pairwise (fun a b => a.1 ≠ b.1) := List.pairwise_map.mp h
  exact this.imp fun h z => h (by rw [z])
theorem gat_comm (a b : Lt) : (gat [] (a ++ b)).Perm (gat [] (b ++ a)) := by
  have h1 := gat_nodup (a ++ b) [] (by simp)
  have h2 := gat_nodup (b ++ a) [] (by simp)
  refine (List.perm_ext_iff_of_nodup (nodup_of_keys h1) (nodup_of_keys h2)).mpr ?_
  rintro ⟨k, r⟩
  rw [mem_get h1, mem_get h2, gat_keys, gat_keys, gat_val, gat_val, sumAt_append, sumAt_append, Rat.add_comm (sumAt a k)]
  simp only [List.map_append, List.mem_append, List.map_nil, List.not_mem_nil, false_or]
  exact ⟨fun z => ⟨z.1.symm, z.2⟩, fun z => ⟨z.1.symm, z.2⟩⟩
theorem putR_new {d : Lt} {k : List Int} {r : Rat} (h : k ∉ d.map (·.1)) : putR d k r = d ++ [(k, r)] := by
  unfold putR
  rw [if_neg]
  intro z
  obtain ⟨p, hp, e⟩ := List.any_eq_true.mp z
  exact h (List.mem_map.mpr ⟨p, hp, by simpa using e⟩)
theorem valR_new {d : Lt} {k : List Int} (h : k ∉ d.map (·.1)) : valR d k = 0 := by
  unfold valR getR
  rw [List.find?_eq_none.mpr]
  · rfl
  · intro p hp
    simp only [decide_eq_true_eq]
    exact fun z => h (List.mem_map.mpr ⟨p, hp, z⟩)
theorem gat_id : ∀ (l d : Lt), ((d ++ l).map (·.1)).Nodup → gat d l = d ++ l
  | [], d, _ => by simp [gat]
  | p :: l, d, h => by
    have n : p.1 ∉ d.map (·.1) := by
      rw [List.map_append, List.nodup_append] at h
      exact fun z => h.2.2 _ z _ (by simp) rfl
    rw [show gat d (p :: l) = gat (putR d p.1 (valR d p.1 + p.2)) l from rfl, putR_new n, valR_new n, Rat.zero_add, gat_id l _ (by simpa using h)]
    simp
def kd (l : Lt) : List KD := l.map fun p => (p.1, .tup [.int (ofR p.2).1, .int (ofR p.2).2])
def srtRI (x : List Int × Rat) : Lt → Lt
  | [] => [x]
  | y :: l => if lexI x.1 y.1 = true then x :: y :: l else y :: srtRI x l
def srtR : Lt → Lt
  | [] => []
  | x :: l => srtRI x (srtR l)
theorem kd_srtRI (x : List Int × Rat) : ∀ l : Lt, kd (srtRI x l) = srtI (x.1, .tup [.int (ofR x.2).1, .int (ofR x.2).2]) (kd l)
  | [] => rfl
  | y :: l => by
    have ih := kd_srtRI x l
    simp only [srtRI, kd, srtI, List.map_cons] at ih ⊢
    split
    · rfl
    · rw [List.map_cons, ih]
theorem kd_srtR : ∀ l : Lt, kd (srtR l) = srt (kd l)
  | [] => rfl
  | x :: l => by
    show kd (srtRI x (srtR l)) = srtI _ (srt (kd l))
    rw [kd_srtRI, kd_srtR l]
theorem srtRI_perm (x : List Int × Rat) : ∀ l, (srtRI x l).Perm (x :: l)
  | [] => .refl _
  | y :: l => by
    unfold srtRI
    split
    · exact .refl _
    · exact ((srtRI_perm x l).cons y).trans (.swap x y l)
theorem srtR_perm : ∀ l, (srtR l).Perm l
  | [] => .refl _
  | x :: l => (srtRI_perm x (srtR l)).trans ((srtR_perm l).cons x)
theorem ofR_inj {r s : Rat} (h : ofR r = ofR s) : r = s := Rat.ext (congrArg Prod.fst h) (Int.ofNat.inj (congrArg Prod.snd h))
theorem kd_inj : ∀ {l m : Lt}, kd l = kd m → l = m
  | [], [], _ => rfl
  | [], _ :: _, h => nomatch h
  | _ :: _, [], h => nomatch h
  | p :: l, q :: m, h => by
    simp only [kd, List.map_cons, List.cons.injEq, Prod.mk.injEq, D.tup.injEq, D.int.injEq, and_true] at h
    obtain ⟨⟨h1, h2, h3⟩, h4⟩ := h
    rw [kd_inj h4, show p = q from Prod.ext h1 (ofR_inj (Prod.ext h2 h3))]
theorem kd_keys (l : Lt) : (kd l).map (·.1) = l.map (·.1) := by simp [kd, Function.comp_def]
def UpR (l : Lt) : Prop := (kd l).Pairwise LtK
theorem srtR_up {l : Lt} (h : (l.map (·.1)).Nodup) : UpR (srtR l) := by
  unfold UpR; rw [kd_srtR]; exact srt_up (by rw [kd_keys]; exact h)
theorem UpR.nodup {l : Lt} (h : UpR l) : (l.map (·.1)).Nodup := by
  rw [← kd_keys]
  exact List.pairwise_map.mpr (List.Pairwise.imp (fun {a b} (z : LtK a b) (e : a.1 = b.1) => by
    unfold LtK at z; rw [e, lexI_irr] at z; cases z) h)
theorem srtR_eq {l m : Lt} (p : l.Perm m) (h : (l.map (·.1)).Nodup) : srtR l = srtR m := by
  apply kd_inj
  refine up_unique ?_ (srtR_up h) (srtR_up ((p.map (·.1)).nodup_iff.mp h))
  exact ((srtR_perm l).trans (p.trans (srtR_perm m).symm)).map _
theorem srtR_id {l : Lt} (h : UpR l) : srtR l = l := by
  apply kd_inj
  exact up_unique ((srtR_perm l).map _) (srtR_up h.nodup) h
def joinR (a b : Lt) : Lt := srtR (gat [] (a ++ b))
theorem joinR_comm (a b : Lt) : joinR a b = joinR b a := srtR_eq (gat_comm a b) (gat_nodup _ _ (by simp))
theorem joinR_nil {a : Lt} (h : UpR a) : joinR a [] = a := by
  unfold joinR
  rw [List.append_nil, gat_id a [] (by simpa using h.nodup), List.nil_append, srtR_id h]
theorem nil_joinR {a : Lt} (h : UpR a) : joinR [] a = a := by rw [joinR_comm, joinR_nil h]
def sumR (d : Rat) (l : Lt) : Rat := l.foldl (fun d p => d + p.2) d
def sclR (l : Lt) (by' : Rat) : Lt := l.map fun p => (p.1, p.2 * by')
theorem sumR_scl (by' : Rat) : ∀ (l : Lt) (d : Rat), sumR (d * by') (sclR l by') = sumR d l * by'
  | [], _ => rfl
  | p :: l, d => by
    show sumR (d * by' + p.2 * by') (sclR l by') = sumR (d + p.2) l * by'
    rw [← Rat.add_mul, sumR_scl by' l]
end L4
end
section
set_option Elab.async false
set_option linter.all false
set_option maxRecDepth 100000
set_option exponentiation.threshold 10000
namespace K26
open PySem L4
def mt : List (String × List String) := [("NoFraction", ["NoFraction", "BeamError", "ValueError"]), ("NoStrength", ["NoStrength", "BeamError", "ValueError"])]
def ftab : List (String × List Str) := []
abbrev n_l_cell_at : List Str := ["_law_script", "_law_k"]
abbrev p_l_cell_at : List Str := ["_law_script", "_law_k"]
def b_l_cell_at (n : Nat) : Sg → Out :=
    (sSeq (sIf (dT (dOp ltI (dVar 1) (dCB lenD (dCons (dVar 0) dNil)))) (sRet (dOp ixD (dVar 0) (dVar 1))) sNext)
    (sRet (dC (.int 0))))
def F_l_cell_at (as : List Slot) : Ans := ans (b_l_cell_at 0 (st0 n_l_cell_at as))
abbrev n_l_pass : List Str := ["_law_cell"]
abbrev p_l_pass : List Str := ["_law_cell"]
def b_l_pass (n : Nat) : Sg → Out :=
    (sSeq (sIf (dT (dOp eqD (dOp modI (dVar 0) (dC (.int 2))) (dC (.int 0)))) (sRet (dTup (dCons (dOp modI (dOp fdivI (dVar 0) (dC (.int 2))) (dC (.int 3))) (dCons (dOp modI (dOp fdivI (dVar 0) (dC (.int 6))) (dC (.int 3))) (dCons (dOp modI (dOp fdivI (dVar 0) (dC (.int 18))) (dC (.int 4))) dNil))))) sNext)
    (sRet (dOp ixD (dFz (dLst (dCons (dTup (dCons (dC (.int 3)) (dCons (dC (.int 0)) (dCons (dC (.int 0)) dNil)))) (dCons (dTup (dCons (dUn negI (dC (.int 1))) (dCons (dC (.int 2)) (dCons (dC (.int 2)) dNil)))) (dCons (dTup (dCons (dC (.int 1)) (dCons (dUn negI (dC (.int 1))) (dCons (dC (.int 1)) dNil)))) (dCons (dTup (dCons (dC (.int 2)) (dCons (dC (.int 3)) (dCons (dC (.int 3)) dNil)))) dNil)))))) (dOp modI (dOp fdivI (dVar 0) (dC (.int 2))) (dC (.int 4))))))
def F_l_pass (as : List Slot) : Ans := ans (b_l_pass 0 (st0 n_l_pass as))
abbrev n_l_low : List Str := ["_law_top", "_law_bottom", "_law_one", "_law_other"]
abbrev p_l_low : List Str := ["_law_top", "_law_bottom"]
def y_l_low_1 (n : Nat) : Sg → Res Bool :=
    (dT (dOp neD (dVar 3) (dC (.int 0))))
def y_l_low_2 (n : Nat) : Sg → Out :=
    (sPar 2 3 (dCons (dVar 3) (dCons (dOp modI (dVar 2) (dVar 3)) dNil)))
def b_l_low (n : Nat) : Sg → Out :=
    (sSeq (sSet 2 (dVar 0))
    (sSeq (sSet 3 (dVar 1))
    (sSeq (whileD (y_l_low_1 n) (y_l_low_2 n) n)
    (sRet (dTup (dCons (dOp fdivI (dVar 0) (dVar 2)) (dCons (dOp fdivI (dVar 1) (dVar 2)) dNil)))))))
def F_l_low : List Slot → Ans
  | [.val (.int a), .val (.int b)] => if 0 ≤ a ∧ 1 ≤ b ∧ b.natAbs < 2 ^ 9000 then .ok (.tup [.int (a.fdiv (Int.gcd a b)), .int (b.fdiv (Int.gcd a b))]) else .bad
  | _ => .bad
theorem low_loop (a b : Slot) (m : Nat) : ∀ (s l k : Nat), s < k → whileD (y_l_low_1 m) (y_l_low_2 m) k [a, b, .val (.int l), .val (.int s)] = .nx [a, b, .val (.int (Nat.gcd l s : Nat)), .val (.int 0)] := by
  intro s
  induction s using Nat.strongRecOn with
  | _ s ih =>
    intro l k hk
    obtain ⟨k, rfl⟩ : ∃ j, k = j + 1 := ⟨k - 1, by omega⟩
    by_cases h : s = 0
    · subst h
      simp [whileD, y_l_low_1]
    · have e := ih (l % s) (Nat.mod_lt l (by omega)) s k (by have := Nat.mod_lt l (show 0 < s by omega); omega)
      have hs : ((s : Int) = 0) = False := by simp [h]
      have hs' : (s : Int) ≠ 0 := by omega
      rw [gcd_step l s h, ← e]
      simp [whileD, y_l_low_1, y_l_low_2, h, hs, modI_int _ _ hs', fmod_nat]
theorem h_l_low (as : List Slot) (hl : as.length = p_l_low.length) (hb : F_l_low as ≠ .bad) : ∃ n, ans (b_l_low n (st0 n_l_low as)) = F_l_low as := by
  match as, hb with
  | [.val (.int a), .val (.int b)], hb =>
    by_cases hc : 0 ≤ a ∧ 1 ≤ b ∧ b.natAbs < 2 ^ 9000
    · obtain ⟨h1, h2, h3⟩ := id hc
      obtain ⟨l, rfl⟩ := Int.eq_ofNat_of_zero_le h1
      obtain ⟨s, rfl⟩ := Int.eq_ofNat_of_zero_le (show 0 ≤ b by omega)
      refine ⟨s + 1, ?_⟩
      have e := low_loop (.val (.int (l : Int))) (.val (.int (s : Int))) (s + 1) s l (s + 1) (by omega)
      have hg : Int.gcd (l : Int) (s : Int) = Nat.gcd l s := by simp [Int.gcd]
      have hgp : 0 < Nat.gcd l s := Nat.gcd_pos_of_pos_right _ (by omega)
      have hgl : Nat.gcd l s ≤ s := Nat.le_of_dvd (by omega) (Nat.gcd_dvd_right _ _)
      have d : ∀ x : Int, fdivI (.int x) (.int ((Nat.gcd l s : Nat) : Int)) = .ok (.int (x.fdiv ((Nat.gcd l s : Nat) : Int))) := fun x => fdivI_int _ _ (divOk_of (by omega) (Nat.lt_of_le_of_lt (by simpa using hgl) (by simpa using h3)))
      simp only [F_l_low, hc, and_self, if_true, hg]
      simp [b_l_low, st0, e, d]
    · exact absurd (by simp [F_l_low, hc]) hb
abbrev n_l_strength : List Str := ["_law_cell"]
abbrev p_l_strength : List Str := ["_law_cell"]
def b_l_strength (n : Nat) : Sg → Out :=
    (sRet (dCall 2 F_l_low (dCons (dOp addD (dC (.int 1)) (dOp modI (dOp mulI (dVar 0) (dC (.int 48271))) (dOp powI (dC (.int 10)) (dC (.int 30))))) (dCons (dOp addD (dC (.int 1)) (dOp modI (dOp fdivI (dVar 0) (dC (.int 7))) (dC (.int 97)))) dNil))))
def F_l_strength (as : List Slot) : Ans := ans (b_l_strength 0 (st0 n_l_strength as))
abbrev n_l_light : List Str := ["_law_cells", "_law_kept", "_law_cell"]
abbrev p_l_light : List Str := ["_law_cells"]
def y_l_light_1 (n : Nat) : Sg → Out :=
    (sPutT 1 (pVar 1) (dCallN 1 F_l_pass (dCons (dVar 2) dNil)) (dCallN 1 F_l_strength (dCons (dOp fdivI (dVar 2) (dC (.int 3))) dNil)))
def b_l_light (n : Nat) : Sg → Out :=
    (sSeq (sSetM 1 (fun _ => .ok (.k (.t []) [])))
    (sSeq (sForI (iSeq (dVar 0)) (tgName 2) (y_l_light_1 n))
    (sRetM (mL (lComp true (iSeq (dFz (lCB sortKD (dCons (dVarO 1) dNil)))) 1 [1] (tgName 0) cYes (dTup (dCons (dVar 0) (dCons (dOp getDT (dVar 1) (dVar 0)) dNil))))))))
def F_l_light (as : List Slot) : Ans := ans (b_l_light 0 (st0 n_l_light as))
abbrev n_l_plus : List Str := ["_law_one", "_law_other"]
abbrev p_l_plus : List Str := ["_law_one", "_law_other"]
def b_l_plus (n : Nat) : Sg → Out :=
    (sRet (dCall 2 F_l_low (dCons (dOp addD (dOp mulI (dOp ixD (dVar 0) (dC (.int 0))) (dOp ixD (dVar 1) (dC (.int 1)))) (dOp mulI (dOp ixD (dVar 1) (dC (.int 0))) (dOp ixD (dVar 0) (dC (.int 1))))) (dCons (dOp mulI (dOp ixD (dVar 0) (dC (.int 1))) (dOp ixD (dVar 1) (dC (.int 1)))) dNil))))
def F_l_plus (as : List Slot) : Ans := ans (b_l_plus 0 (st0 n_l_plus as))
abbrev n_l_both : List Str := ["_law_one", "_law_other", "_law_kept", "_law_p", "_law_strength_here"]
abbrev p_l_both : List Str := ["_law_one", "_law_other"]
def y_l_both_1 (n : Nat) : Sg → Out :=
    (sPutT 2 (pVar 2) (dVar 3) (dCallO 2 F_l_plus (dCons (dGet2 (dVarO 2) (dVar 3) (dTup (dCons (dC (.int 0)) (dCons (dC (.int 1)) dNil)))) (dCons (dVar 4) dNil))))
def b_l_both (n : Nat) : Sg → Out :=
    (sSeq (sSetM 2 (fun _ => .ok (.k (.t []) [])))
    (sSeq (sForI (iSeq (dFz (lOp catD (dVar 0) (dVar 1)))) (tgTup 2 (tgCons (tgName 3) (tgCons (tgName 4) tgNil))) (y_l_both_1 n))
    (sRetM (mL (lComp true (iSeq (dFz (lCB sortKD (dCons (dVarO 2) dNil)))) 1 [2] (tgName 0) cYes (dTup (dCons (dVar 0) (dCons (dOp getDT (dVar 1) (dVar 0)) dNil))))))))
def F_l_both (as : List Slot) : Ans := ans (b_l_both 0 (st0 n_l_both as))
abbrev n_greatest_divisor : List Str := ["one", "other", "larger", "smaller", "rest"]
abbrev p_greatest_divisor : List Str := ["one", "other"]
def y_greatest_divisor_1 (n : Nat) : Sg → Res Bool :=
    (dT (dOp neD (dVar 3) (dC (.int 0))))
def y_greatest_divisor_2 (n : Nat) : Sg → Out :=
    (sSeq (sSet 4 (dOp modI (dVar 2) (dVar 3)))
    (sSeq (sSet 2 (dVar 3))
    (sSet 3 (dVar 4))))
def b_greatest_divisor (n : Nat) : Sg → Out :=
    (sSeq (sSet 2 (dCB absD (dCons (dVar 0) dNil)))
    (sSeq (sSet 3 (dCB absD (dCons (dVar 1) dNil)))
    (sSeq (whileD (y_greatest_divisor_1 n) (y_greatest_divisor_2 n) n)
    (sRet (dVar 2)))))
def F_greatest_divisor : List Slot → Ans
  | [.val (.int a), .val (.int b)] => .ok (.int (Int.gcd a b))
  | _ => .bad
theorem gd_loop (a b : Slot) (m : Nat) : ∀ (s l k : Nat) (r : Slot), s < k → ∃ r', whileD (y_greatest_divisor_1 m) (y_greatest_divisor_2 m) k [a, b, .val (.int l), .val (.int s), r] = .nx [a, b, .val (.int (Nat.gcd l s : Nat)), .val (.int 0), r'] := by
  intro s
  induction s using Nat.strongRecOn with
  | _ s ih =>
    intro l k r hk
    obtain ⟨k, rfl⟩ : ∃ j, k = j + 1 := ⟨k - 1, by omega⟩
    by_cases h : s = 0
    · subst h
      exact ⟨r, by simp [whileD, y_greatest_divisor_1]⟩
    · obtain ⟨r', e⟩ := ih (l % s) (Nat.mod_lt l (by omega)) s k (.val (.int (l % s : Nat))) (by have := Nat.mod_lt l (show 0 < s by omega); omega)
      refine ⟨r', ?_⟩
      have hs : ((s : Int) = 0) = False := by simp [h]
      have hs' : (s : Int) ≠ 0 := by omega
      rw [gcd_step l s h, ← e]
      simp [whileD, y_greatest_divisor_1, y_greatest_divisor_2, h, hs, modI_int _ _ hs', fmod_nat]
theorem h_greatest_divisor (as : List Slot) (hl : as.length = p_greatest_divisor.length) (hb : F_greatest_divisor as ≠ .bad) : ∃ n, ans (b_greatest_divisor n (st0 n_greatest_divisor as)) = F_greatest_divisor as := by
  match as, hb with
  | [.val (.int a), .val (.int b)], _ =>
    obtain ⟨r', e⟩ := gd_loop (.val (.int a)) (.val (.int b)) (b.natAbs + 1) b.natAbs a.natAbs (b.natAbs + 1) .no (by omega)
    refine ⟨b.natAbs + 1, ?_⟩
    have ha : (if a < 0 then -a else a) = (a.natAbs : Int) := by split <;> omega
    have hb : (if b < 0 then -b else b) = (b.natAbs : Int) := by split <;> omega
    simp [b_greatest_divisor, st0, absD, ha, hb, e, F_greatest_divisor, Int.gcd]
abbrev n_fraction : List Str := ["top", "bottom", "divisor"]
abbrev p_fraction : List Str := ["top", "bottom"]
def b_fraction (n : Nat) : Sg → Out :=
    (sSeq (sIf (dT (dOp eqD (dVar 1) (dC (.int 0)))) (sRaise "NoFraction" (dCons (dC (.str "the bottom of a fraction is never 0")) dNil)) sNext)
    (sSeq (sSet 2 (dCall 2 F_greatest_divisor (dCons (dVar 0) (dCons (dVar 1) dNil))))
    (sSeq (sIf (dT (dOp ltI (dVar 1) (dC (.int 0)))) (sSet 2 (dUn negI (dVar 2))) sNext)
    (sRet (dTup (dCons (dOp fdivI (dVar 0) (dVar 2)) (dCons (dOp fdivI (dVar 1) (dVar 2)) dNil)))))))
def F_fraction (as : List Slot) : Ans := ans (b_fraction 0 (st0 n_fraction as))
theorem fraction_ok (t b : Int) (h : b ≠ 0) (hb : b.natAbs < 2 ^ 9000) : F_fraction [.val (.int t), .val (.int b)] = .ok (.tup [.int (frT t b), .int (frB t b)]) := by
  have d1 : ∀ x, fdivI (.int x) (.int (frD b (Int.gcd t b))) = .ok (.int (x.fdiv (frD b (Int.gcd t b)))) := fun x => fdivI_int _ _ (divOk_of (frD_ne h) (frD_bound h hb))
  by_cases hn : b < 0
  · have e : frD b (Int.gcd t b) = -(Int.gcd t b : Int) := by simp [frD, hn]
    rw [e] at d1
    simp [F_fraction, b_fraction, st0, h, hn, F_greatest_divisor, d1, frT, frB, e]
  · have e : frD b (Int.gcd t b) = (Int.gcd t b : Int) := by simp [frD, hn]
    rw [e] at d1
    simp [F_fraction, b_fraction, st0, h, hn, F_greatest_divisor, d1, frT, frB, e]
def fq (p : Int × Int) : D := .tup [.int p.1, .int p.2]
structure Low (n : Nat) (p : Int × Int) : Prop where
  pos : 1 ≤ p.2
  gcd : Int.gcd p.1 p.2 = 1
  top : p.1.natAbs < 2 ^ n
  bot : p.2.natAbs < 2 ^ n
abbrev n_plus : List Str := ["one", "other"]
abbrev p_plus : List Str := ["one", "other"]
def b_plus (n : Nat) : Sg → Out :=
    (sRet (dCall 2 F_fraction (dCons (dOp addD (dOp mulI (dOp ixD (dVar 0) (dC (.int 0))) (dOp ixD (dVar 1) (dC (.int 1)))) (dOp mulI (dOp ixD (dVar 1) (dC (.int 0))) (dOp ixD (dVar 0) (dC (.int 1))))) (dCons (dOp mulI (dOp ixD (dVar 0) (dC (.int 1))) (dOp ixD (dVar 1) (dC (.int 1)))) dNil))))
def F_plus (as : List Slot) : Ans := ans (b_plus 0 (st0 n_plus as))
abbrev n_gathered : List Str := ["pairs", "strengths", "p", "strength"]
abbrev p_gathered : List Str := ["pairs"]
def y_gathered_1 (n : Nat) : Sg → Out :=
    (sPutT 1 (pVar 1) (dVar 2) (dCallO 2 F_plus (dCons (dGet2 (dVarO 1) (dVar 2) (dC (.gt [(.int 0), (.int 1)]))) (dCons (dVar 3) dNil))))
def b_gathered (n : Nat) : Sg → Out :=
    (sSeq (sSetM 1 (fun _ => .ok (.k (.t []) [])))
    (sSeq (sForI (iSeq (dVar 0)) (tgTup 2 (tgCons (tgName 2) (tgCons (tgName 3) tgNil))) (y_gathered_1 n))
    (sRetM (mL (fun Γ => ((dVarO 1) Γ).bnd sortI1)))))
def F_gathered (as : List Slot) : Ans := ans (b_gathered 0 (st0 n_gathered as))
abbrev n_joined : List Str := ["one", "other"]
abbrev p_joined : List Str := ["one", "other"]
def b_joined (n : Nat) : Sg → Out :=
    (sRetM (mCallN 1 F_gathered (dCons (dFz (lOp catD (dVar 0) (dVar 1))) dNil)))
def F_joined (as : List Slot) : Ans := ans (b_joined 0 (st0 n_joined as))
abbrev n_under : List Str := ["one", "other"]
abbrev p_under : List Str := ["one", "other"]
def b_under (n : Nat) : Sg → Out :=
    (sRet (dOp ltI (dOp mulI (dOp ixD (dVar 0) (dC (.int 0))) (dOp ixD (dVar 1) (dC (.int 1)))) (dOp mulI (dOp ixD (dVar 1) (dC (.int 0))) (dOp ixD (dVar 0) (dC (.int 1))))))
def F_under (as : List Slot) : Ans := ans (b_under 0 (st0 n_under as))
abbrev n_check_strength : List Str := ["strength"]
abbrev p_check_strength : List Str := ["strength"]
def b_check_strength (n : Nat) : Sg → Out :=
    (sIf (cNot (dT (dCall 2 F_under (dCons (dC (.gt [(.int 0), (.int 1)])) (dCons (dVar 0) dNil))))) (sRaise "NoStrength" (dCons (dC (.str "a strength is above 0")) dNil)) sNext)
def F_check_strength (as : List Slot) : Ans := ans (b_check_strength 0 (st0 n_check_strength as))
abbrev n_times : List Str := ["one", "other"]
abbrev p_times : List Str := ["one", "other"]
def b_times (n : Nat) : Sg → Out :=
    (sRet (dCall 2 F_fraction (dCons (dOp mulI (dOp ixD (dVar 0) (dC (.int 0))) (dOp ixD (dVar 1) (dC (.int 0)))) (dCons (dOp mulI (dOp ixD (dVar 0) (dC (.int 1))) (dOp ixD (dVar 1) (dC (.int 1)))) dNil))))
def F_times (as : List Slot) : Ans := ans (b_times 0 (st0 n_times as))
abbrev n_scaled : List Str := ["light", "by"]
abbrev p_scaled : List Str := ["light", "by"]
def b_scaled (n : Nat) : Sg → Out :=
    (sSeq (sDrop (dCall 1 F_check_strength (dCons (dVar 1) dNil)))
    (sRetM (mL (lComp false (iSeq (dVar 0)) 2 [1] (tgTup 2 (tgCons (tgName 0) (tgCons (tgName 1) tgNil))) cYes (dTup (dCons (dVar 0) (dCons (dCallN 2 F_times (dCons (dVar 1) (dCons (dVar 2) dNil))) dNil)))))))
def F_scaled (as : List Slot) : Ans := ans (b_scaled 0 (st0 n_scaled as))
abbrev n_sum_of : List Str := ["light", "whole", "p", "strength"]
abbrev p_sum_of : List Str := ["light"]
def y_sum_of_1 (n : Nat) : Sg → Out :=
    (sSet 1 (dCall 2 F_plus (dCons (dVar 1) (dCons (dVar 3) dNil))))
def b_sum_of (n : Nat) : Sg → Out :=
    (sSeq (sSet 1 (dC (.gt [(.int 0), (.int 1)])))
    (sSeq (sForI (iSeq (dVar 0)) (tgTup 2 (tgCons (tgName 2) (tgCons (tgName 3) tgNil))) (y_sum_of_1 n))
    (sRet (dVar 1))))
def F_sum_of (as : List Slot) : Ans := ans (b_sum_of 0 (st0 n_sum_of as))
abbrev n_l_refused : List Str := ["_law_light_here", "_law_by", "_law_refused_here", "e"]
abbrev p_l_refused : List Str := ["_law_light_here", "_law_by"]
def b_l_refused (n : Nat) : Sg → Out :=
    (sSeq (sSet 2 (dC (.bl false)))
    (sSeq (sTryAs 3 (hitOf mt "BeamError") (sDrop (dCall 2 F_scaled (dCons (dVar 0) (dCons (dVar 1) dNil)))) (sSet 2 (dAnd (dIsi mt ["NoStrength"] (dVar 3)) (dAnd (dIsi mt ["ValueError"] (dVar 3)) (dNot (dIsi mt ["NoPass"] (dVar 3)))))))
    (sRet (dVar 2))))
def F_l_refused (as : List Slot) : Ans := ans (b_l_refused 0 (st0 n_l_refused as))
abbrev n_law : List Str := ["_law_script", "_law_first", "_law_cells", "_law_cut", "_law_one", "_law_other", "_law_due", "_law_handed", "_law_found", "_law_by", "_law_strong", "_law_more", "_law_p", "_law_strength_here", "_law_total"]
abbrev p_law : List Str := ["_law_script"]
def y_law_1 (n : Nat) : Sg → Out :=
    (sAppend 11 (pVar 11) (dTup (dCons (dVar 12) (dCons (dCallN 2 F_l_low (dCons (dOp mulI (dOp ixD (dVar 13) (dC (.int 0))) (dOp ixD (dVar 9) (dC (.int 0)))) (dCons (dOp mulI (dOp ixD (dVar 13) (dC (.int 1))) (dOp ixD (dVar 9) (dC (.int 1)))) dNil))) dNil))))
def b_law (n : Nat) : Sg → Out :=
    (sSeq (sSet 1 (dCall 2 F_l_cell_at (dCons (dVar 0) (dCons (dC (.int 0)) dNil))))
    (sSeq (sSet 2 (dFz (lCut (dVar 0) (dP (dC (.int 1))) (dP (dC (.int 63))))))
    (sSeq (sSet 3 (dOp modI (dOp fdivI (dVar 1) (dC (.int 3))) (dOp addD (dCB lenD (dCons (dVar 2) dNil)) (dC (.int 1)))))
    (sSeq (sSet 4 (dCall 1 F_l_light (dCons (dFz (lCut (dVar 2) dNoP (dP (dVar 3)))) dNil)))
    (sSeq (sSet 5 (dCall 1 F_l_light (dCons (dFz (lOp catD (dFz (lCut (dVar 2) (dP (dVar 3)) dNoP)) (dFz (lCut (dVar 2) dNoP (dP (dOp modI (dVar 1) (dC (.int 3)))))))) dNil)))
    (sSeq (sSet 6 (dCall 2 F_l_both (dCons (dVar 4) (dCons (dVar 5) dNil))))
    (sSeq (sSet 7 (dFz (dLst (dCons (dFz (lCB listD (dCons (dVar 4) dNil))) (dCons (dFz (lCB listD (dCons (dVar 5) dNil))) dNil)))))
    (sSeq (sSet 8 (dCall 2 F_joined (dCons (dOp ixD (dVar 7) (dC (.int 0))) (dCons (dOp ixD (dVar 7) (dC (.int 1))) dNil))))
    (sSeq (sIf (cOr (cNot (dT (dIsi mt ["list"] (dVar 8)))) (cOr (dT (dOp neD (dVar 8) (dVar 6))) (dT (dOp neD (dCall 2 F_joined (dCons (dOp ixD (dVar 7) (dC (.int 1))) (dCons (dOp ixD (dVar 7) (dC (.int 0))) dNil))) (dVar 6))))) (sRet (dC (.bl false))) sNext)
    (sSeq (sIf (dT (dOp neD (dVar 7) (dFz (dLst (dCons (dVar 4) (dCons (dVar 5) dNil)))))) (sRet (dC (.bl false))) sNext)
    (sSeq (sIf (cOr (dT (dOp neD (dCall 2 F_joined (dCons (dOp ixD (dVar 7) (dC (.int 0))) (dCons (dFz (dLst dNil)) dNil))) (dVar 4))) (cOr (dT (dOp neD (dCall 2 F_joined (dCons (dFz (dLst dNil)) (dCons (dOp ixD (dVar 7) (dC (.int 1))) dNil))) (dVar 5))) (dT (dOp neD (dCall 2 F_joined (dCons (dFz (dLst dNil)) (dCons (dFz (dLst dNil)) dNil))) (dFz (dLst dNil)))))) (sRet (dC (.bl false))) sNext)
    (sSeq (sClearT (mCallN 2 F_joined (dCons (dOp ixD (dVar 7) (dC (.int 0))) (dCons (dFz (dLst dNil)) dNil))))
    (sSeq (sClearT (mCallN 2 F_joined (dCons (dFz (dLst dNil)) (dCons (dOp ixD (dVar 7) (dC (.int 1))) dNil))))
    (sSeq (sClearT (mCallN 2 F_scaled (dCons (dOp ixD (dVar 7) (dC (.int 0))) (dCons (dTup (dCons (dC (.int 1)) (dCons (dC (.int 1)) dNil))) dNil))))
    (sSeq (sIf (dT (dOp neD (dVar 7) (dFz (dLst (dCons (dVar 4) (dCons (dVar 5) dNil)))))) (sRet (dC (.bl false))) sNext)
    (sSeq (sSet 9 (dCall 1 F_l_strength (dCons (dVar 1) dNil)))
    (sSeq (sSet 10 (dCall 2 F_scaled (dCons (dVar 8) (dCons (dVar 9) dNil))))
    (sSeq (sSetM 11 (mL (dLst dNil)))
    (sSeq (sForI (iSeq (dVar 6)) (tgTup 2 (tgCons (tgName 12) (tgCons (tgName 13) tgNil))) (y_law_1 n))
    (sSeq (sIf (cOr (dT (dOp neD (dVar 10) (dVarO 11))) (dT (dOp neD (dVar 8) (dVar 6)))) (sRet (dC (.bl false))) sNext)
    (sSeq (sSet 14 (dCall 1 F_sum_of (dCons (dVar 8) dNil)))
    (sSeq (sIf (cOr (dT (dOp neD (dCall 1 F_sum_of (dCons (dVar 10) dNil)) (dCall 2 F_l_low (dCons (dOp mulI (dOp ixD (dVar 14) (dC (.int 0))) (dOp ixD (dVar 9) (dC (.int 0)))) (dCons (dOp mulI (dOp ixD (dVar 14) (dC (.int 1))) (dOp ixD (dVar 9) (dC (.int 1)))) dNil))))) (dT (dOp neD (dCall 2 F_scaled (dCons (dFz (dLst dNil)) (dCons (dVar 9) dNil))) (dFz (dLst dNil))))) (sRet (dC (.bl false))) sNext)
    (sRet (dAnd (dCall 2 F_l_refused (dCons (dVar 8) (dCons (dTup (dCons (dC (.int 0)) (dCons (dC (.int 1)) dNil))) dNil))) (dCall 2 F_l_refused (dCons (dFz (dLst dNil)) (dCons (dTup (dCons (dOp subI (dOp subI (dC (.int 0)) (dC (.int 1))) (dOp modI (dOp fdivI (dVar 1) (dC (.int 2))) (dOp powI (dC (.int 10)) (dC (.int 30))))) (dCons (dC (.int 1)) dNil))) dNil)))))))))))))))))))))))))))
def F_law (as : List Slot) : Ans := ans (b_law 0 (st0 n_law as))
def rq (r : Rat) : D := fq (ofR r)
theorem low_R {a b : Int} (ha : 0 ≤ a) (hb : 1 ≤ b) (hs : b.natAbs < 2 ^ 9000) : F_l_low [.val (.int a), .val (.int b)] = .ok (fq (frT a b, frB a b)) := by
  have e : frD b (Int.gcd a b) = (Int.gcd a b : Int) := by unfold frD; rw [if_neg (by omega)]
  simp only [F_l_low]
  rw [if_pos ⟨ha, hb, hs⟩]
  unfold frT frB
  rw [e]; rfl
theorem mulB {x y : Int} {n m : Nat} (hx : x.natAbs < 2 ^ n) (hy : y.natAbs < 2 ^ m) (hn : n ≤ 1000000) (hm : m ≤ 1000000) : mulI (.int x) (.int y) = .ok (.int (x * y)) := mulI_int _ _ (mulOk_both hx hy (Nat.le_trans hn (by decide)) (Nat.le_trans hm (by decide)))
structure IsR (x : D) (r : Rat) : Prop where
  i0 : ixD x (.int 0) = .ok (.int r.num)
  i1 : ixD x (.int 1) = .ok (.int (r.den : Int))
theorem isR_rq (r : Rat) : IsR (rq r) r := ⟨rfl, rfl⟩
theorem isR_zero : IsR (.gt [.int 0, .int 1]) 0 := ⟨rfl, rfl⟩
theorem isR_zero' : IsR (.tup [.int 0, .int 1]) 0 := ⟨rfl, rfl⟩
theorem dbot {c k : Nat} {r : Rat} (h : Sz c k r) : ((r.den : Int)).natAbs < 2 ^ (7 * k) := by simpa using h.bot
theorem dsize {c k d j : Nat} {r s : Rat} (h : Sz c k r) (g : Sz d j s) (hk : k + j ≤ 1200) : ((r.den : Int) * s.den).natAbs < 2 ^ 9000 := by
  rw [Int.natAbs_mul]
  exact Nat.lt_of_lt_of_le (mul_lt (dbot h) (dbot g)) (Nat.pow_le_pow_right (by decide) (by omega))
theorem plus_R {x y : D} {r s : Rat} {c d k j : Nat} (hx : IsR x r) (hy : IsR y s) (h : Sz c k r) (g : Sz d j s) (hk : k + j ≤ 1200) (hc : c ≤ 1000) (hd : d ≤ 1000) : F_plus [.val x, .val y] = .ok (rq (r + s)) := by
  have m1 := mulB h.top (dbot g) (by omega) (by omega)
  have m2 := mulB g.top (dbot h) (by omega) (by omega)
  have m3 := mulB (dbot h) (dbot g) (by omega) (by omega)
  have f := fraction_ok (r.num * s.den + s.num * r.den) ((r.den : Int) * s.den) (dmul_ne r s) (dsize h g hk)
  simp only [F_plus, b_plus, st0]
  simp [hx.i0, hx.i1, hy.i0, hy.i1, m1, m2, m3, f]
  have e := add_fr r s
  rw [fst_fr e, snd_fr e]; rfl
theorem times_R {x y : D} {r s : Rat} {c d k j : Nat} (hx : IsR x r) (hy : IsR y s) (h : Sz c k r) (g : Sz d j s) (hk : k + j ≤ 1200) (hc : c ≤ 1000) (hd : d ≤ 1000) : F_times [.val x, .val y] = .ok (rq (r * s)) := by
  have m1 := mulB h.top g.top (by omega) (by omega)
  have m3 := mulB (dbot h) (dbot g) (by omega) (by omega)
  have f := fraction_ok (r.num * s.num) ((r.den : Int) * s.den) (dmul_ne r s) (dsize h g hk)
  simp only [F_times, b_times, st0]
  simp [hx.i0, hx.i1, hy.i0, hy.i1, m1, m3, f]
  have e := mul_fr r s
  rw [fst_fr e, snd_fr e]; rfl
theorem lplus_R {x y : D} {r s : Rat} {c d k j : Nat} (hx : IsR x r) (hy : IsR y s) (h : Sz c k r) (g : Sz d j s) (hk : k + j ≤ 1200) (hc : c ≤ 1000) (hd : d ≤ 1000) : F_l_plus [.val x, .val y] = .ok (rq (r + s)) := by
  have m1 := mulB h.top (dbot g) (by omega) (by omega)
  have m2 := mulB g.top (dbot h) (by omega) (by omega)
  have m3 := mulB (dbot h) (dbot g) (by omega) (by omega)
  have f := low_R (a := r.num * s.den + s.num * r.den) (b := (r.den : Int) * s.den) (Int.add_nonneg (Int.mul_nonneg h.nn (by omega)) (Int.mul_nonneg g.nn (by omega))) (Int.mul_pos (dpos r) (dpos s)) (dsize h g hk)
  simp only [F_l_plus, b_l_plus, st0]
  simp [hx.i0, hx.i1, hy.i0, hy.i1, m1, m2, m3, f]
  rw [add_fr r s]; rfl
theorem ltimes_R {r s : Rat} {c d k j : Nat} (h : Sz c k r) (g : Sz d j s) (hk : k + j ≤ 1200) : F_l_low [.val (.int (r.num * s.num)), .val (.int ((r.den : Int) * s.den))] = .ok (rq (r * s)) := by
  rw [low_R (Int.mul_nonneg h.nn g.nn) (Int.mul_pos (dpos r) (dpos s)) (dsize h g hk), mul_fr r s]; rfl
def ksR (l : Lt) : List (List KeyQ) := l.map fun p => p.1.map Sum.inl
def xsR (l : Lt) : List D := l.map fun p => rq p.2
def eD (l : Lt) : List D := l.map fun p => .tup [tupI p.1, rq p.2]
theorem inl_inj {a b : List Int} : (a.map (Sum.inl : Int → KeyQ) = b.map Sum.inl) ↔ a = b := by
  constructor
  · intro h
    exact List.map_inj_right (fun x y z => Sum.inl.inj z) |>.mp h
  · rintro rfl; rfl
theorem keysD_int : ∀ k : List Int, keysD (k.map D.int) = some (k.map Sum.inl)
  | [] => rfl
  | x :: k => by simp [keysD, keyD, keysD_int k]
theorem keyT_I (k : List Int) : keyT (tupI k) = some (k.map Sum.inl) := keysD_int k
theorem zip_R (d : Lt) : (ksR d).zip (xsR d) = d.map fun p => (p.1.map Sum.inl, rq p.2) := by simp [ksR, xsR, List.zip_map', Function.comp_def]
theorem getT_R : ∀ (d : Lt) (k : List Int), getT (ksR d) (xsR d) (k.map Sum.inl) = (getR d k).map rq := by
  intro d k
  unfold getT
  rw [zip_R]
  induction d with
  | nil => rfl
  | cons p d ih =>
    rw [getR_cons, List.map_cons, List.find?_cons]
    by_cases h : p.1 = k
    · simp [h]
    · have : ¬ (p.1.map (Sum.inl : Int → KeyQ) = k.map Sum.inl) := fun z => h (inl_inj.mp z)
      simp only [this, decide_false, h, if_false]; exact ih
theorem any_R (d : Lt) (k : List Int) : ((ksR d).any fun n => decide (n = k.map Sum.inl)) = d.any fun p => decide (p.1 = k) := by
  simp only [ksR, List.any_map, Function.comp_def, inl_inj]
theorem setTs_R (d : Lt) (k : List Int) (r : Rat) : setTs (ksR d) (k.map Sum.inl) = ksR (putR d k r) := by
  unfold setTs putR
  rw [any_R]
  split
  · simp only [ksR, List.map_map]
    apply List.map_congr_left
    intro p _
    simp only [Function.comp]; split <;> rfl
  · simp [ksR]
theorem setTx_R (d : Lt) (k : List Int) (r : Rat) : setTx (ksR d) (xsR d) (k.map Sum.inl) (rq r) = xsR (putR d k r) := by
  unfold setTx putR
  rw [any_R]
  split
  · rw [zip_R]
    simp only [xsR, List.map_map]
    apply List.map_congr_left
    intro p _
    simp only [Function.comp, inl_inj]; split <;> rfl
  · simp [xsR]
def K3 (l : Lt) : Prop := ∀ p ∈ l, p.1.length = 3
theorem int3_I {k : List Int} (h : k.length = 3) : int3 (k.map Sum.inl) = some k := by
  match k, h with
  | [a, b, c], _ => rfl
theorem ints3_R : ∀ {d : Lt}, K3 d → ints3 (ksR d) = some (d.map (·.1))
  | [], _ => rfl
  | p :: d, h => by
    have e := ints3_R (d := d) fun q hq => h q (.tail _ hq)
    have f := int3_I (h p (.head _))
    show (match int3 (p.1.map Sum.inl), ints3 (ksR d) with
      | some n, some ns => some (n :: ns)
      | _, _ => none) = _
    rw [e, f]; rfl
theorem zip_kd (d : Lt) : (d.map (·.1)).zip (xsR d) = kd d := by simp [xsR, kd, rq, fq, List.zip_map', Function.comp_def]
theorem sortK_R {d : Lt} (h3 : K3 d) (hn : (d.map (·.1)).Nodup) (hl : d.length < 64) (b : Bool) : sortK1 (.bdc b (.t (ksR d)) (xsR d)) = .ok ((srtR d).map fun p => tupI p.1) := by
  simp only [sortK1, dcT, ints3_R h3]
  rw [if_pos ⟨by simpa using hl, hn⟩, zip_kd, ← kd_srtR]
  simp [kd, Function.comp_def]
theorem sortI_R {d : Lt} (h3 : K3 d) (hn : (d.map (·.1)).Nodup) (hl : d.length < 64) (b : Bool) : sortI1 (.bdc b (.t (ksR d)) (xsR d)) = .ok (eD (srtR d)) := by
  simp only [sortI1, dcT, ints3_R h3]
  rw [if_pos ⟨by simpa using hl, hn⟩, zip_kd, ← kd_srtR]
  simp [kd, Function.comp_def, eD, rq, fq]
theorem nt_rq (r : Rat) : nt (rq r) = true := by simp [rq, fq]
theorem nt_tupI (k : List Int) : nt (tupI k) = true := by
  simp only [tupI, nt_tup]; exact nts_map _ (fun x => by simp) k
theorem nts_eD (l : Lt) : nts (eD l) = true := nts_map _ (fun p => by simp [nt_rq, nt_tupI]) l
theorem nts_xsR (l : Lt) : nts (xsR l) = true := nts_map (fun p : List Int × Rat => rq p.2) (fun p => nt_rq p.2) l
theorem dn_rq (r : Rat) : dn (rq r) = rq r := by simp [rq, fq, dn, dns]
theorem nb_rq (r : Rat) : nb (rq r) = true := by simp [rq, fq, nb, nbs]
theorem mem_putR {d : Lt} {k : List Int} {v : Rat} {p : List Int × Rat} (h : p ∈ putR d k v) : p ∈ d ∨ p.2 = v ∧ p.1 = k := by
  unfold putR at h
  split at h
  · obtain ⟨q, hq, e⟩ := List.mem_map.mp h
    by_cases hk : q.1 = k
    · rw [if_pos hk] at e; subst e; exact .inr ⟨rfl, hk⟩
    · rw [if_neg hk] at e; subst e; exact .inl hq
  · rcases List.mem_append.mp h with h | h
    · exact .inl h
    · simp at h; subst h; exact .inr ⟨rfl, rfl⟩
theorem len_putR (d : Lt) (k : List Int) (v : Rat) : (putR d k v).length ≤ d.length + 1 := by
  unfold putR
  split <;> simp
theorem mem_getR : ∀ {d : Lt}, (d.map (·.1)).Nodup → ∀ {p : List Int × Rat}, p ∈ d → getR d p.1 = some p.2
  | q :: d, h, p, hp => by
    rw [List.map_cons, List.nodup_cons] at h
    rw [getR_cons]
    rcases List.mem_cons.mp hp with rfl | hp
    · rw [if_pos rfl]
    · rw [if_neg fun z : q.1 = p.1 => h.1 (List.mem_map.mpr ⟨p, hp, z.symm⟩)]
      exact mem_getR h.2 hp
theorem valR_cases (d : Lt) (k : List Int) : (getR d k = none ∧ valR d k = 0) ∨ ∃ p ∈ d, getR d k = some p.2 ∧ valR d k = p.2 := by
  unfold valR getR
  cases h : d.find? fun p => decide (p.1 = k) with
  | none => exact .inl ⟨rfl, rfl⟩
  | some p => exact .inr ⟨p, List.mem_of_find?_eq_some h, rfl, rfl⟩
def zr : D := .gt [.int 0, .int 1]
def zt : D := .tup [.int 0, .int 1]
theorem isR_get (d : Lt) (k : List Int) : IsR (((getR d k).map rq).getD zr) (valR d k) ∧ dn (((getR d k).map rq).getD zr) = ((getR d k).map rq).getD zr := by
  rcases valR_cases d k with ⟨h1, h2⟩ | ⟨p, _, h1, h2⟩
  · rw [h1, h2]; exact ⟨isR_zero, by simp [zr, dn, dns]⟩
  · rw [h1, h2]; exact ⟨isR_rq _, dn_rq _⟩
theorem isR_get' (d : Lt) (k : List Int) : IsR (((getR d k).map rq).getD zt) (valR d k) ∧ dn (((getR d k).map rq).getD zt) = ((getR d k).map rq).getD zt := by
  rcases valR_cases d k with ⟨h1, h2⟩ | ⟨p, _, h1, h2⟩
  · rw [h1, h2]; exact ⟨isR_zero', by simp [zt, dn, dns]⟩
  · rw [h1, h2]; exact ⟨isR_rq _, dn_rq _⟩
theorem sz_val {d : Lt} {c m : Nat} (h : ∀ p ∈ d, Sz c m p.2) (hm : 1 ≤ m) (k : List Int) : Sz c m (valR d k) := by
  rcases valR_cases d k with ⟨_, h2⟩ | ⟨p, hp, _, h2⟩
  · rw [h2]; exact Sz.zero.mono (Nat.le_refl _) hm
  · rw [h2]; exact h p hp
def dR (d : Lt) : M := .k (.t (ksR d)) (xsR d)
theorem put_dR {d : Lt} {k : List Int} {v : Rat} (hl : d.length < 1000000) : putTM (k.map Sum.inl) (rq v) (dR d) = some (dR (putR d k v)) := by
  simp only [dR, putTM]
  rw [if_pos ⟨nt_rq v, by simpa [ksR] using hl⟩, setTs_R d k v, setTx_R]
theorem gathered_step (a s2 s3 : Slot) {d : Lt} {k : List Int} {r : Rat} {c m : Nat} (hd : ∀ p ∈ d, Sz c m p.2) (hr : Sz c 1 r) (hm : 1 ≤ m) (hm2 : m ≤ 1000) (hc : c ≤ 1000) (hl : d.length < 1000000) : y_gathered_1 0 [a, .own (dR d), .val (tupI k), .val (rq r)] = .nx [a, .own (dR (putR d k (valR d k + r))), .val (tupI k), .val (rq r)] := by
  obtain ⟨g1, g2⟩ := isR_get d k
  have e := plus_R g1 (isR_rq r) (sz_val hd hm k) hr (by omega) hc hc
  have p := put_dR (k := k) (v := valR d k + r) hl
  have e0 : lend (dR d) = .bdc true (.t (ksR d)) (xsR d) := by simp [dR, lend]
  have e1 : getD2 (.bdc true (.t (ksR d)) (xsR d)) (tupI k) zr = .ok (((getR d k).map rq).getD zr) := by
    simp only [getD2, dcT, keyT_I, getT_R]
  have e2 : (dCallO 2 F_plus (dCons (dGet2 (dVarO 1) (dVar 2) (dC (.gt [(.int 0), (.int 1)]))) (dCons (dVar 3) dNil))) [a, .own (dR d), .val (tupI k), .val (rq r)] = .ok (rq (valR d k + r)) := by
    have : dGet2 (dVarO 1) (dVar 2) (dC (.gt [(.int 0), (.int 1)])) [a, .own (dR d), .val (tupI k), .val (rq r)] = .ok (((getR d k).map rq).getD zr) := by
      rw [← e1]; simp [dGet2, e0, dcT, zr]
    simp only [dCallO_app, dCons_app, this]
    simp [dns, g2, dn_rq, e, nbA, nb_rq]
  simp only [y_gathered_1, sPutT, e2]
  simp [pVar, keyT_I, upM, p]
theorem both_step (a b s3 s4 : Slot) {d : Lt} {k : List Int} {r : Rat} {c m : Nat} (hd : ∀ p ∈ d, Sz c m p.2) (hr : Sz c 1 r) (hm : 1 ≤ m) (hm2 : m ≤ 1000) (hc : c ≤ 1000) (hl : d.length < 1000000) : y_l_both_1 0 [a, b, .own (dR d), .val (tupI k), .val (rq r)] = .nx [a, b, .own (dR (putR d k (valR d k + r))), .val (tupI k), .val (rq r)] := by
  obtain ⟨g1, g2⟩ := isR_get' d k
  have e := lplus_R g1 (isR_rq r) (sz_val hd hm k) hr (by omega) hc hc
  have p := put_dR (k := k) (v := valR d k + r) hl
  have e0 : lend (dR d) = .bdc true (.t (ksR d)) (xsR d) := by simp [dR, lend]
  have e1 : getD2 (.bdc true (.t (ksR d)) (xsR d)) (tupI k) zt = .ok (((getR d k).map rq).getD zt) := by
    simp only [getD2, dcT, keyT_I, getT_R]
  have e2 : (dCallO 2 F_l_plus (dCons (dGet2 (dVarO 2) (dVar 3) (dTup (dCons (dC (.int 0)) (dCons (dC (.int 1)) dNil)))) (dCons (dVar 4) dNil))) [a, b, .own (dR d), .val (tupI k), .val (rq r)] = .ok (rq (valR d k + r)) := by
    have : dGet2 (dVarO 2) (dVar 3) (dTup (dCons (dC (.int 0)) (dCons (dC (.int 1)) dNil))) [a, b, .own (dR d), .val (tupI k), .val (rq r)] = .ok (((getR d k).map rq).getD zt) := by
      rw [← e1]; simp [dGet2, e0, dcT, zt]
    simp only [dCallO_app, dCons_app, this]
    simp [dns, g2, dn_rq, e, nbA, nb_rq]
  simp only [y_l_both_1, sPutT, e2]
  simp [pVar, keyT_I, upM, p]
theorem gat_cons (d : Lt) (p : List Int × Rat) (l : Lt) : gat d (p :: l) = gat (putR d p.1 (valR d p.1 + p.2)) l := rfl
theorem sz_put {d : Lt} {k : List Int} {r : Rat} {c m : Nat} (hd : ∀ p ∈ d, Sz c m p.2) (hr : Sz c 1 r) (hm : 1 ≤ m) : ∀ p ∈ putR d k (valR d k + r), Sz c (m + 1) p.2 := by
  intro p hp
  rcases mem_putR hp with h | h
  · exact (hd p h).mono (Nat.le_refl _) (by omega)
  · rw [h.1]; exact (sz_val hd hm k).add hr hm (Nat.le_refl _)
theorem gathered_loop (a : Slot) {c : Nat} (hc : c ≤ 1000) : ∀ (l d : Lt) (m : Nat) (s2 s3 : Slot), (∀ p ∈ d, Sz c m p.2) → (∀ p ∈ l, Sz c 1 p.2) → 1 ≤ m → m + l.length ≤ 1000 → d.length + l.length < 1000000 →
    ∃ t2 t3, forD (tgTup 2 (tgCons (tgName 2) (tgCons (tgName 3) tgNil))) (y_gathered_1 0) (eD l) [a, .own (dR d), s2, s3] = .nx [a, .own (dR (gat d l)), t2, t3]
  | [], d, m, s2, s3, _, _, _, _, _ => ⟨s2, s3, rfl⟩
  | p :: l, d, m, s2, s3, hd, hl, hm, hs, hn => by
    simp only [List.length_cons] at hs hn
    have st := gathered_step a s2 s3 (k := p.1) hd (hl p (.head _)) hm (by omega) hc (by omega)
    have hlen := len_putR d p.1 (valR d p.1 + p.2)
    obtain ⟨t2, t3, e⟩ := gathered_loop a hc l (putR d p.1 (valR d p.1 + p.2)) (m + 1) (.val (tupI p.1)) (.val (rq p.2)) (sz_put hd (hl p (.head _)) hm) (fun q hq => hl q (.tail _ hq)) (by omega) (by omega) (by omega)
    refine ⟨t2, t3, ?_⟩
    rw [gat_cons, ← e]
    simp only [eD, List.map_cons, forD]
    simp [st]
theorem both_loop (a b : Slot) {c : Nat} (hc : c ≤ 1000) : ∀ (l d : Lt) (m : Nat) (s2 s3 : Slot), (∀ p ∈ d, Sz c m p.2) → (∀ p ∈ l, Sz c 1 p.2) → 1 ≤ m → m + l.length ≤ 1000 → d.length + l.length < 1000000 →
    ∃ t2 t3, forD (tgTup 2 (tgCons (tgName 3) (tgCons (tgName 4) tgNil))) (y_l_both_1 0) (eD l) [a, b, .own (dR d), s2, s3] = .nx [a, b, .own (dR (gat d l)), t2, t3]
  | [], d, m, s2, s3, _, _, _, _, _ => ⟨s2, s3, rfl⟩
  | p :: l, d, m, s2, s3, hd, hl, hm, hs, hn => by
    simp only [List.length_cons] at hs hn
    have st := both_step a b s2 s3 (k := p.1) hd (hl p (.head _)) hm (by omega) hc (by omega)
    have hlen := len_putR d p.1 (valR d p.1 + p.2)
    obtain ⟨t2, t3, e⟩ := both_loop a b hc l (putR d p.1 (valR d p.1 + p.2)) (m + 1) (.val (tupI p.1)) (.val (rq p.2)) (sz_put hd (hl p (.head _)) hm) (fun q hq => hl q (.tail _ hq)) (by omega) (by omega) (by omega)
    refine ⟨t2, t3, ?_⟩
    rw [gat_cons, ← e]
    simp only [eD, List.map_cons, forD]
    simp [st]
theorem ntM_dR (d : Lt) : ntM (dR d) = true := by simp [dR, ntM, nts_xsR]
theorem lend_dR (d : Lt) : lend (dR d) = .bdc true (.t (ksR d)) (xsR d) := by simp [dR, lend]
structure Good (l : Lt) : Prop where
  k3 : K3 l
  nd : (l.map (·.1)).Nodup
  ln : l.length < 64
theorem gathered_R {l : Lt} {c : Nat} (hc : c ≤ 1000) (hl : ∀ p ∈ l, Sz c 1 p.2) (hn : l.length ≤ 200) (hg : Good (gat [] l)) : F_gathered [.val (.lst (eD l))] = .new (.l (eD (srtR (gat [] l)))) := by
  obtain ⟨t2, t3, e⟩ := gathered_loop (.val (.lst (eD l))) hc l [] 1 .no .no (fun _ z => nomatch z) hl (Nat.le_refl _) (by omega) (by simp; omega)
  have e' : (M.k (.t []) []) = dR [] := rfl
  have s := sortI_R hg.k3 hg.nd hg.ln true
  simp only [F_gathered, b_gathered, st0]
  simp [e', ntM_dR, e, lend_dR, s, nts_eD]
theorem comp_R {d : Lt} (hn : (d.map (·.1)).Nodup) : ∀ (m : Lt), (∀ p ∈ m, p ∈ d) → compD (elD (tgName 0) cYes (dTup (dCons (dVar 0) (dCons (dOp getDT (dVar 1) (dVar 0)) dNil))) [.no, .val (.bdc true (.t (ksR d)) (xsR d))]) (m.map fun p => tupI p.1) = .ok (eD m)
  | [], _ => rfl
  | p :: m, h => by
    have ih := comp_R hn m fun q hq => h q (.tail _ hq)
    have g : getDT (.bdc true (.t (ksR d)) (xsR d)) (tupI p.1) = .ok (rq p.2) := by
      simp only [getDT, dcT, keyT_I, getT_R, mem_getR hn (h p (.head _)), Option.map_some]
    simp only [List.map_cons, compD, ih]
    simp [elD, g, eD]
theorem both_R {a b : Lt} {c : Nat} (hc : c ≤ 1000) (ha : ∀ p ∈ a, Sz c 1 p.2) (hb : ∀ p ∈ b, Sz c 1 p.2) (hn : a.length + b.length ≤ 200) (hg : Good (gat [] (a ++ b))) : F_l_both [.val (.lst (eD a)), .val (.lst (eD b))] = .new (.l (eD (joinR a b))) := by
  obtain ⟨t2, t3, e⟩ := both_loop (.val (.lst (eD a))) (.val (.lst (eD b))) hc (a ++ b) [] 1 .no .no (fun _ z => nomatch z) (fun p hp => (List.mem_append.mp hp).elim (ha p) (hb p)) (Nat.le_refl _) (by simp; omega) (by simp; omega)
  have e' : (M.k (.t []) []) = dR [] := rfl
  have s := sortK_R hg.k3 hg.nd hg.ln true
  have cm := comp_R hg.nd (srtR (gat [] (a ++ b))) fun p hp => (srtR_perm _).mem_iff.mp hp
  have hz : (eD a).length + (eD b).length ≤ sizeLine := by
    have : 1000000 ≤ sizeLine := by unfold sizeLine; omega
    simp only [eD, List.length_map]; omega
  have ea : eD a ++ eD b = eD (a ++ b) := by simp [eD]
  have hl : (srtR (gat [] (a ++ b))).length < 1000000 := by rw [(srtR_perm _).length_eq]; have := hg.ln; omega
  simp only [F_l_both, b_l_both, st0]
  simp [e', ntM_dR, catD, hz, ea, e, lend_dR, sortKD, s, hl, blk, blkS, cm, nts_eD, joinR]
theorem joined_R {a b : Lt} {c : Nat} (hc : c ≤ 1000) (ha : ∀ p ∈ a, Sz c 1 p.2) (hb : ∀ p ∈ b, Sz c 1 p.2) (hn : a.length + b.length ≤ 200) (hg : Good (gat [] (a ++ b))) : F_joined [.val (.lst (eD a)), .val (.lst (eD b))] = .new (.l (eD (joinR a b))) := by
  have e := gathered_R hc (l := a ++ b) (fun p hp => (List.mem_append.mp hp).elim (ha p) (hb p)) (by simp; omega) hg
  have hz : (eD a).length + (eD b).length ≤ sizeLine := by
    have : 1000000 ≤ sizeLine := by unfold sizeLine; omega
    simp only [eD, List.length_map]; omega
  have ea : eD a ++ eD b = eD (a ++ b) := by simp [eD]
  simp only [F_joined, b_joined, st0]
  simp [catD, hz, ea, e, nts_eD, joinR]
theorem under_R {x : D} {r : Rat} {c k : Nat} (hx : IsR x r) (h : Sz c k r) : F_under [.val zr, .val x] = .ok (.bl (decide (0 < r.num))) := by
  have z0 : ixD zr (.int 0) = .ok (.int 0) := rfl
  have z1 : ixD zr (.int 1) = .ok (.int 1) := rfl
  simp only [F_under, b_under, st0]
  simp [z0, z1, hx.i0, hx.i1]
theorem check_R {x : D} {r : Rat} {c k : Nat} (hx : IsR x r) (h : Sz c k r) (hp : 0 < r.num) : F_check_strength [.val x] = .ok .non := by
  have e := under_R hx h
  unfold zr at e
  simp only [F_check_strength, b_check_strength, st0]
  simp [e, hp]
theorem scaled_R {x : D} {r : Rat} {c k c' j : Nat} (hx : IsR x r) (h : Sz c k r) (hp : 0 < r.num) (l : Lt) (hl : ∀ p ∈ l, Sz c' j p.2) (hc : c ≤ 1000) (hc' : c' ≤ 1000) (hk : k + j ≤ 1200) (hn : l.length < 1000000) (hnt : nt x = true) : F_scaled [.val (.lst (eD l)), .val x] = .new (.l (eD (sclR l r))) := by
  have e := check_R hx h hp
  have cm : ∀ m : Lt, (∀ p ∈ m, Sz c' j p.2) → compD (elD (tgTup 2 (tgCons (tgName 0) (tgCons (tgName 1) tgNil))) cYes (dTup (dCons (dVar 0) (dCons (dCallN 2 F_times (dCons (dVar 1) (dCons (dVar 2) dNil))) dNil))) [.no, .no, .val x]) (eD m) = .ok (eD (sclR m r)) := by
    intro m
    induction m with
    | nil => intro _; rfl
    | cons p m ih =>
      intro hm
      have t := times_R (isR_rq p.2) hx (hm p (.head _)) h (by omega) hc' hc
      have ih := ih fun q hq => hm q (.tail _ hq)
      have d1 : eD (p :: m) = .tup [tupI p.1, rq p.2] :: eD m := rfl
      have d2 : eD (sclR (p :: m) r) = .tup [tupI p.1, rq (p.2 * r)] :: eD (sclR m r) := rfl
      rw [d1, d2]
      simp only [compD, ih]
      simp [elD, t, nt_rq, hnt]
  have cm := cm l hl
  have hn' : (eD l).length < 1000000 := by simpa [eD] using hn
  simp only [F_scaled, b_scaled, st0]
  simp [e, hn', blk, blkS, cm, nts_eD]
theorem sum_step (a s2 s3 : Slot) {x y : D} {r s : Rat} {c k j : Nat} (hx : IsR x r) (hy : IsR y s) (h : Sz c k r) (g : Sz c j s) (hk : k + j ≤ 1200) (hc : c ≤ 1000) : y_sum_of_1 0 [a, .val x, s2, .val y] = .nx [a, .val (rq (r + s)), s2, .val y] := by
  have e := plus_R hx hy h g hk hc hc
  simp only [y_sum_of_1]
  simp [e]
theorem sum_loop (a : Slot) {c j : Nat} (hj : 1 ≤ j) (hc : c ≤ 1000) : ∀ (l : Lt) (k : Nat) (x : D) (r : Rat) (s2 s3 : Slot), IsR x r → Sz c k r → 1 ≤ k → (∀ p ∈ l, Sz c j p.2) → k + j * l.length ≤ 1200 →
    ∃ t1 t2 t3, forD (tgTup 2 (tgCons (tgName 2) (tgCons (tgName 3) tgNil))) (y_sum_of_1 0) (eD l) [a, .val x, s2, s3] = .nx [a, .val t1, t2, t3] ∧ (l = [] ∧ t1 = x ∨ l ≠ [] ∧ t1 = rq (sumR r l))
  | [], k, x, r, s2, s3, _, _, _, _, _ => ⟨x, s2, s3, rfl, .inl ⟨rfl, rfl⟩⟩
  | p :: l, k, x, r, s2, s3, hx, h, hk, hl, hs => by
    rw [List.length_cons, Nat.mul_succ] at hs
    have st := sum_step a (.val (tupI p.1)) s3 hx (isR_rq p.2) h (hl p (.head _)) (by omega) hc
    obtain ⟨t1, t2, t3, e, q⟩ := sum_loop a hj hc l (k + j) (rq (r + p.2)) (r + p.2) (.val (tupI p.1)) (.val (rq p.2)) (isR_rq _) (h.add (hl p (.head _)) hk hj) (by omega) (fun q hq => hl q (.tail _ hq)) (by omega)
    refine ⟨t1, t2, t3, ?_, .inr ⟨by simp, ?_⟩⟩
    · rw [← e]
      simp only [eD, List.map_cons, forD]
      simp [st]
    · rcases q with ⟨q1, q2⟩ | ⟨q1, q2⟩
      · subst q1; rw [q2]; rfl
      · rw [q2]; rfl
def sumD (l : Lt) : D := if l = [] then zr else rq (sumR 0 l)
theorem isR_sumD (l : Lt) : IsR (sumD l) (sumR 0 l) := by
  unfold sumD
  split
  · rename_i h; subst h; exact isR_zero
  · exact isR_rq _
theorem sum_R {l : Lt} {c j : Nat} (hj : 1 ≤ j) (hc : c ≤ 1000) (hl : ∀ p ∈ l, Sz c j p.2) (hs : 1 + j * l.length ≤ 1200) : F_sum_of [.val (.lst (eD l))] = .ok (sumD l) := by
  obtain ⟨t1, t2, t3, e, q⟩ := sum_loop (.val (.lst (eD l))) hj hc l 1 zr 0 .no .no isR_zero Sz.zero (Nat.le_refl _) hl hs
  have : t1 = sumD l := by
    unfold sumD
    rcases q with ⟨q1, q2⟩ | ⟨q1, q2⟩
    · rw [if_pos q1, q2]
    · rw [if_neg q1, q2]
  subst this
  unfold zr at e
  simp only [F_sum_of, b_sum_of, st0]
  simp [e]
theorem sz_sum {c j : Nat} (hj : 1 ≤ j) : ∀ (l : Lt) (k : Nat) (r : Rat), Sz c k r → 1 ≤ k → (∀ p ∈ l, Sz c j p.2) → Sz c (k + j * l.length) (sumR r l)
  | [], k, r, h, _, _ => h
  | p :: l, k, r, h, hk, hl => by
    have := sz_sum hj l (k + j) (r + p.2) (h.add (hl p (.head _)) hk hj) (by omega) fun q hq => hl q (.tail _ hq)
    rw [List.length_cons, Nat.mul_succ]
    exact this.mono (Nat.le_refl _) (by omega)
theorem refused_R (l : List D) (t : Int) (ht : t ≤ 0) : F_l_refused [.val (.lst l), .val (.tup [.int t, .int 1])] = .ok (.bl true) := by
  have u : F_under [.val zr, .val (.tup [.int t, .int 1])] = .ok (.bl false) := by
    have z0 : ixD zr (.int 0) = .ok (.int 0) := rfl
    have z1 : ixD zr (.int 1) = .ok (.int 1) := rfl
    have w0 : ixD (.tup [.int t, .int 1]) (.int 0) = .ok (.int t) := rfl
    have w1 : ixD (.tup [.int t, .int 1]) (.int 1) = .ok (.int 1) := rfl
    simp only [F_under, b_under, st0]
    simp [z0, z1, w0, w1]
    omega
  have c : F_check_strength [.val (.tup [.int t, .int 1])] = .err "NoStrength" := by
    unfold zr at u
    simp only [F_check_strength, b_check_strength, st0]
    simp [u]
  have s : F_scaled [.val (.lst l), .val (.tup [.int t, .int 1])] = .err "NoStrength" := by
    simp only [F_scaled, b_scaled, st0]
    simp [c]
  have hh : hitOf mt "BeamError" "NoStrength" = some true := by decide
  simp only [F_l_refused, b_l_refused, st0]
  simp [s]
  rw [oTry_err (e := hh)]
  simp [isiD, mt, List.lookup]
def pas (c : Int) : List Int := if c.fmod 2 = 0 then [(c.fdiv 2).fmod 3, (c.fdiv 6).fmod 3, (c.fdiv 18).fmod 4] else
  if (c.fdiv 2).fmod 4 = 0 then [3, 0, 0] else if (c.fdiv 2).fmod 4 = 1 then [-1, 2, 2] else if (c.fdiv 2).fmod 4 = 2 then [1, -1, 1] else [2, 3, 3]
theorem pas_len (c : Int) : (pas c).length = 3 := by
  unfold pas
  repeat' split
  all_goals rfl
theorem pass_R (c : Int) : F_l_pass [.val (.int c)] = .ok (tupI (pas c)) := by
  by_cases h : c.fmod 2 = 0
  · simp [F_l_pass, b_l_pass, st0, h, pas, tupI]
  · have h4 : (c.fdiv 2).fmod 4 = 0 ∨ (c.fdiv 2).fmod 4 = 1 ∨ (c.fdiv 2).fmod 4 = 2 ∨ (c.fdiv 2).fmod 4 = 3 := by
      have a := Int.fmod_nonneg_of_pos (c.fdiv 2) (show (0 : Int) < 4 by decide)
      have b := Int.fmod_lt_of_pos (c.fdiv 2) (show (0 : Int) < 4 by decide)
      omega
    rcases h4 with e | e | e | e <;> simp [F_l_pass, b_l_pass, st0, h, pas, tupI, e, ixD, atI, ixN]
theorem fm (x y : Int) (h : 0 < y) : 0 ≤ x.fmod y ∧ x.fmod y < y := ⟨Int.fmod_nonneg_of_pos x h, Int.fmod_lt_of_pos x h⟩
def stT (c : Int) : Int := 1 + (c * 48271).fmod (10 ^ 30)
def stB (c : Int) : Nat := (1 + (c.fdiv 7).fmod 97).toNat
theorem stB_eq (c : Int) : (stB c : Int) = 1 + (c.fdiv 7).fmod 97 ∧ 1 ≤ stB c ∧ stB c ≤ 97 := by
  have := fm (c.fdiv 7) 97 (by decide)
  unfold stB; omega
def stR (c : Int) : Rat := Rat.normalize (stT c) (stB c) (by have := stB_eq c; omega)
theorem stT_eq (c : Int) : 1 ≤ stT c ∧ stT c ≤ 10 ^ 30 := by
  have := fm (c * 48271) (10 ^ 30) (by decide)
  unfold stT; omega
theorem stR_fr (c : Int) : (frT (stT c) (stB c), frB (stT c) (stB c)) = ofR (stR c) := norm_fr _ _ _
theorem strength_R (c : Int) : F_l_strength [.val (.int c)] = .ok (rq (stR c)) := by
  obtain ⟨b1, b2, b3⟩ := stB_eq c
  have t := stT_eq c
  have e := low_R (a := stT c) (b := (stB c : Int)) (by omega) (by omega) (pow9 (by simp; omega))
  rw [stR_fr] at e
  rw [b1] at e
  unfold stT at e
  rw [show (10 : Int) ^ 30 = 1000000000000000000000000000000 by decide] at e
  simp only [F_l_strength, b_l_strength, st0]
  simp [e, rq]
theorem stR_sz (c : Int) : Sz 100 1 (stR c) ∧ 0 < (stR c).num := by
  obtain ⟨b1, b2, b3⟩ := stB_eq c
  have t := stT_eq c
  have e := stR_fr c
  have hb : ((stB c : Nat) : Int) ≠ 0 := by omega
  have nn := num_nn e (by omega) (by omega)
  refine ⟨⟨nn, ?_, ?_⟩, ?_⟩
  · refine Nat.lt_of_le_of_lt (num_le e hb) ?_
    have : (stT c).natAbs ≤ 10 ^ 30 := by omega
    exact Nat.lt_of_le_of_lt this (by decide)
  · refine Nat.lt_of_le_of_lt (den_le e hb) ?_
    have : ((stB c : Nat) : Int).natAbs ≤ 97 := by omega
    exact Nat.lt_of_le_of_lt this (by decide)
  · rcases Int.lt_or_eq_of_le nn with h | h
    · exact h
    · have := frT_mul (stT c) (stB c)
      rw [fst_fr e, ← h, Int.zero_mul] at this
      omega
def lit (d : Lt) (cs : List Int) : Lt := cs.foldl (fun d c => putR d (pas c) (stR (c.fdiv 3))) d
theorem light_step (a s2 : Slot) (c : Int) {d : Lt} (hl : d.length < 1000000) : y_l_light_1 0 [a, .own (dR d), .val (.int c)] = .nx [a, .own (dR (putR d (pas c) (stR (c.fdiv 3)))), .val (.int c)] := by
  have p := put_dR (k := pas c) (v := stR (c.fdiv 3)) hl
  simp only [y_l_light_1, sPutT]
  simp [strength_R, pass_R, pVar, keyT_I, upM, p]
theorem light_loop (a : Slot) : ∀ (cs : List Int) (d : Lt) (s2 : Slot), d.length + cs.length < 1000000 → ∃ t2, forD (tgName 2) (y_l_light_1 0) (cs.map D.int) [a, .own (dR d), s2] = .nx [a, .own (dR (lit d cs)), t2]
  | [], d, s2, _ => ⟨s2, rfl⟩
  | c :: cs, d, s2, h => by
    rw [List.length_cons] at h
    have st := light_step a s2 c (d := d) (by omega)
    have hlen := len_putR d (pas c) (stR (c.fdiv 3))
    obtain ⟨t2, e⟩ := light_loop a cs (putR d (pas c) (stR (c.fdiv 3))) (.val (.int c)) (by omega)
    refine ⟨t2, ?_⟩
    rw [show lit d (c :: cs) = lit (putR d (pas c) (stR (c.fdiv 3))) cs from rfl, ← e]
    simp only [List.map_cons, forD]
    simp [st]
theorem light_R {cs : List Int} (hn : cs.length ≤ 1000) (hg : Good (lit [] cs)) : F_l_light [.val (.lst (cs.map D.int))] = .new (.l (eD (srtR (lit [] cs)))) := by
  obtain ⟨t2, e⟩ := light_loop (.val (.lst (cs.map D.int))) cs [] .no (by simp; omega)
  have e' : (M.k (.t []) []) = dR [] := rfl
  have s := sortK_R hg.k3 hg.nd hg.ln true
  have cm := comp_R hg.nd (srtR (lit [] cs)) fun p hp => (srtR_perm _).mem_iff.mp hp
  have hl : (srtR (lit [] cs)).length < 1000000 := by rw [(srtR_perm _).length_eq]; have := hg.ln; omega
  simp only [F_l_light, b_l_light, st0]
  simp [e', ntM_dR, e, lend_dR, sortKD, s, hl, blk, blkS, cm, nts_eD]
theorem nodup_le {α : Type} [DecidableEq α] : ∀ {l m : List α}, l.Nodup → (∀ x ∈ l, x ∈ m) → l.length ≤ m.length
  | [], m, _, _ => Nat.zero_le _
  | x :: l, m, h, hs => by
    rw [List.nodup_cons] at h
    have hx := hs x (.head _)
    have := nodup_le (l := l) (m := m.erase x) h.2 fun y hy => (List.mem_erase_of_ne (fun e : y = x => h.1 (by rw [← e]; exact hy))).mpr (hs y (.tail _ hy))
    rw [List.length_erase_of_mem hx] at this
    have := List.length_pos_of_mem hx
    rw [List.length_cons]; omega
structure Lgt (Q : List (List Int)) (l : Lt) : Prop where
  nd : (l.map (·.1)).Nodup
  sub : ∀ p ∈ l, p.1 ∈ Q
theorem Lgt.len {Q : List (List Int)} {l : Lt} (h : Lgt Q l) : l.length ≤ Q.length := by
  have := nodup_le h.nd (m := Q) fun x hx => by
    obtain ⟨p, hp, rfl⟩ := List.mem_map.mp hx
    exact h.sub p hp
  simpa using this
theorem Lgt.good {Q : List (List Int)} {l : Lt} (h : Lgt Q l) (h3 : ∀ k ∈ Q, k.length = 3) (hQ : Q.length < 64) : Good l := ⟨fun p hp => h3 _ (h.sub p hp), h.nd, Nat.lt_of_le_of_lt h.len hQ⟩
theorem Lgt.srt {Q : List (List Int)} {l : Lt} (h : Lgt Q l) : Lgt Q (srtR l) := ⟨(srtR_up h.nd).nodup, fun p hp => h.sub p ((srtR_perm l).mem_iff.mp hp)⟩
theorem Lgt.gat {Q : List (List Int)} {l : Lt} (h : ∀ p ∈ l, p.1 ∈ Q) : Lgt Q (gat [] l) := by
  refine ⟨gat_nodup _ _ (by simp), fun p hp => ?_⟩
  have := (gat_keys l [] p.1).mp (List.mem_map.mpr ⟨p, hp, rfl⟩)
  rcases this with z | z
  · simp at z
  · obtain ⟨q, hq, e⟩ := List.mem_map.mp z
    rw [← e]; exact h q hq
theorem lit_lgt {Q : List (List Int)} : ∀ (cs : List Int) (d : Lt), Lgt Q d → (∀ p ∈ d, Sz 100 1 p.2) → (∀ c ∈ cs, pas c ∈ Q) → Lgt Q (lit d cs) ∧ ∀ p ∈ lit d cs, Sz 100 1 p.2
  | [], d, h, hs, _ => ⟨h, hs⟩
  | c :: cs, d, h, hs, hc => lit_lgt cs (putR d (pas c) (stR (c.fdiv 3))) ⟨nodup_put h.nd, fun p hp => by
      rcases mem_putR hp with z | z
      · exact h.sub p z
      · rw [z.2]; exact hc c (.head _)⟩ (fun p hp => by
      rcases mem_putR hp with z | z
      · exact hs p z
      · rw [z.1]; exact (stR_sz _).1) fun x hx => hc x (.tail _ hx)
theorem sumAt_sz {c : Nat} : ∀ (l : Lt), (l.map (·.1)).Nodup → (∀ p ∈ l, Sz c 1 p.2) → ∀ k, Sz c 1 (sumAt l k)
  | [], _, _, _ => Sz.zero
  | p :: l, h, hs, k => by
    rw [List.map_cons, List.nodup_cons] at h
    unfold sumAt
    by_cases e : p.1 = k
    · have z : sumAt l k = 0 := by
        have : ∀ m : Lt, k ∉ m.map (·.1) → sumAt m k = 0 := by
          intro m
          induction m with
          | nil => intro _; rfl
          | cons q m ih =>
            intro hq
            simp only [List.map_cons, List.mem_cons, not_or] at hq
            unfold sumAt
            rw [if_neg fun z => hq.1 z.symm, ih hq.2, Rat.zero_add]
        exact this l (e ▸ h.1)
      rw [if_pos e, z, Rat.add_zero]; exact hs p (.head _)
    · rw [if_neg e, Rat.zero_add]; exact sumAt_sz l h.2 (fun q hq => hs q (.tail _ hq)) k
theorem join_sz {a b : Lt} {c : Nat} (na : (a.map (·.1)).Nodup) (nb : (b.map (·.1)).Nodup) (ha : ∀ p ∈ a, Sz c 1 p.2) (hb : ∀ p ∈ b, Sz c 1 p.2) : ∀ p ∈ joinR a b, Sz c 2 p.2 := by
  intro p hp
  have hp := (srtR_perm _).mem_iff.mp hp
  have := ((mem_get (gat_nodup (a ++ b) [] (by simp))).mp hp).2
  rw [gat_val, sumAt_append, show valR [] p.1 = 0 from rfl, Rat.zero_add] at this
  rw [← this]
  exact (sumAt_sz a na ha _).add (sumAt_sz b nb hb _) (Nat.le_refl _) (Nat.le_refl _)
theorem eqv_refl_eD (l : Lt) : PyData.eqvAll (pys (eD l)) (pys (eD l)) = true := by
  induction l with
  | nil => simp [eD, pys, PyData.eqvAll]
  | cons p l ih =>
    have k : ∀ k : List Int, PyData.eqvAll (pys (k.map D.int)) (pys (k.map D.int)) = true := by
      intro k
      induction k with
      | nil => simp [pys, PyData.eqvAll]
      | cons x k ih => simp [pys, py, PyData.eqv, PyData.eqvAll, ih]
    rw [show eD (p :: l) = .tup [tupI p.1, rq p.2] :: eD l from rfl]
    simp [pys, py, PyData.eqv, PyData.eqvAll, tupI, rq, fq, k, ih]
theorem okq_eD (l : Lt) (n : Nat) : (eD l).all (okq (n + 3)) = true := by
  simp only [eD, List.all_map, List.all_eq_true, Function.comp]
  intro p _
  have : (p.1.map D.int).all (okq (n + 1)) = true := by simp [List.all_map, okq]
  simp [okq, tupI, rq, fq]
theorem cell_R (ns : List Int) : ∃ x, F_l_cell_at [.val (.lst (ns.map D.int)), .val (.int 0)] = .ok (.int x) := by
  cases ns with
  | nil => exact ⟨0, by simp [F_l_cell_at, b_l_cell_at, st0, lenD]⟩
  | cons x ns => exact ⟨x, by simp [F_l_cell_at, b_l_cell_at, st0, lenD, ixD, atI, ixN]⟩
theorem cutL_R (cs : List Int) (lo hi : Option Int) : ∃ o : List Int, cutL (cs.map D.int) lo hi = o.map D.int ∧ (∀ c ∈ o, c ∈ cs) ∧ o.length ≤ cs.length := by
  refine ⟨cutL cs lo hi, ?_, ?_, ?_⟩
  · unfold cutL; simp [List.map_take, List.map_drop]
  · intro c hc; exact List.mem_of_mem_drop (List.mem_of_mem_take hc)
  · unfold cutL; rw [List.length_take, List.length_drop]; omega
theorem more_step (s0 s1 s2 s3 s4 s5 s6 s7 s8 s10 s12 s14 : Slot) {xs : List D} {v r : Rat} {c k c' j : Nat} (h : Sz c k v) (g : Sz c' j r) (hc : c ≤ 1000) (hc' : c' ≤ 1000) (hk : k + j ≤ 1200) (hl : xs.length < 1000000) (n : List Int) :
    y_law_1 0 [s0, s1, s2, s3, s4, s5, s6, s7, s8, .val (rq r), s10, .own (.l xs), .val (tupI n), .val (rq v), s14] = .nx [s0, s1, s2, s3, s4, s5, s6, s7, s8, .val (rq r), s10, .own (.l (xs ++ [.tup [tupI n, rq (v * r)]])), .val (tupI n), .val (rq v), s14] := by
  have m1 := mulB h.top g.top (by omega) (by omega)
  have m3 := mulB (dbot h) (dbot g) (by omega) (by omega)
  have e := ltimes_R h g hk
  simp only [y_law_1]
  simp [pVar, nodeM, isLM, (isR_rq v).i0, (isR_rq v).i1, (isR_rq r).i0, (isR_rq r).i1, m1, m3, e, upM, appM, hl, nt_rq, nt_tupI]
theorem more_loop (s0 s1 s2 s3 s4 s5 s6 s7 s8 s10 s14 : Slot) {r : Rat} {c k c' j : Nat} (g : Sz c' j r) (hc : c ≤ 1000) (hc' : c' ≤ 1000) (hk : k + j ≤ 1200) : ∀ (l : Lt) (xs : List D) (s12 s13 : Slot), (∀ p ∈ l, Sz c k p.2) → xs.length + l.length < 1000000 →
    ∃ t12 t13, forD (tgTup 2 (tgCons (tgName 12) (tgCons (tgName 13) tgNil))) (y_law_1 0) (eD l) [s0, s1, s2, s3, s4, s5, s6, s7, s8, .val (rq r), s10, .own (.l xs), s12, s13, s14] = .nx [s0, s1, s2, s3, s4, s5, s6, s7, s8, .val (rq r), s10, .own (.l (xs ++ eD (sclR l r))), t12, t13, s14]
  | [], xs, s12, s13, _, _ => ⟨s12, s13, by simp [eD, sclR]⟩
  | p :: l, xs, s12, s13, hl, hn => by
    rw [List.length_cons] at hn
    have st := more_step s0 s1 s2 s3 s4 s5 s6 s7 s8 s10 s12 s14 (xs := xs) (hl p (.head _)) g hc hc' hk (by omega) p.1
    obtain ⟨t12, t13, e⟩ := more_loop s0 s1 s2 s3 s4 s5 s6 s7 s8 s10 s14 g hc hc' hk l (xs ++ [.tup [tupI p.1, rq (p.2 * r)]]) (.val (tupI p.1)) (.val (rq p.2)) (fun q hq => hl q (.tail _ hq)) (by simp; omega)
    refine ⟨t12, t13, ?_⟩
    have d2 : xs ++ eD (sclR (p :: l) r) = xs ++ [.tup [tupI p.1, rq (p.2 * r)]] ++ eD (sclR l r) := by simp [eD, sclR]
    rw [d2, ← e]
    have d1 : eD (p :: l) = .tup [tupI p.1, rq p.2] :: eD l := rfl
    rw [d1]
    simp only [forD]
    simp [st]
theorem ne_eD (l : Lt) : neD (.lst (eD l)) (.lst (eD l)) = .ok (.bl false) := by
  simp [neD, okq, okq_eD l 8, deq, py, PyData.eqv, eqv_refl_eD]
theorem ne_eDb (l : Lt) : neD (.lst (eD l)) (.bor true (eD l)) = .ok (.bl false) := by
  simp [neD, okq, okq_eD l 8, deq, py, PyData.eqv, eqv_refl_eD]
theorem ne_two (a b : Lt) : neD (.lst [.lst (eD a), .lst (eD b)]) (.lst [.lst (eD a), .lst (eD b)]) = .ok (.bl false) := by
  simp [neD, okq, okq_eD _ 7, deq, py, pys, PyData.eqv, PyData.eqvAll, eqv_refl_eD]
theorem ne_sum (l : Lt) : neD (sumD l) (rq (sumR 0 l)) = .ok (.bl false) := by
  unfold sumD
  split
  · rename_i h; subst h
    simp [neD, zr, rq, fq, ofR, sumR, okq, deq, py, pys, PyData.eqv, PyData.eqvAll]
  · simp [neD, rq, fq, okq, deq, py, pys, PyData.eqv, PyData.eqvAll]
theorem law_true (ns : List Int) (hl : ns.length ≤ 63) : F_law [.val (.lst (ns.map D.int))] = .ok (.bl true) := by
  obtain ⟨x, hx⟩ := cell_R ns
  obtain ⟨cs, hcs, _, hcl⟩ := cutL_R ns (some 1) (some 63)
  obtain ⟨o1, ho1, hs1, hl1⟩ := cutL_R cs none (some ((x.fdiv 3).fmod ((cs.length : Int) + 1)))
  obtain ⟨o2, ho2, hs2, hl2⟩ := cutL_R cs (some ((x.fdiv 3).fmod ((cs.length : Int) + 1))) none
  obtain ⟨o3, ho3, hs3, hl3⟩ := cutL_R cs none (some (x.fmod 3))
  have hQ3 : ∀ k ∈ cs.map pas, k.length = 3 := fun k hk => by
    obtain ⟨c, _, rfl⟩ := List.mem_map.mp hk; exact pas_len c
  have hQl : (cs.map pas).length < 64 := by simp; omega
  have hm : modI (.int (x.fdiv 3)) (.int ((cs.length : Int) + 1)) = .ok (.int ((x.fdiv 3).fmod ((cs.length : Int) + 1))) := modI_int _ _ (by omega)
  obtain ⟨la, sa⟩ := lit_lgt (Q := cs.map pas) o1 [] ⟨by simp, fun _ z => nomatch z⟩ (fun _ z => nomatch z) fun c hc => List.mem_map.mpr ⟨c, hs1 c hc, rfl⟩
  obtain ⟨lb, sb⟩ := lit_lgt (Q := cs.map pas) (o2 ++ o3) [] ⟨by simp, fun _ z => nomatch z⟩ (fun _ z => nomatch z) fun c hc => List.mem_map.mpr ⟨c, (List.mem_append.mp hc).elim (hs2 c) (hs3 c), rfl⟩
  have eA := light_R (cs := o1) (by omega) (la.good hQ3 hQl)
  have eB := light_R (cs := o2 ++ o3) (by simp; omega) (lb.good hQ3 hQl)
  have ua := srtR_up la.nd
  have ub := srtR_up lb.nd
  have sa : ∀ p ∈ srtR (lit [] o1), Sz 100 1 p.2 := fun p hp => sa p ((srtR_perm _).mem_iff.mp hp)
  have sb : ∀ p ∈ srtR (lit [] (o2 ++ o3)), Sz 100 1 p.2 := fun p hp => sb p ((srtR_perm _).mem_iff.mp hp)
  have la := la.srt
  have lb := lb.srt
  have hz : (o2.map D.int).length + (o3.map D.int).length ≤ sizeLine := by
    have : 1000000 ≤ sizeLine := by unfold sizeLine; omega
    simp only [List.length_map]; omega
  rw [List.map_append] at eB
  generalize srtR (lit [] o1) = A at *
  generalize srtR (lit [] (o2 ++ o3)) = B at *
  have nA := la.len
  have nB := lb.len
  rw [List.length_map] at nA nB
  have gab : Lgt (cs.map pas) (gat [] (A ++ B)) := Lgt.gat fun p hp => (List.mem_append.mp hp).elim (la.sub p) (lb.sub p)
  have gba : Lgt (cs.map pas) (gat [] (B ++ A)) := Lgt.gat fun p hp => (List.mem_append.mp hp).elim (lb.sub p) (la.sub p)
  have ga : Lgt (cs.map pas) (gat [] (A ++ [])) := Lgt.gat fun p hp => la.sub p (by simpa using hp)
  have gb : Lgt (cs.map pas) (gat [] ([] ++ B)) := Lgt.gat fun p hp => lb.sub p (by simpa using hp)
  have g0 : Lgt (cs.map pas) (gat [] ([] ++ [])) := Lgt.gat fun p hp => by simp at hp
  have eD0 : eD [] = [] := rfl
  have j1 := joined_R (by decide) sa sb (by omega) (gab.good hQ3 hQl)
  have b1 := both_R (by decide) sa sb (by omega) (gab.good hQ3 hQl)
  have j2 := joined_R (by decide) sb sa (by omega) (gba.good hQ3 hQl)
  rw [joinR_comm] at j2
  have j3 := joined_R (by decide) sa (b := []) (fun _ z => nomatch z) (by simp; omega) (ga.good hQ3 hQl)
  rw [joinR_nil ua, eD0] at j3
  have j4 := joined_R (by decide) (a := []) (fun _ z => nomatch z) sb (by simp; omega) (gb.good hQ3 hQl)
  rw [nil_joinR ub, eD0] at j4
  have j5 := joined_R (c := 100) (by decide) (a := []) (b := []) (fun _ z => nomatch z) (fun _ z => nomatch z) (by simp) (g0.good hQ3 hQl)
  rw [joinR_nil (by simp [UpR, kd]), eD0] at j5
  have sf := join_sz la.nd lb.nd sa sb
  have nf : (joinR A B).length ≤ 63 := by
    have := gab.srt.len
    rw [List.length_map] at this
    unfold joinR; omega
  obtain ⟨sx, px⟩ := stR_sz x
  have str := strength_R x
  generalize stR x = r at *
  generalize joinR A B = f at *
  have ss : ∀ p ∈ sclR f r, Sz 200 3 p.2 := by
    intro p hp
    obtain ⟨q, hq, rfl⟩ := List.mem_map.mp hp
    exact (sf q hq).mul sx
  have c1 := scaled_R (isR_rq r) sx px f sf (by decide) (by decide) (by decide) (by omega) (nt_rq r)
  have c2 := scaled_R (isR_rq r) sx px [] (c' := 100) (j := 2) (fun _ z => nomatch z) (by decide) (by decide) (by decide) (by simp) (nt_rq r)
  rw [show eD (sclR [] r) = [] from rfl, eD0] at c2
  have c3 := scaled_R (x := .tup [.int 1, .int 1]) (r := 1) (c := 100) (k := 1) ⟨rfl, rfl⟩ ⟨by decide, by decide, by decide⟩ (by decide) A sa (by decide) (by decide) (by decide) (by omega) (by simp)
  have t1 := sum_R (l := f) (by decide) (by decide) sf (by omega)
  have nsc : (sclR f r).length = f.length := by simp [sclR]
  have t2 := sum_R (l := sclR f r) (by decide) (by decide) ss (by omega)
  have zt := sz_sum (c := 100) (j := 2) (by decide) f 1 0 Sz.zero (by decide) sf
  have i0 := (isR_sumD f).i0
  have i1 := (isR_sumD f).i1
  have lt := ltimes_R zt sx (by omega)
  have m1 := mulB zt.top sx.top (by omega) (by decide)
  have m3 := mulB (dbot zt) (dbot sx) (by omega) (by decide)
  have ns1 : neD (sumD (sclR f r)) (rq (sumR 0 f * r)) = .ok (.bl false) := by
    have := sumR_scl r f 0
    rw [Rat.zero_mul] at this
    rw [← this]; exact ne_sum _
  have r1 := refused_R (eD f) 0 (by decide)
  have r2 := refused_R [] (0 - 1 - (x.fdiv 2).fmod 1000000000000000000000000000000) (by have := fm (x.fdiv 2) 1000000000000000000000000000000 (by decide); omega)
  have n0 : neD (.lst []) (.lst []) = .ok (.bl false) := ne_eD []
  have k0 : ∀ u v : D, ixD (.lst [u, v]) (.int 0) = .ok u := fun _ _ => rfl
  have k1 : ∀ u v : D, ixD (.lst [u, v]) (.int 1) = .ok v := fun _ _ => rfl
  generalize ns.map D.int = xs at *
  obtain ⟨t12, t13, ml⟩ := more_loop (.val (.lst xs)) (.val (.int x)) (.val (.lst (cs.map D.int))) (.val (.int ((x.fdiv 3).fmod ((cs.length : Int) + 1)))) (.val (.lst (eD A))) (.val (.lst (eD B))) (.val (.lst (eD f))) (.val (.lst [.lst (eD A), .lst (eD B)])) (.val (.lst (eD f))) (.val (.lst (eD (sclR f r)))) .no sx (by decide) (by decide) (show 2 + 1 ≤ 1200 by decide) f [] .no .no sf (by simp; omega)
  rw [List.nil_append] at ml
  have hz' : o2.length + o3.length ≤ sizeLine := by simpa using hz
  have ra : (isR_rq r).i0 = (isR_rq r).i0 := rfl
  have q0 := (isR_rq r).i0
  have q1 := (isR_rq r).i1
  simp at r2
  simp only [F_law, b_law, st0]
  simp [hx, lCut, hcs, lenD, hm, ho1, ho2, ho3, eA, eB, catD, hz', b1, j1, j2, j3, j4, j5, seqO, listD, k0, k1, isiD, ne_eD, ne_eDb, ne_two, n0, nts_eD, sClearT, c1, c2, c3, str, ml, t1, t2, i0, i1, q0, q1, m1, m3, lt, ns1, r1, r2]
end K26
end
section
set_option Elab.async false
set_option linter.all false
set_option maxRecDepth 100000
set_option maxHeartbeats 4000000
namespace K26
open PySem PySem.Spec PyProof.Rows L2 L4
def top (i : Nat) : Stmt := PySem.Challenge.pw_beamtable_k26_joined_scaled.main.body.getD i (.Pass ⟨0, 0, 0, 0⟩)
abbrev s_l_cell_at : Stmt := top 19
abbrev s_l_pass : Stmt := top 23
abbrev s_l_low : Stmt := top 20
abbrev s_l_strength : Stmt := top 22
abbrev s_l_light : Stmt := top 24
abbrev s_l_plus : Stmt := top 21
abbrev s_l_both : Stmt := top 25
abbrev s_greatest_divisor : Stmt := top 7
abbrev s_fraction : Stmt := top 8
abbrev s_plus : Stmt := top 9
abbrev s_gathered : Stmt := top 14
abbrev s_joined : Stmt := top 16
abbrev s_under : Stmt := top 11
abbrev s_check_strength : Stmt := top 13
abbrev s_times : Stmt := top 10
abbrev s_scaled : Stmt := top 17
abbrev s_sum_of : Stmt := top 15
abbrev s_l_refused : Stmt := top 26
abbrev s_law : Stmt := top 27
structure Tx (K : PySem.W.Frag) (mg : Str → Option Value) (cb : Cb) where
  a_l_cell_at : Addr
  fd_l_cell_at : FuncData
  m_l_cell_at : mg "_law_cell_at" = some (.ref a_l_cell_at)
  k_l_cell_at : PySem.W.keepIn K (.ref a_l_cell_at) = true
  f_l_cell_at : Fun K "_law_cell_at" "_law_cell_at" s_l_cell_at a_l_cell_at fd_l_cell_at
  b_l_cell_at : Binds K fd_l_cell_at p_l_cell_at []
  a_l_pass : Addr
  fd_l_pass : FuncData
  m_l_pass : mg "_law_pass" = some (.ref a_l_pass)
  k_l_pass : PySem.W.keepIn K (.ref a_l_pass) = true
  f_l_pass : Fun K "_law_pass" "_law_pass" s_l_pass a_l_pass fd_l_pass
  b_l_pass : Binds K fd_l_pass p_l_pass []
  a_l_low : Addr
  fd_l_low : FuncData
  m_l_low : mg "_law_low" = some (.ref a_l_low)
  k_l_low : PySem.W.keepIn K (.ref a_l_low) = true
  f_l_low : Fun K "_law_low" "_law_low" s_l_low a_l_low fd_l_low
  b_l_low : Binds K fd_l_low p_l_low []
  a_l_strength : Addr
  fd_l_strength : FuncData
  m_l_strength : mg "_law_strength" = some (.ref a_l_strength)
  k_l_strength : PySem.W.keepIn K (.ref a_l_strength) = true
  f_l_strength : Fun K "_law_strength" "_law_strength" s_l_strength a_l_strength fd_l_strength
  b_l_strength : Binds K fd_l_strength p_l_strength []
  a_l_light : Addr
  fd_l_light : FuncData
  m_l_light : mg "_law_light" = some (.ref a_l_light)
  k_l_light : PySem.W.keepIn K (.ref a_l_light) = true
  f_l_light : Fun K "_law_light" "_law_light" s_l_light a_l_light fd_l_light
  b_l_light : Binds K fd_l_light p_l_light []
  a_l_plus : Addr
  fd_l_plus : FuncData
  m_l_plus : mg "_law_plus" = some (.ref a_l_plus)
  k_l_plus : PySem.W.keepIn K (.ref a_l_plus) = true
  f_l_plus : Fun K "_law_plus" "_law_plus" s_l_plus a_l_plus fd_l_plus
  b_l_plus : Binds K fd_l_plus p_l_plus []
  a_l_both : Addr
  fd_l_both : FuncData
  m_l_both : mg "_law_both" = some (.ref a_l_both)
  k_l_both : PySem.W.keepIn K (.ref a_l_both) = true
  f_l_both : Fun K "_law_both" "_law_both" s_l_both a_l_both fd_l_both
  b_l_both : Binds K fd_l_both p_l_both []
  a_greatest_divisor : Addr
  fd_greatest_divisor : FuncData
  m_greatest_divisor : mg "greatest_divisor" = some (.ref a_greatest_divisor)
  k_greatest_divisor : PySem.W.keepIn K (.ref a_greatest_divisor) = true
  f_greatest_divisor : Fun K "greatest_divisor" "greatest_divisor" s_greatest_divisor a_greatest_divisor fd_greatest_divisor
  b_greatest_divisor : Binds K fd_greatest_divisor p_greatest_divisor []
  a_fraction : Addr
  fd_fraction : FuncData
  m_fraction : mg "fraction" = some (.ref a_fraction)
  k_fraction : PySem.W.keepIn K (.ref a_fraction) = true
  f_fraction : Fun K "fraction" "fraction" s_fraction a_fraction fd_fraction
  b_fraction : Binds K fd_fraction p_fraction []
  a_plus : Addr
  fd_plus : FuncData
  m_plus : mg "plus" = some (.ref a_plus)
  k_plus : PySem.W.keepIn K (.ref a_plus) = true
  f_plus : Fun K "plus" "plus" s_plus a_plus fd_plus
  b_plus : Binds K fd_plus p_plus []
  a_gathered : Addr
  fd_gathered : FuncData
  m_gathered : mg "gathered" = some (.ref a_gathered)
  k_gathered : PySem.W.keepIn K (.ref a_gathered) = true
  f_gathered : Fun K "gathered" "gathered" s_gathered a_gathered fd_gathered
  b_gathered : Binds K fd_gathered p_gathered []
  a_joined : Addr
  fd_joined : FuncData
  m_joined : mg "joined" = some (.ref a_joined)
  k_joined : PySem.W.keepIn K (.ref a_joined) = true
  f_joined : Fun K "joined" "joined" s_joined a_joined fd_joined
  b_joined : Binds K fd_joined p_joined []
  a_under : Addr
  fd_under : FuncData
  m_under : mg "under" = some (.ref a_under)
  k_under : PySem.W.keepIn K (.ref a_under) = true
  f_under : Fun K "under" "under" s_under a_under fd_under
  b_under : Binds K fd_under p_under []
  a_check_strength : Addr
  fd_check_strength : FuncData
  m_check_strength : mg "check_strength" = some (.ref a_check_strength)
  k_check_strength : PySem.W.keepIn K (.ref a_check_strength) = true
  f_check_strength : Fun K "check_strength" "check_strength" s_check_strength a_check_strength fd_check_strength
  b_check_strength : Binds K fd_check_strength p_check_strength []
  a_times : Addr
  fd_times : FuncData
  m_times : mg "times" = some (.ref a_times)
  k_times : PySem.W.keepIn K (.ref a_times) = true
  f_times : Fun K "times" "times" s_times a_times fd_times
  b_times : Binds K fd_times p_times []
  a_scaled : Addr
  fd_scaled : FuncData
  m_scaled : mg "scaled" = some (.ref a_scaled)
  k_scaled : PySem.W.keepIn K (.ref a_scaled) = true
  f_scaled : Fun K "scaled" "scaled" s_scaled a_scaled fd_scaled
  b_scaled : Binds K fd_scaled p_scaled []
  a_sum_of : Addr
  fd_sum_of : FuncData
  m_sum_of : mg "sum_of" = some (.ref a_sum_of)
  k_sum_of : PySem.W.keepIn K (.ref a_sum_of) = true
  f_sum_of : Fun K "sum_of" "sum_of" s_sum_of a_sum_of fd_sum_of
  b_sum_of : Binds K fd_sum_of p_sum_of []
  a_l_refused : Addr
  fd_l_refused : FuncData
  m_l_refused : mg "_law_refused" = some (.ref a_l_refused)
  k_l_refused : PySem.W.keepIn K (.ref a_l_refused) = true
  f_l_refused : Fun K "_law_refused" "_law_refused" s_l_refused a_l_refused fd_l_refused
  b_l_refused : Binds K fd_l_refused p_l_refused []
  a_law : Addr
  fd_law : FuncData
  m_law : mg "law" = some (.ref a_law)
  k_law : PySem.W.keepIn K (.ref a_law) = true
  f_law : Fun K "law" "law" s_law a_law fd_law
  b_law : Binds K fd_law p_law []
  z_ValueError : mg "ValueError" = none
  z_abs : mg "abs" = none
  z_isinstance : mg "isinstance" = none
  z_len : mg "len" = none
  z_list : mg "list" = none
  z_sorted : mg "sorted" = none
  u_ZERO : Value
  v_ZERO : mg "ZERO" = some u_ZERO
  g_ZERO : GlT K u_ZERO (.gt [(.int 0), (.int 1)])
  C_BeamError : Addr
  g_BeamError : mg "BeamError" = some (.ref C_BeamError)
  C_NoFraction : Addr
  g_NoFraction : mg "NoFraction" = some (.ref C_NoFraction)
  C_NoPass : Addr
  g_NoPass : mg "NoPass" = some (.ref C_NoPass)
  C_NoStrength : Addr
  g_NoStrength : mg "NoStrength" = some (.ref C_NoStrength)
  ft : FtOk cb ftab
  x_NoFraction : XC K mg cb "NoFraction" "NoFraction" C_NoFraction
  x_NoStrength : XC K mg cb "NoStrength" "NoStrength" C_NoStrength
  h_BeamError : Hits K cb (.ref C_BeamError) (hitOf mt "BeamError")
  xt : XTs K cb mt
  i_list : IsK K cb mt (.type "list") "list"
  i_NoPass : IsK K cb mt (.ref C_NoPass) "NoPass"
  i_ValueError : IsK K cb mt (.type "ValueError") "ValueError"
  i_NoStrength : IsK K cb mt (.ref C_NoStrength) "NoStrength"
section
variable {P : Program} {w : World} {K : PySem.W.Frag} {mg : Str → Option Value} {cb : Cb} {base : Heap}
theorem sc_l_cell_at : FnScope n_l_cell_at p_l_cell_at (defScope s_l_cell_at) := ⟨rfl, rfl, rfl, by decide +kernel, rfl, by decide +kernel, by decide +kernel⟩
theorem ok_l_cell_at (M : Tx K mg cb) : FnD P w K mg base cb 1 M.a_l_cell_at M.fd_l_cell_at p_l_cell_at F_l_cell_at := by
  refine wfn_okD (B := b_l_cell_at) M.f_l_cell_at sc_l_cell_at (fun c cdv A outer s H E hcb hr g n => ?_) (fun as _ _ => ⟨0, rfl⟩)
  subst hcb
  have hu := hr.units
  have hu1 := Nat.lt_of_le_of_lt (Nat.add_le_add_left (by decide : 1 ≤ 64) _) hu
  have hu8 := Nat.lt_of_le_of_lt (Nat.add_le_add_left (by decide : 8 ≤ 64) _) hu
  exact (wdss_cons (wds_ifZ (wdt_lt (wd_var 1) (wd_len M.z_len (wda_cons (wd_var 0) wda_nil))) (wdss_one (wds_ret (wd_ix (wd_var 0) (wd_var 1)))) wdss_nil)
    (wdss_one (wds_ret wd_int)))
theorem sc_l_pass : FnScope n_l_pass p_l_pass (defScope s_l_pass) := ⟨rfl, rfl, rfl, by decide +kernel, rfl, by decide +kernel, by decide +kernel⟩
theorem ok_l_pass (M : Tx K mg cb) : FnD P w K mg base cb 1 M.a_l_pass M.fd_l_pass p_l_pass F_l_pass := by
  refine wfn_okD (B := b_l_pass) M.f_l_pass sc_l_pass (fun c cdv A outer s H E hcb hr g n => ?_) (fun as _ _ => ⟨0, rfl⟩)
  subst hcb
  have hu := hr.units
  have hu1 := Nat.lt_of_le_of_lt (Nat.add_le_add_left (by decide : 1 ≤ 64) _) hu
  have hu8 := Nat.lt_of_le_of_lt (Nat.add_le_add_left (by decide : 8 ≤ 64) _) hu
  exact (wdss_cons (wds_ifZ (wdt_eq hu (wd_mod (wd_var 0) wd_int) wd_int) (wdss_one (wds_ret (wd_tup (wda_cons (wd_mod (wd_fdiv (wd_var 0) wd_int) wd_int) (wda_cons (wd_mod (wd_fdiv (wd_var 0) wd_int) wd_int) (wda_cons (wd_mod (wd_fdiv (wd_var 0) wd_int) wd_int) wda_nil)))))) wdss_nil)
    (wdss_one (wds_ret (wd_ix (wd_of_pl (wl_lst (wda_cons (wd_tup (wda_cons wd_int (wda_cons wd_int (wda_cons wd_int wda_nil)))) (wda_cons (wd_tup (wda_cons (wd_neg wd_int) (wda_cons wd_int (wda_cons wd_int wda_nil)))) (wda_cons (wd_tup (wda_cons wd_int (wda_cons (wd_neg wd_int) (wda_cons wd_int wda_nil)))) (wda_cons (wd_tup (wda_cons wd_int (wda_cons wd_int (wda_cons wd_int wda_nil)))) wda_nil)))))) (wd_mod (wd_fdiv (wd_var 0) wd_int) wd_int)))))
theorem sc_l_low : FnScope n_l_low p_l_low (defScope s_l_low) := ⟨rfl, rfl, rfl, by decide +kernel, rfl, by decide +kernel, by decide +kernel⟩
theorem ok_l_low (M : Tx K mg cb) : FnD P w K mg base cb 1 M.a_l_low M.fd_l_low p_l_low F_l_low := by
  refine wfn_okD (B := b_l_low) M.f_l_low sc_l_low (fun c cdv A outer s H E hcb hr g n => ?_) h_l_low
  subst hcb
  have hu := hr.units
  have hu1 := Nat.lt_of_le_of_lt (Nat.add_le_add_left (by decide : 1 ≤ 64) _) hu
  have hu8 := Nat.lt_of_le_of_lt (Nat.add_le_add_left (by decide : 8 ≤ 64) _) hu
  exact (wdss_cons (wds_set 2 g.nd (wd_var 0))
    (wdss_cons (wds_set 3 g.nd (wd_var 1))
    (wdss_cons (wds_whileZ n g (wdt_ne hu (wd_var 3) wd_int) (wdss_one (wds_par 2 3 g.calm g.nd (wda_cons (wd_var 3) (wda_cons (wd_mod (wd_var 2) (wd_var 3)) wda_nil)))))
    (wdss_one (wds_ret (wd_tup (wda_cons (wd_fdiv (wd_var 0) (wd_var 2)) (wda_cons (wd_fdiv (wd_var 1) (wd_var 2)) wda_nil))))))))
theorem sc_l_strength : FnScope n_l_strength p_l_strength (defScope s_l_strength) := ⟨rfl, rfl, rfl, by decide +kernel, rfl, by decide +kernel, by decide +kernel⟩
theorem ok_l_strength (M : Tx K mg cb) : FnD P w K mg base cb 2 M.a_l_strength M.fd_l_strength p_l_strength F_l_strength := by
  refine wfn_okD (B := b_l_strength) M.f_l_strength sc_l_strength (fun c cdv A outer s H E hcb hr g n => ?_) (fun as _ _ => ⟨0, rfl⟩)
  subst hcb
  have hu := hr.units
  have hu1 := Nat.lt_of_le_of_lt (Nat.add_le_add_left (by decide : 1 ≤ 64) _) hu
  have hu8 := Nat.lt_of_le_of_lt (Nat.add_le_add_left (by decide : 8 ≤ 64) _) hu
  exact (wdss_one (wds_ret (wd_fn (ok_l_low M) (hr.mono (by decide)) M.m_l_low M.k_l_low M.b_l_low (wda_cons (wd_add wd_int (wd_mod (wd_mul (wd_var 0) wd_int) (wd_pow wd_int wd_int))) (wda_cons (wd_add wd_int (wd_mod (wd_fdiv (wd_var 0) wd_int) wd_int)) wda_nil)))))
theorem sc_l_light : FnScope n_l_light p_l_light (defScope s_l_light) := ⟨rfl, rfl, rfl, by decide +kernel, rfl, by decide +kernel, by decide +kernel⟩
theorem ok_l_light (M : Tx K mg cb) : FnD P w K mg base cb 3 M.a_l_light M.fd_l_light p_l_light F_l_light := by
  refine wfn_okD (B := b_l_light) M.f_l_light sc_l_light (fun c cdv A outer s H E hcb hr g n => ?_) (fun as _ _ => ⟨0, rfl⟩)
  subst hcb
  have hu := hr.units
  have hu1 := Nat.lt_of_le_of_lt (Nat.add_le_add_left (by decide : 1 ≤ 64) _) hu
  have hu8 := Nat.lt_of_le_of_lt (Nat.add_le_add_left (by decide : 8 ≤ 64) _) hu
  exact (wdss_cons (wds_setM 1 g.nd (fun B => wm_newT))
    (wdss_cons (wds_forI g (wid_seq (wd_var 0)) (wgd_name 2 g.nd) (wdss_one (wds_putT hu1 (fun B => (wp_name 1)) (fun B => (wd_fnN (ok_l_pass M) (hr.mono (by decide)) M.m_l_pass M.k_l_pass M.b_l_pass (wda_cons (wd_var 2) wda_nil))) (fun B => (wd_fnN (ok_l_strength M) (hr.mono (by decide)) M.m_l_strength M.k_l_strength M.b_l_strength (wda_cons (wd_fdiv (wd_var 2) wd_int) wda_nil))))))
    (wdss_one (wds_retM (fun B => (wm_of_pl (wl_compD (tm := true) (k := 1) (caps := [1]) (N' := ["_law_p", "_law_kept"]) (fun _ => rfl) rfl (wid_seq (wd_of_pl (wl_sortedK g.calm M.z_sorted (wda_cons (wd_varO 1) wda_nil)))) ⟨rfl, by decide +kernel, rfl, by decide +kernel, rfl, (fun i c y h1 h2 => match i, h1, h2 with | 0, h1, h2 => by obtain rfl := Option.some.inj h1; obtain rfl := Option.some.inj h2; exact ⟨rfl, by first | exact Or.inl rfl | exact Or.inr (Or.inl rfl) | exact Or.inr (Or.inr rfl), (fun h => nomatch h), by decide +kernel⟩ | _ + 1, h1, _ => nomatch h1)⟩ (by decide +kernel) (fun C s₀ H₀ ex => (wgd_name 0 (by decide +kernel : (["_law_p", "_law_kept"] : List Str).Nodup))) (fun C s₀ H₀ ex => wts_nil) (fun C s₀ H₀ ex => (wd_tup (wda_cons (wd_var 0) (wda_cons (wd_getT hu1 (wd_var 1) (wd_var 0)) wda_nil)))) (tk_name (by decide)))))))))
theorem sc_l_plus : FnScope n_l_plus p_l_plus (defScope s_l_plus) := ⟨rfl, rfl, rfl, by decide +kernel, rfl, by decide +kernel, by decide +kernel⟩
theorem ok_l_plus (M : Tx K mg cb) : FnD P w K mg base cb 2 M.a_l_plus M.fd_l_plus p_l_plus F_l_plus := by
  refine wfn_okD (B := b_l_plus) M.f_l_plus sc_l_plus (fun c cdv A outer s H E hcb hr g n => ?_) (fun as _ _ => ⟨0, rfl⟩)
  subst hcb
  have hu := hr.units
  have hu1 := Nat.lt_of_le_of_lt (Nat.add_le_add_left (by decide : 1 ≤ 64) _) hu
  have hu8 := Nat.lt_of_le_of_lt (Nat.add_le_add_left (by decide : 8 ≤ 64) _) hu
  exact (wdss_one (wds_ret (wd_fn (ok_l_low M) (hr.mono (by decide)) M.m_l_low M.k_l_low M.b_l_low (wda_cons (wd_add (wd_mul (wd_ix (wd_var 0) wd_int) (wd_ix (wd_var 1) wd_int)) (wd_mul (wd_ix (wd_var 1) wd_int) (wd_ix (wd_var 0) wd_int))) (wda_cons (wd_mul (wd_ix (wd_var 0) wd_int) (wd_ix (wd_var 1) wd_int)) wda_nil)))))
theorem sc_l_both : FnScope n_l_both p_l_both (defScope s_l_both) := ⟨rfl, rfl, rfl, by decide +kernel, rfl, by decide +kernel, by decide +kernel⟩
theorem ok_l_both (M : Tx K mg cb) : FnD P w K mg base cb 3 M.a_l_both M.fd_l_both p_l_both F_l_both := by
  refine wfn_okD (B := b_l_both) M.f_l_both sc_l_both (fun c cdv A outer s H E hcb hr g n => ?_) (fun as _ _ => ⟨0, rfl⟩)
  subst hcb
  have hu := hr.units
  have hu1 := Nat.lt_of_le_of_lt (Nat.add_le_add_left (by decide : 1 ≤ 64) _) hu
  have hu8 := Nat.lt_of_le_of_lt (Nat.add_le_add_left (by decide : 8 ≤ 64) _) hu
  exact (wdss_cons (wds_setM 2 g.nd (fun B => wm_newT))
    (wdss_cons (wds_forI g (wid_seq (wd_of_pl (wl_cat (wd_var 0) (wd_var 1)))) (wgd_tup rfl (wgds_cons (wgd_name 3 g.nd) (wgds_cons (wgd_name 4 g.nd) wgds_nil))) (wdss_one (wds_putT hu1 (fun B => (wp_name 2)) (fun B => (wd_var 3)) (fun B => (wd_fnO (ok_l_plus M) (hr.mono (by decide)) M.m_l_plus M.k_l_plus M.b_l_plus (wda_cons (wd_get2T hu1 (wd_varO 2) (wd_var 3) (wd_tup (wda_cons wd_int (wda_cons wd_int wda_nil)))) (wda_cons (wd_var 4) wda_nil)))))))
    (wdss_one (wds_retM (fun B => (wm_of_pl (wl_compD (tm := true) (k := 1) (caps := [2]) (N' := ["_law_p", "_law_kept"]) (fun _ => rfl) rfl (wid_seq (wd_of_pl (wl_sortedK g.calm M.z_sorted (wda_cons (wd_varO 2) wda_nil)))) ⟨rfl, by decide +kernel, rfl, by decide +kernel, rfl, (fun i c y h1 h2 => match i, h1, h2 with | 0, h1, h2 => by obtain rfl := Option.some.inj h1; obtain rfl := Option.some.inj h2; exact ⟨rfl, by first | exact Or.inl rfl | exact Or.inr (Or.inl rfl) | exact Or.inr (Or.inr rfl), (fun h => nomatch h), by decide +kernel⟩ | _ + 1, h1, _ => nomatch h1)⟩ (by decide +kernel) (fun C s₀ H₀ ex => (wgd_name 0 (by decide +kernel : (["_law_p", "_law_kept"] : List Str).Nodup))) (fun C s₀ H₀ ex => wts_nil) (fun C s₀ H₀ ex => (wd_tup (wda_cons (wd_var 0) (wda_cons (wd_getT hu1 (wd_var 1) (wd_var 0)) wda_nil)))) (tk_name (by decide)))))))))
theorem sc_greatest_divisor : FnScope n_greatest_divisor p_greatest_divisor (defScope s_greatest_divisor) := ⟨rfl, rfl, rfl, by decide +kernel, rfl, by decide +kernel, by decide +kernel⟩
theorem ok_greatest_divisor (M : Tx K mg cb) : FnD P w K mg base cb 1 M.a_greatest_divisor M.fd_greatest_divisor p_greatest_divisor F_greatest_divisor := by
  refine wfn_okD (B := b_greatest_divisor) M.f_greatest_divisor sc_greatest_divisor (fun c cdv A outer s H E hcb hr g n => ?_) h_greatest_divisor
  subst hcb
  have hu := hr.units
  have hu1 := Nat.lt_of_le_of_lt (Nat.add_le_add_left (by decide : 1 ≤ 64) _) hu
  have hu8 := Nat.lt_of_le_of_lt (Nat.add_le_add_left (by decide : 8 ≤ 64) _) hu
  exact (wdss_cons (wds_set 2 g.nd (wd_abs M.z_abs (wda_cons (wd_var 0) wda_nil)))
    (wdss_cons (wds_set 3 g.nd (wd_abs M.z_abs (wda_cons (wd_var 1) wda_nil)))
    (wdss_cons (wds_whileZ n g (wdt_ne hu (wd_var 3) wd_int) (wdss_cons (wds_set 4 g.nd (wd_mod (wd_var 2) (wd_var 3)))
    (wdss_cons (wds_set 2 g.nd (wd_var 3))
    (wdss_one (wds_set 3 g.nd (wd_var 4))))))
    (wdss_one (wds_ret (wd_var 2))))))
theorem sc_fraction : FnScope n_fraction p_fraction (defScope s_fraction) := ⟨rfl, rfl, rfl, by decide +kernel, rfl, by decide +kernel, by decide +kernel⟩
theorem ok_fraction (M : Tx K mg cb) : FnD P w K mg base cb 2 M.a_fraction M.fd_fraction p_fraction F_fraction := by
  refine wfn_okD (B := b_fraction) M.f_fraction sc_fraction (fun c cdv A outer s H E hcb hr g n => ?_) (fun as _ _ => ⟨0, rfl⟩)
  subst hcb
  have hu := hr.units
  have hu1 := Nat.lt_of_le_of_lt (Nat.add_le_add_left (by decide : 1 ≤ 64) _) hu
  have hu8 := Nat.lt_of_le_of_lt (Nat.add_le_add_left (by decide : 8 ≤ 64) _) hu
  exact (wdss_cons (wds_ifZ (wdt_eq hu (wd_var 1) wd_int) (wdss_one (wds_raise g M.x_NoFraction (wda_cons wd_str wda_nil))) wdss_nil)
    (wdss_cons (wds_set 2 g.nd (wd_fn (ok_greatest_divisor M) (hr.mono (by decide)) M.m_greatest_divisor M.k_greatest_divisor M.b_greatest_divisor (wda_cons (wd_var 0) (wda_cons (wd_var 1) wda_nil))))
    (wdss_cons (wds_ifZ (wdt_lt (wd_var 1) wd_int) (wdss_one (wds_set 2 g.nd (wd_neg (wd_var 2)))) wdss_nil)
    (wdss_one (wds_ret (wd_tup (wda_cons (wd_fdiv (wd_var 0) (wd_var 2)) (wda_cons (wd_fdiv (wd_var 1) (wd_var 2)) wda_nil))))))))
theorem sc_plus : FnScope n_plus p_plus (defScope s_plus) := ⟨rfl, rfl, rfl, by decide +kernel, rfl, by decide +kernel, by decide +kernel⟩
theorem ok_plus (M : Tx K mg cb) : FnD P w K mg base cb 3 M.a_plus M.fd_plus p_plus F_plus := by
  refine wfn_okD (B := b_plus) M.f_plus sc_plus (fun c cdv A outer s H E hcb hr g n => ?_) (fun as _ _ => ⟨0, rfl⟩)
  subst hcb
  have hu := hr.units
  have hu1 := Nat.lt_of_le_of_lt (Nat.add_le_add_left (by decide : 1 ≤ 64) _) hu
  have hu8 := Nat.lt_of_le_of_lt (Nat.add_le_add_left (by decide : 8 ≤ 64) _) hu
  exact (wdss_one (wds_ret (wd_fn (ok_fraction M) (hr.mono (by decide)) M.m_fraction M.k_fraction M.b_fraction (wda_cons (wd_add (wd_mul (wd_ix (wd_var 0) wd_int) (wd_ix (wd_var 1) wd_int)) (wd_mul (wd_ix (wd_var 1) wd_int) (wd_ix (wd_var 0) wd_int))) (wda_cons (wd_mul (wd_ix (wd_var 0) wd_int) (wd_ix (wd_var 1) wd_int)) wda_nil)))))
theorem sc_gathered : FnScope n_gathered p_gathered (defScope s_gathered) := ⟨rfl, rfl, rfl, by decide +kernel, rfl, by decide +kernel, by decide +kernel⟩
theorem ok_gathered (M : Tx K mg cb) : FnD P w K mg base cb 4 M.a_gathered M.fd_gathered p_gathered F_gathered := by
  refine wfn_okD (B := b_gathered) M.f_gathered sc_gathered (fun c cdv A outer s H E hcb hr g n => ?_) (fun as _ _ => ⟨0, rfl⟩)
  subst hcb
  have hu := hr.units
  have hu1 := Nat.lt_of_le_of_lt (Nat.add_le_add_left (by decide : 1 ≤ 64) _) hu
  have hu8 := Nat.lt_of_le_of_lt (Nat.add_le_add_left (by decide : 8 ≤ 64) _) hu
  exact (wdss_cons (wds_setM 1 g.nd (fun B => wm_newT))
    (wdss_cons (wds_forI g (wid_seq (wd_var 0)) (wgd_tup rfl (wgds_cons (wgd_name 2 g.nd) (wgds_cons (wgd_name 3 g.nd) wgds_nil))) (wdss_one (wds_putT hu1 (fun B => (wp_name 1)) (fun B => (wd_var 2)) (fun B => (wd_fnO (ok_plus M) (hr.mono (by decide)) M.m_plus M.k_plus M.b_plus (wda_cons (wd_get2T hu1 (wd_varO 1) (wd_var 2) (wd_globD M.v_ZERO M.g_ZERO)) (wda_cons (wd_var 3) wda_nil)))))))
    (wdss_one (wds_retM (fun B => (wm_of_pl (wl_sortedI g.calm hu8 M.z_sorted (wd_varO 1))))))))
theorem sc_joined : FnScope n_joined p_joined (defScope s_joined) := ⟨rfl, rfl, rfl, by decide +kernel, rfl, by decide +kernel, by decide +kernel⟩
theorem ok_joined (M : Tx K mg cb) : FnD P w K mg base cb 5 M.a_joined M.fd_joined p_joined F_joined := by
  refine wfn_okD (B := b_joined) M.f_joined sc_joined (fun c cdv A outer s H E hcb hr g n => ?_) (fun as _ _ => ⟨0, rfl⟩)
  subst hcb
  have hu := hr.units
  have hu1 := Nat.lt_of_le_of_lt (Nat.add_le_add_left (by decide : 1 ≤ 64) _) hu
  have hu8 := Nat.lt_of_le_of_lt (Nat.add_le_add_left (by decide : 8 ≤ 64) _) hu
  exact (wdss_one (wds_retM (fun B => (wm_fnN (ok_gathered M) (hr.mono (by decide)) M.m_gathered M.k_gathered M.b_gathered (wda_cons (wd_of_pl (wl_cat (wd_var 0) (wd_var 1))) wda_nil)))))
theorem sc_under : FnScope n_under p_under (defScope s_under) := ⟨rfl, rfl, rfl, by decide +kernel, rfl, by decide +kernel, by decide +kernel⟩
theorem ok_under (M : Tx K mg cb) : FnD P w K mg base cb 1 M.a_under M.fd_under p_under F_under := by
  refine wfn_okD (B := b_under) M.f_under sc_under (fun c cdv A outer s H E hcb hr g n => ?_) (fun as _ _ => ⟨0, rfl⟩)
  subst hcb
  have hu := hr.units
  have hu1 := Nat.lt_of_le_of_lt (Nat.add_le_add_left (by decide : 1 ≤ 64) _) hu
  have hu8 := Nat.lt_of_le_of_lt (Nat.add_le_add_left (by decide : 8 ≤ 64) _) hu
  exact (wdss_one (wds_ret (wd_lt (wd_mul (wd_ix (wd_var 0) wd_int) (wd_ix (wd_var 1) wd_int)) (wd_mul (wd_ix (wd_var 1) wd_int) (wd_ix (wd_var 0) wd_int)))))
theorem sc_check_strength : FnScope n_check_strength p_check_strength (defScope s_check_strength) := ⟨rfl, rfl, rfl, by decide +kernel, rfl, by decide +kernel, by decide +kernel⟩
theorem ok_check_strength (M : Tx K mg cb) : FnD P w K mg base cb 2 M.a_check_strength M.fd_check_strength p_check_strength F_check_strength := by
  refine wfn_okD (B := b_check_strength) M.f_check_strength sc_check_strength (fun c cdv A outer s H E hcb hr g n => ?_) (fun as _ _ => ⟨0, rfl⟩)
  subst hcb
  have hu := hr.units
  have hu1 := Nat.lt_of_le_of_lt (Nat.add_le_add_left (by decide : 1 ≤ 64) _) hu
  have hu8 := Nat.lt_of_le_of_lt (Nat.add_le_add_left (by decide : 8 ≤ 64) _) hu
  exact (wdss_one (wds_ifZ (wdt_not (wdt_val (wd_fn (ok_under M) (hr.mono (by decide)) M.m_under M.k_under M.b_under (wda_cons (wd_globD M.v_ZERO M.g_ZERO) (wda_cons (wd_var 0) wda_nil))))) (wdss_one (wds_raise g M.x_NoStrength (wda_cons wd_str wda_nil))) wdss_nil))
theorem sc_times : FnScope n_times p_times (defScope s_times) := ⟨rfl, rfl, rfl, by decide +kernel, rfl, by decide +kernel, by decide +kernel⟩
theorem ok_times (M : Tx K mg cb) : FnD P w K mg base cb 3 M.a_times M.fd_times p_times F_times := by
  refine wfn_okD (B := b_times) M.f_times sc_times (fun c cdv A outer s H E hcb hr g n => ?_) (fun as _ _ => ⟨0, rfl⟩)
  subst hcb
  have hu := hr.units
  have hu1 := Nat.lt_of_le_of_lt (Nat.add_le_add_left (by decide : 1 ≤ 64) _) hu
  have hu8 := Nat.lt_of_le_of_lt (Nat.add_le_add_left (by decide : 8 ≤ 64) _) hu
  exact (wdss_one (wds_ret (wd_fn (ok_fraction M) (hr.mono (by decide)) M.m_fraction M.k_fraction M.b_fraction (wda_cons (wd_mul (wd_ix (wd_var 0) wd_int) (wd_ix (wd_var 1) wd_int)) (wda_cons (wd_mul (wd_ix (wd_var 0) wd_int) (wd_ix (wd_var 1) wd_int)) wda_nil)))))
theorem sc_scaled : FnScope n_scaled p_scaled (defScope s_scaled) := ⟨rfl, rfl, rfl, by decide +kernel, rfl, by decide +kernel, by decide +kernel⟩
theorem ok_scaled (M : Tx K mg cb) : FnD P w K mg base cb 4 M.a_scaled M.fd_scaled p_scaled F_scaled := by
  refine wfn_okD (B := b_scaled) M.f_scaled sc_scaled (fun c cdv A outer s H E hcb hr g n => ?_) (fun as _ _ => ⟨0, rfl⟩)
  subst hcb
  have hu := hr.units
  have hu1 := Nat.lt_of_le_of_lt (Nat.add_le_add_left (by decide : 1 ≤ 64) _) hu
  have hu8 := Nat.lt_of_le_of_lt (Nat.add_le_add_left (by decide : 8 ≤ 64) _) hu
  exact (wdss_cons (wds_exprZ (wd_fn (ok_check_strength M) (hr.mono (by decide)) M.m_check_strength M.k_check_strength M.b_check_strength (wda_cons (wd_var 1) wda_nil)))
    (wdss_one (wds_retM (fun B => (wm_of_pl (wl_compD (tm := false) (k := 2) (caps := [1]) (N' := ["p", "strength", "by"]) (fun h => nomatch h) rfl (wid_seq (wd_var 0)) ⟨rfl, by decide +kernel, rfl, by decide +kernel, rfl, (fun i c y h1 h2 => match i, h1, h2 with | 0, h1, h2 => by obtain rfl := Option.some.inj h1; obtain rfl := Option.some.inj h2; exact ⟨rfl, by first | exact Or.inl rfl | exact Or.inr (Or.inl rfl) | exact Or.inr (Or.inr rfl), (fun h => nomatch h), by decide +kernel⟩ | _ + 1, h1, _ => nomatch h1)⟩ (by decide +kernel) (fun C s₀ H₀ ex => (wgd_tup rfl (wgds_cons (wgd_name 0 (by decide +kernel : (["p", "strength", "by"] : List Str).Nodup)) (wgds_cons (wgd_name 1 (by decide +kernel : (["p", "strength", "by"] : List Str).Nodup)) wgds_nil)))) (fun C s₀ H₀ ex => wts_nil) (fun C s₀ H₀ ex => (wd_tup (wda_cons (wd_var 0) (wda_cons (wd_fnN (ok_times M) (hr.mono (by decide)) M.m_times M.k_times M.b_times (wda_cons (wd_var 1) (wda_cons (wd_var 2) wda_nil))) wda_nil)))) (tk_tup (tk_cons (tk_name (by decide)) (tk_cons (tk_name (by decide)) tk_nil)))))))))
theorem sc_sum_of : FnScope n_sum_of p_sum_of (defScope s_sum_of) := ⟨rfl, rfl, rfl, by decide +kernel, rfl, by decide +kernel, by decide +kernel⟩
theorem ok_sum_of (M : Tx K mg cb) : FnD P w K mg base cb 4 M.a_sum_of M.fd_sum_of p_sum_of F_sum_of := by
  refine wfn_okD (B := b_sum_of) M.f_sum_of sc_sum_of (fun c cdv A outer s H E hcb hr g n => ?_) (fun as _ _ => ⟨0, rfl⟩)
  subst hcb
  have hu := hr.units
  have hu1 := Nat.lt_of_le_of_lt (Nat.add_le_add_left (by decide : 1 ≤ 64) _) hu
  have hu8 := Nat.lt_of_le_of_lt (Nat.add_le_add_left (by decide : 8 ≤ 64) _) hu
  exact (wdss_cons (wds_set 1 g.nd (wd_globD M.v_ZERO M.g_ZERO))
    (wdss_cons (wds_forI g (wid_seq (wd_var 0)) (wgd_tup rfl (wgds_cons (wgd_name 2 g.nd) (wgds_cons (wgd_name 3 g.nd) wgds_nil))) (wdss_one (wds_set 1 g.nd (wd_fn (ok_plus M) (hr.mono (by decide)) M.m_plus M.k_plus M.b_plus (wda_cons (wd_var 1) (wda_cons (wd_var 3) wda_nil))))))
    (wdss_one (wds_ret (wd_var 1)))))
theorem sc_l_refused : FnScope n_l_refused p_l_refused (defScope s_l_refused) := ⟨rfl, rfl, rfl, by decide +kernel, rfl, by decide +kernel, by decide +kernel⟩
theorem ok_l_refused (M : Tx K mg cb) : FnD P w K mg base cb 5 M.a_l_refused M.fd_l_refused p_l_refused F_l_refused := by
  refine wfn_okD (B := b_l_refused) M.f_l_refused sc_l_refused (fun c cdv A outer s H E hcb hr g n => ?_) (fun as _ _ => ⟨0, rfl⟩)
  subst hcb
  have hu := hr.units
  have hu1 := Nat.lt_of_le_of_lt (Nat.add_le_add_left (by decide : 1 ≤ 64) _) hu
  have hu8 := Nat.lt_of_le_of_lt (Nat.add_le_add_left (by decide : 8 ≤ 64) _) hu
  exact (wdss_cons (wds_set 2 g.nd wd_bl)
    (wdss_cons (wds_tryAs 3 g M.g_BeamError M.h_BeamError (fun pn xe g => (wdss_one (wds_exprZ (wd_fn (ok_scaled M) (hr.mono (by decide)) M.m_scaled M.k_scaled M.b_scaled (wda_cons (wd_var 0) (wda_cons (wd_var 1) wda_nil)))))) (fun ev pn => (wdss_one (wds_set 2 g.nd (wd_and (wd_isi M.z_isinstance M.xt M.i_NoStrength (clsV_ref M.g_NoStrength) (wd_var 3)) (wd_and (wd_isi M.z_isinstance M.xt M.i_ValueError (clsV_ty M.z_ValueError bt_ValueError (by decide)) (wd_var 3)) (wd_one (wd_not (wd_isi M.z_isinstance M.xt M.i_NoPass (clsV_ref M.g_NoPass) (wd_var 3))))))))))
    (wdss_one (wds_ret (wd_var 2)))))
theorem sc_law : FnScope n_law p_law (defScope s_law) := ⟨rfl, rfl, rfl, by decide +kernel, rfl, by decide +kernel, by decide +kernel⟩
theorem ok_law (M : Tx K mg cb) : FnD P w K mg base cb 6 M.a_law M.fd_law p_law F_law := by
  refine wfn_okD (B := b_law) M.f_law sc_law (fun c cdv A outer s H E hcb hr g n => ?_) (fun as _ _ => ⟨0, rfl⟩)
  subst hcb
  have hu := hr.units
  have hu1 := Nat.lt_of_le_of_lt (Nat.add_le_add_left (by decide : 1 ≤ 64) _) hu
  have hu8 := Nat.lt_of_le_of_lt (Nat.add_le_add_left (by decide : 8 ≤ 64) _) hu
  exact (wdss_cons (wds_set 1 g.nd (wd_fn (ok_l_cell_at M) (hr.mono (by decide)) M.m_l_cell_at M.k_l_cell_at M.b_l_cell_at (wda_cons (wd_var 0) (wda_cons wd_int wda_nil))))
    (wdss_cons (wds_set 2 g.nd (wd_of_pl (wl_cut (wd_var 0) (wdo_some wd_int) (wdo_some wd_int))))
    (wdss_cons (wds_set 3 g.nd (wd_mod (wd_fdiv (wd_var 1) wd_int) (wd_add (wd_len M.z_len (wda_cons (wd_var 2) wda_nil)) wd_int)))
    (wdss_cons (wds_set 4 g.nd (wd_fn (ok_l_light M) (hr.mono (by decide)) M.m_l_light M.k_l_light M.b_l_light (wda_cons (wd_of_pl (wl_cut (wd_var 2) wdo_none (wdo_some (wd_var 3)))) wda_nil)))
    (wdss_cons (wds_set 5 g.nd (wd_fn (ok_l_light M) (hr.mono (by decide)) M.m_l_light M.k_l_light M.b_l_light (wda_cons (wd_of_pl (wl_cat (wd_of_pl (wl_cut (wd_var 2) (wdo_some (wd_var 3)) wdo_none)) (wd_of_pl (wl_cut (wd_var 2) wdo_none (wdo_some (wd_mod (wd_var 1) wd_int)))))) wda_nil)))
    (wdss_cons (wds_set 6 g.nd (wd_fn (ok_l_both M) (hr.mono (by decide)) M.m_l_both M.k_l_both M.b_l_both (wda_cons (wd_var 4) (wda_cons (wd_var 5) wda_nil))))
    (wdss_cons (wds_set 7 g.nd (wd_of_pl (wl_lst (wda_cons (wd_of_pl (wl_list M.z_list (wda_cons (wd_var 4) wda_nil))) (wda_cons (wd_of_pl (wl_list M.z_list (wda_cons (wd_var 5) wda_nil))) wda_nil)))))
    (wdss_cons (wds_set 8 g.nd (wd_fn (ok_joined M) (hr.mono (by decide)) M.m_joined M.k_joined M.b_joined (wda_cons (wd_ix (wd_var 7) wd_int) (wda_cons (wd_ix (wd_var 7) wd_int) wda_nil))))
    (wdss_cons (wds_ifZ (wdt_w (wdw_or (wdt_not (wdt_val (wd_isi M.z_isinstance M.xt M.i_list (clsV_ty M.z_list bt_list (by decide)) (wd_var 8)))) (wdw_or (wdt_ne hu (wd_var 8) (wd_var 6)) (wdw_or1 (wdt_ne hu (wd_fn (ok_joined M) (hr.mono (by decide)) M.m_joined M.k_joined M.b_joined (wda_cons (wd_ix (wd_var 7) wd_int) (wda_cons (wd_ix (wd_var 7) wd_int) wda_nil))) (wd_var 6)))))) (wdss_one (wds_ret wd_bl)) wdss_nil)
    (wdss_cons (wds_ifZ (wdt_ne hu (wd_var 7) (wd_of_pl (wl_lst (wda_cons (wd_var 4) (wda_cons (wd_var 5) wda_nil))))) (wdss_one (wds_ret wd_bl)) wdss_nil)
    (wdss_cons (wds_ifZ (wdt_w (wdw_or (wdt_ne hu (wd_fn (ok_joined M) (hr.mono (by decide)) M.m_joined M.k_joined M.b_joined (wda_cons (wd_ix (wd_var 7) wd_int) (wda_cons (wd_of_pl (wl_lst wda_nil)) wda_nil))) (wd_var 4)) (wdw_or (wdt_ne hu (wd_fn (ok_joined M) (hr.mono (by decide)) M.m_joined M.k_joined M.b_joined (wda_cons (wd_of_pl (wl_lst wda_nil)) (wda_cons (wd_ix (wd_var 7) wd_int) wda_nil))) (wd_var 5)) (wdw_or1 (wdt_ne hu (wd_fn (ok_joined M) (hr.mono (by decide)) M.m_joined M.k_joined M.b_joined (wda_cons (wd_of_pl (wl_lst wda_nil)) (wda_cons (wd_of_pl (wl_lst wda_nil)) wda_nil))) (wd_of_pl (wl_lst wda_nil))))))) (wdss_one (wds_ret wd_bl)) wdss_nil)
    (wdss_cons (wds_clearT (fun B => (wm_fnN (ok_joined M) (hr.mono (by decide)) M.m_joined M.k_joined M.b_joined (wda_cons (wd_ix (wd_var 7) wd_int) (wda_cons (wd_of_pl (wl_lst wda_nil)) wda_nil)))))
    (wdss_cons (wds_clearT (fun B => (wm_fnN (ok_joined M) (hr.mono (by decide)) M.m_joined M.k_joined M.b_joined (wda_cons (wd_of_pl (wl_lst wda_nil)) (wda_cons (wd_ix (wd_var 7) wd_int) wda_nil)))))
    (wdss_cons (wds_clearT (fun B => (wm_fnN (ok_scaled M) (hr.mono (by decide)) M.m_scaled M.k_scaled M.b_scaled (wda_cons (wd_ix (wd_var 7) wd_int) (wda_cons (wd_tup (wda_cons wd_int (wda_cons wd_int wda_nil))) wda_nil)))))
    (wdss_cons (wds_ifZ (wdt_ne hu (wd_var 7) (wd_of_pl (wl_lst (wda_cons (wd_var 4) (wda_cons (wd_var 5) wda_nil))))) (wdss_one (wds_ret wd_bl)) wdss_nil)
    (wdss_cons (wds_set 9 g.nd (wd_fn (ok_l_strength M) (hr.mono (by decide)) M.m_l_strength M.k_l_strength M.b_l_strength (wda_cons (wd_var 1) wda_nil)))
    (wdss_cons (wds_set 10 g.nd (wd_fn (ok_scaled M) (hr.mono (by decide)) M.m_scaled M.k_scaled M.b_scaled (wda_cons (wd_var 8) (wda_cons (wd_var 9) wda_nil))))
    (wdss_cons (wds_setM 11 g.nd (fun B => (wm_of_pl (wl_lst wda_nil))))
    (wdss_cons (wds_forI g (wid_seq (wd_var 6)) (wgd_tup rfl (wgds_cons (wgd_name 12 g.nd) (wgds_cons (wgd_name 13 g.nd) wgds_nil))) (wdss_one (wds_append (fun B => (wp_name 11)) (fun B => (wd_tup (wda_cons (wd_var 12) (wda_cons (wd_fnN (ok_l_low M) (hr.mono (by decide)) M.m_l_low M.k_l_low M.b_l_low (wda_cons (wd_mul (wd_ix (wd_var 13) wd_int) (wd_ix (wd_var 9) wd_int)) (wda_cons (wd_mul (wd_ix (wd_var 13) wd_int) (wd_ix (wd_var 9) wd_int)) wda_nil))) wda_nil)))))))
    (wdss_cons (wds_if (fun B => (wdt_w (wdw_or (wdt_ne hu (wd_var 10) (wd_varO 11)) (wdw_or1 (wdt_ne hu (wd_var 8) (wd_var 6)))))) (wdss_one (wds_ret wd_bl)) wdss_nil)
    (wdss_cons (wds_set 14 g.nd (wd_fn (ok_sum_of M) (hr.mono (by decide)) M.m_sum_of M.k_sum_of M.b_sum_of (wda_cons (wd_var 8) wda_nil)))
    (wdss_cons (wds_ifZ (wdt_w (wdw_or (wdt_ne hu (wd_fn (ok_sum_of M) (hr.mono (by decide)) M.m_sum_of M.k_sum_of M.b_sum_of (wda_cons (wd_var 10) wda_nil)) (wd_fn (ok_l_low M) (hr.mono (by decide)) M.m_l_low M.k_l_low M.b_l_low (wda_cons (wd_mul (wd_ix (wd_var 14) wd_int) (wd_ix (wd_var 9) wd_int)) (wda_cons (wd_mul (wd_ix (wd_var 14) wd_int) (wd_ix (wd_var 9) wd_int)) wda_nil)))) (wdw_or1 (wdt_ne hu (wd_fn (ok_scaled M) (hr.mono (by decide)) M.m_scaled M.k_scaled M.b_scaled (wda_cons (wd_of_pl (wl_lst wda_nil)) (wda_cons (wd_var 9) wda_nil))) (wd_of_pl (wl_lst wda_nil)))))) (wdss_one (wds_ret wd_bl)) wdss_nil)
    (wdss_one (wds_ret (wd_and (wd_fn (ok_l_refused M) (hr.mono (by decide)) M.m_l_refused M.k_l_refused M.b_l_refused (wda_cons (wd_var 8) (wda_cons (wd_tup (wda_cons wd_int (wda_cons wd_int wda_nil))) wda_nil))) (wd_one (wd_fn (ok_l_refused M) (hr.mono (by decide)) M.m_l_refused M.k_l_refused M.b_l_refused (wda_cons (wd_of_pl (wl_lst wda_nil)) (wda_cons (wd_tup (wda_cons (wd_sub (wd_sub wd_int wd_int) (wd_mod (wd_fdiv (wd_var 1) wd_int) (wd_pow wd_int wd_int))) (wda_cons wd_int wda_nil))) wda_nil)))))))))))))))))))))))))))))
end
theorem all_mk {P : Program} {w : World} {K : PySem.W.Frag} {h : Heap} {mg : Str → Option Value} {fa : Addr} (X : K.In h) (G : h.Ns mainGlobals mg) (hfa : mg "law" = some (.ref fa))
    {C_BeamError : Addr}
    {C_NoFraction : Addr}
    {C_NoPass : Addr}
    {C_NoStrength : Addr}
    {f_l_cell_at : Addr} {od_l_cell_at an_l_cell_at : Option Addr} {sl_l_cell_at : Array (Option Value)} {oc_l_cell_at kV_l_cell_at dc_l_cell_at pm_l_cell_at cd_l_cell_at ct_l_cell_at : Value}
    {f_l_pass : Addr} {od_l_pass an_l_pass : Option Addr} {sl_l_pass : Array (Option Value)} {oc_l_pass kV_l_pass dc_l_pass pm_l_pass cd_l_pass ct_l_pass : Value}
    {f_l_low : Addr} {od_l_low an_l_low : Option Addr} {sl_l_low : Array (Option Value)} {oc_l_low kV_l_low dc_l_low pm_l_low cd_l_low ct_l_low : Value}
    {f_l_strength : Addr} {od_l_strength an_l_strength : Option Addr} {sl_l_strength : Array (Option Value)} {oc_l_strength kV_l_strength dc_l_strength pm_l_strength cd_l_strength ct_l_strength : Value}
    {f_l_light : Addr} {od_l_light an_l_light : Option Addr} {sl_l_light : Array (Option Value)} {oc_l_light kV_l_light dc_l_light pm_l_light cd_l_light ct_l_light : Value}
    {f_l_plus : Addr} {od_l_plus an_l_plus : Option Addr} {sl_l_plus : Array (Option Value)} {oc_l_plus kV_l_plus dc_l_plus pm_l_plus cd_l_plus ct_l_plus : Value}
    {f_l_both : Addr} {od_l_both an_l_both : Option Addr} {sl_l_both : Array (Option Value)} {oc_l_both kV_l_both dc_l_both pm_l_both cd_l_both ct_l_both : Value}
    {f_greatest_divisor : Addr} {od_greatest_divisor an_greatest_divisor : Option Addr} {sl_greatest_divisor : Array (Option Value)} {oc_greatest_divisor kV_greatest_divisor dc_greatest_divisor pm_greatest_divisor cd_greatest_divisor ct_greatest_divisor : Value}
    {f_fraction : Addr} {od_fraction an_fraction : Option Addr} {sl_fraction : Array (Option Value)} {oc_fraction kV_fraction dc_fraction pm_fraction cd_fraction ct_fraction : Value}
    {f_plus : Addr} {od_plus an_plus : Option Addr} {sl_plus : Array (Option Value)} {oc_plus kV_plus dc_plus pm_plus cd_plus ct_plus : Value}
    {f_gathered : Addr} {od_gathered an_gathered : Option Addr} {sl_gathered : Array (Option Value)} {oc_gathered kV_gathered dc_gathered pm_gathered cd_gathered ct_gathered : Value}
    {f_joined : Addr} {od_joined an_joined : Option Addr} {sl_joined : Array (Option Value)} {oc_joined kV_joined dc_joined pm_joined cd_joined ct_joined : Value}
    {f_under : Addr} {od_under an_under : Option Addr} {sl_under : Array (Option Value)} {oc_under kV_under dc_under pm_under cd_under ct_under : Value}
    {f_check_strength : Addr} {od_check_strength an_check_strength : Option Addr} {sl_check_strength : Array (Option Value)} {oc_check_strength kV_check_strength dc_check_strength pm_check_strength cd_check_strength ct_check_strength : Value}
    {f_times : Addr} {od_times an_times : Option Addr} {sl_times : Array (Option Value)} {oc_times kV_times dc_times pm_times cd_times ct_times : Value}
    {f_scaled : Addr} {od_scaled an_scaled : Option Addr} {sl_scaled : Array (Option Value)} {oc_scaled kV_scaled dc_scaled pm_scaled cd_scaled ct_scaled : Value}
    {f_sum_of : Addr} {od_sum_of an_sum_of : Option Addr} {sl_sum_of : Array (Option Value)} {oc_sum_of kV_sum_of dc_sum_of pm_sum_of cd_sum_of ct_sum_of : Value}
    {f_l_refused : Addr} {od_l_refused an_l_refused : Option Addr} {sl_l_refused : Array (Option Value)} {oc_l_refused kV_l_refused dc_l_refused pm_l_refused cd_l_refused ct_l_refused : Value}
    {f_law : Addr} {od_law an_law : Option Addr} {sl_law : Array (Option Value)} {oc_law kV_law dc_law pm_law cd_law ct_law : Value}
    {t_ZERO_1 : Tok}
    {t_ZERO_2 : Tok}
    {A_ZERO_3 : Addr} {od_A_ZERO_3 : Option Addr} {nn_A_ZERO_3 : Nat} {sl_A_ZERO_3 : Array (Option Value)}
    (e_BeamError : PySem.W.nsIn K mainGlobals "BeamError" = some (some (.ref C_BeamError)))
    (e_NoFraction : PySem.W.nsIn K mainGlobals "NoFraction" = some (some (.ref C_NoFraction)))
    (e_NoPass : PySem.W.nsIn K mainGlobals "NoPass" = some (some (.ref C_NoPass)))
    (e_NoStrength : PySem.W.nsIn K mainGlobals "NoStrength" = some (some (.ref C_NoStrength)))
    (a_l_cell_at : PySem.W.nsIn K mainGlobals "_law_cell_at" = some (some (.ref f_l_cell_at)))
    (l_l_cell_at : K.lookup f_l_cell_at = some ⟨oc_l_cell_at, od_l_cell_at, .func (PySem.W.fnOf "_law_cell_at" "_law_cell_at" (defArgs s_l_cell_at) (defBody s_l_cell_at) (defScope s_l_cell_at) .none kV_l_cell_at dc_l_cell_at pm_l_cell_at an_l_cell_at cd_l_cell_at ct_l_cell_at), sl_l_cell_at⟩) (c_l_cell_at : PySem.W.codeIn K cd_l_cell_at "_law_cell_at" = true) (k_l_cell_at : PySem.W.keepIn K (.ref f_l_cell_at) = true)
    (a_l_pass : PySem.W.nsIn K mainGlobals "_law_pass" = some (some (.ref f_l_pass)))
    (l_l_pass : K.lookup f_l_pass = some ⟨oc_l_pass, od_l_pass, .func (PySem.W.fnOf "_law_pass" "_law_pass" (defArgs s_l_pass) (defBody s_l_pass) (defScope s_l_pass) .none kV_l_pass dc_l_pass pm_l_pass an_l_pass cd_l_pass ct_l_pass), sl_l_pass⟩) (c_l_pass : PySem.W.codeIn K cd_l_pass "_law_pass" = true) (k_l_pass : PySem.W.keepIn K (.ref f_l_pass) = true)
    (a_l_low : PySem.W.nsIn K mainGlobals "_law_low" = some (some (.ref f_l_low)))
    (l_l_low : K.lookup f_l_low = some ⟨oc_l_low, od_l_low, .func (PySem.W.fnOf "_law_low" "_law_low" (defArgs s_l_low) (defBody s_l_low) (defScope s_l_low) .none kV_l_low dc_l_low pm_l_low an_l_low cd_l_low ct_l_low), sl_l_low⟩) (c_l_low : PySem.W.codeIn K cd_l_low "_law_low" = true) (k_l_low : PySem.W.keepIn K (.ref f_l_low) = true)
    (a_l_strength : PySem.W.nsIn K mainGlobals "_law_strength" = some (some (.ref f_l_strength)))
    (l_l_strength : K.lookup f_l_strength = some ⟨oc_l_strength, od_l_strength, .func (PySem.W.fnOf "_law_strength" "_law_strength" (defArgs s_l_strength) (defBody s_l_strength) (defScope s_l_strength) .none kV_l_strength dc_l_strength pm_l_strength an_l_strength cd_l_strength ct_l_strength), sl_l_strength⟩) (c_l_strength : PySem.W.codeIn K cd_l_strength "_law_strength" = true) (k_l_strength : PySem.W.keepIn K (.ref f_l_strength) = true)
    (a_l_light : PySem.W.nsIn K mainGlobals "_law_light" = some (some (.ref f_l_light)))
    (l_l_light : K.lookup f_l_light = some ⟨oc_l_light, od_l_light, .func (PySem.W.fnOf "_law_light" "_law_light" (defArgs s_l_light) (defBody s_l_light) (defScope s_l_light) .none kV_l_light dc_l_light pm_l_light an_l_light cd_l_light ct_l_light), sl_l_light⟩) (c_l_light : PySem.W.codeIn K cd_l_light "_law_light" = true) (k_l_light : PySem.W.keepIn K (.ref f_l_light) = true)
    (a_l_plus : PySem.W.nsIn K mainGlobals "_law_plus" = some (some (.ref f_l_plus)))
    (l_l_plus : K.lookup f_l_plus = some ⟨oc_l_plus, od_l_plus, .func (PySem.W.fnOf "_law_plus" "_law_plus" (defArgs s_l_plus) (defBody s_l_plus) (defScope s_l_plus) .none kV_l_plus dc_l_plus pm_l_plus an_l_plus cd_l_plus ct_l_plus), sl_l_plus⟩) (c_l_plus : PySem.W.codeIn K cd_l_plus "_law_plus" = true) (k_l_plus : PySem.W.keepIn K (.ref f_l_plus) = true)
    (a_l_both : PySem.W.nsIn K mainGlobals "_law_both" = some (some (.ref f_l_both)))
    (l_l_both : K.lookup f_l_both = some ⟨oc_l_both, od_l_both, .func (PySem.W.fnOf "_law_both" "_law_both" (defArgs s_l_both) (defBody s_l_both) (defScope s_l_both) .none kV_l_both dc_l_both pm_l_both an_l_both cd_l_both ct_l_both), sl_l_both⟩) (c_l_both : PySem.W.codeIn K cd_l_both "_law_both" = true) (k_l_both : PySem.W.keepIn K (.ref f_l_both) = true)
    (a_greatest_divisor : PySem.W.nsIn K mainGlobals "greatest_divisor" = some (some (.ref f_greatest_divisor)))
    (l_greatest_divisor : K.lookup f_greatest_divisor = some ⟨oc_greatest_divisor, od_greatest_divisor, .func (PySem.W.fnOf "greatest_divisor" "greatest_divisor" (defArgs s_greatest_divisor) (defBody s_greatest_divisor) (defScope s_greatest_divisor) .none kV_greatest_divisor dc_greatest_divisor pm_greatest_divisor an_greatest_divisor cd_greatest_divisor ct_greatest_divisor), sl_greatest_divisor⟩) (c_greatest_divisor : PySem.W.codeIn K cd_greatest_divisor "greatest_divisor" = true) (k_greatest_divisor : PySem.W.keepIn K (.ref f_greatest_divisor) = true)
    (a_fraction : PySem.W.nsIn K mainGlobals "fraction" = some (some (.ref f_fraction)))
    (l_fraction : K.lookup f_fraction = some ⟨oc_fraction, od_fraction, .func (PySem.W.fnOf "fraction" "fraction" (defArgs s_fraction) (defBody s_fraction) (defScope s_fraction) .none kV_fraction dc_fraction pm_fraction an_fraction cd_fraction ct_fraction), sl_fraction⟩) (c_fraction : PySem.W.codeIn K cd_fraction "fraction" = true) (k_fraction : PySem.W.keepIn K (.ref f_fraction) = true)
    (a_plus : PySem.W.nsIn K mainGlobals "plus" = some (some (.ref f_plus)))
    (l_plus : K.lookup f_plus = some ⟨oc_plus, od_plus, .func (PySem.W.fnOf "plus" "plus" (defArgs s_plus) (defBody s_plus) (defScope s_plus) .none kV_plus dc_plus pm_plus an_plus cd_plus ct_plus), sl_plus⟩) (c_plus : PySem.W.codeIn K cd_plus "plus" = true) (k_plus : PySem.W.keepIn K (.ref f_plus) = true)
    (a_gathered : PySem.W.nsIn K mainGlobals "gathered" = some (some (.ref f_gathered)))
    (l_gathered : K.lookup f_gathered = some ⟨oc_gathered, od_gathered, .func (PySem.W.fnOf "gathered" "gathered" (defArgs s_gathered) (defBody s_gathered) (defScope s_gathered) .none kV_gathered dc_gathered pm_gathered an_gathered cd_gathered ct_gathered), sl_gathered⟩) (c_gathered : PySem.W.codeIn K cd_gathered "gathered" = true) (k_gathered : PySem.W.keepIn K (.ref f_gathered) = true)
    (a_joined : PySem.W.nsIn K mainGlobals "joined" = some (some (.ref f_joined)))
    (l_joined : K.lookup f_joined = some ⟨oc_joined, od_joined, .func (PySem.W.fnOf "joined" "joined" (defArgs s_joined) (defBody s_joined) (defScope s_joined) .none kV_joined dc_joined pm_joined an_joined cd_joined ct_joined), sl_joined⟩) (c_joined : PySem.W.codeIn K cd_joined "joined" = true) (k_joined : PySem.W.keepIn K (.ref f_joined) = true)
    (a_under : PySem.W.nsIn K mainGlobals "under" = some (some (.ref f_under)))
    (l_under : K.lookup f_under = some ⟨oc_under, od_under, .func (PySem.W.fnOf "under" "under" (defArgs s_under) (defBody s_under) (defScope s_under) .none kV_under dc_under pm_under an_under cd_under ct_under), sl_under⟩) (c_under : PySem.W.codeIn K cd_under "under" = true) (k_under : PySem.W.keepIn K (.ref f_under) = true)
    (a_check_strength : PySem.W.nsIn K mainGlobals "check_strength" = some (some (.ref f_check_strength)))
    (l_check_strength : K.lookup f_check_strength = some ⟨oc_check_strength, od_check_strength, .func (PySem.W.fnOf "check_strength" "check_strength" (defArgs s_check_strength) (defBody s_check_strength) (defScope s_check_strength) .none kV_check_strength dc_check_strength pm_check_strength an_check_strength cd_check_strength ct_check_strength), sl_check_strength⟩) (c_check_strength : PySem.W.codeIn K cd_check_strength "check_strength" = true) (k_check_strength : PySem.W.keepIn K (.ref f_check_strength) = true)
    (a_times : PySem.W.nsIn K mainGlobals "times" = some (some (.ref f_times)))
    (l_times : K.lookup f_times = some ⟨oc_times, od_times, .func (PySem.W.fnOf "times" "times" (defArgs s_times) (defBody s_times) (defScope s_times) .none kV_times dc_times pm_times an_times cd_times ct_times), sl_times⟩) (c_times : PySem.W.codeIn K cd_times "times" = true) (k_times : PySem.W.keepIn K (.ref f_times) = true)
    (a_scaled : PySem.W.nsIn K mainGlobals "scaled" = some (some (.ref f_scaled)))
    (l_scaled : K.lookup f_scaled = some ⟨oc_scaled, od_scaled, .func (PySem.W.fnOf "scaled" "scaled" (defArgs s_scaled) (defBody s_scaled) (defScope s_scaled) .none kV_scaled dc_scaled pm_scaled an_scaled cd_scaled ct_scaled), sl_scaled⟩) (c_scaled : PySem.W.codeIn K cd_scaled "scaled" = true) (k_scaled : PySem.W.keepIn K (.ref f_scaled) = true)
    (a_sum_of : PySem.W.nsIn K mainGlobals "sum_of" = some (some (.ref f_sum_of)))
    (l_sum_of : K.lookup f_sum_of = some ⟨oc_sum_of, od_sum_of, .func (PySem.W.fnOf "sum_of" "sum_of" (defArgs s_sum_of) (defBody s_sum_of) (defScope s_sum_of) .none kV_sum_of dc_sum_of pm_sum_of an_sum_of cd_sum_of ct_sum_of), sl_sum_of⟩) (c_sum_of : PySem.W.codeIn K cd_sum_of "sum_of" = true) (k_sum_of : PySem.W.keepIn K (.ref f_sum_of) = true)
    (a_l_refused : PySem.W.nsIn K mainGlobals "_law_refused" = some (some (.ref f_l_refused)))
    (l_l_refused : K.lookup f_l_refused = some ⟨oc_l_refused, od_l_refused, .func (PySem.W.fnOf "_law_refused" "_law_refused" (defArgs s_l_refused) (defBody s_l_refused) (defScope s_l_refused) .none kV_l_refused dc_l_refused pm_l_refused an_l_refused cd_l_refused ct_l_refused), sl_l_refused⟩) (c_l_refused : PySem.W.codeIn K cd_l_refused "_law_refused" = true) (k_l_refused : PySem.W.keepIn K (.ref f_l_refused) = true)
    (a_law : PySem.W.nsIn K mainGlobals "law" = some (some (.ref f_law)))
    (l_law : K.lookup f_law = some ⟨oc_law, od_law, .func (PySem.W.fnOf "law" "law" (defArgs s_law) (defBody s_law) (defScope s_law) .none kV_law dc_law pm_law an_law cd_law ct_law), sl_law⟩) (c_law : PySem.W.codeIn K cd_law "law" = true) (k_law : PySem.W.keepIn K (.ref f_law) = true)
    (z_ValueError : PySem.W.nsIn K mainGlobals "ValueError" = some none)
    (z_abs : PySem.W.nsIn K mainGlobals "abs" = some none)
    (z_isinstance : PySem.W.nsIn K mainGlobals "isinstance" = some none)
    (z_len : PySem.W.nsIn K mainGlobals "len" = some none)
    (z_list : PySem.W.nsIn K mainGlobals "list" = some none)
    (z_sorted : PySem.W.nsIn K mainGlobals "sorted" = some none)
    (gc_ZERO : PySem.W.nsIn K mainGlobals "ZERO" = some (some (.ref A_ZERO_3)))
    (lA_ZERO_3 : K.lookup A_ZERO_3 = some ⟨.type "tuple", od_A_ZERO_3, .seq [(.int 0 t_ZERO_1), (.int 1 t_ZERO_2)].toArray nn_A_ZERO_3, sl_A_ZERO_3⟩)
    (x_NoFraction : PySem.W.excIn K C_NoFraction bmVE "ValueError.__new__" = true)
    (ga_NoFraction : PySem.W.findIn K (.ref C_NoFraction) "__getattribute__" = some (some (.builtin "BaseException.__getattribute__")))
    (gt_NoFraction : PySem.W.findIn K (.ref C_NoFraction) "__getattr__" = some none)
    (ca_NoFraction : PySem.W.findIn K (.ref C_NoFraction) "__class__" = some (some (.builtin "object.__class__")))
    (mo_NoFraction : PySem.W.mroIn K C_NoFraction (.type "object") = some true)
    (mb_NoFraction : PySem.W.subIn K (.ref C_NoFraction) (.type "BaseException") = some true)
    (cl_NoFraction : PySem.W.isClsIn K C_NoFraction = true)
    (h_NoFraction_BeamError : PySem.W.exmOne K (.ref C_NoFraction) (.ref C_BeamError) = some true)
    (x_NoStrength : PySem.W.excIn K C_NoStrength bmVE "ValueError.__new__" = true)
    (ga_NoStrength : PySem.W.findIn K (.ref C_NoStrength) "__getattribute__" = some (some (.builtin "BaseException.__getattribute__")))
    (gt_NoStrength : PySem.W.findIn K (.ref C_NoStrength) "__getattr__" = some none)
    (ca_NoStrength : PySem.W.findIn K (.ref C_NoStrength) "__class__" = some (some (.builtin "object.__class__")))
    (mo_NoStrength : PySem.W.mroIn K C_NoStrength (.type "object") = some true)
    (mb_NoStrength : PySem.W.subIn K (.ref C_NoStrength) (.type "BaseException") = some true)
    (cl_NoStrength : PySem.W.isClsIn K C_NoStrength = true)
    (h_NoStrength_BeamError : PySem.W.exmOne K (.ref C_NoStrength) (.ref C_BeamError) = some true)
    (inn_list : PySem.W.kitOne K (.type "NoneType") (.type "list") = some false)
    (ibb_list : PySem.W.kitOne K (.type "bool") (.type "list") = some false)
    (iii_list : PySem.W.kitOne K (.type "int") (.type "list") = some false)
    (iss_list : PySem.W.kitOne K (.type "str") (.type "list") = some false)
    (itt_list : PySem.W.kitOne K (.type "tuple") (.type "list") = some false)
    (ill_list : PySem.W.kitOne K (.type "list") (.type "list") = some true)
    (idd_list : PySem.W.kitOne K (.type "dict") (.type "list") = some false)
    (io_NoFraction_list : PySem.W.kitOne K (.ref C_NoFraction) (.type "list") = some false)
    (io_NoStrength_list : PySem.W.kitOne K (.ref C_NoStrength) (.type "list") = some false)
    (inn_NoPass : PySem.W.kitOne K (.type "NoneType") (.ref C_NoPass) = some false)
    (ibb_NoPass : PySem.W.kitOne K (.type "bool") (.ref C_NoPass) = some false)
    (iii_NoPass : PySem.W.kitOne K (.type "int") (.ref C_NoPass) = some false)
    (iss_NoPass : PySem.W.kitOne K (.type "str") (.ref C_NoPass) = some false)
    (itt_NoPass : PySem.W.kitOne K (.type "tuple") (.ref C_NoPass) = some false)
    (ill_NoPass : PySem.W.kitOne K (.type "list") (.ref C_NoPass) = some false)
    (idd_NoPass : PySem.W.kitOne K (.type "dict") (.ref C_NoPass) = some false)
    (io_NoFraction_NoPass : PySem.W.kitOne K (.ref C_NoFraction) (.ref C_NoPass) = some false)
    (io_NoStrength_NoPass : PySem.W.kitOne K (.ref C_NoStrength) (.ref C_NoPass) = some false)
    (inn_ValueError : PySem.W.kitOne K (.type "NoneType") (.type "ValueError") = some false)
    (ibb_ValueError : PySem.W.kitOne K (.type "bool") (.type "ValueError") = some false)
    (iii_ValueError : PySem.W.kitOne K (.type "int") (.type "ValueError") = some false)
    (iss_ValueError : PySem.W.kitOne K (.type "str") (.type "ValueError") = some false)
    (itt_ValueError : PySem.W.kitOne K (.type "tuple") (.type "ValueError") = some false)
    (ill_ValueError : PySem.W.kitOne K (.type "list") (.type "ValueError") = some false)
    (idd_ValueError : PySem.W.kitOne K (.type "dict") (.type "ValueError") = some false)
    (io_NoFraction_ValueError : PySem.W.kitOne K (.ref C_NoFraction) (.type "ValueError") = some true)
    (io_NoStrength_ValueError : PySem.W.kitOne K (.ref C_NoStrength) (.type "ValueError") = some true)
    (inn_NoStrength : PySem.W.kitOne K (.type "NoneType") (.ref C_NoStrength) = some false)
    (ibb_NoStrength : PySem.W.kitOne K (.type "bool") (.ref C_NoStrength) = some false)
    (iii_NoStrength : PySem.W.kitOne K (.type "int") (.ref C_NoStrength) = some false)
    (iss_NoStrength : PySem.W.kitOne K (.type "str") (.ref C_NoStrength) = some false)
    (itt_NoStrength : PySem.W.kitOne K (.type "tuple") (.ref C_NoStrength) = some false)
    (ill_NoStrength : PySem.W.kitOne K (.type "list") (.ref C_NoStrength) = some false)
    (idd_NoStrength : PySem.W.kitOne K (.type "dict") (.ref C_NoStrength) = some false)
    (io_NoFraction_NoStrength : PySem.W.kitOne K (.ref C_NoFraction) (.ref C_NoStrength) = some false)
    (io_NoStrength_NoStrength : PySem.W.kitOne K (.ref C_NoStrength) (.ref C_NoStrength) = some true) :
    ∃ (cb : Cb) (fd : FuncData), (∀ (s : Shared) (u : Value), BindsTo s fd ⟨[u], []⟩ [("_law_script", u)]) ∧ ∀ base : Heap, FnD P w K mg base cb 6 fa fd ["_law_script"] F_law := by
  have e : fa = f_law := Value.ref.inj (Option.some.inj (hfa.symm.trans (PySem.W.mg_of X G a_law)))
  rw [e]
  have F_l_cell_at := fun_mk (st := s_l_cell_at) l_l_cell_at c_l_cell_at k_l_cell_at
  have b_l_cell_at := F_l_cell_at.binds (ps := p_l_cell_at) fun _ _ _ _ _ _ us hl => by obtain ⟨u0, u1, rfl⟩ := len2 hl; rfl
  have F_l_pass := fun_mk (st := s_l_pass) l_l_pass c_l_pass k_l_pass
  have b_l_pass := F_l_pass.binds (ps := p_l_pass) fun _ _ _ _ _ _ us hl => by obtain ⟨u0, rfl⟩ := len1 hl; rfl
  have F_l_low := fun_mk (st := s_l_low) l_l_low c_l_low k_l_low
  have b_l_low := F_l_low.binds (ps := p_l_low) fun _ _ _ _ _ _ us hl => by obtain ⟨u0, u1, rfl⟩ := len2 hl; rfl
  have F_l_strength := fun_mk (st := s_l_strength) l_l_strength c_l_strength k_l_strength
  have b_l_strength := F_l_strength.binds (ps := p_l_strength) fun _ _ _ _ _ _ us hl => by obtain ⟨u0, rfl⟩ := len1 hl; rfl
  have F_l_light := fun_mk (st := s_l_light) l_l_light c_l_light k_l_light
  have b_l_light := F_l_light.binds (ps := p_l_light) fun _ _ _ _ _ _ us hl => by obtain ⟨u0, rfl⟩ := len1 hl; rfl
  have F_l_plus := fun_mk (st := s_l_plus) l_l_plus c_l_plus k_l_plus
  have b_l_plus := F_l_plus.binds (ps := p_l_plus) fun _ _ _ _ _ _ us hl => by obtain ⟨u0, u1, rfl⟩ := len2 hl; rfl
  have F_l_both := fun_mk (st := s_l_both) l_l_both c_l_both k_l_both
  have b_l_both := F_l_both.binds (ps := p_l_both) fun _ _ _ _ _ _ us hl => by obtain ⟨u0, u1, rfl⟩ := len2 hl; rfl
  have F_greatest_divisor := fun_mk (st := s_greatest_divisor) l_greatest_divisor c_greatest_divisor k_greatest_divisor
  have b_greatest_divisor := F_greatest_divisor.binds (ps := p_greatest_divisor) fun _ _ _ _ _ _ us hl => by obtain ⟨u0, u1, rfl⟩ := len2 hl; rfl
  have F_fraction := fun_mk (st := s_fraction) l_fraction c_fraction k_fraction
  have b_fraction := F_fraction.binds (ps := p_fraction) fun _ _ _ _ _ _ us hl => by obtain ⟨u0, u1, rfl⟩ := len2 hl; rfl
  have F_plus := fun_mk (st := s_plus) l_plus c_plus k_plus
  have b_plus := F_plus.binds (ps := p_plus) fun _ _ _ _ _ _ us hl => by obtain ⟨u0, u1, rfl⟩ := len2 hl; rfl
  have F_gathered := fun_mk (st := s_gathered) l_gathered c_gathered k_gathered
  have b_gathered := F_gathered.binds (ps := p_gathered) fun _ _ _ _ _ _ us hl => by obtain ⟨u0, rfl⟩ := len1 hl; rfl
  have F_joined := fun_mk (st := s_joined) l_joined c_joined k_joined
  have b_joined := F_joined.binds (ps := p_joined) fun _ _ _ _ _ _ us hl => by obtain ⟨u0, u1, rfl⟩ := len2 hl; rfl
  have F_under := fun_mk (st := s_under) l_under c_under k_under
  have b_under := F_under.binds (ps := p_under) fun _ _ _ _ _ _ us hl => by obtain ⟨u0, u1, rfl⟩ := len2 hl; rfl
  have F_check_strength := fun_mk (st := s_check_strength) l_check_strength c_check_strength k_check_strength
  have b_check_strength := F_check_strength.binds (ps := p_check_strength) fun _ _ _ _ _ _ us hl => by obtain ⟨u0, rfl⟩ := len1 hl; rfl
  have F_times := fun_mk (st := s_times) l_times c_times k_times
  have b_times := F_times.binds (ps := p_times) fun _ _ _ _ _ _ us hl => by obtain ⟨u0, u1, rfl⟩ := len2 hl; rfl
  have F_scaled := fun_mk (st := s_scaled) l_scaled c_scaled k_scaled
  have b_scaled := F_scaled.binds (ps := p_scaled) fun _ _ _ _ _ _ us hl => by obtain ⟨u0, u1, rfl⟩ := len2 hl; rfl
  have F_sum_of := fun_mk (st := s_sum_of) l_sum_of c_sum_of k_sum_of
  have b_sum_of := F_sum_of.binds (ps := p_sum_of) fun _ _ _ _ _ _ us hl => by obtain ⟨u0, rfl⟩ := len1 hl; rfl
  have F_l_refused := fun_mk (st := s_l_refused) l_l_refused c_l_refused k_l_refused
  have b_l_refused := F_l_refused.binds (ps := p_l_refused) fun _ _ _ _ _ _ us hl => by obtain ⟨u0, u1, rfl⟩ := len2 hl; rfl
  have F_law := fun_mk (st := s_law) l_law c_law k_law
  have b_law := F_law.binds (ps := p_law) fun _ _ _ _ _ _ us hl => by obtain ⟨u0, rfl⟩ := len1 hl; rfl
  have xt_NoFraction : XT K C_NoFraction := ⟨ga_NoFraction, gt_NoFraction, ca_NoFraction, mo_NoFraction, mb_NoFraction, cl_NoFraction⟩
  have xt_NoStrength : XT K C_NoStrength := ⟨ga_NoStrength, gt_NoStrength, ca_NoStrength, mo_NoStrength, mb_NoStrength, cl_NoStrength⟩
  let M : Tx K mg (cbOf [("NoFraction", C_NoFraction), ("NoStrength", C_NoStrength)] ([] : ClsTb)) := {
    a_l_cell_at := f_l_cell_at, fd_l_cell_at := _, k_l_cell_at := k_l_cell_at, f_l_cell_at := F_l_cell_at, b_l_cell_at := b_l_cell_at,
    m_l_cell_at := PySem.W.mg_of X G a_l_cell_at,
    a_l_pass := f_l_pass, fd_l_pass := _, k_l_pass := k_l_pass, f_l_pass := F_l_pass, b_l_pass := b_l_pass,
    m_l_pass := PySem.W.mg_of X G a_l_pass,
    a_l_low := f_l_low, fd_l_low := _, k_l_low := k_l_low, f_l_low := F_l_low, b_l_low := b_l_low,
    m_l_low := PySem.W.mg_of X G a_l_low,
    a_l_strength := f_l_strength, fd_l_strength := _, k_l_strength := k_l_strength, f_l_strength := F_l_strength, b_l_strength := b_l_strength,
    m_l_strength := PySem.W.mg_of X G a_l_strength,
    a_l_light := f_l_light, fd_l_light := _, k_l_light := k_l_light, f_l_light := F_l_light, b_l_light := b_l_light,
    m_l_light := PySem.W.mg_of X G a_l_light,
    a_l_plus := f_l_plus, fd_l_plus := _, k_l_plus := k_l_plus, f_l_plus := F_l_plus, b_l_plus := b_l_plus,
    m_l_plus := PySem.W.mg_of X G a_l_plus,
    a_l_both := f_l_both, fd_l_both := _, k_l_both := k_l_both, f_l_both := F_l_both, b_l_both := b_l_both,
    m_l_both := PySem.W.mg_of X G a_l_both,
    a_greatest_divisor := f_greatest_divisor, fd_greatest_divisor := _, k_greatest_divisor := k_greatest_divisor, f_greatest_divisor := F_greatest_divisor, b_greatest_divisor := b_greatest_divisor,
    m_greatest_divisor := PySem.W.mg_of X G a_greatest_divisor,
    a_fraction := f_fraction, fd_fraction := _, k_fraction := k_fraction, f_fraction := F_fraction, b_fraction := b_fraction,
    m_fraction := PySem.W.mg_of X G a_fraction,
    a_plus := f_plus, fd_plus := _, k_plus := k_plus, f_plus := F_plus, b_plus := b_plus,
    m_plus := PySem.W.mg_of X G a_plus,
    a_gathered := f_gathered, fd_gathered := _, k_gathered := k_gathered, f_gathered := F_gathered, b_gathered := b_gathered,
    m_gathered := PySem.W.mg_of X G a_gathered,
    a_joined := f_joined, fd_joined := _, k_joined := k_joined, f_joined := F_joined, b_joined := b_joined,
    m_joined := PySem.W.mg_of X G a_joined,
    a_under := f_under, fd_under := _, k_under := k_under, f_under := F_under, b_under := b_under,
    m_under := PySem.W.mg_of X G a_under,
    a_check_strength := f_check_strength, fd_check_strength := _, k_check_strength := k_check_strength, f_check_strength := F_check_strength, b_check_strength := b_check_strength,
    m_check_strength := PySem.W.mg_of X G a_check_strength,
    a_times := f_times, fd_times := _, k_times := k_times, f_times := F_times, b_times := b_times,
    m_times := PySem.W.mg_of X G a_times,
    a_scaled := f_scaled, fd_scaled := _, k_scaled := k_scaled, f_scaled := F_scaled, b_scaled := b_scaled,
    m_scaled := PySem.W.mg_of X G a_scaled,
    a_sum_of := f_sum_of, fd_sum_of := _, k_sum_of := k_sum_of, f_sum_of := F_sum_of, b_sum_of := b_sum_of,
    m_sum_of := PySem.W.mg_of X G a_sum_of,
    a_l_refused := f_l_refused, fd_l_refused := _, k_l_refused := k_l_refused, f_l_refused := F_l_refused, b_l_refused := b_l_refused,
    m_l_refused := PySem.W.mg_of X G a_l_refused,
    a_law := f_law, fd_law := _, k_law := k_law, f_law := F_law, b_law := b_law,
    m_law := PySem.W.mg_of X G a_law,
    z_ValueError := PySem.W.mg_none_of X G z_ValueError,
    z_abs := PySem.W.mg_none_of X G z_abs,
    z_isinstance := PySem.W.mg_none_of X G z_isinstance,
    z_len := PySem.W.mg_none_of X G z_len,
    z_list := PySem.W.mg_none_of X G z_list,
    z_sorted := PySem.W.mg_none_of X G z_sorted,
    u_ZERO := (.ref A_ZERO_3), v_ZERO := PySem.W.mg_of X G gc_ZERO, g_ZERO := (glt_tup lA_ZERO_3 (by simp) (glts_cons glt_int (glts_cons glt_int glts_nil))),
    C_BeamError := C_BeamError, g_BeamError := PySem.W.mg_of X G e_BeamError,
    C_NoFraction := C_NoFraction, g_NoFraction := PySem.W.mg_of X G e_NoFraction,
    C_NoPass := C_NoPass, g_NoPass := PySem.W.mg_of X G e_NoPass,
    C_NoStrength := C_NoStrength, g_NoStrength := PySem.W.mg_of X G e_NoStrength,
    ft := fun c C full h => (nomatch h),
    x_NoFraction := ⟨PySem.W.mg_of X G e_NoFraction, x_NoFraction, rfl⟩,
    x_NoStrength := ⟨PySem.W.mg_of X G e_NoStrength, x_NoStrength, rfl⟩,
    h_BeamError := fun c C b hc hb => ex_all (E := [("NoFraction", C_NoFraction), ("NoStrength", C_NoStrength)]) (P := fun c C => ∀ b, hitOf mt "BeamError" c = some b → PySem.W.exmOne K (.ref C) (.ref C_BeamError) = some b) (al_cons (hb1 (show hitOf mt "BeamError" "NoFraction" = some true from by decide) h_NoFraction_BeamError) (al_cons (hb1 (show hitOf mt "BeamError" "NoStrength" = some true from by decide) h_NoStrength_BeamError) al_nil)) hc b hb,
    xt := ⟨fun c C hc _ => ex_all (E := [("NoFraction", C_NoFraction), ("NoStrength", C_NoStrength)]) (P := fun _ C => XT K C) (al_cons xt_NoFraction (al_cons xt_NoStrength al_nil)) hc, fun c C ns hc => (nomatch hc)⟩,
    i_list := ⟨inn_list, ibb_list, iii_list, iss_list, itt_list, ill_list, idd_list, fun c C ks hc hk => ex_all (E := [("NoFraction", C_NoFraction), ("NoStrength", C_NoStrength)]) (P := fun c C => ∀ ks, mt.lookup c = some ks → PySem.W.kitOne K (.ref C) (.type "list") = some (ks.contains "list")) (al_cons (lk1 (show mt.lookup "NoFraction" = some ["NoFraction", "BeamError", "ValueError"] from by decide) io_NoFraction_list) (al_cons (lk1 (show mt.lookup "NoStrength" = some ["NoStrength", "BeamError", "ValueError"] from by decide) io_NoStrength_list) al_nil)) hc ks hk, fun c C ns ks hc hk => (nomatch hc)⟩,
    i_NoPass := ⟨inn_NoPass, ibb_NoPass, iii_NoPass, iss_NoPass, itt_NoPass, ill_NoPass, idd_NoPass, fun c C ks hc hk => ex_all (E := [("NoFraction", C_NoFraction), ("NoStrength", C_NoStrength)]) (P := fun c C => ∀ ks, mt.lookup c = some ks → PySem.W.kitOne K (.ref C) (.ref C_NoPass) = some (ks.contains "NoPass")) (al_cons (lk1 (show mt.lookup "NoFraction" = some ["NoFraction", "BeamError", "ValueError"] from by decide) io_NoFraction_NoPass) (al_cons (lk1 (show mt.lookup "NoStrength" = some ["NoStrength", "BeamError", "ValueError"] from by decide) io_NoStrength_NoPass) al_nil)) hc ks hk, fun c C ns ks hc hk => (nomatch hc)⟩,
    i_ValueError := ⟨inn_ValueError, ibb_ValueError, iii_ValueError, iss_ValueError, itt_ValueError, ill_ValueError, idd_ValueError, fun c C ks hc hk => ex_all (E := [("NoFraction", C_NoFraction), ("NoStrength", C_NoStrength)]) (P := fun c C => ∀ ks, mt.lookup c = some ks → PySem.W.kitOne K (.ref C) (.type "ValueError") = some (ks.contains "ValueError")) (al_cons (lk1 (show mt.lookup "NoFraction" = some ["NoFraction", "BeamError", "ValueError"] from by decide) io_NoFraction_ValueError) (al_cons (lk1 (show mt.lookup "NoStrength" = some ["NoStrength", "BeamError", "ValueError"] from by decide) io_NoStrength_ValueError) al_nil)) hc ks hk, fun c C ns ks hc hk => (nomatch hc)⟩,
    i_NoStrength := ⟨inn_NoStrength, ibb_NoStrength, iii_NoStrength, iss_NoStrength, itt_NoStrength, ill_NoStrength, idd_NoStrength, fun c C ks hc hk => ex_all (E := [("NoFraction", C_NoFraction), ("NoStrength", C_NoStrength)]) (P := fun c C => ∀ ks, mt.lookup c = some ks → PySem.W.kitOne K (.ref C) (.ref C_NoStrength) = some (ks.contains "NoStrength")) (al_cons (lk1 (show mt.lookup "NoFraction" = some ["NoFraction", "BeamError", "ValueError"] from by decide) io_NoFraction_NoStrength) (al_cons (lk1 (show mt.lookup "NoStrength" = some ["NoStrength", "BeamError", "ValueError"] from by decide) io_NoStrength_NoStrength) al_nil)) hc ks hk, fun c C ns ks hc hk => (nomatch hc)⟩ }
  refine ⟨(cbOf [("NoFraction", C_NoFraction), ("NoStrength", C_NoStrength)] ([] : ClsTb)), _, ?_, fun base => ok_law M⟩
  exact fun s v => .of_eq rfl
end K26
end
open PySem PySem.W PyProof.Rows
set_option Elab.async false
set_option linter.all false
set_option maxRecDepth 100000 in
set_option maxHeartbeats 0 in
theorem PySem.Challenge.cw_beamtable_k26_joined_scaled_holds : PySem.Challenge.rw_beamtable_k26_joined_scaled.Holds := by
  refine KO.looked fun said => ?_
  refine PySem.W.holds_openX (q := PySem.W.view PySem.Challenge.pw_beamtable_k26_joined_scaled [27]) (loose := KO.LZ) (Xt := fun _ => true) (XP := fun _ _ => True) (Yf := PySem.W.X.obsZ KO.AF)
    (Ya := PySem.W.X.valZ KO.KF 192 432) (N := 3032) KO.hl (fun _ _ => trivial) (fun _ _ _ _ _ => trivial) (by rfl) (by rfl) (by rfl)
    (fun _ _ => PySem.W.recFacts_nil rfl) (by rfl) said (by decide +kernel) ⟨rfl, rfl, rfl, rfl, rfl, by decide +kernel⟩ ?hw ?hc
  case hw => w_witness2
  k_fill
  refine L4.walkZ (l := PySem.Challenge.rw_beamtable_k26_joined_scaled) (k := 6) rfl rfl (by decide) (by decide) (fun _ => by kernel_rfl) ?F K26.law_true
  case F =>
    intro w mg fa h KX G hmg
    refine' K26.all_mk KX G hmg ?e_BeamError ?e_NoFraction ?e_NoPass ?e_NoStrength ?a_l_cell_at ?l_l_cell_at ?c_l_cell_at ?k_l_cell_at ?a_l_pass ?l_l_pass ?c_l_pass ?k_l_pass ?a_l_low ?l_l_low ?c_l_low ?k_l_low ?a_l_strength ?l_l_strength ?c_l_strength ?k_l_strength ?a_l_light ?l_l_light ?c_l_light ?k_l_light ?a_l_plus ?l_l_plus ?c_l_plus ?k_l_plus ?a_l_both ?l_l_both ?c_l_both ?k_l_both ?a_greatest_divisor ?l_greatest_divisor ?c_greatest_divisor ?k_greatest_divisor ?a_fraction ?l_fraction ?c_fraction ?k_fraction ?a_plus ?l_plus ?c_plus ?k_plus ?a_gathered ?l_gathered ?c_gathered ?k_gathered ?a_joined ?l_joined ?c_joined ?k_joined ?a_under ?l_under ?c_under ?k_under ?a_check_strength ?l_check_strength ?c_check_strength ?k_check_strength ?a_times ?l_times ?c_times ?k_times ?a_scaled ?l_scaled ?c_scaled ?k_scaled ?a_sum_of ?l_sum_of ?c_sum_of ?k_sum_of ?a_l_refused ?l_l_refused ?c_l_refused ?k_l_refused ?a_law ?l_law ?c_law ?k_law ?z_ValueError ?z_abs ?z_isinstance ?z_len ?z_list ?z_sorted ?gc_ZERO ?lA_ZERO_3 ?x_NoFraction ?ga_NoFraction ?gt_NoFraction ?ca_NoFraction ?mo_NoFraction ?mb_NoFraction ?cl_NoFraction ?h_NoFraction_BeamError ?x_NoStrength ?ga_NoStrength ?gt_NoStrength ?ca_NoStrength ?mo_NoStrength ?mb_NoStrength ?cl_NoStrength ?h_NoStrength_BeamError ?inn_list ?ibb_list ?iii_list ?iss_list ?itt_list ?ill_list ?idd_list ?io_NoFraction_list ?io_NoStrength_list ?inn_NoPass ?ibb_NoPass ?iii_NoPass ?iss_NoPass ?itt_NoPass ?ill_NoPass ?idd_NoPass ?io_NoFraction_NoPass ?io_NoStrength_NoPass ?inn_ValueError ?ibb_ValueError ?iii_ValueError ?iss_ValueError ?itt_ValueError ?ill_ValueError ?idd_ValueError ?io_NoFraction_ValueError ?io_NoStrength_ValueError ?inn_NoStrength ?ibb_NoStrength ?iii_NoStrength ?iss_NoStrength ?itt_NoStrength ?ill_NoStrength ?idd_NoStrength ?io_NoFraction_NoStrength ?io_NoStrength_NoStrength
    (case e_BeamError => k_is)
    (case e_NoFraction => k_is)
    (case e_NoPass => k_is)
    (case e_NoStrength => k_is)
    (case a_l_cell_at => k_is)
    (case l_l_cell_at => k_is)
    (case c_l_cell_at => k_is)
    (case k_l_cell_at => k_is)
    (case a_l_pass => k_is)
    (case l_l_pass => k_is)
    (case c_l_pass => k_is)
    (case k_l_pass => k_is)
    (case a_l_low => k_is)
    (case l_l_low => k_is)
    (case c_l_low => k_is)
    (case k_l_low => k_is)
    (case a_l_strength => k_is)
    (case l_l_strength => k_is)
    (case c_l_strength => k_is)
    (case k_l_strength => k_is)
    (case a_l_light => k_is)
    (case l_l_light => k_is)
    (case c_l_light => k_is)
    (case k_l_light => k_is)
    (case a_l_plus => k_is)
    (case l_l_plus => k_is)
    (case c_l_plus => k_is)
    (case k_l_plus => k_is)
    (case a_l_both => k_is)
    (case l_l_both => k_is)
    (case c_l_both => k_is)
    (case k_l_both => k_is)
    (case a_greatest_divisor => k_is)
    (case l_greatest_divisor => k_is)
    (case c_greatest_divisor => k_is)
    (case k_greatest_divisor => k_is)
    (case a_fraction => k_is)
    (case l_fraction => k_is)
    (case c_fraction => k_is)
    (case k_fraction => k_is)
    (case a_plus => k_is)
    (case l_plus => k_is)
    (case c_plus => k_is)
    (case k_plus => k_is)
    (case a_gathered => k_is)
    (case l_gathered => k_is)
    (case c_gathered => k_is)
    (case k_gathered => k_is)
    (case a_joined => k_is)
    (case l_joined => k_is)
    (case c_joined => k_is)
    (case k_joined => k_is)
    (case a_under => k_is)
    (case l_under => k_is)
    (case c_under => k_is)
    (case k_under => k_is)
    (case a_check_strength => k_is)
    (case l_check_strength => k_is)
    (case c_check_strength => k_is)
    (case k_check_strength => k_is)
    (case a_times => k_is)
    (case l_times => k_is)
    (case c_times => k_is)
    (case k_times => k_is)
    (case a_scaled => k_is)
    (case l_scaled => k_is)
    (case c_scaled => k_is)
    (case k_scaled => k_is)
    (case a_sum_of => k_is)
    (case l_sum_of => k_is)
    (case c_sum_of => k_is)
    (case k_sum_of => k_is)
    (case a_l_refused => k_is)
    (case l_l_refused => k_is)
    (case c_l_refused => k_is)
    (case k_l_refused => k_is)
    (case a_law => k_is)
    (case l_law => k_is)
    (case c_law => k_is)
    (case k_law => k_is)
    (case z_ValueError => k_is)
    (case z_abs => k_is)
    (case z_isinstance => k_is)
    (case z_len => k_is)
    (case z_list => k_is)
    (case z_sorted => k_is)
    (case gc_ZERO => k_is)
    (case lA_ZERO_3 => k_is)
    (case x_NoFraction => kernel_rfl)
    (case ga_NoFraction => k_is)
    (case gt_NoFraction => k_is)
    (case ca_NoFraction => k_is)
    (case mo_NoFraction => k_is)
    (case mb_NoFraction => k_is)
    (case cl_NoFraction => k_is)
    (case h_NoFraction_BeamError => kernel_rfl)
    (case x_NoStrength => kernel_rfl)
    (case ga_NoStrength => k_is)
    (case gt_NoStrength => k_is)
    (case ca_NoStrength => k_is)
    (case mo_NoStrength => k_is)
    (case mb_NoStrength => k_is)
    (case cl_NoStrength => k_is)
    (case h_NoStrength_BeamError => kernel_rfl)
    (case inn_list => kernel_rfl)
    (case ibb_list => kernel_rfl)
    (case iii_list => kernel_rfl)
    (case iss_list => kernel_rfl)
    (case itt_list => kernel_rfl)
    (case ill_list => kernel_rfl)
    (case idd_list => kernel_rfl)
    (case io_NoFraction_list => kernel_rfl)
    (case io_NoStrength_list => kernel_rfl)
    (case inn_NoPass => kernel_rfl)
    (case ibb_NoPass => kernel_rfl)
    (case iii_NoPass => kernel_rfl)
    (case iss_NoPass => kernel_rfl)
    (case itt_NoPass => kernel_rfl)
    (case ill_NoPass => kernel_rfl)
    (case idd_NoPass => kernel_rfl)
    (case io_NoFraction_NoPass => kernel_rfl)
    (case io_NoStrength_NoPass => kernel_rfl)
    (case inn_ValueError => kernel_rfl)
    (case ibb_ValueError => kernel_rfl)
    (case iii_ValueError => kernel_rfl)
    (case iss_ValueError => kernel_rfl)
    (case itt_ValueError => kernel_rfl)
    (case ill_ValueError => kernel_rfl)
    (case idd_ValueError => kernel_rfl)
    (case io_NoFraction_ValueError => kernel_rfl)
    (case io_NoStrength_ValueError => kernel_rfl)
    (case inn_NoStrength => kernel_rfl)
    (case ibb_NoStrength => kernel_rfl)
    (case iii_NoStrength => kernel_rfl)
    (case iss_NoStrength => kernel_rfl)
    (case itt_NoStrength => kernel_rfl)
    (case ill_NoStrength => kernel_rfl)
    (case idd_NoStrength => kernel_rfl)
    (case io_NoFraction_NoStrength => kernel_rfl)
    (case io_NoStrength_NoStrength => kernel_rfl)
