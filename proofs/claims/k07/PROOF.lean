import PyProof.Rows.All
import Wide.All
import OpenK.AllK
import Wide.FinOn
import Lean
import PyProof.EqAt
import PyProof.EqKinds
import PyProof.TupleCall
import PyProof.P3Statements
import PyProof.NoPylong
import PySem.Builtin.Int.W1All
import PyProof.StrBlockI
import KE.KSortTup
import PySem.Challenge.RW_beamtable_k07_cells_refused
set_option Elab.async false
set_option linter.all false
section
set_option maxRecDepth 100000
set_option maxHeartbeats 0
theorem KO.looked (h : PySem.Challenge.rw_beamtable_k07_cells_refused.row.wellSaid = true → PySem.Challenge.rw_beamtable_k07_cells_refused.row.Holds) : PySem.Challenge.rw_beamtable_k07_cells_refused.Holds := by
  w_on; o_law
  exact h (by assumption)
namespace KO
open PySem PySem.W PySem.Calls
noncomputable abbrev pq : Program := PySem.W.Fast.tw835795093852732182
noncomputable def bE : List Stmt := behindTheImports pq
noncomputable def g0 (l : List Stmt) (i : Nat) : Stmt := (List.drop i l).headD (.Pass ⟨0, 0, 0, 0⟩)
noncomputable def g1 (i : Nat) : Stmt := g0 pq.main.body i
noncomputable def gb : Stmt → List Stmt | .ClassDef _ _ _ b _ _ _ _ _ _ _ => b | .FunctionDef _ _ b _ _ _ _ _ _ _ => b | _ => []
noncomputable def g2 (i j : Nat) : Stmt := g0 (gb (g1 i)) j
noncomputable def fo (s : Stmt) (q : Str) (g : Addr) (cl : List (Str × Addr)) (d kd doc md : Value) (an : Option Addr) (code ct : Value) (b : Addr) : Data := match s with | .FunctionDef n a bd _ _ _ sc _ _ _ => .func ⟨n, q, a, .stmts bd, sc, g, cl, d, kd, doc, md, an, code, ct, b⟩ | _ => .plain
noncomputable def e (P : Params) (s : Str) (t : Nat) (v : Value) : DictEntry := ⟨PySem.PyData.keyHash P s, .str s t, v⟩
noncomputable def ud (o : Obj) (ch : List (Nat × DictEntry)) (m : List DictEntry) (n : Nat) : Obj := match o with | ⟨c, d, .dict es _, s⟩ => ⟨c, d, .dict ⟨(ch.foldl (fun l p => l.set p.1 p.2) es.toList) ++ m⟩ n, s⟩ | o => o
noncomputable abbrev r (a : Nat) : Value := .ref a
noncomputable abbrev z : Value := .int 0 0
noncomputable abbrev v : Value := .none
noncomputable abbrev s (x : Str) (t : Nat) : Value := .str x t
noncomputable abbrev y (x : String) : Value := .type x
noncomputable abbrev F (c : Value) (xs : Array Value) : Obj := ⟨c, none, .fields xs, #[]⟩
noncomputable abbrev Q (c : Value) (xs : Array Value) : Obj := ⟨c, none, .seq xs 0, #[]⟩
noncomputable abbrev lf : Life := ⟨[], [], [], 0, [], [], false, #[], [], 0, false, false, false, 0, [2000, 10, 10], false, 0, true, [], [], 0, false⟩
noncomputable abbrev I := BT.ins
noncomputable def x0 : Str := ⟨⟨[60,109,111,100,117,108,101,62]⟩⟩
noncomputable def x1 : Str := ⟨⟨[47,99,108,97,105,109,47,99,117,116,46,112,121]⟩⟩
noncomputable def x2 : Str := ⟨⟨[95,95,109,97,105,110,95,95]⟩⟩
noncomputable def x3 : Str := ⟨⟨[95,95,110,97,109,101,95,95]⟩⟩
noncomputable def x4 : Str := ⟨⟨[98,101,97,109,116,97,98,108,101,46,101,114,114,111,114,115]⟩⟩
noncomputable def x5 : Str := ⟨⟨[66,101,97,109,69,114,114,111,114]⟩⟩
noncomputable def x6 : Str := ⟨⟨[95,95,109,111,100,117,108,101,95,95]⟩⟩
noncomputable def x7 : Str := ⟨⟨[95,95,113,117,97,108,110,97,109,101,95,95]⟩⟩
noncomputable def x8 : Str := ⟨⟨[95,95,102,105,114,115,116,108,105,110,101,110,111,95,95]⟩⟩
noncomputable def x9 : Str := ⟨⟨[95,95,115,116,97,116,105,99,95,97,116,116,114,105,98,117,116,101,115,95,95]⟩⟩
noncomputable def x10 : Str := ⟨⟨[95,95,119,101,97,107,114,101,102,95,95]⟩⟩
noncomputable def x11 : Str := ⟨⟨[95,95,100,111,99,95,95]⟩⟩
noncomputable def x12 : Str := ⟨⟨[78,111,70,114,97,99,116,105,111,110]⟩⟩
noncomputable def x13 : Str := ⟨⟨[78,111,67,101,108,108]⟩⟩
noncomputable def x14 : Str := ⟨⟨[78,111,84,97,98,108,101]⟩⟩
noncomputable def x15 : Str := ⟨⟨[98,101,97,109,116,97,98,108,101,46,99,101,108,108,115]⟩⟩
noncomputable def x16 : Str := ⟨⟨[78,111,80,108,97,99,101]⟩⟩
noncomputable def x17 : Str := ⟨⟨[90,69,82,79]⟩⟩
noncomputable def x18 : Str := ⟨⟨[79,78,69]⟩⟩
noncomputable def x19 : Str := ⟨⟨[103,114,101,97,116,101,115,116,95,100,105,118,105,115,111,114]⟩⟩
noncomputable def x20 : Str := ⟨⟨[102,114,97,99,116,105,111,110]⟩⟩
noncomputable def x21 : Str := ⟨⟨[109,105,110,117,115]⟩⟩
noncomputable def x22 : Str := ⟨⟨[117,110,100,101,114]⟩⟩
noncomputable def x23 : Str := ⟨⟨[76,69,84,84,69,82,83]⟩⟩
noncomputable def x24 : Str := ⟨⟨[97,98,99,100,101,102,103,104,105,106,107,108,109,110,111,112,113,114,115,116,117,118,119,120,121,122]⟩⟩
noncomputable def x25 : Str := ⟨⟨[76,79,78,71,69,83,84,95,78,65,77,69]⟩⟩
noncomputable def x26 : Str := ⟨⟨[111,110,101]⟩⟩
noncomputable def x27 : Str := ⟨⟨[111,116,104,101,114]⟩⟩
noncomputable def x28 : Str := ⟨⟨[108,97,114,103,101,114]⟩⟩
noncomputable def x29 : Str := ⟨⟨[115,109,97,108,108,101,114]⟩⟩
noncomputable def x30 : Str := ⟨⟨[114,101,115,116]⟩⟩
noncomputable def x31 : Str := ⟨⟨[98,101,97,109,116,97,98,108,101,46,114,97,116,105,111,115]⟩⟩
noncomputable def x32 : Str := ⟨⟨[116,111,112]⟩⟩
noncomputable def x33 : Str := ⟨⟨[98,111,116,116,111,109]⟩⟩
noncomputable def x34 : Str := ⟨⟨[100,105,118,105,115,111,114]⟩⟩
noncomputable def x35 : Str := ⟨⟨[99,104,101,99,107,95,115,108,97,110,116]⟩⟩
noncomputable def x36 : Str := ⟨⟨[99,104,101,99,107,95,115,104,97,114,101]⟩⟩
noncomputable def x37 : Str := ⟨⟨[99,104,101,99,107,95,110,97,109,101]⟩⟩
noncomputable def x38 : Str := ⟨⟨[111,116,104,101,114,95,115,108,97,110,116]⟩⟩
noncomputable def x39 : Str := ⟨⟨[67,101,108,108]⟩⟩
noncomputable def x40 : Str := ⟨⟨[115,108,97,110,116]⟩⟩
noncomputable def x41 : Str := ⟨⟨[115,104,97,114,101]⟩⟩
noncomputable def x42 : Str := ⟨⟨[108,101,97,100,115]⟩⟩
noncomputable def x43 : Str := ⟨⟨[115,119,97,108,108,111,119,115]⟩⟩
noncomputable def x44 : Str := ⟨⟨[116,117,114,110,101,100]⟩⟩
noncomputable def x45 : Str := ⟨⟨[115,101,108,102]⟩⟩
noncomputable def x46 : Str := ⟨⟨[119,97,121]⟩⟩
noncomputable def x47 : Str := ⟨⟨[67,101,108,108,46,108,101,97,100,115]⟩⟩
noncomputable def x48 : Str := ⟨⟨[67,101,108,108,46,115,119,97,108,108,111,119,115]⟩⟩
noncomputable def x49 : Str := ⟨⟨[67,101,108,108,46,116,117,114,110,101,100]⟩⟩
noncomputable def x50 : Str := ⟨⟨[95,95,100,105,99,116,95,95]⟩⟩
noncomputable def x51 : Str := ⟨⟨[69,109,112,116,121]⟩⟩
noncomputable def x52 : Str := ⟨⟨[114,111,119]⟩⟩
noncomputable def x53 : Str := ⟨⟨[69,109,112,116,121,46,114,111,119]⟩⟩
noncomputable def x54 : Str := ⟨⟨[77,105,114,114,111,114]⟩⟩
noncomputable def x55 : Str := ⟨⟨[95,95,105,110,105,116,95,95]⟩⟩
noncomputable def x56 : Str := ⟨⟨[77,105,114,114,111,114,46,95,95,105,110,105,116,95,95]⟩⟩
noncomputable def x57 : Str := ⟨⟨[77,105,114,114,111,114,46,114,111,119]⟩⟩
noncomputable def x58 : Str := ⟨⟨[77,105,114,114,111,114,46,108,101,97,100,115]⟩⟩
noncomputable def x59 : Str := ⟨⟨[77,105,114,114,111,114,46,116,117,114,110,101,100]⟩⟩
noncomputable def x60 : Str := ⟨⟨[72,97,108,102]⟩⟩
noncomputable def x61 : Str := ⟨⟨[72,97,108,102,46,95,95,105,110,105,116,95,95]⟩⟩
noncomputable def x62 : Str := ⟨⟨[72,97,108,102,46,114,111,119]⟩⟩
noncomputable def x63 : Str := ⟨⟨[116,104,114,111,119,110]⟩⟩
noncomputable def x64 : Str := ⟨⟨[115,116,114,97,105,103,104,116]⟩⟩
noncomputable def x65 : Str := ⟨⟨[72,97,108,102,46,108,101,97,100,115]⟩⟩
noncomputable def x66 : Str := ⟨⟨[72,97,108,102,46,116,117,114,110,101,100]⟩⟩
noncomputable def x67 : Str := ⟨⟨[70,105,108,116,101,114]⟩⟩
noncomputable def x68 : Str := ⟨⟨[70,105,108,116,101,114,46,95,95,105,110,105,116,95,95]⟩⟩
noncomputable def x69 : Str := ⟨⟨[70,105,108,116,101,114,46,114,111,119]⟩⟩
noncomputable def x70 : Str := ⟨⟨[70,105,108,116,101,114,46,108,101,97,100,115]⟩⟩
noncomputable def x71 : Str := ⟨⟨[70,105,108,116,101,114,46,115,119,97,108,108,111,119,115]⟩⟩
noncomputable def x72 : Str := ⟨⟨[87,97,108,108]⟩⟩
noncomputable def x73 : Str := ⟨⟨[87,97,108,108,46,114,111,119]⟩⟩
noncomputable def x74 : Str := ⟨⟨[87,97,108,108,46,108,101,97,100,115]⟩⟩
noncomputable def x75 : Str := ⟨⟨[87,97,108,108,46,115,119,97,108,108,111,119,115]⟩⟩
noncomputable def x76 : Str := ⟨⟨[108,97,119,95,98,101,97,109,116,97,98,108,101,95,107,48,55,95,99,101,108,108,115,95,114,101,102,117,115,101,100]⟩⟩
noncomputable def x77 : Str := ⟨⟨[70,105,98,114,101]⟩⟩
noncomputable def x78 : Str := ⟨⟨[95,108,97,119,95,108,111,119]⟩⟩
noncomputable def x79 : Str := ⟨⟨[95,108,97,119,95,115,104,97,114,101]⟩⟩
noncomputable def x80 : Str := ⟨⟨[95,108,97,119,95,98,97,100,95,115,108,97,110,116]⟩⟩
noncomputable def x81 : Str := ⟨⟨[110,97,109,101]⟩⟩
noncomputable def x82 : Str := ⟨⟨[70,105,98,114,101,46,95,95,105,110,105,116,95,95]⟩⟩
noncomputable def x83 : Str := ⟨⟨[70,105,98,114,101,46,114,111,119]⟩⟩
noncomputable def x84 : Str := ⟨⟨[95,108,97,119,95,116,111,112]⟩⟩
noncomputable def x85 : Str := ⟨⟨[95,108,97,119,95,98,111,116,116,111,109]⟩⟩
noncomputable def x86 : Str := ⟨⟨[95,108,97,119,95,111,110,101]⟩⟩
noncomputable def x87 : Str := ⟨⟨[95,108,97,119,95,111,116,104,101,114]⟩⟩
noncomputable def x88 : Str := ⟨⟨[95,108,97,119,95,99,101,108,108]⟩⟩
noncomputable def x89 : Str := ⟨⟨[95,108,97,119,95,98,97,100,95,115,104,97,114,101]⟩⟩
noncomputable def x90 : Str := ⟨⟨[95,108,97,119,95,98,97,100,95,110,97,109,101]⟩⟩
noncomputable def x91 : Str := ⟨⟨[95,108,97,119,95,114,101,102,117,115,101,100]⟩⟩
noncomputable def x92 : Str := ⟨⟨[95,108,97,119,95,116,117,114,110,101,100]⟩⟩
noncomputable def x93 : Str := ⟨⟨[108,97,119]⟩⟩
noncomputable def x94 : Str := ⟨⟨[95,108,97,119,95,102,97,114]⟩⟩
noncomputable def x95 : Str := ⟨⟨[95,108,97,119,95,115,111,109,101]⟩⟩
noncomputable def x96 : Str := ⟨⟨[95,108,97,119,95,103,111,111,100]⟩⟩
noncomputable def x97 : Str := ⟨⟨[95,108,97,119,95,97,116]⟩⟩
noncomputable def x98 : Str := ⟨⟨[95,108,97,119,95,115,105,103,110]⟩⟩
noncomputable def x99 : Str := ⟨⟨[95,108,97,119,95,119,97,121]⟩⟩
noncomputable def x100 : Str := ⟨⟨[95,108,97,119,95,115,108,97,110,116]⟩⟩
noncomputable def x101 : Str := ⟨⟨[95,108,97,119,95,115,104,97,114,101,95,104,101,114,101]⟩⟩
noncomputable def x102 : Str := ⟨⟨[95,108,97,119,95,110,97,109,101]⟩⟩
noncomputable def x103 : Str := ⟨⟨[95,108,97,119,95,114,101,102,117,115,101,100,95,104,101,114,101]⟩⟩
noncomputable def x104 : Str := ⟨⟨[101]⟩⟩
noncomputable def x105 : Str := ⟨⟨[95,108,97,119,95,115,99,114,105,112,116]⟩⟩
noncomputable def x106 : Str := ⟨⟨[95,108,97,119,95,114,97,119]⟩⟩
noncomputable def x107 : Str := ⟨⟨[95,108,97,119,95,111,100,100]⟩⟩
noncomputable def x108 : Str := ⟨⟨[95,108,97,119,95,110,111,110,101]⟩⟩
noncomputable abbrev l0 : String := PySem.W.SL.s2766695959194262286x5
noncomputable abbrev l1 : String := PySem.W.SL.s5856160107412720595x4
noncomputable abbrev l2 : String := PySem.W.SL.s658472552662922059x5
noncomputable abbrev l3 : String := PySem.W.SL.s6070975301684473832x10
noncomputable abbrev l4 : String := PySem.W.SL.s10062305145149207511x16
noncomputable abbrev l5 : String := PySem.W.SL.s17162191345867700912x4
noncomputable abbrev l6 : String := PySem.W.SL.s11030030927630378310x26
noncomputable abbrev l7 : String := PySem.W.SL.s14018661285674007319x4
noncomputable abbrev l8 : String := PySem.W.SL.s5946037652744460706x9
noncomputable abbrev l9 : String := PySem.W.SL.s4278001404047624695x13
noncomputable abbrev l10 : String := PySem.W.SL.s2742458400755230247x6
noncomputable abbrev l11 : String := PySem.W.SL.s4209523147560561109x18
noncomputable abbrev l12 : String := PySem.W.SL.s10220274742760427390x26
noncomputable abbrev l13 : String := PySem.W.SL.s14755015743595814543x17
noncomputable abbrev l14 : String := PySem.W.SL.s4290257624100764138x5
noncomputable abbrev l15 : String := PySem.W.SL.s4860613602091757760x24
noncomputable abbrev l16 : String := PySem.W.SL.s7174869446012820540x8
noncomputable abbrev l17 : String := PySem.W.SL.s11443829558043349243x14
noncomputable abbrev l18 : String := PySem.W.SL.s6511155373996960695x17
noncomputable abbrev l19 : String := PySem.W.SL.s12411053484034534018x21
noncomputable def a11_0 : Obj := Q (y l0) #[]
noncomputable def a12_0 : Obj := F v #[]
noncomputable def a13_0 : Obj := F (y l1) #[(s x0 182), (s x0 183), (s x1 184), (.int 1 0), z, z, z, z, (r 11), (.bool false), (.int 181 0), (r 12), v, v, v, v, (.int 185 0), (.int 1 0), (s x1 186)]
noncomputable def a14_0 : Obj := ⟨(y l2), none, .plain, #[(some (r 13)), (some (r 3)), (some (r 3)), none, (some (s x2 164)), none, (some (r 0))]⟩
noncomputable def T0 (P : Params) : BT := (.node (boot_o_0 P) (.node (boot_o_1 P) (.node (boot_o_3 P) (.node (boot_o_7 P) .nil .nil) (.node a11_0 .nil .nil)) (.node (boot_o_5 P) (.node (boot_o_9 P) .nil .nil) (.node a13_0 .nil .nil))) (.node (boot_o_2 P) (.node (boot_o_4 P) (.node (boot_o_8 P) .nil .nil) (.node a12_0 .nil .nil)) (.node (boot_o_6 P) (.node (boot_o_10 P) .nil .nil) (.node a14_0 .nil .nil))))
noncomputable def S0 (P : Params) (os : OsState) : SharedT := ⟨T0 P, 15, lf, #[], ⟨0, 0, 0, 0⟩, 187, os⟩
noncomputable def T1 (P : Params) : BT := (T0 P)
noncomputable def S1 (P : Params) (os : OsState) : SharedT := ⟨T1 P, 15, lf, #[], ⟨0, 0, 0, 0⟩, 187, os⟩
noncomputable def a3_0 (P : Params) : Obj := ud (boot_o_3 P) [(0, e P x3 165 (s x4 187))] [e P x5 206 (r 24)] 10
noncomputable def a12_1 : Obj := F v #[(.int 2 0), z, (r 20)]
noncomputable def a15_0 : Obj := Q (y l0) #[(y l3)]
noncomputable def a16_0 : Obj := F (y l6) #[(.builtin l4), (y l5)]
noncomputable def a17_0 (P : Params) : Obj := ⟨(y l7), none, (.dict #[e P x6 196 (s x4 187), e P x7 198 (s x5 197), e P x8 200 (.int 2 199), e P x9 201 (r 22)] 4), #[]⟩
noncomputable def a18_0 : Obj := Q (y l0) #[]
noncomputable def a19_0 : Obj := F v #[]
noncomputable def a20_0 : Obj := F (y l1) #[(s x5 191), (s x5 192), (s x1 193), (.int 2 0), z, z, z, z, (r 18), (.bool false), (.int 181 0), (r 19), v, v, v, v, (.int 194 0), (.int 2 0), (s x1 195)]
noncomputable def a21_0 : Obj := ⟨(y l2), none, .plain, #[(some (r 20)), (some (r 3)), (some (r 17)), none, (some (s x4 187)), none, (some (r 0))]⟩
noncomputable def a22_0 : Obj := Q (y l0) #[]
noncomputable def a23_0 (P : Params) : Obj := ⟨(y l7), none, (.dict #[e P x6 196 (s x4 187), e P x8 200 (.int 2 199), e P x9 201 (r 22), e P x10 203 (r 25), e P x11 204 v] 3), #[]⟩
noncomputable def a24_0 : Obj := ⟨(y l5), none, (.cls ⟨x5, [(y l3)], [(r 24), (y l3), (y l8), (y l9), (y l10)], 23, x5, true, [], [], false, none, false⟩), #[(some (r 15)), none, (some (s x5 189)), (some (s x5 197)), (some (.builtin l11)), (some (.bool true))]⟩
noncomputable def a25_0 : Obj := F (y l13) #[(s x10 202), (r 24), (.builtin l12), v]
noncomputable def a26_0 : Obj := F (y l14) #[(r 24), (r 24), (r 24)]
noncomputable def a27_0 : Obj := F (y l6) #[(.builtin l15), (r 24)]
noncomputable def T2 (P : Params) : BT := (I (I (I (I (I (I (I (I (I (I (I (I (I (I (I (T1 P) 3 (a3_0 P)) 12 a12_1) 15 a15_0) 16 a16_0) 17 (a17_0 P)) 18 a18_0) 19 a19_0) 20 a20_0) 21 a21_0) 22 a22_0) 23 (a23_0 P)) 24 a24_0) 25 a25_0) 26 a26_0) 27 a27_0)
noncomputable def S2 (P : Params) (os : OsState) : SharedT := ⟨T2 P, 28, lf, #[], ⟨0, 0, 0, 0⟩, 207, os⟩
noncomputable def a3_1 (P : Params) : Obj := ud (a3_0 P) [] [e P x12 222 (r 37)] 11
noncomputable def a12_2 : Obj := F v #[(.int 2 0), z, (r 20), (.int 4 0), z, (r 33)]
noncomputable def a24_1 : Obj := ⟨(y l5), none, (.cls ⟨x5, [(y l3)], [(r 24), (y l3), (y l8), (y l9), (y l10)], 23, x5, true, [], [(r 37)], false, none, false⟩), #[(some (r 15)), none, (some (s x5 189)), (some (s x5 197)), (some (.builtin l11)), (some (.bool true))]⟩
noncomputable def a28_0 : Obj := Q (y l0) #[(r 24)]
noncomputable def a29_0 : Obj := F (y l6) #[(.builtin l4), (y l5)]
noncomputable def a30_0 (P : Params) : Obj := ⟨(y l7), none, (.dict #[e P x6 214 (s x4 187), e P x7 216 (s x12 215), e P x8 218 (.int 4 217), e P x9 219 (r 35)] 4), #[]⟩
noncomputable def a31_0 : Obj := Q (y l0) #[]
noncomputable def a32_0 : Obj := F v #[]
noncomputable def a33_0 : Obj := F (y l1) #[(s x12 209), (s x12 210), (s x1 211), (.int 4 0), z, z, z, z, (r 31), (.bool false), (.int 181 0), (r 32), v, v, v, v, (.int 212 0), (.int 4 0), (s x1 213)]
noncomputable def a34_0 : Obj := ⟨(y l2), none, .plain, #[(some (r 33)), (some (r 3)), (some (r 30)), none, (some (s x4 187)), none, (some (r 0))]⟩
noncomputable def a35_0 : Obj := Q (y l0) #[]
noncomputable def a36_0 (P : Params) : Obj := ⟨(y l7), none, (.dict #[e P x6 214 (s x4 187), e P x8 218 (.int 4 217), e P x9 219 (r 35), e P x11 220 v] 2), #[]⟩
noncomputable def a37_0 : Obj := ⟨(y l5), none, (.cls ⟨x12, [(r 24)], [(r 37), (r 24), (y l3), (y l8), (y l9), (y l10)], 36, x12, true, [], [], false, none, false⟩), #[(some (r 28)), none, (some (s x12 207)), (some (s x12 215)), (some (.builtin l11)), (some (.bool true))]⟩
noncomputable def a38_0 : Obj := F (y l14) #[(r 37), (r 37), (r 37)]
noncomputable def a39_0 : Obj := F (y l6) #[(.builtin l15), (r 37)]
noncomputable def T3 (P : Params) : BT := (I (I (I (I (I (I (I (I (I (I (I (I (I (I (I (T2 P) 3 (a3_1 P)) 12 a12_2) 24 a24_1) 28 a28_0) 29 a29_0) 30 (a30_0 P)) 31 a31_0) 32 a32_0) 33 a33_0) 34 a34_0) 35 a35_0) 36 (a36_0 P)) 37 a37_0) 38 a38_0) 39 a39_0)
noncomputable def S3 (P : Params) (os : OsState) : SharedT := ⟨T3 P, 40, lf, #[], ⟨0, 0, 0, 0⟩, 223, os⟩
noncomputable def a3_2 (P : Params) : Obj := ud (a3_1 P) [] [e P x13 238 (r 49)] 12
noncomputable def a12_3 : Obj := F v #[(.int 2 0), z, (r 20), (.int 4 0), z, (r 33), (.int 6 0), z, (r 45)]
noncomputable def a24_2 : Obj := ⟨(y l5), none, (.cls ⟨x5, [(y l3)], [(r 24), (y l3), (y l8), (y l9), (y l10)], 23, x5, true, [], [(r 37), (r 49)], false, none, false⟩), #[(some (r 15)), none, (some (s x5 189)), (some (s x5 197)), (some (.builtin l11)), (some (.bool true))]⟩
noncomputable def a40_0 : Obj := Q (y l0) #[(r 24)]
noncomputable def a41_0 : Obj := F (y l6) #[(.builtin l4), (y l5)]
noncomputable def a42_0 (P : Params) : Obj := ⟨(y l7), none, (.dict #[e P x6 230 (s x4 187), e P x7 232 (s x13 231), e P x8 234 (.int 6 233), e P x9 235 (r 47)] 4), #[]⟩
noncomputable def a43_0 : Obj := Q (y l0) #[]
noncomputable def a44_0 : Obj := F v #[]
noncomputable def a45_0 : Obj := F (y l1) #[(s x13 225), (s x13 226), (s x1 227), (.int 6 0), z, z, z, z, (r 43), (.bool false), (.int 181 0), (r 44), v, v, v, v, (.int 228 0), (.int 6 0), (s x1 229)]
noncomputable def a46_0 : Obj := ⟨(y l2), none, .plain, #[(some (r 45)), (some (r 3)), (some (r 42)), none, (some (s x4 187)), none, (some (r 0))]⟩
noncomputable def a47_0 : Obj := Q (y l0) #[]
noncomputable def a48_0 (P : Params) : Obj := ⟨(y l7), none, (.dict #[e P x6 230 (s x4 187), e P x8 234 (.int 6 233), e P x9 235 (r 47), e P x11 236 v] 2), #[]⟩
noncomputable def a49_0 : Obj := ⟨(y l5), none, (.cls ⟨x13, [(r 24)], [(r 49), (r 24), (y l3), (y l8), (y l9), (y l10)], 48, x13, true, [], [], false, none, false⟩), #[(some (r 40)), none, (some (s x13 223)), (some (s x13 231)), (some (.builtin l11)), (some (.bool true))]⟩
noncomputable def a50_0 : Obj := F (y l14) #[(r 49), (r 49), (r 49)]
noncomputable def a51_0 : Obj := F (y l6) #[(.builtin l15), (r 49)]
noncomputable def T4 (P : Params) : BT := (I (I (I (I (I (I (I (I (I (I (I (I (I (I (I (T3 P) 3 (a3_2 P)) 12 a12_3) 24 a24_2) 40 a40_0) 41 a41_0) 42 (a42_0 P)) 43 a43_0) 44 a44_0) 45 a45_0) 46 a46_0) 47 a47_0) 48 (a48_0 P)) 49 a49_0) 50 a50_0) 51 a51_0)
noncomputable def S4 (P : Params) (os : OsState) : SharedT := ⟨T4 P, 52, lf, #[], ⟨0, 0, 0, 0⟩, 239, os⟩
noncomputable def a3_3 (P : Params) : Obj := ud (a3_2 P) [] [e P x14 254 (r 61)] 13
noncomputable def a12_4 : Obj := F v #[(.int 2 0), z, (r 20), (.int 4 0), z, (r 33), (.int 6 0), z, (r 45), (.int 8 0), z, (r 57)]
noncomputable def a24_3 : Obj := ⟨(y l5), none, (.cls ⟨x5, [(y l3)], [(r 24), (y l3), (y l8), (y l9), (y l10)], 23, x5, true, [], [(r 37), (r 49), (r 61)], false, none, false⟩), #[(some (r 15)), none, (some (s x5 189)), (some (s x5 197)), (some (.builtin l11)), (some (.bool true))]⟩
noncomputable def a52_0 : Obj := Q (y l0) #[(r 24)]
noncomputable def a53_0 : Obj := F (y l6) #[(.builtin l4), (y l5)]
noncomputable def a54_0 (P : Params) : Obj := ⟨(y l7), none, (.dict #[e P x6 246 (s x4 187), e P x7 248 (s x14 247), e P x8 250 (.int 8 249), e P x9 251 (r 59)] 4), #[]⟩
noncomputable def a55_0 : Obj := Q (y l0) #[]
noncomputable def a56_0 : Obj := F v #[]
noncomputable def a57_0 : Obj := F (y l1) #[(s x14 241), (s x14 242), (s x1 243), (.int 8 0), z, z, z, z, (r 55), (.bool false), (.int 181 0), (r 56), v, v, v, v, (.int 244 0), (.int 8 0), (s x1 245)]
noncomputable def a58_0 : Obj := ⟨(y l2), none, .plain, #[(some (r 57)), (some (r 3)), (some (r 54)), none, (some (s x4 187)), none, (some (r 0))]⟩
noncomputable def a59_0 : Obj := Q (y l0) #[]
noncomputable def a60_0 (P : Params) : Obj := ⟨(y l7), none, (.dict #[e P x6 246 (s x4 187), e P x8 250 (.int 8 249), e P x9 251 (r 59), e P x11 252 v] 2), #[]⟩
noncomputable def a61_0 : Obj := ⟨(y l5), none, (.cls ⟨x14, [(r 24)], [(r 61), (r 24), (y l3), (y l8), (y l9), (y l10)], 60, x14, true, [], [], false, none, false⟩), #[(some (r 52)), none, (some (s x14 239)), (some (s x14 247)), (some (.builtin l11)), (some (.bool true))]⟩
noncomputable def a62_0 : Obj := F (y l14) #[(r 61), (r 61), (r 61)]
noncomputable def a63_0 : Obj := F (y l6) #[(.builtin l15), (r 61)]
noncomputable def T5 (P : Params) : BT := (I (I (I (I (I (I (I (I (I (I (I (I (I (I (I (T4 P) 3 (a3_3 P)) 12 a12_4) 24 a24_3) 52 a52_0) 53 a53_0) 54 (a54_0 P)) 55 a55_0) 56 a56_0) 57 a57_0) 58 a58_0) 59 a59_0) 60 (a60_0 P)) 61 a61_0) 62 a62_0) 63 a63_0)
noncomputable def S5 (P : Params) (os : OsState) : SharedT := ⟨T5 P, 64, lf, #[], ⟨0, 0, 0, 0⟩, 255, os⟩
noncomputable def a3_4 (P : Params) : Obj := ud (a3_3 P) [(0, e P x3 165 (s x15 315))] [e P x16 270 (r 73), e P x17 275 (r 76), e P x18 278 (r 77), e P x19 289 (r 84), e P x20 298 (r 91), e P x21 306 (r 98), e P x22 314 (r 105), e P x23 318 (s x24 317), e P x25 320 (.int 8 319)] 22
noncomputable def a12_5 : Obj := F v #[(.int 2 0), z, (r 20), (.int 4 0), z, (r 33), (.int 6 0), z, (r 45), (.int 8 0), z, (r 57), (.int 10 0), z, (r 69), (.int 15 0), z, (r 83), (.int 23 0), z, (r 90), (.int 30 0), z, (r 97), (.int 32 0), z, (r 104)]
noncomputable def a24_4 : Obj := ⟨(y l5), none, (.cls ⟨x5, [(y l3)], [(r 24), (y l3), (y l8), (y l9), (y l10)], 23, x5, true, [], [(r 37), (r 49), (r 61), (r 73)], false, none, false⟩), #[(some (r 15)), none, (some (s x5 189)), (some (s x5 197)), (some (.builtin l11)), (some (.bool true))]⟩
noncomputable def a64_0 : Obj := Q (y l0) #[(r 24)]
noncomputable def a65_0 : Obj := F (y l6) #[(.builtin l4), (y l5)]
noncomputable def a66_0 (P : Params) : Obj := ⟨(y l7), none, (.dict #[e P x6 262 (s x4 187), e P x7 264 (s x16 263), e P x8 266 (.int 10 265), e P x9 267 (r 71)] 4), #[]⟩
noncomputable def a67_0 : Obj := Q (y l0) #[]
noncomputable def a68_0 : Obj := F v #[]
noncomputable def a69_0 : Obj := F (y l1) #[(s x16 257), (s x16 258), (s x1 259), (.int 10 0), z, z, z, z, (r 67), (.bool false), (.int 181 0), (r 68), v, v, v, v, (.int 260 0), (.int 10 0), (s x1 261)]
noncomputable def a70_0 : Obj := ⟨(y l2), none, .plain, #[(some (r 69)), (some (r 3)), (some (r 66)), none, (some (s x4 187)), none, (some (r 0))]⟩
noncomputable def a71_0 : Obj := Q (y l0) #[]
noncomputable def a72_0 (P : Params) : Obj := ⟨(y l7), none, (.dict #[e P x6 262 (s x4 187), e P x8 266 (.int 10 265), e P x9 267 (r 71), e P x11 268 v] 2), #[]⟩
noncomputable def a73_0 : Obj := ⟨(y l5), none, (.cls ⟨x16, [(r 24)], [(r 73), (r 24), (y l3), (y l8), (y l9), (y l10)], 72, x16, true, [], [], false, none, false⟩), #[(some (r 64)), none, (some (s x16 255)), (some (s x16 263)), (some (.builtin l11)), (some (.bool true))]⟩
noncomputable def a74_0 : Obj := F (y l14) #[(r 73), (r 73), (r 73)]
noncomputable def a75_0 : Obj := F (y l6) #[(.builtin l15), (r 73)]
noncomputable def a76_0 : Obj := Q (y l0) #[(.int 0 273), (.int 1 274)]
noncomputable def a77_0 : Obj := Q (y l0) #[(.int 1 276), (.int 1 277)]
noncomputable def a78_0 : Obj := Q (y l0) #[]
noncomputable def a79_0 : Obj := F v #[]
noncomputable def a80_0 : Obj := Q (y l0) #[(s x26 282), (s x27 283), (s x28 284), (s x29 285), (s x30 286)]
noncomputable def a81_0 : Obj := Q (y l0) #[]
noncomputable def a82_0 : Obj := ⟨v, none, (fo (g1 9) x19 0 [] v v v v none v v 0), #[]⟩
noncomputable def a83_0 : Obj := F (y l1) #[(s x19 279), (s x19 280), (s x1 281), (.int 15 0), (.int 2 0), z, z, (.int 3 0), (r 78), (.bool true), (.int 181 0), (r 79), v, (r 80), (r 81), (r 82), (.int 287 0), (.int 15 0), (s x1 288)]
noncomputable def a84_0 : Obj := ⟨(y l16), none, (fo (g1 9) x19 3 [] v v v (s x31 271) none (r 83) v 0), #[]⟩
noncomputable def a85_0 : Obj := Q (y l0) #[]
noncomputable def a86_0 : Obj := F v #[]
noncomputable def a87_0 : Obj := Q (y l0) #[(s x32 293), (s x33 294), (s x34 295)]
noncomputable def a88_0 : Obj := Q (y l0) #[]
noncomputable def a89_0 : Obj := ⟨v, none, (fo (g1 10) x20 0 [] v v v v none v v 0), #[]⟩
noncomputable def a90_0 : Obj := F (y l1) #[(s x20 290), (s x20 291), (s x1 292), (.int 23 0), (.int 2 0), z, z, (.int 3 0), (r 85), (.bool true), (.int 181 0), (r 86), v, (r 87), (r 88), (r 89), (.int 296 0), (.int 23 0), (s x1 297)]
noncomputable def a91_0 : Obj := ⟨(y l16), none, (fo (g1 10) x20 3 [] v v v (s x31 271) none (r 90) v 0), #[]⟩
noncomputable def a92_0 : Obj := Q (y l0) #[]
noncomputable def a93_0 : Obj := F v #[]
noncomputable def a94_0 : Obj := Q (y l0) #[(s x26 302), (s x27 303)]
noncomputable def a95_0 : Obj := Q (y l0) #[]
noncomputable def a96_0 : Obj := ⟨v, none, (fo (g1 11) x21 0 [] v v v v none v v 0), #[]⟩
noncomputable def a97_0 : Obj := F (y l1) #[(s x21 299), (s x21 300), (s x1 301), (.int 30 0), (.int 2 0), z, z, (.int 3 0), (r 92), (.bool true), (.int 181 0), (r 93), v, (r 94), (r 95), (r 96), (.int 304 0), (.int 30 0), (s x1 305)]
noncomputable def a98_0 : Obj := ⟨(y l16), none, (fo (g1 11) x21 3 [] v v v (s x31 271) none (r 97) v 0), #[]⟩
noncomputable def a99_0 : Obj := Q (y l0) #[]
noncomputable def a100_0 : Obj := F v #[]
noncomputable def a101_0 : Obj := Q (y l0) #[(s x26 310), (s x27 311)]
noncomputable def a102_0 : Obj := Q (y l0) #[]
noncomputable def a103_0 : Obj := ⟨v, none, (fo (g1 12) x22 0 [] v v v v none v v 0), #[]⟩
noncomputable def a104_0 : Obj := F (y l1) #[(s x22 307), (s x22 308), (s x1 309), (.int 32 0), (.int 2 0), z, z, (.int 3 0), (r 99), (.bool true), (.int 181 0), (r 100), v, (r 101), (r 102), (r 103), (.int 312 0), (.int 32 0), (s x1 313)]
noncomputable def a105_0 : Obj := ⟨(y l16), none, (fo (g1 12) x22 3 [] v v v (s x31 271) none (r 104) v 0), #[]⟩
noncomputable def T6 (P : Params) : BT := (I (I (I (I (I (I (I (I (I (I (I (I (I (I (I (I (I (I (I (I (I (I (I (I (I (I (I (I (I (I (I (I (I (I (I (I (I (I (I (I (I (I (I (I (I (T5 P) 3 (a3_4 P)) 12 a12_5) 24 a24_4) 64 a64_0) 65 a65_0) 66 (a66_0 P)) 67 a67_0) 68 a68_0) 69 a69_0) 70 a70_0) 71 a71_0) 72 (a72_0 P)) 73 a73_0) 74 a74_0) 75 a75_0) 76 a76_0) 77 a77_0) 78 a78_0) 79 a79_0) 80 a80_0) 81 a81_0) 82 a82_0) 83 a83_0) 84 a84_0) 85 a85_0) 86 a86_0) 87 a87_0) 88 a88_0) 89 a89_0) 90 a90_0) 91 a91_0) 92 a92_0) 93 a93_0) 94 a94_0) 95 a95_0) 96 a96_0) 97 a97_0) 98 a98_0) 99 a99_0) 100 a100_0) 101 a101_0) 102 a102_0) 103 a103_0) 104 a104_0) 105 a105_0)
noncomputable def S6 (P : Params) (os : OsState) : SharedT := ⟨T6 P, 106, lf, #[], ⟨0, 0, 0, 0⟩, 321, os⟩
noncomputable def a3_5 (P : Params) : Obj := ud (a3_4 P) [] [e P x35 327 (r 112), e P x36 334 (r 119), e P x37 340 (r 124), e P x38 347 (r 131), e P x39 389 (r 162)] 27
noncomputable def a12_6 : Obj := F v #[(.int 2 0), z, (r 20), (.int 4 0), z, (r 33), (.int 6 0), z, (r 45), (.int 8 0), z, (r 57), (.int 10 0), z, (r 69), (.int 15 0), z, (r 83), (.int 23 0), z, (r 90), (.int 30 0), z, (r 97), (.int 32 0), z, (r 104), (.int 37 0), z, (r 111), (.int 40 0), z, (r 118), (.int 43 0), z, (r 123), (.int 46 0), z, (r 130), (.int 48 0), z, (r 137)]
noncomputable def a106_0 : Obj := Q (y l0) #[]
noncomputable def a107_0 : Obj := F v #[]
noncomputable def a108_0 : Obj := Q (y l0) #[(s x40 324)]
noncomputable def a109_0 : Obj := Q (y l0) #[]
noncomputable def a110_0 : Obj := ⟨v, none, (fo (g1 16) x35 0 [] v v v v none v v 0), #[]⟩
noncomputable def a111_0 : Obj := F (y l1) #[(s x35 321), (s x35 322), (s x1 323), (.int 37 0), (.int 1 0), z, z, (.int 3 0), (r 106), (.bool true), (.int 181 0), (r 107), v, (r 108), (r 109), (r 110), (.int 325 0), (.int 37 0), (s x1 326)]
noncomputable def a112_0 : Obj := ⟨(y l16), none, (fo (g1 16) x35 3 [] v v v (s x15 315) none (r 111) v 0), #[]⟩
noncomputable def a113_0 : Obj := Q (y l0) #[]
noncomputable def a114_0 : Obj := F v #[]
noncomputable def a115_0 : Obj := Q (y l0) #[(s x41 331)]
noncomputable def a116_0 : Obj := Q (y l0) #[]
noncomputable def a117_0 : Obj := ⟨v, none, (fo (g1 17) x36 0 [] v v v v none v v 0), #[]⟩
noncomputable def a118_0 : Obj := F (y l1) #[(s x36 328), (s x36 329), (s x1 330), (.int 40 0), (.int 1 0), z, z, (.int 3 0), (r 113), (.bool true), (.int 181 0), (r 114), v, (r 115), (r 116), (r 117), (.int 332 0), (.int 40 0), (s x1 333)]
noncomputable def a119_0 : Obj := ⟨(y l16), none, (fo (g1 17) x36 3 [] v v v (s x15 315) none (r 118) v 0), #[]⟩
noncomputable def a120_0 : Obj := Q (y l0) #[]
noncomputable def a121_0 : Obj := F v #[]
noncomputable def a122_0 : Obj := ⟨v, none, (fo (g1 18) x37 0 [] v v v v none v v 0), #[]⟩
noncomputable def a123_0 : Obj := F (y l1) #[(s x37 335), (s x37 336), (s x1 337), (.int 43 0), (.int 1 0), z, z, (.int 3 0), (r 120), (.bool true), (.int 181 0), (r 121), v, v, v, (r 122), (.int 338 0), (.int 43 0), (s x1 339)]
noncomputable def a124_0 : Obj := ⟨(y l16), none, (fo (g1 18) x37 3 [] v v v (s x15 315) none (r 123) v 0), #[]⟩
noncomputable def a125_0 : Obj := Q (y l0) #[]
noncomputable def a126_0 : Obj := F v #[]
noncomputable def a127_0 : Obj := Q (y l0) #[(s x40 344)]
noncomputable def a128_0 : Obj := Q (y l0) #[]
noncomputable def a129_0 : Obj := ⟨v, none, (fo (g1 19) x38 0 [] v v v v none v v 0), #[]⟩
noncomputable def a130_0 : Obj := F (y l1) #[(s x38 341), (s x38 342), (s x1 343), (.int 46 0), (.int 1 0), z, z, (.int 3 0), (r 125), (.bool true), (.int 181 0), (r 126), v, (r 127), (r 128), (r 129), (.int 345 0), (.int 46 0), (s x1 346)]
noncomputable def a131_0 : Obj := ⟨(y l16), none, (fo (g1 19) x38 3 [] v v v (s x15 315) none (r 130) v 0), #[]⟩
noncomputable def a132_0 : Obj := Q (y l0) #[]
noncomputable def a133_0 : Obj := F (y l6) #[(.builtin l4), (y l5)]
noncomputable def a134_0 (P : Params) : Obj := ⟨(y l7), none, (.dict #[e P x6 355 (s x15 315), e P x7 357 (s x39 356), e P x8 359 (.int 48 358), e P x42 367 (r 145), e P x43 374 (r 152), e P x44 381 (r 159), e P x9 382 (r 160)] 7), #[]⟩
noncomputable def a135_0 : Obj := Q (y l0) #[]
noncomputable def a136_0 : Obj := F v #[(.int 50 0), (.int 4 0), (r 144), (.int 53 0), (.int 4 0), (r 151), (.int 56 0), (.int 4 0), (r 158)]
noncomputable def a137_0 : Obj := F (y l1) #[(s x39 350), (s x39 351), (s x1 352), (.int 48 0), z, z, z, z, (r 135), (.bool false), (.int 181 0), (r 136), v, v, v, v, (.int 353 0), (.int 48 0), (s x1 354)]
noncomputable def a138_0 : Obj := ⟨(y l2), none, .plain, #[(some (r 137)), (some (r 3)), (some (r 134)), none, (some (s x15 315)), none, (some (r 0))]⟩
noncomputable def a139_0 : Obj := Q (y l0) #[]
noncomputable def a140_0 : Obj := F v #[]
noncomputable def a141_0 : Obj := Q (y l0) #[(s x45 363), (s x46 364)]
noncomputable def a142_0 : Obj := Q (y l0) #[]
noncomputable def a143_0 : Obj := ⟨v, none, (fo (g2 20 0) x47 0 [] v v v v none v v 0), #[]⟩
noncomputable def a144_0 : Obj := F (y l1) #[(s x42 360), (s x47 361), (s x1 362), (.int 50 0), (.int 2 0), z, z, (.int 3 0), (r 139), (.bool true), (.int 181 0), (r 140), v, (r 141), (r 142), (r 143), (.int 365 0), (.int 50 0), (s x1 366)]
noncomputable def a145_0 : Obj := ⟨(y l16), none, (fo (g2 20 0) x47 3 [] v v v (s x15 315) none (r 144) v 0), #[]⟩
noncomputable def a146_0 : Obj := Q (y l0) #[]
noncomputable def a147_0 : Obj := F v #[]
noncomputable def a148_0 : Obj := Q (y l0) #[(s x45 371)]
noncomputable def a149_0 : Obj := Q (y l0) #[]
noncomputable def a150_0 : Obj := ⟨v, none, (fo (g2 20 1) x48 0 [] v v v v none v v 0), #[]⟩
noncomputable def a151_0 : Obj := F (y l1) #[(s x43 368), (s x48 369), (s x1 370), (.int 53 0), (.int 1 0), z, z, (.int 3 0), (r 146), (.bool true), (.int 181 0), (r 147), v, (r 148), (r 149), (r 150), (.int 372 0), (.int 53 0), (s x1 373)]
noncomputable def a152_0 : Obj := ⟨(y l16), none, (fo (g2 20 1) x48 3 [] v v v (s x15 315) none (r 151) v 0), #[]⟩
noncomputable def a153_0 : Obj := Q (y l0) #[]
noncomputable def a154_0 : Obj := F v #[]
noncomputable def a155_0 : Obj := Q (y l0) #[(s x45 378)]
noncomputable def a156_0 : Obj := Q (y l0) #[]
noncomputable def a157_0 : Obj := ⟨v, none, (fo (g2 20 2) x49 0 [] v v v v none v v 0), #[]⟩
noncomputable def a158_0 : Obj := F (y l1) #[(s x44 375), (s x49 376), (s x1 377), (.int 56 0), (.int 1 0), z, z, (.int 3 0), (r 153), (.bool true), (.int 181 0), (r 154), v, (r 155), (r 156), (r 157), (.int 379 0), (.int 56 0), (s x1 380)]
noncomputable def a159_0 : Obj := ⟨(y l16), none, (fo (g2 20 2) x49 3 [] v v v (s x15 315) none (r 158) v 0), #[]⟩
noncomputable def a160_0 : Obj := Q (y l0) #[]
noncomputable def a161_0 (P : Params) : Obj := ⟨(y l7), none, (.dict #[e P x6 355 (s x15 315), e P x8 359 (.int 48 358), e P x42 367 (r 145), e P x43 374 (r 152), e P x44 381 (r 159), e P x9 382 (r 160), e P x50 384 (r 163), e P x10 386 (r 164), e P x11 387 v] 4), #[]⟩
noncomputable def a162_0 : Obj := ⟨(y l5), none, (.cls ⟨x39, [(y l10)], [(r 162), (y l10)], 161, x39, true, [], [], false, none, false⟩), #[none, none, (some (s x39 348)), (some (s x39 356)), (some (.builtin l17)), (some (.bool true))]⟩
noncomputable def a163_0 : Obj := F (y l13) #[(s x50 383), (r 162), (.builtin l18), (.builtin l19)]
noncomputable def a164_0 : Obj := F (y l13) #[(s x10 385), (r 162), (.builtin l12), v]
noncomputable def a165_0 : Obj := F (y l14) #[(r 162), (r 162), (r 162)]
noncomputable def a166_0 : Obj := F (y l6) #[(.builtin l15), (r 162)]
noncomputable def T7 (P : Params) : BT := (I (I (I (I (I (I (I (I (I (I (I (I (I (I (I (I (I (I (I (I (I (I (I (I (I (I (I (I (I (I (I (I (I (I (I (I (I (I (I (I (I (I (I (I (I (I (I (I (I (I (I (I (I (I (I (I (I (I (I (I (I (I (I (T6 P) 3 (a3_5 P)) 12 a12_6) 106 a106_0) 107 a107_0) 108 a108_0) 109 a109_0) 110 a110_0) 111 a111_0) 112 a112_0) 113 a113_0) 114 a114_0) 115 a115_0) 116 a116_0) 117 a117_0) 118 a118_0) 119 a119_0) 120 a120_0) 121 a121_0) 122 a122_0) 123 a123_0) 124 a124_0) 125 a125_0) 126 a126_0) 127 a127_0) 128 a128_0) 129 a129_0) 130 a130_0) 131 a131_0) 132 a132_0) 133 a133_0) 134 (a134_0 P)) 135 a135_0) 136 a136_0) 137 a137_0) 138 a138_0) 139 a139_0) 140 a140_0) 141 a141_0) 142 a142_0) 143 a143_0) 144 a144_0) 145 a145_0) 146 a146_0) 147 a147_0) 148 a148_0) 149 a149_0) 150 a150_0) 151 a151_0) 152 a152_0) 153 a153_0) 154 a154_0) 155 a155_0) 156 a156_0) 157 a157_0) 158 a158_0) 159 a159_0) 160 a160_0) 161 (a161_0 P)) 162 a162_0) 163 a163_0) 164 a164_0) 165 a165_0) 166 a166_0)
noncomputable def S7 (P : Params) (os : OsState) : SharedT := ⟨T7 P, 167, lf, #[], ⟨0, 0, 0, 0⟩, 390, os⟩
noncomputable def a3_6 (P : Params) : Obj := ud (a3_5 P) [] [e P x51 412 (r 183)] 28
noncomputable def a12_7 : Obj := F v #[(.int 2 0), z, (r 20), (.int 4 0), z, (r 33), (.int 6 0), z, (r 45), (.int 8 0), z, (r 57), (.int 10 0), z, (r 69), (.int 15 0), z, (r 83), (.int 23 0), z, (r 90), (.int 30 0), z, (r 97), (.int 32 0), z, (r 104), (.int 37 0), z, (r 111), (.int 40 0), z, (r 118), (.int 43 0), z, (r 123), (.int 46 0), z, (r 130), (.int 48 0), z, (r 137), (.int 58 0), z, (r 172)]
noncomputable def a162_1 : Obj := ⟨(y l5), none, (.cls ⟨x39, [(y l10)], [(r 162), (y l10)], 161, x39, true, [], [(r 183)], false, none, false⟩), #[none, none, (some (s x39 348)), (some (s x39 356)), (some (.builtin l17)), (some (.bool true))]⟩
noncomputable def a167_0 : Obj := Q (y l0) #[(r 162)]
noncomputable def a168_0 : Obj := F (y l6) #[(.builtin l4), (y l5)]
noncomputable def a169_0 (P : Params) : Obj := ⟨(y l7), none, (.dict #[e P x6 397 (s x15 315), e P x7 399 (s x51 398), e P x8 401 (.int 58 400), e P x52 408 (r 180), e P x9 409 (r 181)] 5), #[]⟩
noncomputable def a170_0 : Obj := Q (y l0) #[]
noncomputable def a171_0 : Obj := F v #[(.int 60 0), (.int 4 0), (r 179)]
noncomputable def a172_0 : Obj := F (y l1) #[(s x51 392), (s x51 393), (s x1 394), (.int 58 0), z, z, z, z, (r 170), (.bool false), (.int 181 0), (r 171), v, v, v, v, (.int 395 0), (.int 58 0), (s x1 396)]
noncomputable def a173_0 : Obj := ⟨(y l2), none, .plain, #[(some (r 172)), (some (r 3)), (some (r 169)), none, (some (s x15 315)), none, (some (r 0))]⟩
noncomputable def a174_0 : Obj := Q (y l0) #[]
noncomputable def a175_0 : Obj := F v #[]
noncomputable def a176_0 : Obj := Q (y l0) #[(s x45 405)]
noncomputable def a177_0 : Obj := Q (y l0) #[]
noncomputable def a178_0 : Obj := ⟨v, none, (fo (g2 21 0) x53 0 [] v v v v none v v 0), #[]⟩
noncomputable def a179_0 : Obj := F (y l1) #[(s x52 402), (s x53 403), (s x1 404), (.int 60 0), (.int 1 0), z, z, (.int 3 0), (r 174), (.bool true), (.int 181 0), (r 175), v, (r 176), (r 177), (r 178), (.int 406 0), (.int 60 0), (s x1 407)]
noncomputable def a180_0 : Obj := ⟨(y l16), none, (fo (g2 21 0) x53 3 [] v v v (s x15 315) none (r 179) v 0), #[]⟩
noncomputable def a181_0 : Obj := Q (y l0) #[]
noncomputable def a182_0 (P : Params) : Obj := ⟨(y l7), none, (.dict #[e P x6 397 (s x15 315), e P x8 401 (.int 58 400), e P x52 408 (r 180), e P x9 409 (r 181), e P x11 410 v] 2), #[]⟩
noncomputable def a183_0 : Obj := ⟨(y l5), none, (.cls ⟨x51, [(r 162)], [(r 183), (r 162), (y l10)], 182, x51, true, [], [], false, none, false⟩), #[(some (r 167)), none, (some (s x51 390)), (some (s x51 398)), (some (.builtin l17)), (some (.bool true))]⟩
noncomputable def a184_0 : Obj := F (y l14) #[(r 183), (r 183), (r 183)]
noncomputable def a185_0 : Obj := F (y l6) #[(.builtin l15), (r 183)]
noncomputable def T8 (P : Params) : BT := (I (I (I (I (I (I (I (I (I (I (I (I (I (I (I (I (I (I (I (I (I (I (T7 P) 3 (a3_6 P)) 12 a12_7) 162 a162_1) 167 a167_0) 168 a168_0) 169 (a169_0 P)) 170 a170_0) 171 a171_0) 172 a172_0) 173 a173_0) 174 a174_0) 175 a175_0) 176 a176_0) 177 a177_0) 178 a178_0) 179 a179_0) 180 a180_0) 181 a181_0) 182 (a182_0 P)) 183 a183_0) 184 a184_0) 185 a185_0)
noncomputable def S8 (P : Params) (os : OsState) : SharedT := ⟨T8 P, 186, lf, #[], ⟨0, 0, 0, 0⟩, 413, os⟩
noncomputable def a3_7 (P : Params) : Obj := ud (a3_6 P) [] [e P x54 459 (r 223)] 29
noncomputable def a12_8 : Obj := F v #[(.int 2 0), z, (r 20), (.int 4 0), z, (r 33), (.int 6 0), z, (r 45), (.int 8 0), z, (r 57), (.int 10 0), z, (r 69), (.int 15 0), z, (r 83), (.int 23 0), z, (r 90), (.int 30 0), z, (r 97), (.int 32 0), z, (r 104), (.int 37 0), z, (r 111), (.int 40 0), z, (r 118), (.int 43 0), z, (r 123), (.int 46 0), z, (r 130), (.int 48 0), z, (r 137), (.int 58 0), z, (r 172), (.int 62 0), z, (r 191)]
noncomputable def a162_2 : Obj := ⟨(y l5), none, (.cls ⟨x39, [(y l10)], [(r 162), (y l10)], 161, x39, true, [], [(r 183), (r 223)], false, none, false⟩), #[none, none, (some (s x39 348)), (some (s x39 356)), (some (.builtin l17)), (some (.bool true))]⟩
noncomputable def a186_0 : Obj := Q (y l0) #[(r 162)]
noncomputable def a187_0 : Obj := F (y l6) #[(.builtin l4), (y l5)]
noncomputable def a188_0 (P : Params) : Obj := ⟨(y l7), none, (.dict #[e P x6 420 (s x15 315), e P x7 422 (s x54 421), e P x8 424 (.int 62 423), e P x55 432 (r 199), e P x52 439 (r 206), e P x42 447 (r 213), e P x44 454 (r 220), e P x9 456 (r 221)] 8), #[]⟩
noncomputable def a189_0 : Obj := Q (y l0) #[]
noncomputable def a190_0 : Obj := F v #[(.int 64 0), (.int 4 0), (r 198), (.int 68 0), (.int 4 0), (r 205), (.int 71 0), (.int 4 0), (r 212), (.int 74 0), (.int 4 0), (r 219)]
noncomputable def a191_0 : Obj := F (y l1) #[(s x54 415), (s x54 416), (s x1 417), (.int 62 0), z, z, z, z, (r 189), (.bool false), (.int 181 0), (r 190), v, v, v, v, (.int 418 0), (.int 62 0), (s x1 419)]
noncomputable def a192_0 : Obj := ⟨(y l2), none, .plain, #[(some (r 191)), (some (r 3)), (some (r 188)), none, (some (s x15 315)), none, (some (r 0))]⟩
noncomputable def a193_0 : Obj := Q (y l0) #[]
noncomputable def a194_0 : Obj := F v #[]
noncomputable def a195_0 : Obj := Q (y l0) #[(s x45 428), (s x40 429)]
noncomputable def a196_0 : Obj := Q (y l0) #[]
noncomputable def a197_0 : Obj := ⟨v, none, (fo (g2 22 0) x56 0 [] v v v v none v v 0), #[]⟩
noncomputable def a198_0 : Obj := F (y l1) #[(s x55 425), (s x56 426), (s x1 427), (.int 64 0), (.int 2 0), z, z, (.int 3 0), (r 193), (.bool true), (.int 181 0), (r 194), v, (r 195), (r 196), (r 197), (.int 430 0), (.int 64 0), (s x1 431)]
noncomputable def a199_0 : Obj := ⟨(y l16), none, (fo (g2 22 0) x56 3 [] v v v (s x15 315) none (r 198) v 0), #[]⟩
noncomputable def a200_0 : Obj := Q (y l0) #[]
noncomputable def a201_0 : Obj := F v #[]
noncomputable def a202_0 : Obj := Q (y l0) #[(s x45 436)]
noncomputable def a203_0 : Obj := Q (y l0) #[]
noncomputable def a204_0 : Obj := ⟨v, none, (fo (g2 22 1) x57 0 [] v v v v none v v 0), #[]⟩
noncomputable def a205_0 : Obj := F (y l1) #[(s x52 433), (s x57 434), (s x1 435), (.int 68 0), (.int 1 0), z, z, (.int 3 0), (r 200), (.bool true), (.int 181 0), (r 201), v, (r 202), (r 203), (r 204), (.int 437 0), (.int 68 0), (s x1 438)]
noncomputable def a206_0 : Obj := ⟨(y l16), none, (fo (g2 22 1) x57 3 [] v v v (s x15 315) none (r 205) v 0), #[]⟩
noncomputable def a207_0 : Obj := Q (y l0) #[]
noncomputable def a208_0 : Obj := F v #[]
noncomputable def a209_0 : Obj := Q (y l0) #[(s x45 443), (s x46 444)]
noncomputable def a210_0 : Obj := Q (y l0) #[]
noncomputable def a211_0 : Obj := ⟨v, none, (fo (g2 22 2) x58 0 [] v v v v none v v 0), #[]⟩
noncomputable def a212_0 : Obj := F (y l1) #[(s x42 440), (s x58 441), (s x1 442), (.int 71 0), (.int 2 0), z, z, (.int 3 0), (r 207), (.bool true), (.int 181 0), (r 208), v, (r 209), (r 210), (r 211), (.int 445 0), (.int 71 0), (s x1 446)]
noncomputable def a213_0 : Obj := ⟨(y l16), none, (fo (g2 22 2) x58 3 [] v v v (s x15 315) none (r 212) v 0), #[]⟩
noncomputable def a214_0 : Obj := Q (y l0) #[]
noncomputable def a215_0 : Obj := F v #[]
noncomputable def a216_0 : Obj := Q (y l0) #[(s x45 451)]
noncomputable def a217_0 : Obj := Q (y l0) #[]
noncomputable def a218_0 : Obj := ⟨v, none, (fo (g2 22 3) x59 0 [] v v v v none v v 0), #[]⟩
noncomputable def a219_0 : Obj := F (y l1) #[(s x44 448), (s x59 449), (s x1 450), (.int 74 0), (.int 1 0), z, z, (.int 3 0), (r 214), (.bool true), (.int 181 0), (r 215), v, (r 216), (r 217), (r 218), (.int 452 0), (.int 74 0), (s x1 453)]
noncomputable def a220_0 : Obj := ⟨(y l16), none, (fo (g2 22 3) x59 3 [] v v v (s x15 315) none (r 219) v 0), #[]⟩
noncomputable def a221_0 : Obj := Q (y l0) #[(s x40 455)]
noncomputable def a222_0 (P : Params) : Obj := ⟨(y l7), none, (.dict #[e P x6 420 (s x15 315), e P x8 424 (.int 62 423), e P x55 432 (r 199), e P x52 439 (r 206), e P x42 447 (r 213), e P x44 454 (r 220), e P x9 456 (r 221), e P x11 457 v] 2), #[]⟩
noncomputable def a223_0 : Obj := ⟨(y l5), none, (.cls ⟨x54, [(r 162)], [(r 223), (r 162), (y l10)], 222, x54, true, [], [], false, none, false⟩), #[(some (r 186)), none, (some (s x54 413)), (some (s x54 421)), (some (.builtin l17)), (some (.bool true))]⟩
noncomputable def a224_0 : Obj := F (y l14) #[(r 223), (r 223), (r 223)]
noncomputable def a225_0 : Obj := F (y l6) #[(.builtin l15), (r 223)]
noncomputable def T9 (P : Params) : BT := (I (I (I (I (I (I (I (I (I (I (I (I (I (I (I (I (I (I (I (I (I (I (I (I (I (I (I (I (I (I (I (I (I (I (I (I (I (I (I (I (I (I (I (T8 P) 3 (a3_7 P)) 12 a12_8) 162 a162_2) 186 a186_0) 187 a187_0) 188 (a188_0 P)) 189 a189_0) 190 a190_0) 191 a191_0) 192 a192_0) 193 a193_0) 194 a194_0) 195 a195_0) 196 a196_0) 197 a197_0) 198 a198_0) 199 a199_0) 200 a200_0) 201 a201_0) 202 a202_0) 203 a203_0) 204 a204_0) 205 a205_0) 206 a206_0) 207 a207_0) 208 a208_0) 209 a209_0) 210 a210_0) 211 a211_0) 212 a212_0) 213 a213_0) 214 a214_0) 215 a215_0) 216 a216_0) 217 a217_0) 218 a218_0) 219 a219_0) 220 a220_0) 221 a221_0) 222 (a222_0 P)) 223 a223_0) 224 a224_0) 225 a225_0)
noncomputable def S9 (P : Params) (os : OsState) : SharedT := ⟨T9 P, 226, lf, #[], ⟨0, 0, 0, 0⟩, 460, os⟩
noncomputable def a3_8 (P : Params) : Obj := ud (a3_7 P) [] [e P x60 510 (r 263)] 30
noncomputable def a12_9 : Obj := F v #[(.int 2 0), z, (r 20), (.int 4 0), z, (r 33), (.int 6 0), z, (r 45), (.int 8 0), z, (r 57), (.int 10 0), z, (r 69), (.int 15 0), z, (r 83), (.int 23 0), z, (r 90), (.int 30 0), z, (r 97), (.int 32 0), z, (r 104), (.int 37 0), z, (r 111), (.int 40 0), z, (r 118), (.int 43 0), z, (r 123), (.int 46 0), z, (r 130), (.int 48 0), z, (r 137), (.int 58 0), z, (r 172), (.int 62 0), z, (r 191), (.int 76 0), z, (r 231)]
noncomputable def a162_3 : Obj := ⟨(y l5), none, (.cls ⟨x39, [(y l10)], [(r 162), (y l10)], 161, x39, true, [], [(r 183), (r 223), (r 263)], false, none, false⟩), #[none, none, (some (s x39 348)), (some (s x39 356)), (some (.builtin l17)), (some (.bool true))]⟩
noncomputable def a226_0 : Obj := Q (y l0) #[(r 162)]
noncomputable def a227_0 : Obj := F (y l6) #[(.builtin l4), (y l5)]
noncomputable def a228_0 (P : Params) : Obj := ⟨(y l7), none, (.dict #[e P x6 467 (s x15 315), e P x7 469 (s x60 468), e P x8 471 (.int 76 470), e P x55 480 (r 239), e P x52 487 (r 246), e P x42 497 (r 253), e P x44 504 (r 260), e P x9 507 (r 261)] 8), #[]⟩
noncomputable def a229_0 : Obj := Q (y l0) #[]
noncomputable def a230_0 : Obj := F v #[(.int 78 0), (.int 4 0), (r 238), (.int 84 0), (.int 4 0), (r 245), (.int 87 0), (.int 4 0), (r 252), (.int 92 0), (.int 4 0), (r 259)]
noncomputable def a231_0 : Obj := F (y l1) #[(s x60 462), (s x60 463), (s x1 464), (.int 76 0), z, z, z, z, (r 229), (.bool false), (.int 181 0), (r 230), v, v, v, v, (.int 465 0), (.int 76 0), (s x1 466)]
noncomputable def a232_0 : Obj := ⟨(y l2), none, .plain, #[(some (r 231)), (some (r 3)), (some (r 228)), none, (some (s x15 315)), none, (some (r 0))]⟩
noncomputable def a233_0 : Obj := Q (y l0) #[]
noncomputable def a234_0 : Obj := F v #[]
noncomputable def a235_0 : Obj := Q (y l0) #[(s x45 475), (s x40 476), (s x41 477)]
noncomputable def a236_0 : Obj := Q (y l0) #[]
noncomputable def a237_0 : Obj := ⟨v, none, (fo (g2 23 0) x61 0 [] v v v v none v v 0), #[]⟩
noncomputable def a238_0 : Obj := F (y l1) #[(s x55 472), (s x61 473), (s x1 474), (.int 78 0), (.int 3 0), z, z, (.int 3 0), (r 233), (.bool true), (.int 181 0), (r 234), v, (r 235), (r 236), (r 237), (.int 478 0), (.int 78 0), (s x1 479)]
noncomputable def a239_0 : Obj := ⟨(y l16), none, (fo (g2 23 0) x61 3 [] v v v (s x15 315) none (r 238) v 0), #[]⟩
noncomputable def a240_0 : Obj := Q (y l0) #[]
noncomputable def a241_0 : Obj := F v #[]
noncomputable def a242_0 : Obj := Q (y l0) #[(s x45 484)]
noncomputable def a243_0 : Obj := Q (y l0) #[]
noncomputable def a244_0 : Obj := ⟨v, none, (fo (g2 23 1) x62 0 [] v v v v none v v 0), #[]⟩
noncomputable def a245_0 : Obj := F (y l1) #[(s x52 481), (s x62 482), (s x1 483), (.int 84 0), (.int 1 0), z, z, (.int 3 0), (r 240), (.bool true), (.int 181 0), (r 241), v, (r 242), (r 243), (r 244), (.int 485 0), (.int 84 0), (s x1 486)]
noncomputable def a246_0 : Obj := ⟨(y l16), none, (fo (g2 23 1) x62 3 [] v v v (s x15 315) none (r 245) v 0), #[]⟩
noncomputable def a247_0 : Obj := Q (y l0) #[]
noncomputable def a248_0 : Obj := F v #[]
noncomputable def a249_0 : Obj := Q (y l0) #[(s x45 491), (s x46 492), (s x63 493), (s x64 494)]
noncomputable def a250_0 : Obj := Q (y l0) #[]
noncomputable def a251_0 : Obj := ⟨v, none, (fo (g2 23 2) x65 0 [] v v v v none v v 0), #[]⟩
noncomputable def a252_0 : Obj := F (y l1) #[(s x42 488), (s x65 489), (s x1 490), (.int 87 0), (.int 2 0), z, z, (.int 3 0), (r 247), (.bool true), (.int 181 0), (r 248), v, (r 249), (r 250), (r 251), (.int 495 0), (.int 87 0), (s x1 496)]
noncomputable def a253_0 : Obj := ⟨(y l16), none, (fo (g2 23 2) x65 3 [] v v v (s x15 315) none (r 252) v 0), #[]⟩
noncomputable def a254_0 : Obj := Q (y l0) #[]
noncomputable def a255_0 : Obj := F v #[]
noncomputable def a256_0 : Obj := Q (y l0) #[(s x45 501)]
noncomputable def a257_0 : Obj := Q (y l0) #[]
noncomputable def a258_0 : Obj := ⟨v, none, (fo (g2 23 3) x66 0 [] v v v v none v v 0), #[]⟩
noncomputable def a259_0 : Obj := F (y l1) #[(s x44 498), (s x66 499), (s x1 500), (.int 92 0), (.int 1 0), z, z, (.int 3 0), (r 254), (.bool true), (.int 181 0), (r 255), v, (r 256), (r 257), (r 258), (.int 502 0), (.int 92 0), (s x1 503)]
noncomputable def a260_0 : Obj := ⟨(y l16), none, (fo (g2 23 3) x66 3 [] v v v (s x15 315) none (r 259) v 0), #[]⟩
noncomputable def a261_0 : Obj := Q (y l0) #[(s x41 505), (s x40 506)]
noncomputable def a262_0 (P : Params) : Obj := ⟨(y l7), none, (.dict #[e P x6 467 (s x15 315), e P x8 471 (.int 76 470), e P x55 480 (r 239), e P x52 487 (r 246), e P x42 497 (r 253), e P x44 504 (r 260), e P x9 507 (r 261), e P x11 508 v] 2), #[]⟩
noncomputable def a263_0 : Obj := ⟨(y l5), none, (.cls ⟨x60, [(r 162)], [(r 263), (r 162), (y l10)], 262, x60, true, [], [], false, none, false⟩), #[(some (r 226)), none, (some (s x60 460)), (some (s x60 468)), (some (.builtin l17)), (some (.bool true))]⟩
noncomputable def a264_0 : Obj := F (y l14) #[(r 263), (r 263), (r 263)]
noncomputable def a265_0 : Obj := F (y l6) #[(.builtin l15), (r 263)]
noncomputable def T10 (P : Params) : BT := (I (I (I (I (I (I (I (I (I (I (I (I (I (I (I (I (I (I (I (I (I (I (I (I (I (I (I (I (I (I (I (I (I (I (I (I (I (I (I (I (I (I (I (T9 P) 3 (a3_8 P)) 12 a12_9) 162 a162_3) 226 a226_0) 227 a227_0) 228 (a228_0 P)) 229 a229_0) 230 a230_0) 231 a231_0) 232 a232_0) 233 a233_0) 234 a234_0) 235 a235_0) 236 a236_0) 237 a237_0) 238 a238_0) 239 a239_0) 240 a240_0) 241 a241_0) 242 a242_0) 243 a243_0) 244 a244_0) 245 a245_0) 246 a246_0) 247 a247_0) 248 a248_0) 249 a249_0) 250 a250_0) 251 a251_0) 252 a252_0) 253 a253_0) 254 a254_0) 255 a255_0) 256 a256_0) 257 a257_0) 258 a258_0) 259 a259_0) 260 a260_0) 261 a261_0) 262 (a262_0 P)) 263 a263_0) 264 a264_0) 265 a265_0)
noncomputable def S10 (P : Params) (os : OsState) : SharedT := ⟨T10 P, 266, lf, #[], ⟨0, 0, 0, 0⟩, 511, os⟩
noncomputable def a3_9 (P : Params) : Obj := ud (a3_8 P) [] [e P x67 557 (r 303)] 31
noncomputable def a12_10 : Obj := F v #[(.int 2 0), z, (r 20), (.int 4 0), z, (r 33), (.int 6 0), z, (r 45), (.int 8 0), z, (r 57), (.int 10 0), z, (r 69), (.int 15 0), z, (r 83), (.int 23 0), z, (r 90), (.int 30 0), z, (r 97), (.int 32 0), z, (r 104), (.int 37 0), z, (r 111), (.int 40 0), z, (r 118), (.int 43 0), z, (r 123), (.int 46 0), z, (r 130), (.int 48 0), z, (r 137), (.int 58 0), z, (r 172), (.int 62 0), z, (r 191), (.int 76 0), z, (r 231), (.int 94 0), z, (r 271)]
noncomputable def a162_4 : Obj := ⟨(y l5), none, (.cls ⟨x39, [(y l10)], [(r 162), (y l10)], 161, x39, true, [], [(r 183), (r 223), (r 263), (r 303)], false, none, false⟩), #[none, none, (some (s x39 348)), (some (s x39 356)), (some (.builtin l17)), (some (.bool true))]⟩
noncomputable def a266_0 : Obj := Q (y l0) #[(r 162)]
noncomputable def a267_0 : Obj := F (y l6) #[(.builtin l4), (y l5)]
noncomputable def a268_0 (P : Params) : Obj := ⟨(y l7), none, (.dict #[e P x6 518 (s x15 315), e P x7 520 (s x67 519), e P x8 522 (.int 94 521), e P x55 530 (r 279), e P x52 537 (r 286), e P x42 545 (r 293), e P x43 552 (r 300), e P x9 554 (r 301)] 8), #[]⟩
noncomputable def a269_0 : Obj := Q (y l0) #[]
noncomputable def a270_0 : Obj := F v #[(.int 96 0), (.int 4 0), (r 278), (.int 100 0), (.int 4 0), (r 285), (.int 103 0), (.int 4 0), (r 292), (.int 106 0), (.int 4 0), (r 299)]
noncomputable def a271_0 : Obj := F (y l1) #[(s x67 513), (s x67 514), (s x1 515), (.int 94 0), z, z, z, z, (r 269), (.bool false), (.int 181 0), (r 270), v, v, v, v, (.int 516 0), (.int 94 0), (s x1 517)]
noncomputable def a272_0 : Obj := ⟨(y l2), none, .plain, #[(some (r 271)), (some (r 3)), (some (r 268)), none, (some (s x15 315)), none, (some (r 0))]⟩
noncomputable def a273_0 : Obj := Q (y l0) #[]
noncomputable def a274_0 : Obj := F v #[]
noncomputable def a275_0 : Obj := Q (y l0) #[(s x45 526), (s x41 527)]
noncomputable def a276_0 : Obj := Q (y l0) #[]
noncomputable def a277_0 : Obj := ⟨v, none, (fo (g2 24 0) x68 0 [] v v v v none v v 0), #[]⟩
noncomputable def a278_0 : Obj := F (y l1) #[(s x55 523), (s x68 524), (s x1 525), (.int 96 0), (.int 2 0), z, z, (.int 3 0), (r 273), (.bool true), (.int 181 0), (r 274), v, (r 275), (r 276), (r 277), (.int 528 0), (.int 96 0), (s x1 529)]
noncomputable def a279_0 : Obj := ⟨(y l16), none, (fo (g2 24 0) x68 3 [] v v v (s x15 315) none (r 278) v 0), #[]⟩
noncomputable def a280_0 : Obj := Q (y l0) #[]
noncomputable def a281_0 : Obj := F v #[]
noncomputable def a282_0 : Obj := Q (y l0) #[(s x45 534)]
noncomputable def a283_0 : Obj := Q (y l0) #[]
noncomputable def a284_0 : Obj := ⟨v, none, (fo (g2 24 1) x69 0 [] v v v v none v v 0), #[]⟩
noncomputable def a285_0 : Obj := F (y l1) #[(s x52 531), (s x69 532), (s x1 533), (.int 100 0), (.int 1 0), z, z, (.int 3 0), (r 280), (.bool true), (.int 181 0), (r 281), v, (r 282), (r 283), (r 284), (.int 535 0), (.int 100 0), (s x1 536)]
noncomputable def a286_0 : Obj := ⟨(y l16), none, (fo (g2 24 1) x69 3 [] v v v (s x15 315) none (r 285) v 0), #[]⟩
noncomputable def a287_0 : Obj := Q (y l0) #[]
noncomputable def a288_0 : Obj := F v #[]
noncomputable def a289_0 : Obj := Q (y l0) #[(s x45 541), (s x46 542)]
noncomputable def a290_0 : Obj := Q (y l0) #[]
noncomputable def a291_0 : Obj := ⟨v, none, (fo (g2 24 2) x70 0 [] v v v v none v v 0), #[]⟩
noncomputable def a292_0 : Obj := F (y l1) #[(s x42 538), (s x70 539), (s x1 540), (.int 103 0), (.int 2 0), z, z, (.int 3 0), (r 287), (.bool true), (.int 181 0), (r 288), v, (r 289), (r 290), (r 291), (.int 543 0), (.int 103 0), (s x1 544)]
noncomputable def a293_0 : Obj := ⟨(y l16), none, (fo (g2 24 2) x70 3 [] v v v (s x15 315) none (r 292) v 0), #[]⟩
noncomputable def a294_0 : Obj := Q (y l0) #[]
noncomputable def a295_0 : Obj := F v #[]
noncomputable def a296_0 : Obj := Q (y l0) #[(s x45 549)]
noncomputable def a297_0 : Obj := Q (y l0) #[]
noncomputable def a298_0 : Obj := ⟨v, none, (fo (g2 24 3) x71 0 [] v v v v none v v 0), #[]⟩
noncomputable def a299_0 : Obj := F (y l1) #[(s x43 546), (s x71 547), (s x1 548), (.int 106 0), (.int 1 0), z, z, (.int 3 0), (r 294), (.bool true), (.int 181 0), (r 295), v, (r 296), (r 297), (r 298), (.int 550 0), (.int 106 0), (s x1 551)]
noncomputable def a300_0 : Obj := ⟨(y l16), none, (fo (g2 24 3) x71 3 [] v v v (s x15 315) none (r 299) v 0), #[]⟩
noncomputable def a301_0 : Obj := Q (y l0) #[(s x41 553)]
noncomputable def a302_0 (P : Params) : Obj := ⟨(y l7), none, (.dict #[e P x6 518 (s x15 315), e P x8 522 (.int 94 521), e P x55 530 (r 279), e P x52 537 (r 286), e P x42 545 (r 293), e P x43 552 (r 300), e P x9 554 (r 301), e P x11 555 v] 2), #[]⟩
noncomputable def a303_0 : Obj := ⟨(y l5), none, (.cls ⟨x67, [(r 162)], [(r 303), (r 162), (y l10)], 302, x67, true, [], [], false, none, false⟩), #[(some (r 266)), none, (some (s x67 511)), (some (s x67 519)), (some (.builtin l17)), (some (.bool true))]⟩
noncomputable def a304_0 : Obj := F (y l14) #[(r 303), (r 303), (r 303)]
noncomputable def a305_0 : Obj := F (y l6) #[(.builtin l15), (r 303)]
noncomputable def T11 (P : Params) : BT := (I (I (I (I (I (I (I (I (I (I (I (I (I (I (I (I (I (I (I (I (I (I (I (I (I (I (I (I (I (I (I (I (I (I (I (I (I (I (I (I (I (I (I (T10 P) 3 (a3_9 P)) 12 a12_10) 162 a162_4) 266 a266_0) 267 a267_0) 268 (a268_0 P)) 269 a269_0) 270 a270_0) 271 a271_0) 272 a272_0) 273 a273_0) 274 a274_0) 275 a275_0) 276 a276_0) 277 a277_0) 278 a278_0) 279 a279_0) 280 a280_0) 281 a281_0) 282 a282_0) 283 a283_0) 284 a284_0) 285 a285_0) 286 a286_0) 287 a287_0) 288 a288_0) 289 a289_0) 290 a290_0) 291 a291_0) 292 a292_0) 293 a293_0) 294 a294_0) 295 a295_0) 296 a296_0) 297 a297_0) 298 a298_0) 299 a299_0) 300 a300_0) 301 a301_0) 302 (a302_0 P)) 303 a303_0) 304 a304_0) 305 a305_0)
noncomputable def S11 (P : Params) (os : OsState) : SharedT := ⟨T11 P, 306, lf, #[], ⟨0, 0, 0, 0⟩, 558, os⟩
noncomputable def a3_10 (P : Params) : Obj := ud (a3_9 P) [] [e P x72 595 (r 336)] 32
noncomputable def a12_11 : Obj := F v #[(.int 2 0), z, (r 20), (.int 4 0), z, (r 33), (.int 6 0), z, (r 45), (.int 8 0), z, (r 57), (.int 10 0), z, (r 69), (.int 15 0), z, (r 83), (.int 23 0), z, (r 90), (.int 30 0), z, (r 97), (.int 32 0), z, (r 104), (.int 37 0), z, (r 111), (.int 40 0), z, (r 118), (.int 43 0), z, (r 123), (.int 46 0), z, (r 130), (.int 48 0), z, (r 137), (.int 58 0), z, (r 172), (.int 62 0), z, (r 191), (.int 76 0), z, (r 231), (.int 94 0), z, (r 271), (.int 108 0), z, (r 311)]
noncomputable def a162_5 : Obj := ⟨(y l5), none, (.cls ⟨x39, [(y l10)], [(r 162), (y l10)], 161, x39, true, [], [(r 183), (r 223), (r 263), (r 303), (r 336)], false, none, false⟩), #[none, none, (some (s x39 348)), (some (s x39 356)), (some (.builtin l17)), (some (.bool true))]⟩
noncomputable def a306_0 : Obj := Q (y l0) #[(r 162)]
noncomputable def a307_0 : Obj := F (y l6) #[(.builtin l4), (y l5)]
noncomputable def a308_0 (P : Params) : Obj := ⟨(y l7), none, (.dict #[e P x6 565 (s x15 315), e P x7 567 (s x72 566), e P x8 569 (.int 108 568), e P x52 576 (r 319), e P x42 584 (r 326), e P x43 591 (r 333), e P x9 592 (r 334)] 7), #[]⟩
noncomputable def a309_0 : Obj := Q (y l0) #[]
noncomputable def a310_0 : Obj := F v #[(.int 110 0), (.int 4 0), (r 318), (.int 113 0), (.int 4 0), (r 325), (.int 116 0), (.int 4 0), (r 332)]
noncomputable def a311_0 : Obj := F (y l1) #[(s x72 560), (s x72 561), (s x1 562), (.int 108 0), z, z, z, z, (r 309), (.bool false), (.int 181 0), (r 310), v, v, v, v, (.int 563 0), (.int 108 0), (s x1 564)]
noncomputable def a312_0 : Obj := ⟨(y l2), none, .plain, #[(some (r 311)), (some (r 3)), (some (r 308)), none, (some (s x15 315)), none, (some (r 0))]⟩
noncomputable def a313_0 : Obj := Q (y l0) #[]
noncomputable def a314_0 : Obj := F v #[]
noncomputable def a315_0 : Obj := Q (y l0) #[(s x45 573)]
noncomputable def a316_0 : Obj := Q (y l0) #[]
noncomputable def a317_0 : Obj := ⟨v, none, (fo (g2 25 0) x73 0 [] v v v v none v v 0), #[]⟩
noncomputable def a318_0 : Obj := F (y l1) #[(s x52 570), (s x73 571), (s x1 572), (.int 110 0), (.int 1 0), z, z, (.int 3 0), (r 313), (.bool true), (.int 181 0), (r 314), v, (r 315), (r 316), (r 317), (.int 574 0), (.int 110 0), (s x1 575)]
noncomputable def a319_0 : Obj := ⟨(y l16), none, (fo (g2 25 0) x73 3 [] v v v (s x15 315) none (r 318) v 0), #[]⟩
noncomputable def a320_0 : Obj := Q (y l0) #[]
noncomputable def a321_0 : Obj := F v #[]
noncomputable def a322_0 : Obj := Q (y l0) #[(s x45 580), (s x46 581)]
noncomputable def a323_0 : Obj := Q (y l0) #[]
noncomputable def a324_0 : Obj := ⟨v, none, (fo (g2 25 1) x74 0 [] v v v v none v v 0), #[]⟩
noncomputable def a325_0 : Obj := F (y l1) #[(s x42 577), (s x74 578), (s x1 579), (.int 113 0), (.int 2 0), z, z, (.int 3 0), (r 320), (.bool true), (.int 181 0), (r 321), v, (r 322), (r 323), (r 324), (.int 582 0), (.int 113 0), (s x1 583)]
noncomputable def a326_0 : Obj := ⟨(y l16), none, (fo (g2 25 1) x74 3 [] v v v (s x15 315) none (r 325) v 0), #[]⟩
noncomputable def a327_0 : Obj := Q (y l0) #[]
noncomputable def a328_0 : Obj := F v #[]
noncomputable def a329_0 : Obj := Q (y l0) #[(s x45 588)]
noncomputable def a330_0 : Obj := Q (y l0) #[]
noncomputable def a331_0 : Obj := ⟨v, none, (fo (g2 25 2) x75 0 [] v v v v none v v 0), #[]⟩
noncomputable def a332_0 : Obj := F (y l1) #[(s x43 585), (s x75 586), (s x1 587), (.int 116 0), (.int 1 0), z, z, (.int 3 0), (r 327), (.bool true), (.int 181 0), (r 328), v, (r 329), (r 330), (r 331), (.int 589 0), (.int 116 0), (s x1 590)]
noncomputable def a333_0 : Obj := ⟨(y l16), none, (fo (g2 25 2) x75 3 [] v v v (s x15 315) none (r 332) v 0), #[]⟩
noncomputable def a334_0 : Obj := Q (y l0) #[]
noncomputable def a335_0 (P : Params) : Obj := ⟨(y l7), none, (.dict #[e P x6 565 (s x15 315), e P x8 569 (.int 108 568), e P x52 576 (r 319), e P x42 584 (r 326), e P x43 591 (r 333), e P x9 592 (r 334), e P x11 593 v] 2), #[]⟩
noncomputable def a336_0 : Obj := ⟨(y l5), none, (.cls ⟨x72, [(r 162)], [(r 336), (r 162), (y l10)], 335, x72, true, [], [], false, none, false⟩), #[(some (r 306)), none, (some (s x72 558)), (some (s x72 566)), (some (.builtin l17)), (some (.bool true))]⟩
noncomputable def a337_0 : Obj := F (y l14) #[(r 336), (r 336), (r 336)]
noncomputable def a338_0 : Obj := F (y l6) #[(.builtin l15), (r 336)]
noncomputable def T12 (P : Params) : BT := (I (I (I (I (I (I (I (I (I (I (I (I (I (I (I (I (I (I (I (I (I (I (I (I (I (I (I (I (I (I (I (I (I (I (I (I (T11 P) 3 (a3_10 P)) 12 a12_11) 162 a162_5) 306 a306_0) 307 a307_0) 308 (a308_0 P)) 309 a309_0) 310 a310_0) 311 a311_0) 312 a312_0) 313 a313_0) 314 a314_0) 315 a315_0) 316 a316_0) 317 a317_0) 318 a318_0) 319 a319_0) 320 a320_0) 321 a321_0) 322 a322_0) 323 a323_0) 324 a324_0) 325 a325_0) 326 a326_0) 327 a327_0) 328 a328_0) 329 a329_0) 330 a330_0) 331 a331_0) 332 a332_0) 333 a333_0) 334 a334_0) 335 (a335_0 P)) 336 a336_0) 337 a337_0) 338 a338_0)
noncomputable def S12 (P : Params) (os : OsState) : SharedT := ⟨T12 P, 339, lf, #[], ⟨0, 0, 0, 0⟩, 596, os⟩
noncomputable def a3_11 (P : Params) : Obj := ud (a3_10 P) [(0, e P x3 165 (s x76 628))] [e P x77 627 (r 362), e P x78 639 (r 371), e P x79 647 (r 378), e P x80 654 (r 385)] 36
noncomputable def a12_12 : Obj := F v #[(.int 2 0), z, (r 20), (.int 4 0), z, (r 33), (.int 6 0), z, (r 45), (.int 8 0), z, (r 57), (.int 10 0), z, (r 69), (.int 15 0), z, (r 83), (.int 23 0), z, (r 90), (.int 30 0), z, (r 97), (.int 32 0), z, (r 104), (.int 37 0), z, (r 111), (.int 40 0), z, (r 118), (.int 43 0), z, (r 123), (.int 46 0), z, (r 130), (.int 48 0), z, (r 137), (.int 58 0), z, (r 172), (.int 62 0), z, (r 191), (.int 76 0), z, (r 231), (.int 94 0), z, (r 271), (.int 108 0), z, (r 311), (.int 118 0), z, (r 344), (.int 127 0), z, (r 370), (.int 133 0), z, (r 377), (.int 136 0), z, (r 384)]
noncomputable def a162_6 : Obj := ⟨(y l5), none, (.cls ⟨x39, [(y l10)], [(r 162), (y l10)], 161, x39, true, [], [(r 183), (r 223), (r 263), (r 303), (r 336), (r 362)], false, none, false⟩), #[none, none, (some (s x39 348)), (some (s x39 356)), (some (.builtin l17)), (some (.bool true))]⟩
noncomputable def a339_0 : Obj := Q (y l0) #[(r 162)]
noncomputable def a340_0 : Obj := F (y l6) #[(.builtin l4), (y l5)]
noncomputable def a341_0 (P : Params) : Obj := ⟨(y l7), none, (.dict #[e P x6 603 (s x15 315), e P x7 605 (s x77 604), e P x8 607 (.int 118 606), e P x55 615 (r 352), e P x52 622 (r 359), e P x9 624 (r 360)] 6), #[]⟩
noncomputable def a342_0 : Obj := Q (y l0) #[]
noncomputable def a343_0 : Obj := F v #[(.int 120 0), (.int 4 0), (r 351), (.int 124 0), (.int 4 0), (r 358)]
noncomputable def a344_0 : Obj := F (y l1) #[(s x77 598), (s x77 599), (s x1 600), (.int 118 0), z, z, z, z, (r 342), (.bool false), (.int 181 0), (r 343), v, v, v, v, (.int 601 0), (.int 118 0), (s x1 602)]
noncomputable def a345_0 : Obj := ⟨(y l2), none, .plain, #[(some (r 344)), (some (r 3)), (some (r 341)), none, (some (s x15 315)), none, (some (r 0))]⟩
noncomputable def a346_0 : Obj := Q (y l0) #[]
noncomputable def a347_0 : Obj := F v #[]
noncomputable def a348_0 : Obj := Q (y l0) #[(s x45 611), (s x81 612)]
noncomputable def a349_0 : Obj := Q (y l0) #[]
noncomputable def a350_0 : Obj := ⟨v, none, (fo (g2 26 0) x82 0 [] v v v v none v v 0), #[]⟩
noncomputable def a351_0 : Obj := F (y l1) #[(s x55 608), (s x82 609), (s x1 610), (.int 120 0), (.int 2 0), z, z, (.int 3 0), (r 346), (.bool true), (.int 181 0), (r 347), v, (r 348), (r 349), (r 350), (.int 613 0), (.int 120 0), (s x1 614)]
noncomputable def a352_0 : Obj := ⟨(y l16), none, (fo (g2 26 0) x82 3 [] v v v (s x15 315) none (r 351) v 0), #[]⟩
noncomputable def a353_0 : Obj := Q (y l0) #[]
noncomputable def a354_0 : Obj := F v #[]
noncomputable def a355_0 : Obj := Q (y l0) #[(s x45 619)]
noncomputable def a356_0 : Obj := Q (y l0) #[]
noncomputable def a357_0 : Obj := ⟨v, none, (fo (g2 26 1) x83 0 [] v v v v none v v 0), #[]⟩
noncomputable def a358_0 : Obj := F (y l1) #[(s x52 616), (s x83 617), (s x1 618), (.int 124 0), (.int 1 0), z, z, (.int 3 0), (r 353), (.bool true), (.int 181 0), (r 354), v, (r 355), (r 356), (r 357), (.int 620 0), (.int 124 0), (s x1 621)]
noncomputable def a359_0 : Obj := ⟨(y l16), none, (fo (g2 26 1) x83 3 [] v v v (s x15 315) none (r 358) v 0), #[]⟩
noncomputable def a360_0 : Obj := Q (y l0) #[(s x81 623)]
noncomputable def a361_0 (P : Params) : Obj := ⟨(y l7), none, (.dict #[e P x6 603 (s x15 315), e P x8 607 (.int 118 606), e P x55 615 (r 352), e P x52 622 (r 359), e P x9 624 (r 360), e P x11 625 v] 2), #[]⟩
noncomputable def a362_0 : Obj := ⟨(y l5), none, (.cls ⟨x77, [(r 162)], [(r 362), (r 162), (y l10)], 361, x77, true, [], [], false, none, false⟩), #[(some (r 339)), none, (some (s x77 596)), (some (s x77 604)), (some (.builtin l17)), (some (.bool true))]⟩
noncomputable def a363_0 : Obj := F (y l14) #[(r 362), (r 362), (r 362)]
noncomputable def a364_0 : Obj := F (y l6) #[(.builtin l15), (r 362)]
noncomputable def a365_0 : Obj := Q (y l0) #[]
noncomputable def a366_0 : Obj := F v #[]
noncomputable def a367_0 : Obj := Q (y l0) #[(s x84 633), (s x85 634), (s x86 635), (s x87 636)]
noncomputable def a368_0 : Obj := Q (y l0) #[]
noncomputable def a369_0 : Obj := ⟨v, none, (fo (g1 28) x78 0 [] v v v v none v v 0), #[]⟩
noncomputable def a370_0 : Obj := F (y l1) #[(s x78 630), (s x78 631), (s x1 632), (.int 127 0), (.int 2 0), z, z, (.int 3 0), (r 365), (.bool true), (.int 181 0), (r 366), v, (r 367), (r 368), (r 369), (.int 637 0), (.int 127 0), (s x1 638)]
noncomputable def a371_0 : Obj := ⟨(y l16), none, (fo (g1 28) x78 3 [] v v v (s x76 628) none (r 370) v 0), #[]⟩
noncomputable def a372_0 : Obj := Q (y l0) #[]
noncomputable def a373_0 : Obj := F v #[]
noncomputable def a374_0 : Obj := Q (y l0) #[(s x88 643), (s x85 644)]
noncomputable def a375_0 : Obj := Q (y l0) #[]
noncomputable def a376_0 : Obj := ⟨v, none, (fo (g1 29) x79 0 [] v v v v none v v 0), #[]⟩
noncomputable def a377_0 : Obj := F (y l1) #[(s x79 640), (s x79 641), (s x1 642), (.int 133 0), (.int 1 0), z, z, (.int 3 0), (r 372), (.bool true), (.int 181 0), (r 373), v, (r 374), (r 375), (r 376), (.int 645 0), (.int 133 0), (s x1 646)]
noncomputable def a378_0 : Obj := ⟨(y l16), none, (fo (g1 29) x79 3 [] v v v (s x76 628) none (r 377) v 0), #[]⟩
noncomputable def a379_0 : Obj := Q (y l0) #[]
noncomputable def a380_0 : Obj := F v #[]
noncomputable def a381_0 : Obj := Q (y l0) #[(s x88 651)]
noncomputable def a382_0 : Obj := Q (y l0) #[]
noncomputable def a383_0 : Obj := ⟨v, none, (fo (g1 30) x80 0 [] v v v v none v v 0), #[]⟩
noncomputable def a384_0 : Obj := F (y l1) #[(s x80 648), (s x80 649), (s x1 650), (.int 136 0), (.int 1 0), z, z, (.int 3 0), (r 379), (.bool true), (.int 181 0), (r 380), v, (r 381), (r 382), (r 383), (.int 652 0), (.int 136 0), (s x1 653)]
noncomputable def a385_0 : Obj := ⟨(y l16), none, (fo (g1 30) x80 3 [] v v v (s x76 628) none (r 384) v 0), #[]⟩
noncomputable def T13 (P : Params) : BT := (I (I (I (I (I (I (I (I (I (I (I (I (I (I (I (I (I (I (I (I (I (I (I (I (I (I (I (I (I (I (I (I (I (I (I (I (I (I (I (I (I (I (I (I (I (I (I (I (I (I (T12 P) 3 (a3_11 P)) 12 a12_12) 162 a162_6) 339 a339_0) 340 a340_0) 341 (a341_0 P)) 342 a342_0) 343 a343_0) 344 a344_0) 345 a345_0) 346 a346_0) 347 a347_0) 348 a348_0) 349 a349_0) 350 a350_0) 351 a351_0) 352 a352_0) 353 a353_0) 354 a354_0) 355 a355_0) 356 a356_0) 357 a357_0) 358 a358_0) 359 a359_0) 360 a360_0) 361 (a361_0 P)) 362 a362_0) 363 a363_0) 364 a364_0) 365 a365_0) 366 a366_0) 367 a367_0) 368 a368_0) 369 a369_0) 370 a370_0) 371 a371_0) 372 a372_0) 373 a373_0) 374 a374_0) 375 a375_0) 376 a376_0) 377 a377_0) 378 a378_0) 379 a379_0) 380 a380_0) 381 a381_0) 382 a382_0) 383 a383_0) 384 a384_0) 385 a385_0)
noncomputable def S13 (P : Params) (os : OsState) : SharedT := ⟨T13 P, 386, lf, #[], ⟨0, 0, 0, 0⟩, 655, os⟩
noncomputable def a3_12 (P : Params) : Obj := ud (a3_11 P) [] [e P x89 663 (r 392), e P x90 673 (r 399), e P x91 685 (r 406), e P x92 691 (r 411), e P x93 704 (r 418)] 41
noncomputable def a12_13 : Obj := F v #[(.int 2 0), z, (r 20), (.int 4 0), z, (r 33), (.int 6 0), z, (r 45), (.int 8 0), z, (r 57), (.int 10 0), z, (r 69), (.int 15 0), z, (r 83), (.int 23 0), z, (r 90), (.int 30 0), z, (r 97), (.int 32 0), z, (r 104), (.int 37 0), z, (r 111), (.int 40 0), z, (r 118), (.int 43 0), z, (r 123), (.int 46 0), z, (r 130), (.int 48 0), z, (r 137), (.int 58 0), z, (r 172), (.int 62 0), z, (r 191), (.int 76 0), z, (r 231), (.int 94 0), z, (r 271), (.int 108 0), z, (r 311), (.int 118 0), z, (r 344), (.int 127 0), z, (r 370), (.int 133 0), z, (r 377), (.int 136 0), z, (r 384), (.int 138 0), z, (r 391), (.int 142 0), z, (r 398), (.int 147 0), z, (r 405), (.int 161 0), z, (r 410), (.int 172 0), z, (r 417)]
noncomputable def a386_0 : Obj := Q (y l0) #[]
noncomputable def a387_0 : Obj := F v #[]
noncomputable def a388_0 : Obj := Q (y l0) #[(s x88 658), (s x94 659), (s x95 660)]
noncomputable def a389_0 : Obj := Q (y l0) #[]
noncomputable def a390_0 : Obj := ⟨v, none, (fo (g1 31) x89 0 [] v v v v none v v 0), #[]⟩
noncomputable def a391_0 : Obj := F (y l1) #[(s x89 655), (s x89 656), (s x1 657), (.int 138 0), (.int 1 0), z, z, (.int 3 0), (r 386), (.bool true), (.int 181 0), (r 387), v, (r 388), (r 389), (r 390), (.int 661 0), (.int 138 0), (s x1 662)]
noncomputable def a392_0 : Obj := ⟨(y l16), none, (fo (g1 31) x89 3 [] v v v (s x76 628) none (r 391) v 0), #[]⟩
noncomputable def a393_0 : Obj := Q (y l0) #[]
noncomputable def a394_0 : Obj := F v #[]
noncomputable def a395_0 : Obj := Q (y l0) #[(s x88 667), (s x96 668), (s x97 669), (s x98 670)]
noncomputable def a396_0 : Obj := Q (y l0) #[]
noncomputable def a397_0 : Obj := ⟨v, none, (fo (g1 32) x90 0 [] v v v v none v v 0), #[]⟩
noncomputable def a398_0 : Obj := F (y l1) #[(s x90 664), (s x90 665), (s x1 666), (.int 142 0), (.int 1 0), z, z, (.int 3 0), (r 393), (.bool true), (.int 181 0), (r 394), v, (r 395), (r 396), (r 397), (.int 671 0), (.int 142 0), (s x1 672)]
noncomputable def a399_0 : Obj := ⟨(y l16), none, (fo (g1 32) x90 3 [] v v v (s x76 628) none (r 398) v 0), #[]⟩
noncomputable def a400_0 : Obj := Q (y l0) #[]
noncomputable def a401_0 : Obj := F v #[]
noncomputable def a402_0 : Obj := Q (y l0) #[(s x99 677), (s x100 678), (s x101 679), (s x102 680), (s x103 681), (s x104 682)]
noncomputable def a403_0 : Obj := Q (y l0) #[]
noncomputable def a404_0 : Obj := ⟨v, none, (fo (g1 33) x91 0 [] v v v v none v v 0), #[]⟩
noncomputable def a405_0 : Obj := F (y l1) #[(s x91 674), (s x91 675), (s x1 676), (.int 147 0), (.int 4 0), z, z, (.int 3 0), (r 400), (.bool true), (.int 181 0), (r 401), v, (r 402), (r 403), (r 404), (.int 683 0), (.int 147 0), (s x1 684)]
noncomputable def a406_0 : Obj := ⟨(y l16), none, (fo (g1 33) x91 3 [] v v v (s x76 628) none (r 405) v 0), #[]⟩
noncomputable def a407_0 : Obj := Q (y l0) #[]
noncomputable def a408_0 : Obj := F v #[]
noncomputable def a409_0 : Obj := ⟨v, none, (fo (g1 34) x92 0 [] v v v v none v v 0), #[]⟩
noncomputable def a410_0 : Obj := F (y l1) #[(s x92 686), (s x92 687), (s x1 688), (.int 161 0), (.int 1 0), z, z, (.int 3 0), (r 407), (.bool true), (.int 181 0), (r 408), v, v, v, (r 409), (.int 689 0), (.int 161 0), (s x1 690)]
noncomputable def a411_0 : Obj := ⟨(y l16), none, (fo (g1 34) x92 3 [] v v v (s x76 628) none (r 410) v 0), #[]⟩
noncomputable def a412_0 : Obj := Q (y l0) #[]
noncomputable def a413_0 : Obj := F v #[]
noncomputable def a414_0 : Obj := Q (y l0) #[(s x105 695), (s x106 696), (s x100 697), (s x101 698), (s x107 699), (s x108 700), (s x88 701)]
noncomputable def a415_0 : Obj := Q (y l0) #[]
noncomputable def a416_0 : Obj := ⟨v, none, (fo (g1 35) x93 0 [] v v v v none v v 0), #[]⟩
noncomputable def a417_0 : Obj := F (y l1) #[(s x93 692), (s x93 693), (s x1 694), (.int 172 0), (.int 1 0), z, z, (.int 3 0), (r 412), (.bool true), (.int 181 0), (r 413), v, (r 414), (r 415), (r 416), (.int 702 0), (.int 172 0), (s x1 703)]
noncomputable def a418_0 : Obj := ⟨(y l16), none, (fo (g1 35) x93 3 [] v v v (s x76 628) none (r 417) v 0), #[]⟩
noncomputable def T14 (P : Params) : BT := (I (I (I (I (I (I (I (I (I (I (I (I (I (I (I (I (I (I (I (I (I (I (I (I (I (I (I (I (I (I (I (I (I (I (I (T13 P) 3 (a3_12 P)) 12 a12_13) 386 a386_0) 387 a387_0) 388 a388_0) 389 a389_0) 390 a390_0) 391 a391_0) 392 a392_0) 393 a393_0) 394 a394_0) 395 a395_0) 396 a396_0) 397 a397_0) 398 a398_0) 399 a399_0) 400 a400_0) 401 a401_0) 402 a402_0) 403 a403_0) 404 a404_0) 405 a405_0) 406 a406_0) 407 a407_0) 408 a408_0) 409 a409_0) 410 a410_0) 411 a411_0) 412 a412_0) 413 a413_0) 414 a414_0) 415 a415_0) 416 a416_0) 417 a417_0) 418 a418_0)
noncomputable def S14 (P : Params) (os : OsState) : SharedT := ⟨T14 P, 419, lf, #[], ⟨0, 0, 0, 0⟩, 705, os⟩
noncomputable def HF (P : Params) : Heap := ⟨⟨[(boot_o_0 P), (boot_o_1 P), (boot_o_2 P), (a3_12 P), (boot_o_4 P), (boot_o_5 P), (boot_o_6 P), (boot_o_7 P), (boot_o_8 P), (boot_o_9 P), (boot_o_10 P), a11_0, a12_13, a13_0, a14_0, a15_0, a16_0, (a17_0 P), a18_0, a19_0, a20_0, a21_0, a22_0, (a23_0 P), a24_4, a25_0, a26_0, a27_0, a28_0, a29_0, (a30_0 P), a31_0, a32_0, a33_0, a34_0, a35_0, (a36_0 P), a37_0, a38_0, a39_0, a40_0, a41_0, (a42_0 P), a43_0, a44_0, a45_0, a46_0, a47_0, (a48_0 P), a49_0, a50_0, a51_0, a52_0, a53_0, (a54_0 P), a55_0, a56_0, a57_0, a58_0, a59_0, (a60_0 P), a61_0, a62_0, a63_0, a64_0, a65_0, (a66_0 P), a67_0, a68_0, a69_0, a70_0, a71_0, (a72_0 P), a73_0, a74_0, a75_0, a76_0, a77_0, a78_0, a79_0, a80_0, a81_0, a82_0, a83_0, a84_0, a85_0, a86_0, a87_0, a88_0, a89_0, a90_0, a91_0, a92_0, a93_0, a94_0, a95_0, a96_0, a97_0, a98_0, a99_0, a100_0, a101_0, a102_0, a103_0, a104_0, a105_0, a106_0, a107_0, a108_0, a109_0, a110_0, a111_0, a112_0, a113_0, a114_0, a115_0, a116_0, a117_0, a118_0, a119_0, a120_0, a121_0, a122_0, a123_0, a124_0, a125_0, a126_0, a127_0, a128_0, a129_0, a130_0, a131_0, a132_0, a133_0, (a134_0 P), a135_0, a136_0, a137_0, a138_0, a139_0, a140_0, a141_0, a142_0, a143_0, a144_0, a145_0, a146_0, a147_0, a148_0, a149_0, a150_0, a151_0, a152_0, a153_0, a154_0, a155_0, a156_0, a157_0, a158_0, a159_0, a160_0, (a161_0 P), a162_6, a163_0, a164_0, a165_0, a166_0, a167_0, a168_0, (a169_0 P), a170_0, a171_0, a172_0, a173_0, a174_0, a175_0, a176_0, a177_0, a178_0, a179_0, a180_0, a181_0, (a182_0 P), a183_0, a184_0, a185_0, a186_0, a187_0, (a188_0 P), a189_0, a190_0, a191_0, a192_0, a193_0, a194_0, a195_0, a196_0, a197_0, a198_0, a199_0, a200_0, a201_0, a202_0, a203_0, a204_0, a205_0, a206_0, a207_0, a208_0, a209_0, a210_0, a211_0, a212_0, a213_0, a214_0, a215_0, a216_0, a217_0, a218_0, a219_0, a220_0, a221_0, (a222_0 P), a223_0, a224_0, a225_0, a226_0, a227_0, (a228_0 P), a229_0, a230_0, a231_0, a232_0, a233_0, a234_0, a235_0, a236_0, a237_0, a238_0, a239_0, a240_0, a241_0, a242_0, a243_0, a244_0, a245_0, a246_0, a247_0, a248_0, a249_0, a250_0, a251_0, a252_0, a253_0, a254_0, a255_0, a256_0, a257_0, a258_0, a259_0, a260_0, a261_0, (a262_0 P), a263_0, a264_0, a265_0, a266_0, a267_0, (a268_0 P), a269_0, a270_0, a271_0, a272_0, a273_0, a274_0, a275_0, a276_0, a277_0, a278_0, a279_0, a280_0, a281_0, a282_0, a283_0, a284_0, a285_0, a286_0, a287_0, a288_0, a289_0, a290_0, a291_0, a292_0, a293_0, a294_0, a295_0, a296_0, a297_0, a298_0, a299_0, a300_0, a301_0, (a302_0 P), a303_0, a304_0, a305_0, a306_0, a307_0, (a308_0 P), a309_0, a310_0, a311_0, a312_0, a313_0, a314_0, a315_0, a316_0, a317_0, a318_0, a319_0, a320_0, a321_0, a322_0, a323_0, a324_0, a325_0, a326_0, a327_0, a328_0, a329_0, a330_0, a331_0, a332_0, a333_0, a334_0, (a335_0 P), a336_0, a337_0, a338_0, a339_0, a340_0, (a341_0 P), a342_0, a343_0, a344_0, a345_0, a346_0, a347_0, a348_0, a349_0, a350_0, a351_0, a352_0, a353_0, a354_0, a355_0, a356_0, a357_0, a358_0, a359_0, a360_0, (a361_0 P), a362_0, a363_0, a364_0, a365_0, a366_0, a367_0, a368_0, a369_0, a370_0, a371_0, a372_0, a373_0, a374_0, a375_0, a376_0, a377_0, a378_0, a379_0, a380_0, a381_0, a382_0, a383_0, a384_0, a385_0, a386_0, a387_0, a388_0, a389_0, a390_0, a391_0, a392_0, a393_0, a394_0, a395_0, a396_0, a397_0, a398_0, a399_0, a400_0, a401_0, a402_0, a403_0, a404_0, a405_0, a406_0, a407_0, a408_0, a409_0, a410_0, a411_0, a412_0, a413_0, a414_0, a415_0, a416_0, a417_0, a418_0]⟩, lf⟩
noncomputable def KF (P : Params) : Frag := (nat_lit 0, (boot_o_0 P)) :: (nat_lit 1, (boot_o_1 P)) :: (nat_lit 2, (boot_o_2 P)) :: (nat_lit 3, (a3_12 P)) :: (nat_lit 4, (boot_o_4 P)) :: (nat_lit 5, (boot_o_5 P)) :: (nat_lit 6, (boot_o_6 P)) :: (nat_lit 7, (boot_o_7 P)) :: (nat_lit 8, (boot_o_8 P)) :: (nat_lit 9, (boot_o_9 P)) :: (nat_lit 10, (boot_o_10 P)) :: (nat_lit 11, a11_0) :: (nat_lit 12, a12_13) :: (nat_lit 13, a13_0) :: (nat_lit 14, a14_0) :: (nat_lit 15, a15_0) :: (nat_lit 22, a22_0) :: (nat_lit 23, (a23_0 P)) :: (nat_lit 24, a24_4) :: (nat_lit 25, a25_0) :: (nat_lit 28, a28_0) :: (nat_lit 35, a35_0) :: (nat_lit 36, (a36_0 P)) :: (nat_lit 37, a37_0) :: (nat_lit 40, a40_0) :: (nat_lit 47, a47_0) :: (nat_lit 48, (a48_0 P)) :: (nat_lit 49, a49_0) :: (nat_lit 52, a52_0) :: (nat_lit 59, a59_0) :: (nat_lit 60, (a60_0 P)) :: (nat_lit 61, a61_0) :: (nat_lit 64, a64_0) :: (nat_lit 71, a71_0) :: (nat_lit 72, (a72_0 P)) :: (nat_lit 73, a73_0) :: (nat_lit 76, a76_0) :: (nat_lit 77, a77_0) :: (nat_lit 78, a78_0) :: (nat_lit 79, a79_0) :: (nat_lit 80, a80_0) :: (nat_lit 81, a81_0) :: (nat_lit 82, a82_0) :: (nat_lit 83, a83_0) :: (nat_lit 84, a84_0) :: (nat_lit 85, a85_0) :: (nat_lit 86, a86_0) :: (nat_lit 87, a87_0) :: (nat_lit 88, a88_0) :: (nat_lit 89, a89_0) :: (nat_lit 90, a90_0) :: (nat_lit 91, a91_0) :: (nat_lit 92, a92_0) :: (nat_lit 93, a93_0) :: (nat_lit 94, a94_0) :: (nat_lit 95, a95_0) :: (nat_lit 96, a96_0) :: (nat_lit 97, a97_0) :: (nat_lit 98, a98_0) :: (nat_lit 99, a99_0) :: (nat_lit 100, a100_0) :: (nat_lit 101, a101_0) :: (nat_lit 102, a102_0) :: (nat_lit 103, a103_0) :: (nat_lit 104, a104_0) :: (nat_lit 105, a105_0) :: (nat_lit 106, a106_0) :: (nat_lit 107, a107_0) :: (nat_lit 108, a108_0) :: (nat_lit 109, a109_0) :: (nat_lit 110, a110_0) :: (nat_lit 111, a111_0) :: (nat_lit 112, a112_0) :: (nat_lit 113, a113_0) :: (nat_lit 114, a114_0) :: (nat_lit 115, a115_0) :: (nat_lit 116, a116_0) :: (nat_lit 117, a117_0) :: (nat_lit 118, a118_0) :: (nat_lit 119, a119_0) :: (nat_lit 120, a120_0) :: (nat_lit 121, a121_0) :: (nat_lit 122, a122_0) :: (nat_lit 123, a123_0) :: (nat_lit 124, a124_0) :: (nat_lit 125, a125_0) :: (nat_lit 126, a126_0) :: (nat_lit 127, a127_0) :: (nat_lit 128, a128_0) :: (nat_lit 129, a129_0) :: (nat_lit 130, a130_0) :: (nat_lit 131, a131_0) :: (nat_lit 139, a139_0) :: (nat_lit 140, a140_0) :: (nat_lit 141, a141_0) :: (nat_lit 142, a142_0) :: (nat_lit 143, a143_0) :: (nat_lit 144, a144_0) :: (nat_lit 145, a145_0) :: (nat_lit 146, a146_0) :: (nat_lit 147, a147_0) :: (nat_lit 148, a148_0) :: (nat_lit 149, a149_0) :: (nat_lit 150, a150_0) :: (nat_lit 151, a151_0) :: (nat_lit 152, a152_0) :: (nat_lit 153, a153_0) :: (nat_lit 154, a154_0) :: (nat_lit 155, a155_0) :: (nat_lit 156, a156_0) :: (nat_lit 157, a157_0) :: (nat_lit 158, a158_0) :: (nat_lit 159, a159_0) :: (nat_lit 160, a160_0) :: (nat_lit 161, (a161_0 P)) :: (nat_lit 162, a162_6) :: (nat_lit 163, a163_0) :: (nat_lit 164, a164_0) :: (nat_lit 167, a167_0) :: (nat_lit 174, a174_0) :: (nat_lit 175, a175_0) :: (nat_lit 176, a176_0) :: (nat_lit 177, a177_0) :: (nat_lit 178, a178_0) :: (nat_lit 179, a179_0) :: (nat_lit 180, a180_0) :: (nat_lit 181, a181_0) :: (nat_lit 182, (a182_0 P)) :: (nat_lit 183, a183_0) :: (nat_lit 186, a186_0) :: (nat_lit 193, a193_0) :: (nat_lit 194, a194_0) :: (nat_lit 195, a195_0) :: (nat_lit 196, a196_0) :: (nat_lit 197, a197_0) :: (nat_lit 198, a198_0) :: (nat_lit 199, a199_0) :: (nat_lit 200, a200_0) :: (nat_lit 201, a201_0) :: (nat_lit 202, a202_0) :: (nat_lit 203, a203_0) :: (nat_lit 204, a204_0) :: (nat_lit 205, a205_0) :: (nat_lit 206, a206_0) :: (nat_lit 207, a207_0) :: (nat_lit 208, a208_0) :: (nat_lit 209, a209_0) :: (nat_lit 210, a210_0) :: (nat_lit 211, a211_0) :: (nat_lit 212, a212_0) :: (nat_lit 213, a213_0) :: (nat_lit 214, a214_0) :: (nat_lit 215, a215_0) :: (nat_lit 216, a216_0) :: (nat_lit 217, a217_0) :: (nat_lit 218, a218_0) :: (nat_lit 219, a219_0) :: (nat_lit 220, a220_0) :: (nat_lit 221, a221_0) :: (nat_lit 222, (a222_0 P)) :: (nat_lit 223, a223_0) :: (nat_lit 226, a226_0) :: (nat_lit 233, a233_0) :: (nat_lit 234, a234_0) :: (nat_lit 235, a235_0) :: (nat_lit 236, a236_0) :: (nat_lit 237, a237_0) :: (nat_lit 238, a238_0) :: (nat_lit 239, a239_0) :: (nat_lit 240, a240_0) :: (nat_lit 241, a241_0) :: (nat_lit 242, a242_0) :: (nat_lit 243, a243_0) :: (nat_lit 244, a244_0) :: (nat_lit 245, a245_0) :: (nat_lit 246, a246_0) :: (nat_lit 247, a247_0) :: (nat_lit 248, a248_0) :: (nat_lit 249, a249_0) :: (nat_lit 250, a250_0) :: (nat_lit 251, a251_0) :: (nat_lit 252, a252_0) :: (nat_lit 253, a253_0) :: (nat_lit 254, a254_0) :: (nat_lit 255, a255_0) :: (nat_lit 256, a256_0) :: (nat_lit 257, a257_0) :: (nat_lit 258, a258_0) :: (nat_lit 259, a259_0) :: (nat_lit 260, a260_0) :: (nat_lit 261, a261_0) :: (nat_lit 262, (a262_0 P)) :: (nat_lit 263, a263_0) :: (nat_lit 266, a266_0) :: (nat_lit 273, a273_0) :: (nat_lit 274, a274_0) :: (nat_lit 275, a275_0) :: (nat_lit 276, a276_0) :: (nat_lit 277, a277_0) :: (nat_lit 278, a278_0) :: (nat_lit 279, a279_0) :: (nat_lit 280, a280_0) :: (nat_lit 281, a281_0) :: (nat_lit 282, a282_0) :: (nat_lit 283, a283_0) :: (nat_lit 284, a284_0) :: (nat_lit 285, a285_0) :: (nat_lit 286, a286_0) :: (nat_lit 287, a287_0) :: (nat_lit 288, a288_0) :: (nat_lit 289, a289_0) :: (nat_lit 290, a290_0) :: (nat_lit 291, a291_0) :: (nat_lit 292, a292_0) :: (nat_lit 293, a293_0) :: (nat_lit 294, a294_0) :: (nat_lit 295, a295_0) :: (nat_lit 296, a296_0) :: (nat_lit 297, a297_0) :: (nat_lit 298, a298_0) :: (nat_lit 299, a299_0) :: (nat_lit 300, a300_0) :: (nat_lit 301, a301_0) :: (nat_lit 302, (a302_0 P)) :: (nat_lit 303, a303_0) :: (nat_lit 306, a306_0) :: (nat_lit 313, a313_0) :: (nat_lit 314, a314_0) :: (nat_lit 315, a315_0) :: (nat_lit 316, a316_0) :: (nat_lit 317, a317_0) :: (nat_lit 318, a318_0) :: (nat_lit 319, a319_0) :: (nat_lit 320, a320_0) :: (nat_lit 321, a321_0) :: (nat_lit 322, a322_0) :: (nat_lit 323, a323_0) :: (nat_lit 324, a324_0) :: (nat_lit 325, a325_0) :: (nat_lit 326, a326_0) :: (nat_lit 327, a327_0) :: (nat_lit 328, a328_0) :: (nat_lit 329, a329_0) :: (nat_lit 330, a330_0) :: (nat_lit 331, a331_0) :: (nat_lit 332, a332_0) :: (nat_lit 333, a333_0) :: (nat_lit 334, a334_0) :: (nat_lit 335, (a335_0 P)) :: (nat_lit 336, a336_0) :: (nat_lit 339, a339_0) :: (nat_lit 346, a346_0) :: (nat_lit 347, a347_0) :: (nat_lit 348, a348_0) :: (nat_lit 349, a349_0) :: (nat_lit 350, a350_0) :: (nat_lit 351, a351_0) :: (nat_lit 352, a352_0) :: (nat_lit 353, a353_0) :: (nat_lit 354, a354_0) :: (nat_lit 355, a355_0) :: (nat_lit 356, a356_0) :: (nat_lit 357, a357_0) :: (nat_lit 358, a358_0) :: (nat_lit 359, a359_0) :: (nat_lit 360, a360_0) :: (nat_lit 361, (a361_0 P)) :: (nat_lit 362, a362_0) :: (nat_lit 365, a365_0) :: (nat_lit 366, a366_0) :: (nat_lit 367, a367_0) :: (nat_lit 368, a368_0) :: (nat_lit 369, a369_0) :: (nat_lit 370, a370_0) :: (nat_lit 371, a371_0) :: (nat_lit 372, a372_0) :: (nat_lit 373, a373_0) :: (nat_lit 374, a374_0) :: (nat_lit 375, a375_0) :: (nat_lit 376, a376_0) :: (nat_lit 377, a377_0) :: (nat_lit 378, a378_0) :: (nat_lit 379, a379_0) :: (nat_lit 380, a380_0) :: (nat_lit 381, a381_0) :: (nat_lit 382, a382_0) :: (nat_lit 383, a383_0) :: (nat_lit 384, a384_0) :: (nat_lit 385, a385_0) :: (nat_lit 386, a386_0) :: (nat_lit 387, a387_0) :: (nat_lit 388, a388_0) :: (nat_lit 389, a389_0) :: (nat_lit 390, a390_0) :: (nat_lit 391, a391_0) :: (nat_lit 392, a392_0) :: (nat_lit 393, a393_0) :: (nat_lit 394, a394_0) :: (nat_lit 395, a395_0) :: (nat_lit 396, a396_0) :: (nat_lit 397, a397_0) :: (nat_lit 398, a398_0) :: (nat_lit 399, a399_0) :: (nat_lit 400, a400_0) :: (nat_lit 401, a401_0) :: (nat_lit 402, a402_0) :: (nat_lit 403, a403_0) :: (nat_lit 404, a404_0) :: (nat_lit 405, a405_0) :: (nat_lit 406, a406_0) :: (nat_lit 407, a407_0) :: (nat_lit 408, a408_0) :: (nat_lit 409, a409_0) :: (nat_lit 410, a410_0) :: (nat_lit 411, a411_0) :: (nat_lit 412, a412_0) :: (nat_lit 413, a413_0) :: (nat_lit 414, a414_0) :: (nat_lit 415, a415_0) :: (nat_lit 416, a416_0) :: (nat_lit 417, a417_0) :: (nat_lit 418, a418_0) :: []
noncomputable def AF : List Nat := [0,1,2,3,4,5,6,7,8,9,10,11,12,13,14,15,22,23,24,25,28,35,36,37,40,47,48,49,52,59,60,61,64,71,72,73,76,77,78,79,80,81,82,83,84,85,86,87,88,89,90,91,92,93,94,95,96,97,98,99,100,101,102,103,104,105,106,107,108,109,110,111,112,113,114,115,116,117,118,119,120,121,122,123,124,125,126,127,128,129,130,131,139,140,141,142,143,144,145,146,147,148,149,150,151,152,153,154,155,156,157,158,159,160,161,162,163,164,167,174,175,176,177,178,179,180,181,182,183,186,193,194,195,196,197,198,199,200,201,202,203,204,205,206,207,208,209,210,211,212,213,214,215,216,217,218,219,220,221,222,223,226,233,234,235,236,237,238,239,240,241,242,243,244,245,246,247,248,249,250,251,252,253,254,255,256,257,258,259,260,261,262,263,266,273,274,275,276,277,278,279,280,281,282,283,284,285,286,287,288,289,290,291,292,293,294,295,296,297,298,299,300,301,302,303,306,313,314,315,316,317,318,319,320,321,322,323,324,325,326,327,328,329,330,331,332,333,334,335,336,339,346,347,348,349,350,351,352,353,354,355,356,357,358,359,360,361,362,365,366,367,368,369,370,371,372,373,374,375,376,377,378,379,380,381,382,383,384,385,386,387,388,389,390,391,392,393,394,395,396,397,398,399,400,401,402,403,404,405,406,407,408,409,410,411,412,413,414,415,416,417,418]
noncomputable def LZ : List Str := [x5, x12, x13, x14, x16, x17, x18, x19, x20, x21, x22, x23, x25, x35, x36, x37, x38, x39, x51, x54, x60, x67, x72, x77, x78, x79, x80, x89, x90, x91, x92]
noncomputable def ev : Env := { scope := pq.main.scope, locals := mainNs, globals := mainNs, cells := [], code := (.ref 13), frame := some 14 }
noncomputable abbrev cE : Code := .body bE ev
noncomputable abbrev Bq : List Frame := [topFrame ⟨0, 0, 0, 0⟩]
noncomputable def sl (i n : Nat) : List Stmt := (bE.drop i).take n
noncomputable abbrev an : Option Value := (some (.ref 6))
theorem lg {w : World} {n : Nat} {s s' : SharedT} {t : Thread} {f : Flow} {c : Code} {q : Pos} (h : PySem.W.Fast.tw10110043849684766642 PySem.W.Fast.tw14364793385576792824 pq w 11 an 1 n s t = some (f, s', c, q)) : segRun treeTable pq w 11 an 1 n s.abs t = some (f, s'.abs, c, q) :=
  segRun_of (by rw [PySem.W.Fast.te10110043849684766642, PySem.W.Fast.te14364793385576792824]; exact h)
theorem lt {w : World} {n : Nat} {s : Shared} {t : Thread} {r : Option Shared} (h : PySem.W.Fast.tw14082659384304107361 PySem.W.Fast.tw14364793385576792824 pq w 11 an n s t = r) : topRun treeTable pq w 11 an n s t = r := by
  rw [PySem.W.Fast.te14082659384304107361, PySem.W.Fast.te14364793385576792824]; exact h
theorem lp {w : World} {n : Nat} {s s' : Shared} {p : Pos} (h : PySem.W.Fast.tw15667345088766844465 PySem.W.Fast.tw14364793385576792824 pq w 11 an n s (PySem.W.topStub pq) = some (s', ⟨PySem.W.Fast.tw11892475500146522536 PySem.W.Fast.tw14364793385576792824 cE, cE, p, Bq⟩)) : topGo treeTable pq w 11 an n s (topStub pq) = some (s', ⟨denote treeTable cE, cE, p, Bq⟩) := by
  rw [PySem.W.Fast.te15667345088766844465, PySem.W.Fast.te11892475500146522536, PySem.W.Fast.te14364793385576792824]; exact h
theorem pre (w : World) (os : OsState) : topGo treeTable pq w 11 an 12 ⟨boot_heap w.params, Array.mk [], boot_drawn, boot_toks, os⟩ (topStub pq) = some ((S0 w.params os).abs, ⟨denote treeTable cE, cE, ⟨0, 0, 0, 0⟩, Bq⟩) := lp (by kernel_rfl)
theorem blk (w : World) (os : OsState) : segRun treeTable pq w 11 an 1 1 (S0 w.params os).abs (blockOf bE ev cE ⟨0, 0, 0, 0⟩ Bq) = some (.next, (S1 w.params os).abs, cE, ⟨0, 0, 0, 0⟩) := lg (by kernel_rfl)
theorem g_1 (w : World) (os : OsState) : segRun treeTable pq w 11 an 1 196 (S1 w.params os).abs (piecesOf (sl 0 2) ev cE ⟨0, 0, 0, 0⟩ Bq) = some (.next, (S2 w.params os).abs, cE, ⟨2, 0, 3, 8⟩) := lg (by kernel_rfl)
theorem g_2 (w : World) (os : OsState) : segRun treeTable pq w 11 an 1 214 (S2 w.params os).abs (piecesOf (sl 2 1) ev cE ⟨2, 0, 3, 8⟩ Bq) = some (.next, (S3 w.params os).abs, cE, ⟨4, 0, 5, 8⟩) := lg (by kernel_rfl)
theorem g_3 (w : World) (os : OsState) : segRun treeTable pq w 11 an 1 214 (S3 w.params os).abs (piecesOf (sl 3 1) ev cE ⟨4, 0, 5, 8⟩ Bq) = some (.next, (S4 w.params os).abs, cE, ⟨6, 0, 7, 8⟩) := lg (by kernel_rfl)
theorem g_4 (w : World) (os : OsState) : segRun treeTable pq w 11 an 1 214 (S4 w.params os).abs (piecesOf (sl 4 1) ev cE ⟨6, 0, 7, 8⟩ Bq) = some (.next, (S5 w.params os).abs, cE, ⟨8, 0, 9, 8⟩) := lg (by kernel_rfl)
theorem g_5 (w : World) (os : OsState) : segRun treeTable pq w 11 an 1 398 (S5 w.params os).abs (piecesOf (sl 5 11) ev cE ⟨8, 0, 9, 8⟩ Bq) = some (.next, (S6 w.params os).abs, cE, ⟨36, 0, 36, 12⟩) := lg (by kernel_rfl)
theorem g_6 (w : World) (os : OsState) : segRun treeTable pq w 11 an 1 397 (S6 w.params os).abs (piecesOf (sl 16 5) ev cE ⟨36, 0, 36, 12⟩ Bq) = some (.next, (S7 w.params os).abs, cE, ⟨48, 0, 57, 19⟩) := lg (by kernel_rfl)
theorem g_7 (w : World) (os : OsState) : segRun treeTable pq w 11 an 1 244 (S7 w.params os).abs (piecesOf (sl 21 1) ev cE ⟨48, 0, 57, 19⟩ Bq) = some (.next, (S8 w.params os).abs, cE, ⟨58, 0, 61, 25⟩) := lg (by kernel_rfl)
theorem g_8 (w : World) (os : OsState) : segRun treeTable pq w 11 an 1 340 (S8 w.params os).abs (piecesOf (sl 22 1) ev cE ⟨58, 0, 61, 25⟩ Bq) = some (.next, (S9 w.params os).abs, cE, ⟨62, 0, 75, 46⟩) := lg (by kernel_rfl)
theorem g_9 (w : World) (os : OsState) : segRun treeTable pq w 11 an 1 344 (S9 w.params os).abs (piecesOf (sl 23 1) ev cE ⟨62, 0, 75, 46⟩ Bq) = some (.next, (S10 w.params os).abs, cE, ⟨76, 0, 93, 56⟩) := lg (by kernel_rfl)
theorem g_10 (w : World) (os : OsState) : segRun treeTable pq w 11 an 1 340 (S10 w.params os).abs (piecesOf (sl 24 1) ev cE ⟨76, 0, 93, 56⟩ Bq) = some (.next, (S11 w.params os).abs, cE, ⟨94, 0, 107, 37⟩) := lg (by kernel_rfl)
theorem g_11 (w : World) (os : OsState) : segRun treeTable pq w 11 an 1 307 (S11 w.params os).abs (piecesOf (sl 25 1) ev cE ⟨94, 0, 107, 37⟩ Bq) = some (.next, (S12 w.params os).abs, cE, ⟨108, 0, 117, 18⟩) := lg (by kernel_rfl)
theorem g_12 (w : World) (os : OsState) : segRun treeTable pq w 11 an 1 377 (S12 w.params os).abs (piecesOf (sl 26 5) ev cE ⟨108, 0, 117, 18⟩ Bq) = some (.next, (S13 w.params os).abs, cE, ⟨136, 0, 137, 98⟩) := lg (by kernel_rfl)
theorem g_13 (w : World) (os : OsState) : segRun treeTable pq w 11 an 1 159 (S13 w.params os).abs (piecesOf (sl 31 5) ev cE ⟨136, 0, 137, 98⟩ Bq) = some (.next, (S14 w.params os).abs, cE, ⟨172, 0, 187, 15⟩) := lg (by kernel_rfl)
theorem fin (w : World) (os : OsState) : topRun treeTable pq w 11 an 2 (S14 w.params os).abs ⟨doneF .next, cE, ⟨172, 0, 187, 15⟩, Bq⟩ = some ⟨HF w.params, #[], ⟨0, 0, 0, 0⟩, 705, os⟩ := lt (by kernel_rfl)
theorem bE_eq : bE = sl 0 2 ++ (sl 2 1 ++ (sl 3 1 ++ (sl 4 1 ++ (sl 5 11 ++ (sl 16 5 ++ (sl 21 1 ++ (sl 22 1 ++ (sl 23 1 ++ (sl 24 1 ++ (sl 25 1 ++ (sl 26 5 ++ (sl 31 5 ++ [])))))))))))) := by kernel_rfl
theorem rest (w : World) (os : OsState) : topRun treeTable pq w 11 an (196 + (214 + (214 + (214 + (398 + (397 + (244 + (340 + (344 + (340 + (307 + (377 + (159 + (2)))))))))))))) (S1 w.params os).abs (restOf bE ev cE ⟨0, 0, 0, 0⟩ Bq) = some ⟨HF w.params, #[], ⟨0, 0, 0, 0⟩, 705, os⟩ :=
  (congrArg (fun l => topRun treeTable pq w 11 an (196 + (214 + (214 + (214 + (398 + (397 + (244 + (340 + (344 + (340 + (307 + (377 + (159 + (2)))))))))))))) (S1 w.params os).abs (restOf l ev cE ⟨0, 0, 0, 0⟩ Bq)) bE_eq).trans (piece_app (g_1 w os) (piece_app (g_2 w os) (piece_app (g_3 w os) (piece_app (g_4 w os) (piece_app (g_5 w os) (piece_app (g_6 w os) (piece_app (g_7 w os) (piece_app (g_8 w os) (piece_app (g_9 w os) (piece_app (g_10 w os) (piece_app (g_11 w os) (piece_app (g_12 w os) (piece_app (g_13 w os) (piece_nil (fin w os)))))))))))))))
theorem run (w : World) (os : OsState) : topRun treeTable pq w 11 an (12 + (1 + (196 + (214 + (214 + (214 + (398 + (397 + (244 + (340 + (344 + (340 + (307 + (377 + (159 + (2)))))))))))))))) ⟨boot_heap w.params, Array.mk [], boot_drawn, boot_toks, os⟩ (topStub pq) = some ⟨HF w.params, #[], ⟨0, 0, 0, 0⟩, 705, os⟩ :=
  go_top (pre w os) (piece_block (blk w os) (rest w os))
noncomputable abbrev qv : Program := view pq [35]
theorem lk1 (w : World) (os : OsState) : (staticsOk (importedModules pq.main.body) (boot_heap w.params) (HF w.params) && namesBound pq (HF w.params) && gensDone (Shared.mk (HF w.params) #[] ⟨0, 0, 0, 0⟩ 705 os) && laidKept (boot_heap w.params) (HF w.params)) = true := by
  kernel_rfl
theorem lk2 (w : World) (os : OsState) : openSeen qv LZ (importedModules pq.main.body) (fun _ => true) true (Shared.mk (HF w.params) #[] ⟨0, 0, 0, 0⟩ 705 os) = openGood qv LZ := by
  rw [PySem.W.Fast.te4187177175401517315]; kernel_rfl
theorem lk3 (w : World) (os : OsState) : X.obsZ AF (Shared.mk (HF w.params) #[] ⟨0, 0, 0, 0⟩ 705 os) = X.valZ KF 419 705 w := by kernel_rfl
theorem hl1 : LeftO pq qv LZ (fun _ => true) (X.obsZ AF) (X.valZ KF 419 705) 7588 :=
  LeftO.of_pieces (boot_open (by kernel_rfl) (by kernel_rfl) (fun s => by kernel_rfl)) (m₀ := 11) (ann := an) (fun w => by kernel_rfl) run (by kernel_rfl) (fun w => funext fun os => looks_pair (lk1 w os) (looks_pair (lk2 w os) (lk3 w os)))
theorem hl : LeftO PySem.Challenge.pw_beamtable_k07_cells_refused (view PySem.Challenge.pw_beamtable_k07_cells_refused [35]) LZ (fun _ => true) (X.obsZ AF) (X.valZ KF 419 705) 7588 := by
  rw [PySem.W.Fast.te835795093852732182]; exact hl1
end KO
end
section
set_option Elab.async false
set_option linter.all false
set_option maxRecDepth 100000
namespace L2
open PySem PySem.Spec PyProof.Rows
abbrev Key := Sum Int Str
def keyIs : Key → Value → Bool
  | .inl k, v => Value.isInt k v
  | .inr x, v => Value.isStrOf x v
def keyH (w : World) : Key → Int
  | .inl k => hashInt k
  | .inr x => hashStr w x
theorem keyIs_shape : ∀ {k : Key} {v : Value}, keyIs k v = true → (∃ i t, k = Sum.inl i ∧ v = Value.int i t) ∨ (∃ x t, k = Sum.inr x ∧ v = Value.str x t)
  | .inl i, v, h => by
    obtain ⟨t, e⟩ := Value.isInt_shape (k := i) (v := v) h
    exact .inl ⟨i, t, rfl, e⟩
  | .inr x, v, h => by
    obtain ⟨t, e⟩ := Value.isStrOf_shape (x := x) (v := v) h
    exact .inr ⟨x, t, rfl, e⟩
theorem key_ll (a b : Int) : decide ((Sum.inl a : Key) = Sum.inl b) = (a == b) := by
  by_cases e : a = b
  · subst e; simp
  · have h : ¬ (Sum.inl a : Key) = Sum.inl b := fun q => e (Sum.inl.inj q)
    rw [decide_eq_false h]
    exact (beq_eq_false_iff_ne.mpr e).symm
theorem key_rr (a b : Str) : decide ((Sum.inr a : Key) = Sum.inr b) = decide (a = b) := by
  by_cases e : a = b
  · subst e; simp
  · have h : ¬ (Sum.inr a : Key) = Sum.inr b := fun q => e (Sum.inr.inj q)
    rw [decide_eq_false h, decide_eq_false e]
theorem key_lr (a : Int) (b : Str) : decide ((Sum.inl a : Key) = Sum.inr b) = false := decide_eq_false (fun q => nomatch q)
theorem key_rl (a : Str) (b : Int) : decide ((Sum.inr a : Key) = Sum.inl b) = false := decide_eq_false (fun q => nomatch q)
def mixKind (prog : Program) (w : World) : PySem.KeyKind prog w Key where
  is := keyIs
  hash := keyH w
  inj := fun v a b ha hb => by
    rcases keyIs_shape ha with ⟨i, t, rfl, rfl⟩ | ⟨x, t, rfl, rfl⟩
    · rcases keyIs_shape hb with ⟨j, u, rfl, e⟩ | ⟨y, u, rfl, e⟩
      · injection e with e1 _; rw [e1]
      · exact nomatch e
    · rcases keyIs_shape hb with ⟨j, u, rfl, e⟩ | ⟨y, u, rfl, e⟩
      · exact nomatch e
      · injection e with e1 _; rw [e1]
  byValue := fun k v h => by
    rcases keyIs_shape h with ⟨i, t, rfl, rfl⟩ | ⟨x, t, rfl, rfl⟩ <;> rfl
  pyHash := fun hv h => by
    rcases keyIs_shape hv with ⟨i, t, rfl, rfl⟩ | ⟨x, t, rfl, rfl⟩
    · exact wpAny_pyHash_int h
    · exact wpAny_pyHash_str h
  eqBool := fun hu hv h => by
    rcases keyIs_shape hu with ⟨i, t, rfl, rfl⟩ | ⟨x, t, rfl, rfl⟩
    · rcases keyIs_shape hv with ⟨j, u, rfl, rfl⟩ | ⟨y, u, rfl, rfl⟩
      · rw [key_ll] at h; exact wpAny_eqBool_int h
      · rw [key_lr] at h; exact SeqAt.EqAt.int_str i t y u _ _ _ _ h
    · rcases keyIs_shape hv with ⟨j, u, rfl, rfl⟩ | ⟨y, u, rfl, rfl⟩
      · rw [key_rl] at h; exact SeqAt.EqAt.str_int x t j u _ _ _ _ h
      · rw [key_rr] at h; exact wpAny_eqBool_str h
  «strs» := fun k x t v h => by
    rcases keyIs_shape h with ⟨i, u, rfl, e⟩ | ⟨y, u, rfl, e⟩
    · exact nomatch e
    · injection e with e1 _
      subst e1
      cases v <;> rfl
end L2
namespace L2
open PySem PySem.Spec PyProof.Rows
inductive V where
  | non | bl (b : Bool) | int (i : Int) | str (x : Str) | byt (b : Array UInt8) | flt (b : UInt64) | ref (a : Addr) | ty (n : String)
  deriving DecidableEq
def RelV : V → Value → Prop
  | .non, u => u = Value.none
  | .bl b, u => u = Value.bool b
  | .int i, u => ∃ t, u = Value.int i t
  | .str x, u => ∃ t, u = Value.str x t
  | .byt b, u => ∃ t, u = Value.bytes b t
  | .flt b, u => ∃ t, u = Value.float b t
  | .ref a, u => u = Value.ref a
  | .ty n, u => u = Value.type n
abbrev Vals : List V → List Value → Prop := Paired RelV
theorem Vals.length {xs : List V} {us : List Value} (r : Vals xs us) : xs.length = us.length := Paired.length r
theorem Vals.get : ∀ {xs : List V} {us : List Value} {i : Nat} {x : V}, Vals xs us → xs[i]? = some x → ∃ u, us[i]? = some u ∧ RelV x u
  | _, _, _, _, .nil, e => by simp at e
  | _, _, 0, _, .cons r _, e => by simp at e; subst e; exact ⟨_, rfl, r⟩
  | _, _, i + 1, x, .cons _ t, e => by
    obtain ⟨u, h1, h2⟩ := Vals.get (i := i) (x := x) t (by simpa using e)
    exact ⟨u, by simpa using h1, h2⟩
theorem Vals.set {x : V} {u : Value} (r : RelV x u) : ∀ {xs : List V} {us : List Value} (i : Nat), Vals xs us → Vals (xs.set i x) (us.set i u)
  | _, _, _, .nil => .nil
  | _, _, 0, .cons _ t => .cons r t
  | _, _, i + 1, .cons q t => .cons q (Vals.set r i t)
theorem Vals.append : ∀ {xs ys : List V} {us ws : List Value}, Vals xs us → Vals ys ws → Vals (xs ++ ys) (us ++ ws)
  | _, _, _, _, .nil, s => s
  | _, _, _, _, .cons r t, s => .cons r (Vals.append t s)
theorem Vals.take : ∀ {xs : List V} {us : List Value} (n : Nat), Vals xs us → Vals (xs.take n) (us.take n)
  | _, _, 0, _ => .nil
  | _, _, _ + 1, .nil => .nil
  | _, _, n + 1, .cons r t => .cons r (Vals.take n t)
theorem Vals.drop : ∀ {xs : List V} {us : List Value} (n : Nat), Vals xs us → Vals (xs.drop n) (us.drop n)
  | _, _, 0, r => r
  | _, _, _ + 1, .nil => .nil
  | _, _, n + 1, .cons _ t => Vals.drop n t
theorem Vals.none_of : ∀ {xs : List V} {us : List Value} {i : Nat}, Vals xs us → xs[i]? = none → us[i]? = none := fun {xs us i} r e => by
  have h1 := r.length
  have h2 : xs.length ≤ i := List.getElem?_eq_none_iff.mp e
  exact List.getElem?_eq_none_iff.mpr (by omega)
def RelO : Option V → Option Value → Prop
  | some v, some u => RelV v u
  | none, none => True
  | _, _ => False
def KV {κ : Type} : List (κ × V) → List (κ × Value) → Prop := Paired fun (p : κ × V) (q : κ × Value) => p.1 = q.1 ∧ RelV p.2 q.2
def kV : Key → V
  | .inl i => .int i
  | .inr x => .str x
inductive HO where
  /-- a list -/
  | lst (xs : List V)
  /-- a tuple (never changes) -/
  | tup (xs : List V)
  /-- a dict whose keys are ints and texts; one whose keys are tuples of ints and texts (the empty one is both) -/
  | dK (kvs : List (Key × V)) | dT (kvs : List (List Key × V))
  /-- a set of ints: its members, its size -/
  | set (S : Int → Bool) (n : Nat)
  /-- an instance of the class at C, its dict at dx, its attributes -/
  | ins (C dx : Addr) (fs : List (Str × V))
  /-- the dict of the instance at x -/
  | own (x : Addr)
  /-- the dict of an exception -/
  | xd (fs : List (Str × V))
  /-- a bound method, f of x -/
  | met (f x : Addr)
  /-- a range object lo, lo + 1, .. below hi -/
  | rng (lo hi : Int)
  /-- a thing that is known to the object (the script; a dict while a loop walks it): read, never written while it is so -/
  | frz (o : Obj) (u : HO)
  /-- a code object's table -/
  | tbl (ps : Array Value)
  /-- any other thing, by what is true of its one object (a def of one's own: SetO a S n := HO.ext fun h => ..) -/
  | ext (φ : Heap → Prop)
abbrev Hp := Addr → Option HO
def upd (H : Hp) (a : Addr) (o : HO) : Hp := fun b => if b = a then some o else H b
theorem upd_same {H : Hp} {a : Addr} {o : HO} : upd H a o a = some o := by unfold upd; rw [if_pos rfl]
theorem upd_ne {H : Hp} {a b : Addr} {o : HO} (h : b ≠ a) : upd H a o b = H b := by unfold upd; rw [if_neg h]
theorem ne_of_none {H : Hp} {a b : Addr} {o : HO} (h : H a = some o) (h' : H b = none) : a ≠ b := by
  intro e; subst e; rw [h] at h'; cases h'
section
variable (P : Program) (w : World)
def ObjOk (H : Hp) (h : Heap) (a : Addr) : HO → Prop
  | .lst xs => xs.length ≤ sizeLine ∧ ∃ (its : List Value) (n : Nat), Vals xs its ∧ h.get? a = some { cls := .type "list", data := .seq its.toArray n }
  | .tup xs => xs.length ≤ sizeLine ∧ ∃ its : List Value, Vals xs its ∧ IsTup h a its.toArray
  | .dK kvs => kvs.length ≤ sizeLine ∧ (a == sysModules) = false ∧ ∃ vs, KV kvs vs ∧ h.DictOf (mixKind P w) a vs
  | .dT kvs => kvs.length ≤ sizeLine ∧ (a == sysModules) = false ∧ ∃ xs : List (List Key × Addr × Value),
      Paired (fun (p : List Key × V) (q : List Key × Addr × Value) => p.1 = q.1 ∧ H q.2.1 = some (.tup (p.1.map kV)) ∧ RelV p.2 q.2.2) kvs xs ∧
      ∃ o es ep, h.get? a = some o ∧ o.ExactDict ∧ o.data = .dict es ep ∧ es.toList = xs.map (entryOfKey (tupleKind (mixKind P w))) ∧ (xs.map (·.1)).Nodup
  | .set S n => h.SetOf (intKind P w) a S n
  | .ins C dx fs => H dx = some (.own a) ∧ fs.length ≤ 1000 ∧ dx ≠ a ∧ h.get? a = some (PySem.W.instObj C dx) ∧
      ∃ mA, h.Ns1 dx mA ∧ (∀ f, RelO (fs.lookup f) (mA f)) ∧ PySem.Within mA (fs.map (·.1))
  | .own _ => ∃ o, h.get? a = some o
  | .xd fs => ∃ mA, h.Ns1 a mA ∧ ∀ f, RelO (fs.lookup f) (mA f)
  | .rng lo hi => ∃ t u v, h.get? a = some { cls := .type "range", data := .fields #[.int lo t, .int hi u, .int 1 v] }
  | .frz o u => h.get? a = some o ∧ ObjOk H h a u
  | .tbl ps => h.get? a = some { cls := .none, data := .fields ps }
  | .met f x => h.get? a = some (PySem.W.methodObj (.ref f) (.ref x))
  | .ext φ => φ h ∧ (∃ o, h.get? a = some o) ∧ ∀ h1 h2 : Heap, φ h1 → (∀ o, h1.get? a = some o → h2.get? a = some o) → φ h2
def HOk (H : Hp) (h : Heap) : Prop := ∀ a o, H a = some o → ObjOk P w H h a o
end
section
variable {P : Program} {w : World} {H H' : Hp} {h h' : Heap} {a : Addr} {o : HO}
theorem ObjOk.lt (x : ObjOk P w H h a o) : a < h.objs.size := by
  cases o with
  | lst xs => obtain ⟨_, _, _, _, e⟩ := x; exact Heap.lt_size e
  | tup xs => obtain ⟨_, _, _, p⟩ := x; exact p.lt
  | dK kvs => obtain ⟨_, _, _, _, o, _, _, e, _⟩ := x; exact Heap.lt_size e
  | dT kvs => obtain ⟨_, _, _, _, o, _, _, e, _⟩ := x; exact Heap.lt_size e
  | set S n => obtain ⟨o, _, _, _, e, _⟩ := x; exact Heap.lt_size e
  | ins C dx fs => obtain ⟨_, _, _, e, _⟩ := x; exact Heap.lt_size e
  | own y => obtain ⟨_, e⟩ := x; exact Heap.lt_size e
  | xd fs => obtain ⟨_, ⟨_, _, _, e, _⟩, _⟩ := x; exact Heap.lt_size e
  | rng lo hi => obtain ⟨_, _, _, e⟩ := x; exact Heap.lt_size e
  | frz ob u => obtain ⟨e, _⟩ := x; exact Heap.lt_size e
  | tbl ps => exact Heap.lt_size (show h.get? a = some _ from x)
  | met f y => exact Heap.lt_size (show h.get? a = some _ from x)
  | ext φ => obtain ⟨_, ⟨_, e⟩, _⟩ := x; exact Heap.lt_size e
theorem Paired.mapP {α β : Type} {F G : α → β → Prop} : ∀ {l₁ : List α} {l₂ : List β}, Paired F l₁ l₂ → (∀ a b, F a b → G a b) → Paired G l₁ l₂
  | _, _, .nil, _ => .nil
  | _, _, .cons r t, f => .cons (f _ _ r) (Paired.mapP t f)
theorem ObjOk.stay (x : ObjOk P w H h a o) (k : ∀ b u, (b = a ∨ H b = some (.own a)) → h.get? b = some u → h'.get? b = some u)
    (ho : ∀ b, H b = some (.own a) → H' b = some (.own a)) (ht : ∀ b xs, H b = some (.tup xs) → H' b = some (.tup xs)) : ObjOk P w H' h' a o := by
  induction o with
  | lst xs => obtain ⟨z, its, n, r, e⟩ := x; exact ⟨z, its, n, r, k _ _ (.inl rfl) e⟩
  | tup xs => obtain ⟨z, its, r, ob, e, c⟩ := x; exact ⟨z, its, r, ob, k _ _ (.inl rfl) e, c⟩
  | dK kvs => obtain ⟨z, y, vs, r, ob, es, ep, e, c⟩ := x; exact ⟨z, y, vs, r, ob, es, ep, k _ _ (.inl rfl) e, c⟩
  | dT kvs =>
    obtain ⟨z, y, xs, r, ob, es, ep, e, c⟩ := x
    exact ⟨z, y, xs, Paired.mapP r fun p q z => ⟨z.1, ht _ _ z.2.1, z.2.2⟩, ob, es, ep, k _ _ (.inl rfl) e, c⟩
  | set S n => obtain ⟨ob, es, ep, t, e, c⟩ := x; exact ⟨ob, es, ep, t, k _ _ (.inl rfl) e, c⟩
  | ins C dx fs =>
    obtain ⟨d, z, ne, e, mA, ⟨od, es, ep, e2, c⟩, r⟩ := x
    exact ⟨ho _ d, z, ne, k _ _ (.inl rfl) e, mA, ⟨od, es, ep, k _ _ (.inr d) e2, c⟩, r⟩
  | own y => obtain ⟨ob, e⟩ := x; exact ⟨ob, k _ _ (.inl rfl) e⟩
  | xd fs => obtain ⟨mA, ⟨od, es, ep, e, c⟩, r⟩ := x; exact ⟨mA, ⟨od, es, ep, k _ _ (.inl rfl) e, c⟩, r⟩
  | rng lo hi => obtain ⟨t, u, v, e⟩ := x; exact ⟨t, u, v, k _ _ (.inl rfl) e⟩
  | frz ob u ih => obtain ⟨e, q⟩ := x; exact ⟨k _ _ (.inl rfl) e, ih q⟩
  | tbl ps =>
    have e : h.get? a = some { cls := .none, data := .fields ps } := x
    show h'.get? a = some { cls := .none, data := .fields ps }
    exact k a _ (.inl rfl) e
  | met f y =>
    have e : h.get? a = some (PySem.W.methodObj (.ref f) (.ref y)) := x
    show h'.get? a = some (PySem.W.methodObj (.ref f) (.ref y))
    exact k a _ (.inl rfl) e
  | ext φ => obtain ⟨p, ⟨o, e⟩, st⟩ := x; exact ⟨st _ _ p fun o q => k _ _ (.inl rfl) q, ⟨o, k _ _ (.inl rfl) e⟩, st⟩
theorem HOk.lt (x : HOk P w H h) (e : H a = some o) : a < h.objs.size := (x a o e).lt
theorem HOk.fresh (x : HOk P w H h) (e : h.objs.size ≤ a) : H a = none := by
  cases q : H a with
  | none => rfl
  | some u => exact absurd (Nat.lt_of_lt_of_le (x.lt q) e) (Nat.lt_irrefl _)
theorem HOk.kept (x : HOk P w H h) (k : ∀ b u, h.get? b = some u → h'.get? b = some u) : HOk P w H h' := fun a o e =>
  (x a o e).stay (fun b u _ q => k b u q) (fun _ q => q) fun _ _ q => q
theorem HOk.laid (x : HOk P w H h) (k : ∀ b u, h.get? b = some u → h'.get? b = some u) (hp : h.objs.size ≤ a) (new : ObjOk P w (upd H a o) h' a o) : HOk P w (upd H a o) h' := fun b u e => by
  have hn := x.fresh hp
  by_cases hb : b = a
  · subst hb; rw [upd_same] at e; cases e; exact new
  · rw [upd_ne hb] at e
    exact (x b u e).stay (fun c v _ q => k c v q) (fun c q => by rw [upd_ne (ne_of_none q hn)]; exact q) fun c xs q => by rw [upd_ne (ne_of_none q hn)]; exact q
end
def Rd (H : Hp) (a : Addr) (u : HO) : Prop := H a = some u ∨ ∃ o, H a = some (.frz o u)
theorem Rd.of {H : Hp} {a : Addr} {u : HO} (h : H a = some u) : Rd H a u := .inl h
theorem Rd.ok {P : Program} {w : World} {H : Hp} {h : Heap} {a : Addr} {u : HO} (r : Rd H a u) (x : HOk P w H h) : ObjOk P w H h a u := by
  rcases r with r | ⟨o, r⟩
  · exact x a u r
  · obtain ⟨_, q⟩ := x a _ r
    exact q
def Mut : Option HO → Prop
  | some (.lst _) => True
  | some (.dK _) => True
  | some (.dT _) => True
  | some (.set _ _) => True
  | some (.ins _ _ _) => True
  | some (.ext _) => True
  | _ => False
section
variable {P : Program} {w : World} {H : Hp} {h h' : Heap} {x e : Addr} {o' : HO}
theorem HOk.write (ok : HOk P w H h) (mu : Mut (H x)) (he : e = x ∨ H e = some (.own x)) (k : ∀ b u, b ≠ e → h.get? b = some u → h'.get? b = some u) (heo : ∃ u, h'.get? e = some u)
    (new : ObjOk P w (upd H x o') h' x o') : HOk P w (upd H x o') h' := fun b u q => by
  have nown : ∀ c y, H c = some (.own y) → c ≠ x := fun c y r z => by subst z; rw [r] at mu; exact mu
  have ntup : ∀ c xs, H c = some (.tup xs) → c ≠ x := fun c xs r z => by subst z; rw [r] at mu; exact mu
  by_cases hb : b = x
  · subst hb; rw [upd_same] at q; cases q; exact new
  · rw [upd_ne hb] at q
    by_cases hbe : b = e
    · have q' : H b = some (.own x) := by
        rcases he with z | z
        · exact absurd (hbe.trans z) hb
        · rw [hbe]; exact z
      rw [q] at q'; cases q'
      obtain ⟨v, hv⟩ := heo
      exact ⟨v, by rw [hbe]; exact hv⟩
    · refine (ok b u q).stay (fun c v hc r => k c v ?_ r) (fun c r => by rw [upd_ne (nown c b r)]; exact r) fun c xs r => by rw [upd_ne (ntup c xs r)]; exact r
      rcases hc with rfl | hc
      · exact hbe
      · rintro rfl
        rcases he with z | z
        · exact nown c b hc z
        · rw [hc] at z; cases z; exact hb rfl
end
structure Un (fs ex : List Addr) (H H' : Hp) (h h' : Heap) : Prop where
  keep : ∀ b o, h.get? b = some o → H b = none → b ∉ fs → b ∉ ex → h'.get? b = some o
  slot : ∀ b o, h.get? b = some o → H b = none → b ∈ fs → b ∉ ex → ∃ sl, h'.get? b = some { o with slots := sl }
  free : ∀ b o, h.get? b = some o → H b = none → b ∉ ex → H' b = none
  there : ∀ b o, h.get? b = some o → b ∉ ex → ∃ o', h'.get? b = some o'
  tups : ∀ b xs, H b = some (.tup xs) → H' b = some (.tup xs)
  frzs : ∀ b o u, H b = some (.frz o u) → H' b = some (.frz o u)
  tbls : ∀ b ps, H b = some (.tbl ps) → ∃ more, H' b = some (.tbl (ps ++ more))
section
variable {fs fs' ex ex' : List Addr} {H H1 H2 : Hp} {h h1 h2 h' : Heap} {a x e : Addr} {o : HO}
theorem Un.any (u : Un fs ex H H1 h h1) {b : Addr} {ob : Obj} (q : h.get? b = some ob) (n : H b = none) (hx : b ∉ ex) : ∃ sl, h1.get? b = some { ob with slots := sl } := by
  by_cases hb : b ∈ fs
  · exact u.slot b ob q n hb hx
  · exact ⟨ob.slots, u.keep b ob q n hb hx⟩
theorem Un.trans (a : Un fs ex H H1 h h1) (b : Un fs ex H1 H2 h1 h2) : Un fs ex H H2 h h2 where
  keep := fun c ob q n hc hx => b.keep c ob (a.keep c ob q n hc hx) (a.free c ob q n hx) hc hx
  slot := fun c ob q n hc hx => by
    obtain ⟨sl, e1⟩ := a.slot c ob q n hc hx
    obtain ⟨sl', e2⟩ := b.slot c _ e1 (a.free c ob q n hx) hc hx
    exact ⟨sl', e2⟩
  free := fun c ob q n hx => by
    obtain ⟨o', e1⟩ := a.there c ob q hx
    exact b.free c o' e1 (a.free c ob q n hx) hx
  there := fun c ob q hx => by
    obtain ⟨o', e1⟩ := a.there c ob q hx
    exact b.there c o' e1 hx
  tups := fun c xs q => b.tups c xs (a.tups c xs q)
  frzs := fun c ob xs q => b.frzs c ob xs (a.frzs c ob xs q)
  tbls := fun c ps q => by
    obtain ⟨m1, e1⟩ := a.tbls c ps q
    obtain ⟨m2, e2⟩ := b.tbls c _ e1
    exact ⟨m1 ++ m2, by rw [e2, Array.append_assoc]⟩
theorem Un.kept (k : ∀ b u, h.get? b = some u → h'.get? b = some u) : Un fs ex H H h h' :=
  ⟨fun b ob q _ _ _ => k b ob q, fun b ob q _ _ _ => ⟨ob.slots, k b ob q⟩, fun _ _ _ n _ => n, fun b ob q _ => ⟨ob, k b ob q⟩, fun _ _ q => q, fun _ _ _ q => q, fun _ ps q => ⟨#[], by rw [q]; simp⟩⟩
theorem Un.refl : Un fs ex H H h h := Un.kept fun _ _ q => q
theorem Un.laid (k : ∀ b u, h.get? b = some u → h'.get? b = some u) (hp : h.objs.size ≤ a) (hn : H a = none) : Un fs ex H (upd H a o) h h' where
  keep := fun b u q _ _ _ => k b u q
  slot := fun b u q _ _ _ => ⟨u.slots, k b u q⟩
  free := fun b u q n _ => by rw [upd_ne (Nat.ne_of_lt (Nat.lt_of_lt_of_le (Heap.lt_size q) hp))]; exact n
  there := fun b u q _ => ⟨u, k b u q⟩
  tups := fun b xs q => by rw [upd_ne (ne_of_none q hn)]; exact q
  frzs := fun b u xs q => by rw [upd_ne (ne_of_none q hn)]; exact q
  tbls := fun b ps q => ⟨#[], by rw [upd_ne (ne_of_none q hn), q]; simp⟩
theorem Un.write (mu : Mut (H x)) (he : e = x ∨ H e = some (.own x)) (k : ∀ b u, b ≠ e → h.get? b = some u → h'.get? b = some u) (heo : ∃ u, h'.get? e = some u) : Un fs ex H (upd H x o) h h' := by
  have hx : ∀ b, H b = none → b ≠ x := fun b n z => by subst z; rw [n] at mu; exact mu
  have hb : ∀ b, H b = none → b ≠ e := fun b n z => by
    subst z
    rcases he with r | r
    · exact hx b n r
    · rw [n] at r; cases r
  have hm : ∀ b u, H b = some u → ¬ Mut (some u) → b ≠ x := fun b u q nm z => by subst z; rw [q] at mu; exact nm mu
  refine ⟨fun b u q n _ _ => k b u (hb b n) q, fun b u q n _ _ => ⟨u.slots, k b u (hb b n) q⟩, fun b u q n _ => by rw [upd_ne (hx b n)]; exact n, fun b u q _ => ?_,
    fun b xs q => by rw [upd_ne (hm b _ q fun z => z)]; exact q, fun b u xs q => by rw [upd_ne (hm b _ q fun z => z)]; exact q, fun b ps q => ⟨#[], by rw [upd_ne (hm b _ q fun z => z), q]; simp⟩⟩
  by_cases hbe : b = e
  · subst hbe; exact heo
  · exact ⟨u, k b u hbe q⟩
theorem Un.mono (u : Un fs ex H H1 h h1) (hs : ∀ b ∈ fs, b ∈ fs') (hx : ∀ b ∈ ex, b ∈ ex') : Un fs' ex' H H1 h h1 :=
  ⟨fun b ob q n hb he => u.keep b ob q n (fun z => hb (hs b z)) fun z => he (hx b z), fun _ _ q n _ he => u.any q n fun z => he (hx _ z), fun b ob q n he => u.free b ob q n fun z => he (hx b z), fun b ob q he => u.there b ob q fun z => he (hx b z), u.tups, u.frzs, u.tbls⟩
end
def trk (h : Heap) (H : Hp) : List Addr := (List.range h.objs.size).filter fun a => (H a).isSome
def hidT (h : Heap) (H : Hp) : Heap := PySem.W.hideAll h (trk h H)
theorem hidT_size (h : Heap) (H : Hp) : (hidT h H).objs.size = h.objs.size := PySem.W.hideAll_size _ _
theorem hidT_get {h : Heap} {H : Hp} {b : Addr} {o : Obj} (e : h.get? b = some o) (n : H b = none) : (hidT h H).get? b = some o :=
  PySem.W.hideAll_get _ e fun hm => by
    have q : (H b).isSome = true := (List.mem_filter.mp hm).2
    rw [n] at q; simp at q
theorem of_hidT {h : Heap} {H : Hp} {b : Addr} {o : Obj} (e : (hidT h H).get? b = some o) : h.get? b = some o ∧ H b = none := by
  have e' : h.get? b = some o := PySem.W.of_hideAll (trk h H) e
  refine ⟨e', ?_⟩
  cases q : H b with
  | none => rfl
  | some x =>
    have hm : b ∈ trk h H := List.mem_filter.mpr ⟨List.mem_range.mpr (Heap.lt_size e'), by simp [q]⟩
    have z : (hidT h H).get? b = none := PySem.W.hideAll_none (trk h H) hm
    rw [z] at e; cases e
def allNews (g h : Heap) (L : Addr) : List (Addr × Obj) := (List.range h.objs.size).filterMap fun a => if a = L ∨ (g.get? a).isSome = true then none else (h.get? a).map fun o => (a, o)
def rest (g h : Heap) (L d : Addr) : List (Addr × Obj) := (allNews g h L).filter fun p => decide (p.1 ≠ d)
end L2
namespace L2
open PySem PySem.Spec PyProof.Rows
structure Mod (K : PySem.W.Frag) (mg : Str → Option Value) (base : Heap) : Prop where
  kin : K.In base
  glob : base.Ns mainGlobals mg
  blt : ∃ mb, base.Ns builtinsNs mb ∧ ∀ x : Str, x ≠ "__name__" → mb x = bootBuiltins x
  nolimit : base.NoLimit
structure Cx where
  prog : Program
  w : World
  K : PySem.W.Frag
  mg : Str → Option Value
  base : Heap
  A : Around
  N : List Str
  s₀ : Shared
  H₀ : Hp
  env : Env
  outer : List Env
  stack : List Env
  ex : List Addr
  fn : Str → Bool
  calm : Bool
  pn : List (Addr × Obj)
  xe : Value → Shared → Prop
def frs (l : List Env) : List Addr := l.filterMap (·.frame)
abbrev Cx.fs (X : Cx) : List Addr := frs X.outer
def Vis (sc : Scope) (x : Str) : Prop := sc.names.lookup x = some .local ∨ sc.names.lookup x = some .cell ∨ sc.names.lookup x = some .free
def Loc (sc : Scope) (x : Str) : Prop := sc.names.lookup x = some .local ∨ sc.names.lookup x = some .cell
def Look (env : Env) (h : Heap) (m : Str → Option Value) (x : Str) (u : Value) : Prop :=
  (env.kindOf x = some .local ∧ m x = some u) ∨ ((env.kindOf x = some .cell ∨ env.kindOf x = some .free) ∧ ∃ c, env.cells.lookup x = some c ∧ h.IsCell c (some u))
structure Cx.Ok (X : Cx) : Prop where
  mod : Mod X.K X.mg X.base
  kind : X.env.scope.kind = .function
  glob : X.env.globals = mainGlobals
  blt : X.env.builtins = builtinsNs
  above : X.s₀.heap.objs.size ≤ X.env.locals
  inj : ∀ x y c, X.env.cells.lookup x = some c → X.env.cells.lookup y = some c → x = y
  has : ∀ x, (X.env.kindOf x = some .cell ∨ X.env.kindOf x = some .free) → ∃ c, X.env.cells.lookup x = some c
  cab : ∀ x c, X.fn x = true → X.env.cells.lookup x = some c → X.s₀.heap.objs.size ≤ c
  hd : X.calm = true → X.A.handled = none
  frames : X.A.frames = some X.stack
  stk : X.stack = X.outer ∨ (X.stack = X.env :: X.outer ∧ X.env.frame = some X.env.locals)
  exf : ∀ b ∈ X.ex, b ≠ X.env.locals ∧ ∀ x c, X.env.cells.lookup x = some c → c ≠ b
  bs : ∀ b o, X.base.get? b = some o → X.s₀.heap.get? b = some o ∧ X.H₀ b = none
  bsz : X.base.objs.size ≤ X.s₀.heap.objs.size
  noex : ∀ b o, X.base.get? b = some o → b ∉ X.ex
  exfs : ∀ b ∈ X.ex, b ∉ X.fs
  funs : X.s₀.heap.FunFrames X.base X.outer
  frf : ∀ b ∈ X.fs, X.H₀ b = none
structure Inv (X : Cx) (pins : List (Addr × Obj)) (σ : List (Option V)) (H : Hp) (s : Shared) : Prop where
  ok : X.Ok
  os : s.os = X.s₀.os
  bare : AllBare s.gens
  base : Un X.fs X.ex X.H₀ H X.s₀.heap s.heap
  loc : ∃ m, s.heap.Ns X.env.locals m ∧ ∀ (i : Nat) (x : Str) (v : V), X.N[i]? = some x → σ[i]? = some (some v) → Vis X.env.scope x → ∃ u, RelV v u ∧ Look X.env s.heap m x u
  cell : ∀ x c, X.env.cells.lookup x = some c → ∃ v, s.heap.IsCell c v
  free : H X.env.locals = none
  freeC : ∀ x c, X.env.cells.lookup x = some c → H c = none
  pin : ∀ p ∈ X.pn ++ pins, s.heap.get? p.1 = some p.2 ∧ H p.1 = none ∧ p.1 ≠ X.env.locals ∧ p.1 ∉ X.fs ∧ ∀ v, p.2.data ≠ .cell v
  hok : HOk X.prog X.w H s.heap
  len : σ.length = X.N.length
section
variable {X : Cx} {pins : List (Addr × Obj)} {σ : List (Option V)} {H H' : Hp} {s : Shared} {h' : Heap}
theorem Cx.Ok.nofr (ok : X.Ok) {b : Addr} {o : Obj} (e : X.base.get? b = some o) : b ∉ X.fs := fun hb => by
  have := (ok.funs.mem hb).1
  rw [e] at this; cases this
theorem Inv.bs (I : Inv X pins σ H s) : ∀ b o, X.base.get? b = some o → s.heap.get? b = some o ∧ H b = none := fun b o e =>
  ⟨I.base.keep b o (I.ok.bs b o e).1 (I.ok.bs b o e).2 (I.ok.nofr e) (I.ok.noex b o e), I.base.free b o (I.ok.bs b o e).1 (I.ok.bs b o e).2 (I.ok.noex b o e)⟩
theorem Inv.bk (I : Inv X pins σ H s) : ∀ b o, X.base.get? b = some o → s.heap.get? b = some o := fun b o e => (I.bs b o e).1
theorem Inv.mod (I : Inv X pins σ H s) : Mod X.K X.mg X.base := I.ok.mod
theorem Inv.kIn (I : Inv X pins σ H s) : X.K.In s.heap := I.ok.mod.kin.keeps I.bk
theorem Inv.nolimit (I : Inv X pins σ H s) : s.heap.NoLimit := I.ok.mod.nolimit.keeps I.bk
theorem Inv.fr (I : Inv X pins σ H s) : ∃ m, Fr X.base X.env.locals s.heap m :=
  let ⟨m, hn, _⟩ := I.loc
  ⟨m, hn, I.bk, Nat.le_trans I.ok.bsz I.ok.above⟩
theorem Inv.lt (I : Inv X pins σ H s) : X.env.locals < s.heap.objs.size := let ⟨_, hn, _⟩ := I.loc; hn.lt
theorem Inv.sz (I : Inv X pins σ H s) : X.s₀.heap.objs.size ≤ s.heap.objs.size := Nat.le_trans I.ok.above (Nat.le_of_lt I.lt)
theorem Inv.nofs (I : Inv X pins σ H s) {a : Addr} (h : s.heap.objs.size ≤ a) : a ∉ X.fs := fun hb => by
  obtain ⟨_, o, ho, _⟩ := I.ok.funs.mem hb
  exact absurd (Nat.lt_of_lt_of_le (Heap.lt_size ho) (Nat.le_trans I.sz h)) (Nat.lt_irrefl _)
theorem Inv.cne (I : Inv X pins σ H s) : ∀ x c, X.env.cells.lookup x = some c → c ≠ X.env.locals := fun x c e z => by
  obtain ⟨v, o, ho, hd⟩ := I.cell x c e
  obtain ⟨m, ⟨o', es, ep, ho', hd', _⟩, _⟩ := I.loc
  rw [z, ho'] at ho; cases ho; rw [hd'] at hd; cases hd
theorem Inv.funs (I : Inv X pins σ H s) : s.heap.FunFrames X.base X.outer := by
  have all : ∀ (l : List Env), (∀ b ∈ frs l, b ∈ X.fs) → X.s₀.heap.FunFrames X.base l → s.heap.FunFrames X.base l := by
    intro l
    induction l with
    | nil => intro _ _; trivial
    | cons env r ih =>
      intro hs hl
      obtain ⟨hk, ⟨L, o, hf, hn, ho, hd⟩, hr⟩ := hl
      have hL : L ∈ X.fs := hs L (by unfold frs; rw [List.filterMap_cons, hf]; exact List.mem_cons_self)
      obtain ⟨sl, e⟩ := I.base.slot L o ho (I.ok.frf L hL) hL fun z => I.ok.exfs L z hL
      exact ⟨hk, ⟨L, _, hf, hn, e, hd⟩, ih (fun b hb => hs b (by unfold frs; rw [List.filterMap_cons, hf]; exact List.mem_cons_of_mem _ hb)) hr⟩
  exact all X.outer (fun _ hb => hb) I.ok.funs
theorem Inv.stack (I : Inv X pins σ H s) : s.heap.FunFrames X.base X.stack := by
  rcases I.ok.stk with e | ⟨e, hf⟩
  · rw [e]; exact I.funs
  · rw [e]
    obtain ⟨m, hn, _⟩ := I.loc
    refine .cons (by rw [I.ok.kind]; decide) hf hn ?_ I.funs
    exact Heap.get?_none_of_le (Nat.le_trans I.ok.bsz I.ok.above)
theorem Inv.stkSub (I : Inv X pins σ H s) : ∀ b ∈ frs X.stack, b ∈ X.env.locals :: X.fs := fun b hb => by
  rcases I.ok.stk with e | ⟨e, hf⟩
  · rw [e] at hb; exact List.mem_cons_of_mem _ hb
  · rw [e] at hb
    unfold frs at hb
    rw [List.filterMap_cons, hf] at hb
    exact hb
theorem Inv.stkFree (I : Inv X pins σ H s) : ∀ b ∈ frs X.stack, H b = none := fun b hb => by
  rcases List.mem_cons.mp (I.stkSub b hb) with e | hb
  · rw [e]; exact I.free
  · obtain ⟨_, o, ho, _⟩ := I.ok.funs.mem hb
    exact I.base.free b o ho (I.ok.frf b hb) fun z => I.ok.exfs b z hb
theorem Inv.step {g' : Array GenState} {t' : Nat} {d' : Drawn} {ch : List Addr} (I : Inv X pins σ H s)
    (hch : ∀ b ∈ ch, (b ∈ X.ex ∨ X.s₀.heap.objs.size ≤ b) ∧ b ≠ X.env.locals ∧ (∀ x c, X.env.cells.lookup x = some c → c ≠ b) ∧ ∀ p ∈ X.pn ++ pins, p.1 ≠ b)
    (keep : ∀ b o, b ≠ X.env.locals → b ∉ X.fs → b ∉ ch → s.heap.get? b = some o → H b = none → h'.get? b = some o)
    (slot : ∀ b o, b ≠ X.env.locals → b ∈ X.fs → b ∉ ch → s.heap.get? b = some o → H b = none → ∃ sl, h'.get? b = some { o with slots := sl }) (free : ∀ b o, b ∉ ch → s.heap.get? b = some o → H b = none → H' b = none)
    (there : ∀ b o, b ∉ ch → s.heap.get? b = some o → ∃ o', h'.get? b = some o')
    (tups : ∀ b xs, H b = some (.tup xs) → H' b = some (.tup xs)) (frzs : ∀ b o u, H b = some (.frz o u) → H' b = some (.frz o u)) (tbls : ∀ b ps, H b = some (.tbl ps) → ∃ more, H' b = some (.tbl (ps ++ more)))
    (ns : ∀ m, s.heap.Ns X.env.locals m → h'.Ns X.env.locals m) (hok : HOk X.prog X.w H' h') (hg : AllBare g') :
    Inv X pins σ H' { s with heap := h', gens := g', drawn := d', toks := t' } := by
  have neL : ∀ b o, X.s₀.heap.get? b = some o → b ≠ X.env.locals := fun b o e => Nat.ne_of_lt (Nat.lt_of_lt_of_le (Heap.lt_size e) I.ok.above)
  have neC : ∀ b o, X.s₀.heap.get? b = some o → b ∉ X.ex → b ∉ ch := fun b o e hx hb => by
    rcases (hch b hb).1 with z | z
    · exact hx z
    · exact absurd (Nat.lt_of_lt_of_le (Heap.lt_size e) z) (Nat.lt_irrefl _)
  have cellK : ∀ x c, X.env.cells.lookup x = some c → ∀ v, s.heap.IsCell c v → h'.IsCell c v := fun x c e v ⟨o, ho, hd⟩ => by
    have nch : c ∉ ch := fun z => (hch c z).2.2.1 x c e rfl
    by_cases hc : c ∈ X.fs
    · obtain ⟨sl, q⟩ := slot c o (I.cne x c e) hc nch ho (I.freeC x c e)
      exact ⟨_, q, hd⟩
    · exact ⟨o, keep c o (I.cne x c e) hc nch ho (I.freeC x c e), hd⟩
  refine ⟨I.ok, I.os, hg, ⟨fun b o e n hb hx => ?_, fun b o e n hb hx => ?_, fun b o e n hx => ?_, fun b o e hx => ?_, fun b xs e => tups b xs (I.base.tups b xs e), fun b o xs e => frzs b o xs (I.base.frzs b o xs e), fun b ps e => ?_⟩, ?_, fun x c e => ?_, ?_, fun x c e => ?_, fun p hp => ?_, hok, I.len⟩
  · exact keep b o (neL b o e) hb (neC b o e hx) (I.base.keep b o e n hb hx) (I.base.free b o e n hx)
  · obtain ⟨sl, e1⟩ := I.base.slot b o e n hb hx
    obtain ⟨sl', e2⟩ := slot b _ (neL b o e) hb (neC b o e hx) e1 (I.base.free b o e n hx)
    exact ⟨sl', e2⟩
  · obtain ⟨o', e1⟩ := I.base.there b o e hx
    exact free b o' (neC b o e hx) e1 (I.base.free b o e n hx)
  · obtain ⟨o', e1⟩ := I.base.there b o e hx
    exact there b o' (neC b o e hx) e1
  · obtain ⟨m1, e1⟩ := I.base.tbls b ps e
    obtain ⟨m2, e2⟩ := tbls b _ e1
    exact ⟨m1 ++ m2, by rw [e2, Array.append_assoc]⟩
  · obtain ⟨m, hn, hl⟩ := I.loc
    refine ⟨m, ns m hn, fun i x v e1 e2 e3 => ?_⟩
    obtain ⟨u, r, l⟩ := hl i x v e1 e2 e3
    refine ⟨u, r, ?_⟩
    rcases l with l | ⟨k, c, e, z⟩
    · exact .inl l
    · exact .inr ⟨k, c, e, cellK x c e _ z⟩
  · obtain ⟨v, z⟩ := I.cell x c e
    exact ⟨v, cellK x c e v z⟩
  · obtain ⟨m, ⟨o, _, _, ho, _⟩, _⟩ := I.loc
    exact free _ o (fun z => (hch _ z).2.1 rfl) ho I.free
  · obtain ⟨v, o, ho, hd⟩ := I.cell x c e
    exact free c o (fun z => (hch c z).2.2.1 x c e rfl) ho (I.freeC x c e)
  · obtain ⟨e, n, ne, nf, d⟩ := I.pin p hp
    have nch : p.1 ∉ ch := fun z => (hch p.1 z).2.2.2 p hp rfl
    exact ⟨keep p.1 p.2 ne nf nch e n, free p.1 p.2 nch e n, ne, nf, d⟩
theorem Inv.un {t' : Nat} (I : Inv X pins σ H s) (u : Un X.fs [] H H' s.heap h') (hok : HOk X.prog X.w H' h') : Inv X pins σ H' { s with heap := h', toks := t' } := by
  obtain ⟨m, ⟨o, es, ep, ho, r⟩, _⟩ := id I.loc
  obtain ⟨sl, hL⟩ := u.any ho I.free (by simp)
  exact I.step (g' := s.gens) (d' := s.drawn) (ch := []) (fun _ z => nomatch z) (fun b o _ hb _ e n => u.keep b o e n hb (by simp)) (fun b o _ hb _ e n => u.slot b o e n hb (by simp)) (fun b o _ e n => u.free b o e n (by simp)) (fun b o _ e => u.there b o e (by simp)) u.tups u.frzs u.tbls (fun m' hm => by
    obtain ⟨o', es', ep', ho', r'⟩ := hm
    rw [ho] at ho'; cases ho'
    exact ⟨_, es', ep', hL, r'⟩) hok I.bare
theorem Inv.call {g' : Array GenState} {t' : Nat} {d' : Drawn} {ch : List Addr} (I : Inv X pins σ H s) (u : Un (frs X.stack) ch H H' s.heap h') (hok : HOk X.prog X.w H' h') (hg : AllBare g')
    (hch : ∀ b ∈ ch, (b ∈ X.ex ∨ X.s₀.heap.objs.size ≤ b) ∧ b ≠ X.env.locals ∧ (∀ x c, X.env.cells.lookup x = some c → c ≠ b) ∧ ∀ p ∈ X.pn ++ pins, p.1 ≠ b) :
    Inv X pins σ H' { s with heap := h', gens := g', drawn := d', toks := t' } := by
  obtain ⟨m, ⟨o, es, ep, ho, r⟩, _⟩ := id I.loc
  obtain ⟨sl, hL⟩ := u.any ho I.free fun z => (hch _ z).2.1 rfl
  exact I.step (ch := ch) hch (fun b o hL hb hc e n => u.keep b o e n (fun z => (List.mem_cons.mp (I.stkSub b z)).elim hL hb) hc) (fun b o _ _ hc e n => u.any e n hc) (fun b o hc e n => u.free b o e n hc) (fun b o hc e => u.there b o e hc) u.tups u.frzs u.tbls (fun m' hm => by
    obtain ⟨o', es', ep', ho', r'⟩ := hm
    rw [ho] at ho'; cases ho'
    exact ⟨_, es', ep', hL, r'⟩) hok hg
theorem Inv.turned {t' : Nat} {it : Addr} (I : Inv X pins σ H s) (k : ∀ b o, b ≠ it → s.heap.get? b = some o → h'.get? b = some o) (hn : H it = none) (hL : it ≠ X.env.locals)
    (h1 : it ∈ X.ex ∨ X.s₀.heap.objs.size ≤ it) (h2 : ∀ x c, X.env.cells.lookup x = some c → c ≠ it) (h3 : ∀ p ∈ X.pn ++ pins, p.1 ≠ it) : Inv X pins σ H { s with heap := h', toks := t' } := by
  have nit : ∀ b u, H b = some u → b ≠ it := fun b u e z => by rw [z, hn] at e; cases e
  refine I.step (g' := s.gens) (d' := s.drawn) (ch := [it]) (fun b hb => ?_) (fun b o _ _ hc e _ => k b o (fun z => hc (by simp [z])) e) (fun b o _ _ hc e _ => ⟨o.slots, k b o (fun z => hc (by simp [z])) e⟩) (fun _ _ _ _ n => n)
    (fun b o hc e => ⟨o, k b o (fun z => hc (by simp [z])) e⟩) (fun _ _ e => e) (fun _ _ _ e => e) (fun b ps e => ⟨#[], by rw [e]; simp⟩) (fun m hm => ?_) (fun b u e => ?_) I.bare
  · have e : b = it := by simpa using hb
    subst e
    exact ⟨h1, hL, h2, h3⟩
  · obtain ⟨o, es, ep, ho, r⟩ := hm
    exact ⟨o, es, ep, k _ o (Ne.symm hL) ho, r⟩
  · refine (I.hok b u e).stay (fun c v hc q => k c v ?_ q) (fun _ q => q) fun _ _ q => q
    rcases hc with z | z
    · rw [z]; exact nit b u e
    · exact nit c _ z
theorem Inv.tok (I : Inv X pins σ H s) (t : Nat) : Inv X pins σ H { s with toks := t } := I.un (h' := s.heap) (t' := t) Un.refl I.hok
theorem Inv.kept {t' : Nat} (I : Inv X pins σ H s) (k : ∀ b u, s.heap.get? b = some u → h'.get? b = some u) : Inv X pins σ H { s with heap := h', toks := t' } := I.un (Un.kept k) (I.hok.kept k)
theorem Inv.laid {a : Addr} {o : HO} {t' : Nat} (I : Inv X pins σ H s) (k : ∀ b u, s.heap.get? b = some u → h'.get? b = some u) (hp : s.heap.objs.size ≤ a) (new : ObjOk X.prog X.w (upd H a o) h' a o) :
    Inv X pins σ (upd H a o) { s with heap := h', toks := t' } := I.un (Un.laid k hp (I.hok.fresh hp)) (I.hok.laid k hp new)
theorem Inv.write {x e : Addr} {o : HO} {t' : Nat} (I : Inv X pins σ H s) (mu : Mut (H x)) (he : e = x ∨ H e = some (.own x)) (k : ∀ b u, b ≠ e → s.heap.get? b = some u → h'.get? b = some u) (heo : ∃ u, h'.get? e = some u)
    (new : ObjOk X.prog X.w (upd H x o) h' x o) : Inv X pins σ (upd H x o) { s with heap := h', toks := t' } := I.un (Un.write mu he k heo) (I.hok.write mu he k heo new)
theorem Inv.weak {σ' : List (Option V)} (I : Inv X pins σ H s) (hl : σ'.length = σ.length) (w : ∀ (i : Nat) v, σ'[i]? = some (some v) → σ[i]? = some (some v)) : Inv X pins σ' H s :=
  ⟨I.ok, I.os, I.bare, I.base, let ⟨m, hn, hl'⟩ := I.loc; ⟨m, hn, fun i x v e1 e2 e3 => hl' i x v e1 (w i v e2) e3⟩, I.cell, I.free, I.freeC, I.pin, I.hok, hl.trans I.len⟩
theorem Inv.pins_of {pins' : List (Addr × Obj)} (I : Inv X pins σ H s) (h : ∀ p ∈ pins', s.heap.get? p.1 = some p.2 ∧ H p.1 = none ∧ p.1 ≠ X.env.locals ∧ p.1 ∉ X.fs ∧ ∀ v, p.2.data ≠ .cell v) : Inv X pins' σ H s :=
  ⟨I.ok, I.os, I.bare, I.base, I.loc, I.cell, I.free, I.freeC, fun p hp => (List.mem_append.mp hp).elim (fun z => I.pin p (List.mem_append_left _ z)) (h p), I.hok, I.len⟩
theorem nodup_ix {N : List Str} (hN : N.Nodup) {i j : Nat} {x : Str} (a : N[i]? = some x) (b : N[j]? = some x) : i = j := by
  obtain ⟨h1, e1⟩ := List.getElem?_eq_some_iff.mp a
  obtain ⟨h2, e2⟩ := List.getElem?_eq_some_iff.mp b
  exact (List.getElem_inj hN).mp (e1.trans e2.symm)
theorem store_ok2 {M : Model} {A : Around} {E : Value → Shared → Prop} {i : Nat} {x : Str} {v : V} {u : Value} {Q : Unit → Shared → Prop} (I : Inv X pins σ H s) (hN : X.N.Nodup) (hi : X.N[i]? = some x) (hx : Loc X.env.scope x) (r : RelV v u)
    (h : ∀ s', Inv X pins (σ.set i (some v)) H s' → (∃ a, Heap.SameBut a s.heap s'.heap ∧ (a = X.env.locals ∨ X.env.cells.lookup x = some a)) → Q () s') (hf : X.fn x = true ∨ X.env.scope.names.lookup x = some .local := by first | exact .inl rfl | exact .inr rfl | assumption) : wpAny M A (storeName X.env x u) Q E s := by
  obtain ⟨m, hn, hl⟩ := id I.loc
  have hcls : (X.env.scope.kind == .class || (X.env.scope.kind == .module && X.env.locals != X.env.globals)) = false := by rw [I.ok.kind]; rfl
  have hiσ : i < σ.length := by rw [I.len]; exact (List.getElem?_eq_some_iff.mp hi).1
  have cne := I.cne
  have tracked : ∀ {a : Addr} {h' : Heap}, (∃ o, s.heap.get? a = some o ∧ H a = none) → Heap.SameBut a s.heap h' → HOk X.prog X.w H h' := fun {a h'} ha hs b ob e => by
    obtain ⟨_, _, hfree⟩ := ha
    refine (I.hok b ob e).stay (fun c w' hc q => (hs.2 c ?_).trans q) (fun _ q => q) fun _ _ q => q
    rintro rfl
    rcases hc with rfl | hc
    · rw [hfree] at e; cases e
    · rw [hfree] at hc; cases hc
  rcases hx with hk | hk
  · refine wpAny_storeName_local hk hn (fun h' hn' hs => ?_) hcls
    obtain ⟨oL, _, _, hoL, _⟩ := id hn
    refine h _ ⟨I.ok, I.os, I.bare, ⟨fun b o e n hb hx => ?_, fun b o e n hb hx => ?_, I.base.free, fun b o e hx => ?_, I.base.tups, I.base.frzs, I.base.tbls⟩, ⟨_, hn', fun j y v' e1 e2 e3 => ?_⟩, fun y c e => ?_, I.free, I.freeC, fun p hp => ?_, tracked ⟨oL, hoL, I.free⟩ hs, by simpa using I.len⟩ ⟨_, hs, .inl rfl⟩
    · exact (hs.2 b (Nat.ne_of_lt (Nat.lt_of_lt_of_le (Heap.lt_size e) I.ok.above))).trans (I.base.keep b o e n hb hx)
    · obtain ⟨sl, e1⟩ := I.base.slot b o e n hb hx
      exact ⟨sl, (hs.2 b (Nat.ne_of_lt (Nat.lt_of_lt_of_le (Heap.lt_size e) I.ok.above))).trans e1⟩
    · obtain ⟨o', e1⟩ := I.base.there b o e hx
      exact ⟨o', (hs.2 b (Nat.ne_of_lt (Nat.lt_of_lt_of_le (Heap.lt_size e) I.ok.above))).trans e1⟩
    · by_cases hj : j = i
      · subst hj
        rw [hi] at e1; cases e1
        rw [List.getElem?_set_self hiσ] at e2
        cases e2
        exact ⟨u, r, .inl ⟨hk, by simp⟩⟩
      · rw [List.getElem?_set_ne (Ne.symm hj)] at e2
        obtain ⟨u', r', q⟩ := hl j y v' e1 e2 e3
        refine ⟨u', r', ?_⟩
        rcases q with ⟨k, e⟩ | ⟨k, c, e, z⟩
        · refine .inl ⟨k, ?_⟩
          have : y ≠ x := fun e => hj (nodup_ix hN e1 (e ▸ hi))
          simp [this, e]
        · exact .inr ⟨k, c, e, z.sameBut hs (cne y c e)⟩
    · obtain ⟨w', z⟩ := I.cell y c e
      exact ⟨w', z.sameBut hs (cne y c e)⟩
    · obtain ⟨e, n, ne, nf, d⟩ := I.pin p hp
      exact ⟨(hs.2 p.1 ne).trans e, n, ne, nf, d⟩
  · have hfn : X.fn x = true := by
      rcases hf with z | z
      · exact z
      · rw [z] at hk; cases hk
    obtain ⟨c, hc⟩ := I.ok.has x (.inl hk)
    obtain ⟨w', z⟩ := I.cell x c hc
    refine wpAny_storeName_cell I.ok.kind hk hc z (fun h' hc' hs => ?_)
    obtain ⟨oc, hoc, hocd⟩ := id z
    refine h { s with heap := h' } ⟨I.ok, I.os, I.bare, ⟨fun b o e n hb hx => ?_, fun b o e n hb hx => ?_, I.base.free, fun b o e hx => ?_, I.base.tups, I.base.frzs, I.base.tbls⟩, ⟨m, hn.sameBut hs (Ne.symm (cne x c hc)), fun j y v' e1 e2 e3 => ?_⟩, fun y c' e => ?_, I.free, I.freeC, fun p hp => ?_, tracked ⟨oc, hoc, I.freeC x c hc⟩ hs, by simpa using I.len⟩ ⟨c, hs, .inr hc⟩
    · exact (hs.2 b (Nat.ne_of_lt (Nat.lt_of_lt_of_le (Heap.lt_size e) (I.ok.cab x c hfn hc)))).trans (I.base.keep b o e n hb hx)
    · obtain ⟨sl, e1⟩ := I.base.slot b o e n hb hx
      exact ⟨sl, (hs.2 b (Nat.ne_of_lt (Nat.lt_of_lt_of_le (Heap.lt_size e) (I.ok.cab x c hfn hc)))).trans e1⟩
    · obtain ⟨o', e1⟩ := I.base.there b o e hx
      exact ⟨o', (hs.2 b (Nat.ne_of_lt (Nat.lt_of_lt_of_le (Heap.lt_size e) (I.ok.cab x c hfn hc)))).trans e1⟩
    · by_cases hj : j = i
      · subst hj
        rw [hi] at e1; cases e1
        rw [List.getElem?_set_self hiσ] at e2
        cases e2
        exact ⟨u, r, .inr ⟨.inl hk, c, hc, hc'⟩⟩
      · rw [List.getElem?_set_ne (Ne.symm hj)] at e2
        obtain ⟨u', r', q⟩ := hl j y v' e1 e2 e3
        refine ⟨u', r', ?_⟩
        rcases q with q | ⟨k, c', e, z'⟩
        · exact .inl q
        · refine .inr ⟨k, c', e, z'.sameBut hs ?_⟩
          rintro rfl
          exact hj (nodup_ix hN e1 (I.ok.inj _ _ _ e hc ▸ hi))
    · by_cases hcc : c' = c
      · subst hcc; exact ⟨_, hc'⟩
      · obtain ⟨w2, z2⟩ := I.cell y c' e
        exact ⟨w2, z2.sameBut hs hcc⟩
    · obtain ⟨e, n, ne, nf, d⟩ := I.pin p hp
      refine ⟨(hs.2 p.1 ?_).trans e, n, ne, nf, d⟩
      intro q
      rw [q, hoc] at e
      have q' : oc = p.2 := Option.some.inj e
      exact d w' (by rw [← q']; exact hocd)
theorem store_ok {M : Model} {A : Around} {E : Value → Shared → Prop} {i : Nat} {x : Str} {v : V} {u : Value} {Q : Unit → Shared → Prop} (I : Inv X pins σ H s) (hN : X.N.Nodup) (hi : X.N[i]? = some x) (hx : Loc X.env.scope x) (r : RelV v u)
    (h : ∀ s', Inv X pins (σ.set i (some v)) H s' → Q () s') (hf : X.fn x = true ∨ X.env.scope.names.lookup x = some .local := by first | exact .inl rfl | exact .inr rfl | assumption) : wpAny M A (storeName X.env x u) Q E s :=
  store_ok2 I hN hi hx r (fun s' I' _ => h s' I') hf
theorem Inv.call' {s' : Shared} {ch : List Addr} (I : Inv X pins σ H s) (ho : s'.os = s.os) (u : Un (frs X.stack) ch H H' s.heap s'.heap) (hok : HOk X.prog X.w H' s'.heap) (hg : AllBare s'.gens)
    (hch : ∀ b ∈ ch, (b ∈ X.ex ∨ X.s₀.heap.objs.size ≤ b) ∧ b ≠ X.env.locals ∧ (∀ x c, X.env.cells.lookup x = some c → c ≠ b) ∧ ∀ p ∈ X.pn ++ pins, p.1 ≠ b) : Inv X pins σ H' s' := by
  obtain ⟨h', g', d', t', o'⟩ := s'
  have e : o' = s.os := ho
  subst e
  exact I.call (g' := g') (t' := t') (d' := d') u hok hg hch
end
abbrev XK := Value → Option Addr → Hp → Prop
abbrev St := List (Option V)
abbrev VK := V → Hp → Prop
abbrev TE := St → Hp → VK → Prop
abbrev TT := St → Hp → (Bool → Hp → Prop) → Prop
abbrev TA := St → Hp → (List V → Hp → Prop) → Prop
structure Ends where
  nx : St → Hp → Prop
  rt : VK
  bk : St → Hp → Prop := fun _ _ => False
  ct : St → Hp → Prop := fun _ _ => False
abbrev TS := Ends → St → Hp → Prop
def EP (X : Cx) (pins : List (Addr × Obj)) (σ : St) (Q : VK) (u : Value) (s' : Shared) : Prop := ∃ v H', Inv X pins σ H' s' ∧ RelV v u ∧ Q v H'
def TP (X : Cx) (pins : List (Addr × Obj)) (σ : St) (Q : Bool → Hp → Prop) (b : Bool) (s' : Shared) : Prop := ∃ H', Inv X pins σ H' s' ∧ Q b H'
def AP (X : Cx) (pins : List (Addr × Obj)) (σ : St) (Q : List V → Hp → Prop) (us : List Value) (s' : Shared) : Prop := ∃ vs H', Inv X pins σ H' s' ∧ Vals vs us ∧ Q vs H'
def SP (X : Cx) (pins : List (Addr × Obj)) (D : Ends) (f : Flow) (s' : Shared) : Prop :=
  match f with
  | .next => ∃ σ' H', Inv X pins σ' H' s' ∧ D.nx σ' H'
  | .brk => ∃ σ' H', Inv X pins σ' H' s' ∧ D.bk σ' H'
  | .cont => ∃ σ' H', Inv X pins σ' H' s' ∧ D.ct σ' H'
  | .ret u => ∃ v σ' H', Inv X pins σ' H' s' ∧ RelV v u ∧ D.rt v H'
def PE (X : Cx) (e : Expr) (t : TE) : Prop :=
  ∀ (pins : List (Addr × Obj)) (s : Shared) (σ : St) (H : Hp) (Q : VK), Inv X pins σ H s → t σ H Q → wpAny (model X.prog X.w) X.A (eval e X.env) (EP X pins σ Q) X.xe s
def PT (X : Cx) (e : Expr) (t : TT) : Prop :=
  ∀ (pins : List (Addr × Obj)) (s : Shared) (σ : St) (H : Hp) (Q : Bool → Hp → Prop), Inv X pins σ H s → t σ H Q → wpAny (model X.prog X.w) X.A (isTrue e X.env (eval e X.env)) (TP X pins σ Q) X.xe s
def PW (X : Cx) (e : Expr) (t : TT) : Prop :=
  ∀ (whole : Sem Value) (pins : List (Addr × Obj)) (s : Shared) (σ : St) (H : Hp) (Q : Bool → Hp → Prop), Inv X pins σ H s → t σ H Q → wpAny (model X.prog X.w) X.A (isTrue e X.env whole) (TP X pins σ Q) X.xe s
theorem PW.pt {X : Cx} {e : Expr} {t : TT} (h : PW X e t) : PT X e t := h _
def PA (X : Cx) (es : List Expr) (t : TA) : Prop :=
  ∀ (pos : Pos) (pins : List (Addr × Obj)) (s : Shared) (σ : St) (H : Hp) (Q : List V → Hp → Prop), Inv X pins σ H s → t σ H Q → wpAny (model X.prog X.w) X.A (spliced (backTo pos (starEach es X.env))) (AP X pins σ Q) X.xe s
def PS (X : Cx) (st : Stmt) (t : TS) : Prop :=
  ∀ (pins : List (Addr × Obj)) (s : Shared) (σ : St) (H : Hp) (D : Ends), Inv X pins σ H s → t D σ H → wpAny (model X.prog X.w) X.A (exec st X.env) (SP X pins D) X.xe s
def PSs (X : Cx) (st : List Stmt) (t : TS) : Prop :=
  ∀ (pins : List (Addr × Obj)) (s : Shared) (σ : St) (H : Hp) (D : Ends), Inv X pins σ H s → t D σ H → wpAny (model X.prog X.w) X.A (execs st X.env) (SP X pins D) X.xe s
theorem thn {α : Type} {t : Sem α} {Q Q' : α → Shared → Prop} {M : Model} {A : Around} {E : Value → Shared → Prop} {s : Shared} (h : wpAny M A t Q E s) (hQ : ∀ a s, Q a s → Q' a s) : wpAny M A t Q' E s := wpAny_mono h hQ fun _ _ x => x
end L2
namespace L2
open PySem PySem.Spec PyProof.Rows
section
variable {X : Cx}
def tVar (i : Nat) : TE := fun σ H Q => ∃ v, σ[i]? = some (some v) ∧ Q v H
def tC (v : V) : TE := fun _ H Q => Q v H
theorem pe_var {i : Nat} {x : Str} {pos : Pos} (hN : X.N[i]? = some x) (hv : Vis X.env.scope x) (hd : (x == ("__debug__" : Str)) = false := by decide) (hcd : (x == ("__classdict__" : Str)) = false := by decide) : PE X (.Name x pos) (tVar i) := by
  intro pins s σ H Q I h
  obtain ⟨v, e, h⟩ := h
  obtain ⟨m, hn, hl⟩ := I.loc
  obtain ⟨u, r, l⟩ := hl i x v hN e hv
  have fin : EP X pins σ Q u s := ⟨v, H, I, r, h⟩
  rcases l with ⟨hk, hm⟩ | ⟨hk, c, hc, hcell⟩
  · exact wpAny_Name (wpAny_loadName_local I.ok.kind hk hn hm fin) hd
  · rcases hk with hk | hk
    · exact wpAny_Name (wpAny_loadName_cell I.ok.kind hk hc hcell fin) hd
    · exact wpAny_Name (wpAny_loadName_free I.ok.kind hk hc hcell fin hcd) hd
theorem pe_int {i j pos} : PE X (.Constant (.int i) j pos) (tC (.int i)) := fun _ _ _ H _ I h => wpAny_Constant_int ⟨.int i, H, I.tok _, ⟨_, rfl⟩, h⟩
theorem pe_bl {b j pos} : PE X (.Constant (.bool b) j pos) (tC (.bl b)) := fun _ _ _ H _ I h => Constant_bool ⟨.bl b, H, I, rfl, h⟩
theorem pe_str {x j pos} : PE X (.Constant (.str x) j pos) (tC (.str x)) := fun _ _ _ H _ I h => Calls.Constant_str ⟨.str x, H, I.tok _, ⟨_, rfl⟩, h⟩
def Gl (X : Cx) (x : Str) : Prop := X.env.kindOf x = some .globalImplicit
theorem ld_glob {E : Value → Shared → Prop} {pins : List (Addr × Obj)} {s : Shared} {σ : St} {H : Hp} {x : Str} {u : Value} {pos : Pos} {Q : Value → Shared → Prop} (I : Inv X pins σ H s) (hg : Gl X x) (hm : X.mg x = some u) (h : Q u s)
    (hd : (x == ("__debug__" : Str)) = false := by decide) : wpAny (model X.prog X.w) X.A (eval (.Name x pos) X.env) Q E s :=
  Calls.Name_function_global I.ok.kind hg (Calls.loadGlobal_global (by rw [I.ok.glob]; exact I.mod.glob.keeps I.bk) hm h) hd
theorem ld_blt {E : Value → Shared → Prop} {pins : List (Addr × Obj)} {s : Shared} {σ : St} {H : Hp} {x : Str} {u : Value} {pos : Pos} {Q : Value → Shared → Prop} (I : Inv X pins σ H s) (hg : Gl X x) (hm : X.mg x = none) (hv : bootBuiltins x = some u) (h : Q u s)
    (hn : x ≠ "__name__" := by decide) (hd : (x == ("__debug__" : Str)) = false := by decide) : wpAny (model X.prog X.w) X.A (eval (.Name x pos) X.env) Q E s := by
  obtain ⟨mb, h1, h2⟩ := I.mod.blt
  exact Calls.Name_function_global I.ok.kind hg (Calls.loadGlobal_builtin (by rw [I.ok.glob]; exact I.mod.glob.keeps I.bk) hm (by rw [I.ok.blt]; exact h1.keeps I.bk) ((h2 x hn).trans hv) h) hd
theorem pe_glob {x : Str} {v : V} {u : Value} {pos : Pos} (hg : Gl X x) (hm : X.mg x = some u) (r : RelV v u) (hd : (x == ("__debug__" : Str)) = false := by decide) : PE X (.Name x pos) (tC v) :=
  fun _ _ _ H _ I h => ld_glob I hg hm ⟨v, H, I, r, h⟩ hd
theorem pe_bltn {x : Str} {v : V} {u : Value} {pos : Pos} (hg : Gl X x) (hm : X.mg x = none) (hv : bootBuiltins x = some u) (r : RelV v u) (hn : x ≠ "__name__" := by decide) (hd : (x == ("__debug__" : Str)) = false := by decide) : PE X (.Name x pos) (tC v) :=
  fun _ _ _ H _ I h => ld_blt I hg hm hv ⟨v, H, I, r, h⟩ hn hd
variable {a b : Expr} {ta tb : TE} {pos : Pos}
def tB (t : TE) : TT := fun σ H Q => t σ H fun x H1 => ∃ c, x = .bl c ∧ Q c H1
theorem pt_val {e : Expr} {t : TE} (h : PE X e t) (he : ∀ whole, isTrue e X.env whole = (do let v ← whole; standAt e.pos; holding [v] (truthy v)) := by intro _; rfl) : PT X e (tB t) := by
  intro pins s σ H Q I hw
  refine isTrue_plain (thn (h pins s σ H _ I hw) fun v s1 ⟨x, H1, I1, r1, q1⟩ => ?_) (he _)
  obtain ⟨d, rfl, q⟩ := q1
  cases r1
  exact wpAny_truthy_bool ⟨H1, I1, q⟩
variable {tA tB' : TT} {rest : List Expr}
def tOr (t u : TT) : TT := fun σ H Q => t σ H fun c H1 => if c = true then Q true H1 else u σ H1 Q
def tNot (t : TT) : TT := fun σ H Q => t σ H fun c H1 => Q (!c) H1
theorem pw_or1 (ha : PT X a tA) : PW X (.BoolOp .Or [a] pos) tA := by
  intro wh pins s σ H Q I h
  refine isTrue_or (thn (ha pins s σ H Q I h) fun c s1 e => ?_)
  cases c with
  | false => exact isTrue_or_nil e
  | true => exact e
theorem pw_or (ha : PT X a tA) (hb : PW X (.BoolOp .Or (b :: rest) pos) tB') : PW X (.BoolOp .Or (a :: b :: rest) pos) (tOr tA tB') := by
  intro wh pins s σ H Q I h
  refine isTrue_or (thn (ha pins s σ H _ I h) fun c s1 ⟨H1, I1, q1⟩ => ?_)
  cases c with
  | true => exact ⟨H1, I1, q1⟩
  | false => exact hb wh pins s1 σ H1 Q I1 q1
theorem pt_not (ha : PT X a tA) : PT X (.UnaryOp .Not a pos) (tNot tA) := by
  intro pins s σ H Q I h
  exact isTrue_not (ha pins s σ H (fun c H1 => Q (!c) H1) I h)
def tAndV (ta tb : TE) : TE := fun σ H Q => ta σ H fun x H1 => ∃ c, x = .bl c ∧ if c = true then tb σ H1 Q else Q (.bl false) H1
def tNotV (ta : TE) : TE := fun σ H Q => ta σ H fun x H1 => ∃ c, x = .bl c ∧ Q (.bl (!c)) H1
theorem pe_one {op} {t : TE} (h : PE X a t) : PE X (.BoolOp op [a] pos) t := fun pins s σ H Q I hw => BoolOp_one (h pins s σ H Q I hw)
theorem pe_and (ha : PE X a ta) (hb : PE X (.BoolOp .And (b :: rest) pos) tb) : PE X (.BoolOp .And (a :: b :: rest) pos) (tAndV ta tb) := by
  intro pins s σ H Q I h
  refine BoolOp_and (thn (ha pins s σ H _ I h) fun v s1 ⟨x, H1, I1, r1, q1⟩ => ?_)
  obtain ⟨c, rfl, q1⟩ := q1
  cases r1
  refine wpAny_truthy_bool ?_
  cases c with
  | true => exact hb pins s1 σ H1 Q I1 q1
  | false => exact ⟨.bl false, H1, I1, rfl, q1⟩
theorem pe_not (ha : PE X a ta) : PE X (.UnaryOp .Not a pos) (tNotV ta) := by
  intro pins s σ H Q I h
  refine UnaryOp_ (thn (ha pins s σ H _ I h) fun v s1 ⟨x, H1, I1, r1, q1⟩ => ?_)
  obtain ⟨c, rfl, q1⟩ := q1
  cases r1
  exact not_of (wpAny_truthy_bool ⟨.bl (!c), H1, I1, rfl, q1⟩)
end
end L2
namespace L2
open PySem PySem.Spec PyProof.Rows
def SqL (K : PySem.W.Frag) (H : Hp) (a : Addr) (xs : List V) : Prop :=
  Rd H a (.lst xs) ∨
    ∃ (o : Obj) (its : Array Value) (n : Nat), K.lookup a = some o ∧ o.cls = .type "list" ∧ o.dict = none ∧ o.data = .seq its n ∧ its.size ≤ sizeLine ∧ Vals xs its.toList
def SqT (K : PySem.W.Frag) (H : Hp) (a : Addr) (xs : List V) : Prop :=
  Rd H a (.tup xs) ∨
    ∃ (o : Obj) (its : Array Value) (n : Nat), K.lookup a = some o ∧ o.cls = .type "tuple" ∧ o.data = .seq its n ∧ its.size ≤ sizeLine ∧ Vals xs its.toList
def absV : Value → Option V
  | .none => some .non
  | .bool b => some (.bl b)
  | .int i _ => some (.int i)
  | .str x _ => some (.str x)
  | .bytes b _ => some (.byt b)
  | .float b _ => some (.flt b)
  | .ref a => some (.ref a)
  | .type n => some (.ty n)
  | _ => none
theorem RelV.abs {x : V} {u : Value} (r : RelV x u) : absV u = some x := by
  cases x with
  | non => cases r; rfl
  | bl _ => cases r; rfl
  | int _ => obtain ⟨t, rfl⟩ := r; rfl
  | str _ => obtain ⟨t, rfl⟩ := r; rfl
  | byt _ => obtain ⟨t, rfl⟩ := r; rfl
  | flt _ => obtain ⟨t, rfl⟩ := r; rfl
  | ref _ => cases r; rfl
  | ty _ => cases r; rfl
theorem RelV.inj {x y : V} {u : Value} (r : RelV x u) (q : RelV y u) : x = y := Option.some.inj (r.abs.symm.trans q.abs)
theorem Vals.inj : ∀ {xs ys : List V} {us : List Value}, Vals xs us → Vals ys us → xs = ys
  | _, _, _, .nil, .nil => rfl
  | _, _, _, .cons r t, .cons r' t' => by rw [r.inj r', Vals.inj t t']
section
variable {X : Cx} {pins : List (Addr × Obj)} {σ : St} {H : Hp} {s : Shared} {a : Addr} {xs ys : List V}
theorem SqL.of {K : PySem.W.Frag} (h : H a = some (.lst xs)) : SqL K H a xs := .inl (.inl h)
theorem SqT.of {K : PySem.W.Frag} (h : H a = some (.tup xs)) : SqT K H a xs := .inl (.inl h)
theorem Inv.list (I : Inv X pins σ H s) (h : SqL X.K H a xs) : ∃ its : List Value, Vals xs its ∧ PlainL s.heap a its.toArray ∧ xs.length ≤ sizeLine := by
  rcases h with h | ⟨o, its, n, hk, hc, hd, hs, hz, r⟩
  · obtain ⟨z, its, n, r, e⟩ := h.ok I.hok
    exact ⟨its, r, ⟨_, n, e, rfl, rfl, rfl⟩, z⟩
  · refine ⟨its.toList, r, ⟨o, n, I.kIn a o hk, hc, hd, by simpa using hs⟩, ?_⟩
    have e := r.length
    simp only [Array.length_toList] at e
    omega
theorem Inv.tuple (I : Inv X pins σ H s) (h : SqT X.K H a xs) : ∃ its : List Value, Vals xs its ∧ IsTup s.heap a its.toArray ∧ xs.length ≤ sizeLine := by
  rcases h with h | ⟨o, its, n, hk, hc, hs, hz, r⟩
  · obtain ⟨z, its, r, p⟩ := h.ok I.hok
    exact ⟨its, r, p, z⟩
  · refine ⟨its.toList, r, ⟨o, I.kIn a o hk, hc, n, by simpa using hs⟩, ?_⟩
    have e := r.length
    simp only [Array.length_toList] at e
    omega
theorem Inv.list_inj (I : Inv X pins σ H s) (h : SqL X.K H a xs) (h' : SqL X.K H a ys) : xs = ys := by
  obtain ⟨its, r, ⟨o, n, e, _, _, d⟩, _⟩ := I.list h
  obtain ⟨its', r', ⟨o', n', e', _, _, d'⟩, _⟩ := I.list h'
  rw [e] at e'; cases e'
  rw [d] at d'
  injection d' with d1 _
  have : its = its' := by simpa using congrArg Array.toList d1
  subst this
  exact r.inj r'
theorem Inv.tuple_inj (I : Inv X pins σ H s) (h : SqT X.K H a xs) (h' : SqT X.K H a ys) : xs = ys := by
  obtain ⟨its, r, ⟨o, e, _, n, d⟩, _⟩ := I.tuple h
  obtain ⟨its', r', ⟨o', e', _, n', d'⟩, _⟩ := I.tuple h'
  rw [e] at e'; cases e'
  rw [d] at d'
  injection d' with d1 _
  have : its = its' := by simpa using congrArg Array.toList d1
  subst this
  exact r.inj r'
end
abbrev Cx.wish (X : Cx) (E : Value → Shared → Prop) : Cx := { X with xe := E }
abbrev Cx.nox (X : Cx) : Cx := X.wish fun _ _ => False
theorem Cx.Ok.wish {X : Cx} (ok : X.Ok) (E : Value → Shared → Prop) : (X.wish E).Ok :=
  ⟨ok.mod, ok.kind, ok.glob, ok.blt, ok.above, ok.inj, ok.has, ok.cab, ok.hd, ok.frames, ok.stk, ok.exf, ok.bs, ok.bsz, ok.noex, ok.exfs, ok.funs, ok.frf⟩
theorem Cx.Ok.unwish {X : Cx} {E : Value → Shared → Prop} (ok : (X.wish E).Ok) : X.Ok :=
  ⟨ok.mod, ok.kind, ok.glob, ok.blt, ok.above, ok.inj, ok.has, ok.cab, ok.hd, ok.frames, ok.stk, ok.exf, ok.bs, ok.bsz, ok.noex, ok.exfs, ok.funs, ok.frf⟩
section
variable {X : Cx} {pins : List (Addr × Obj)} {σ : St} {H : Hp} {s : Shared} {E : Value → Shared → Prop}
theorem Inv.wish (I : Inv X pins σ H s) (E : Value → Shared → Prop) : Inv (X.wish E) pins σ H s := ⟨I.ok.wish E, I.os, I.bare, I.base, I.loc, I.cell, I.free, I.freeC, I.pin, I.hok, I.len⟩
theorem Inv.unwish (I : Inv (X.wish E) pins σ H s) : Inv X pins σ H s := ⟨I.ok.unwish, I.os, I.bare, I.base, I.loc, I.cell, I.free, I.freeC, I.pin, I.hok, I.len⟩
theorem SP.unwish {D : Ends} {f : Flow} {s' : Shared} (h : SP (X.wish E) pins D f s') : SP X pins D f s' := by
  cases f with
  | next => obtain ⟨σ', H', I, q⟩ := h; exact ⟨σ', H', I.unwish, q⟩
  | brk => obtain ⟨σ', H', I, q⟩ := h; exact ⟨σ', H', I.unwish, q⟩
  | cont => obtain ⟨σ', H', I, q⟩ := h; exact ⟨σ', H', I.unwish, q⟩
  | ret u => obtain ⟨v, σ', H', I, r, q⟩ := h; exact ⟨v, σ', H', I.unwish, r, q⟩
theorem PE.nox {e : Expr} {t : TE} (h : PE X.nox e t) : PE X e t := fun pins s σ H Q I hw =>
  wpAny_mono (h pins s σ H Q (I.wish _) hw) (fun _ _ ⟨v, H', I', r, q⟩ => ⟨v, H', I'.unwish, r, q⟩) fun _ _ z => False.elim z
theorem PT.nox {e : Expr} {t : TT} (h : PT X.nox e t) : PT X e t := fun pins s σ H Q I hw =>
  wpAny_mono (h pins s σ H Q (I.wish _) hw) (fun _ _ ⟨H', I', q⟩ => ⟨H', I'.unwish, q⟩) fun _ _ z => False.elim z
theorem PSs.nox {st : List Stmt} {t : TS} (h : PSs X.nox st t) : PSs X st t := fun pins s σ H D I hw =>
  wpAny_mono (h pins s σ H D (I.wish _) hw) (fun _ _ q => q.unwish) fun _ _ z => False.elim z
end
section
variable {X : Cx} {st : Stmt} {rest : List Stmt} {t u : TS} {e : Expr} {te : TE} {pos : Pos}
def tNext : TS := fun D σ H => D.nx σ H
def tSeq (t u : TS) : TS := fun D σ H => t { D with nx := u D } σ H
theorem pss_nil : PSs X [] tNext := fun _ _ σ H _ I h => wpAny_execs_nil ⟨σ, H, I, h⟩
theorem pss_cons (h1 : PS X st t) (h2 : PSs X rest u) : PSs X (st :: rest) (tSeq t u) := by
  intro pins s σ H D I h
  refine wpAny_execs_cons (thn (h1 pins s σ H { D with nx := u D } I h) fun f s1 q => ?_)
  cases f with
  | next =>
    obtain ⟨σ', H', I', q⟩ := q
    exact h2 pins s1 σ' H' D I' q
  | ret v => exact q
  | brk => exact q
  | cont => exact q
theorem pss_one (h1 : PS X st t) : PSs X [st] t := by
  intro pins s σ H D I h
  refine wpAny_execs_cons (thn (h1 pins s σ H D I h) fun f s1 q => ?_)
  cases f with
  | next => exact wpAny_execs_nil q
  | ret v => exact q
  | brk => exact q
  | cont => exact q
theorem Inv.quiet {pins : List (Addr × Obj)} {σ : St} {H : Hp} {s : Shared} (I : Inv X pins σ H s) : interactive X.env = false := by simp [interactive, I.ok.kind]
def tDrop (te : TE) : TS := fun D σ H => te σ H fun _ H1 => D.nx σ H1
theorem ps_expr (he : PE X e te) (hs : swapsWith e none pos.line X.env = pure false := by rfl) : PS X (.Expr e pos) (tDrop te) := by
  intro pins s σ H D I h
  exact wpAny_Expr_any (thn (he pins s σ H _ I h) fun v s1 ⟨x, H1, I1, r1, q1⟩ => ⟨σ, H1, I1, q1⟩) I.quiet hs
def tRet (te : TE) : TS := fun D σ H => te σ H D.rt
theorem ps_ret (he : PE X e te) : PS X (.Return (some e) pos) (tRet te) := by
  intro pins s σ H D I h
  exact wpAny_Return_some (thn (he pins s σ H _ I h) fun v s1 ⟨x, H1, I1, r1, q1⟩ => ⟨x, σ, H1, I1, r1, q1⟩)
def tIfS (c : TT) (t u : TS) : TS := fun D σ H => c σ H fun b H1 => if b = true then t D σ H1 else u D σ H1
theorem ps_if {c : Expr} {a b : List Stmt} {tc : TT} (hc : PT X c tc) (ha : PSs X a t) (hb : PSs X b u) : PS X (.If c a b pos) (tIfS tc t u) := by
  intro pins s σ H D I h
  refine wpAny_If (thn (hc pins s σ H _ I h) fun d s1 ⟨H1, I1, q1⟩ => ?_)
  cases d with
  | true => exact ha pins s1 σ H1 D I1 q1
  | false => exact hb pins s1 σ H1 D I1 q1
end
abbrev TG := V → St → Hp → (St → Hp → Prop) → Prop
abbrev TGs := List V → St → Hp → (St → Hp → Prop) → Prop
def PG (X : Cx) (target : Expr) (t : TG) : Prop :=
  ∀ (pins : List (Addr × Obj)) (s : Shared) (σ : St) (H : Hp) (v : V) (u : Value) (Q : St → Hp → Prop), Inv X pins σ H s → RelV v u → t v σ H Q →
    wpAny (model X.prog X.w) X.A (assign target X.env u) (fun _ s' => ∃ σ' H', Inv X pins σ' H' s' ∧ Q σ' H') X.xe s
def PGs (X : Cx) (ts : List Expr) (t : TGs) : Prop :=
  ∀ (pins : List (Addr × Obj)) (s : Shared) (σ : St) (H : Hp) (vs : List V) (us : List Value) (Q : St → Hp → Prop), Inv X pins σ H s → Vals vs us → t vs σ H Q →
    wpAny (model X.prog X.w) X.A (assignInOrder ((assignEach ts X.env).map (·.2)) us) (fun _ s' => ∃ σ' H', Inv X pins σ' H' s' ∧ Q σ' H') X.xe s
section
variable {X : Cx} {pos : Pos}
def gName (i : Nat) : TG := fun v σ H Q => Q (σ.set i (some v)) H
theorem pg_name {i : Nat} {x : Str} (hN : X.N.Nodup) (hi : X.N[i]? = some x) (hx : Loc X.env.scope x) (hf : X.fn x = true ∨ X.env.scope.names.lookup x = some .local := by first | exact .inl rfl | exact .inr rfl | assumption) : PG X (.Name x pos) (gName i) := by
  intro pins s σ H v u Q I r h
  exact wpAny_assign_Name (store_ok I hN hi hx r (fun s' I' => ⟨_, H, I', h⟩) hf)
def gNil : TGs := fun vs σ H Q => vs = [] ∧ Q σ H
def gCons (t : TG) (u : TGs) : TGs := fun vs σ H Q => ∃ v r, vs = v :: r ∧ t v σ H fun σ' H' => u r σ' H' Q
theorem pgs_nil : PGs X [] gNil := by
  intro pins s σ H vs us Q I r h
  obtain ⟨e, h⟩ := h
  subst e
  cases r
  exact assignInOrder_nil ⟨σ, H, I, h⟩
theorem pgs_cons {e : Expr} {es : List Expr} {t : TG} {u : TGs} (h1 : PG X e t) (h2 : PGs X es u)
    (hs : (assignEach (e :: es) X.env).map (·.2) = assign e X.env :: (assignEach es X.env).map (·.2) := by rfl) : PGs X (e :: es) (gCons t u) := by
  intro pins s σ H vs us Q I r h
  obtain ⟨v, vr, e1, h⟩ := h
  subst e1
  cases r with
  | cons r rr =>
    rw [hs]
    refine assignInOrder_cons (thn (h1 pins s σ H _ _ _ I r h) fun _ s1 ⟨σ1, H1, I1, q1⟩ => ?_)
    exact h2 pins s1 σ1 H1 _ _ Q I1 rr q1
def gTup (K : PySem.W.Frag) (n : Nat) (t : TGs) : TG := fun v σ H Q => ∃ a xs, v = .ref a ∧ SqT K H a xs ∧ xs.length = n ∧ t xs σ H Q
theorem pg_tup {es : List Expr} {k : Nat} {t : TGs} {n : Nat} (hc : X.calm = true) (h : PGs X es t)
    (hn : (assignEach es X.env).length = n := by rfl) (hst : (assignEach es X.env).findIdx? (·.1) = none := by rfl) : PG X (.Tuple es k pos) (gTup X.K n t) := by
  intro pins s σ H v u Q I r hw
  obtain ⟨a, xs, e1, hq, hl, hw⟩ := hw
  subst e1
  cases r
  obtain ⟨its, rv, ht, hz⟩ := I.tuple hq
  refine assign_Tuple_tuple (I.ok.hd hc) ht (by simp [hn, ← hl, rv.length]) hst fun h' hx => ?_
  have I1 : Inv X pins σ H { s with heap := h' } := I.kept (t' := s.toks) fun b o e => hx b o (Nat.ne_of_lt (Heap.lt_size e)) e
  exact h pins _ σ H xs _ Q I1 (by simpa using rv) hw
def tAsg (te : TE) (g : TG) : TS := fun D σ H => te σ H fun x H1 => g x σ H1 D.nx
theorem ps_set {i : Nat} {x : Str} {e : Expr} {te : TE} {pos' : Pos} (hN : X.N.Nodup) (hi : X.N[i]? = some x) (hx : Loc X.env.scope x) (he : PE X e te) (hs : swapsWith e (some (.Name x pos')) pos.line X.env = pure false := by rfl) (hf : X.fn x = true ∨ X.env.scope.names.lookup x = some .local := by first | exact .inl rfl | exact .inr rfl | assumption) :
    PS X (.Assign [.Name x pos'] e pos) (tAsg te (gName i)) := by
  intro pins s σ H D I h
  refine wpAny_Assign_Name (thn (he pins s σ H _ I h) fun v s1 ⟨y, H1, I1, r1, q1⟩ => ?_) hs
  exact store_ok I1 hN hi hx r1 (fun s2 I2 => ⟨_, H1, I2, q1⟩) hf
def tPar (i j : Nat) (ta : TA) : TS := fun D σ H => ta σ H fun vs H1 => ∃ v w, vs = [v, w] ∧ D.nx ((σ.set i (some v)).set j (some w)) H1
theorem ps_par {i j : Nat} {x y : Str} {a b : Expr} {ta : TA} {px py pt : Pos} {kt k2 pt2} (hc : X.calm = true) (hN : X.N.Nodup) (hi : X.N[i]? = some x) (hj : X.N[j]? = some y) (hij : i ≠ j)
    (hx : X.env.scope.names.lookup x = some .local) (hy : X.env.scope.names.lookup y = some .local) (ha : PA X [a, b] ta)
    (hw : swappedStores [.Tuple [.Name x px, .Name y py] kt pt] (.Tuple [a, b] k2 pt2) X.env = pure (some [x, y]))
    (hs : swapsWithSole [.Tuple [.Name x px, .Name y py] kt pt] (.Tuple [a, b] k2 pt2) pos.line X.env = pure false := by rfl) :
    PS X (.Assign [.Tuple [.Name x px, .Name y py] kt pt] (.Tuple [a, b] k2 pt2) pos) (tPar i j ta) := by
  intro pins s σ H D I h
  rw [exec_Assign_arm]
  refine wpAny_bind (wpAny_standAt ?_)
  rw [hs]
  refine wpAny_bind (wpAny_pure ?_)
  rw [if_neg (by decide)]
  refine wpAny_bind (Tuple_ (thn (ha _ pins s σ H _ I h) fun us s1 ⟨vs, H1, I1, r1, q1⟩ => ?_))
  obtain ⟨v, w, e1, q1⟩ := q1
  subst e1
  obtain ⟨u1, u2, rfl, rv, rw'⟩ : ∃ u1 u2, us = [u1, u2] ∧ RelV v u1 ∧ RelV w u2 := by
    cases r1 with
    | cons p q =>
      cases q with
      | cons p' q' =>
        cases q'
        exact ⟨_, _, rfl, p, p'⟩
  refine wpAny_newObj_type ?_ (by show 2 ≤ sizeLine; decide)
  have I2 : Inv X pins σ H1 { s1 with heap := s1.heap.push { cls := .type "tuple", data := .seq [u1, u2].toArray } } := I1.kept (t' := s1.toks) fun b o e => Heap.get?_push_of_some _ e
  rw [hw]
  refine wpAny_bind (wpAny_pure ?_)
  show wpAny (model X.prog X.w) X.A (do rule "assign.swapped-stores"; let items ← unpackItems (.ref s1.heap.objs.size) 2 none; assignInOrder [fun v => bindName X.env y v, fun v => bindName X.env x v] items.reverse; pure Flow.next) _ _ _
  refine wpAny_bind (wpAny_rule (wpAny_bind (unpackItems_tuple (items := #[u1, u2]) (I.ok.hd hc) (IsTup.new s1.heap _) fun h' hx' => ?_)))
  have I3 := I2.kept (h' := h') (t' := s1.toks) fun b o e => hx' b o (Nat.ne_of_lt (Heap.lt_size e)) e
  show wpAny _ _ (assignInOrder [fun v => bindName X.env y v, fun v => bindName X.env x v] [u2, u1] >>= fun _ => pure Flow.next) _ _ _
  refine wpAny_bind (assignInOrder_cons (wpAny_bindName (store_ok I3 hN hj (.inl hy) rw' (fun s2 I4 => ?_) (.inr hy))))
  refine assignInOrder_cons (wpAny_bindName (store_ok I4 hN hi (.inl hx) rv (fun s3 I5 => assignInOrder_nil (wpAny_pure ?_)) (.inr hx)))
  rw [List.set_comm _ _ (Ne.symm hij)] at I5
  exact ⟨_, H1, I5, q1⟩
end
section
variable {X : Cx} {pos : Pos}
def tWhile (c : TT) (tb : TS) : TS := fun D σ H => ∃ W : Nat → St → Hp → Prop, (∃ m, W m σ H) ∧ ∀ m σ H, W m σ H →
  c σ H fun b H1 => if b = true then ∃ N : St → Hp → Prop, (∀ σ' H', N σ' H' → ∃ m', m' < m ∧ W m' σ' H') ∧ tb { D with nx := N, ct := N, bk := D.nx } σ H1 else D.nx σ H1
theorem ps_while {c : Expr} {body : List Stmt} {tc : TT} {tb : TS} (hp : PassesOwn (model X.prog X.w) X.A X.env X.xe) (hc : PT X c tc) (hb : PSs X body tb) : PS X (.While c body [] pos) (tWhile tc tb) := by
  intro pins s σ H D I h
  obtain ⟨W, ⟨m0, w0⟩, turn⟩ := h
  refine wpAny_While (codeAny_whileLoop (fun n s' => ∃ σ' H', Inv X pins σ' H' s' ∧ W n σ' H') ?_ m0 ⟨σ, H, I, w0⟩)
  rintro n s1 ⟨σ1, H1, I1, w1⟩
  refine wpAny_passesOwn hp (thn (hc pins s1 σ1 H1 _ I1 (turn n σ1 H1 w1)) fun b s2 ⟨H2, I2, q2⟩ => ?_)
  cases b with
  | true =>
    obtain ⟨N, hN, q2⟩ := q2
    rw [if_pos rfl]
    refine wpAny_passesOwn hp (thn (hb pins s2 σ1 H2 _ I2 q2) fun f s3 q3 => ?_)
    cases f with
    | next =>
      obtain ⟨σ3, H3, I3, n3⟩ := q3
      obtain ⟨m', hm, w3⟩ := hN σ3 H3 n3
      exact ⟨m', hm, σ3, H3, I3, w3⟩
    | cont =>
      obtain ⟨σ3, H3, I3, n3⟩ := q3
      obtain ⟨m', hm, w3⟩ := hN σ3 H3 n3
      exact ⟨m', hm, σ3, H3, I3, w3⟩
    | brk => exact q3
    | ret v => exact q3
  | false =>
    rw [if_neg Bool.false_ne_true]
    exact wpAny_execs_nil ⟨σ1, H2, I2, q2⟩
end
structure It where
  go : Nat → Hp → Prop
  yld : Nat → Hp → V → Hp → Prop
  stop : Nat → Hp → Prop
def FpOk (X : Cx) (pins : List (Addr × Obj)) (H : Hp) (b : Addr) : Prop :=
  H b = none ∧ b ≠ X.env.locals ∧ b ∉ X.fs ∧ (b ∈ X.ex ∨ X.s₀.heap.objs.size ≤ b) ∧ (∀ x c, X.env.cells.lookup x = some c → c ≠ b) ∧ ∀ p ∈ X.pn ++ pins, p.1 ≠ b
theorem Inv.fpOk {X : Cx} {pins : List (Addr × Obj)} {σ : St} {H H' : Hp} {s : Shared} {b : Addr} (I : Inv X pins σ H s) (hb : s.heap.objs.size ≤ b) (hn : H' b = none) : FpOk X pins H' b := by
  refine ⟨hn, Nat.ne_of_gt (Nat.lt_of_lt_of_le I.lt hb), I.nofs hb, .inr (Nat.le_trans I.sz hb), fun x c e z => ?_, fun p hp z => ?_⟩
  · obtain ⟨v, q⟩ := I.cell x c e
    exact absurd (Nat.lt_of_lt_of_le q.lt (by rw [z]; exact hb)) (Nat.lt_irrefl _)
  · exact absurd (Nat.lt_of_lt_of_le (Heap.lt_size (I.pin p hp).1) (by rw [z]; exact hb)) (Nat.lt_irrefl _)
structure Turn (P : Program) (w : World) (K : PySem.W.Frag) (tg : Expr) (J : It) (fp : List Addr) (it : Addr) (tn : Nat → Heap → Prop) : Prop where
  mem : it ∈ fp
  obj : ∀ i h, tn i h → ∀ b ∈ fp, ∃ o, h.get? b = some o ∧ ∀ v, o.data ≠ .cell v
  keep : ∀ i h h', tn i h → (∀ b ∈ fp, ∀ o, h.get? b = some o → h'.get? b = some o) → tn i h'
  item : ∀ (X : Cx), X.prog = P → X.w = w → X.K = K → X.calm = true → ∀ (i : Nat) (pins : List (Addr × Obj)) (s : Shared) (σ : St) (H : Hp) (E : Value → Shared → Prop), Inv X pins σ H s → (∀ b ∈ fp, FpOk X pins H b) → tn i s.heap → J.go i H →
    wpAny (model P w) X.A (pyNext (.ref it)) (fun r s1 => ∃ u, r = some u ∧
      wpAny (model P w) X.A (letOwnedTupleGo tg (.ref it) u) (fun _ s2 => ∃ x H', Inv X pins σ H' s2 ∧ RelV x u ∧ J.yld i H x H' ∧ tn (i + 1) s2.heap ∧ ∀ b ∈ fp, H' b = none) E s1) E s
  done : ∀ (X : Cx), X.prog = P → X.w = w → X.K = K → X.calm = true → ∀ (i : Nat) (pins : List (Addr × Obj)) (s : Shared) (σ : St) (H : Hp) (E : Value → Shared → Prop), Inv X pins σ H s → (∀ b ∈ fp, FpOk X pins H b) → tn i s.heap → J.stop i H →
    wpAny (model P w) X.A (pyNext (.ref it)) (fun r s1 => r = none ∧ Inv X pins σ H s1) E s
  self : ∀ (A : Around) (i : Nat) (s : Shared) (Q : Value → Shared → Prop) (E : Value → Shared → Prop), tn i s.heap → Q (.ref it) s → wpAny (model P w) A (pyIter (.ref it)) Q E s
abbrev TI := St → Hp → (It → Hp → Prop) → Prop
def PIE (X : Cx) (pins : List (Addr × Obj)) (σ : St) (tg : Expr) (R : It → Hp → Prop) (itv : Value) (s2 : Shared) : Prop :=
  ∃ (it : Addr) (fp : List Addr) (tn : Nat → Heap → Prop) (J : It) (H' : Hp), itv = .ref it ∧ Inv X pins σ H' s2 ∧ Turn X.prog X.w X.K tg J fp it tn ∧ tn 0 s2.heap ∧ (∀ b ∈ fp, FpOk X pins H' b) ∧ R J H'
def PI (X : Cx) (tg iter : Expr) (wi : TI) : Prop :=
  ∀ (pins : List (Addr × Obj)) (s : Shared) (σ : St) (H : Hp) (R : It → Hp → Prop), Inv X pins σ H s → wi σ H R →
    wpAny (model X.prog X.w) X.A (eval iter X.env) (fun v s1 => wpAny (model X.prog X.w) X.A (pyIter v) (PIE X pins σ tg R) X.xe s1) X.xe s
theorem go_of {M : Model} {A : Around} {E : Value → Shared → Prop} {s : Shared} {tg : Expr} {it : Addr} {u : Value} {o : Obj} {n : String} {vs : Array Value} {Q : Unit → Shared → Prop} (ho : s.heap.get? it = some o) (hc : o.cls = .type n) (hd : o.data = .fields vs)
    (hn : ["enumerate", "zip", "dict_itemiterator", "dict_reverseitemiterator", "odict_iterator", "itertools.zip_longest", "itertools.pairwise"].contains n = false) (hQ : Q () s) : wpAny M A (letOwnedTupleGo tg (.ref it) u) Q E s := by
  unfold letOwnedTupleGo
  cases tg <;> first
    | exact wpAny_pure hQ
    | (cases u <;> first
        | exact wpAny_pure hQ
        | (refine wpAny_bind (wpAny_load ho ?_)
           rw [hc, hd]
           show wpAny M A (if (["enumerate", "zip", "dict_itemiterator", "dict_reverseitemiterator", "odict_iterator", "itertools.zip_longest", "itertools.pairwise"].contains n && vs[0]? == some (rawInt _)) = true then _ else _) Q E s
           rw [if_neg (by intro h; rw [hn, Bool.false_and] at h; cases h)]
           exact wpAny_pure hQ))
def Itl (K : PySem.W.Frag) (a : Addr) : It :=
  ⟨fun i H => ∃ xs x, SqL K H a xs ∧ xs[i]? = some x, fun i H x H' => H' = H ∧ ∀ xs, SqL K H a xs → xs[i]? = some x, fun i H => ∃ xs, SqL K H a xs ∧ xs.length ≤ i⟩
def Itt (K : PySem.W.Frag) (a : Addr) : It :=
  ⟨fun i H => ∃ xs x, SqT K H a xs ∧ xs[i]? = some x, fun i H x H' => H' = H ∧ ∀ xs, SqT K H a xs → xs[i]? = some x, fun i H => ∃ xs, SqT K H a xs ∧ xs.length ≤ i⟩
def Itr (lo : Int) (n : Nat) : It := ⟨fun i _ => i < n, fun i H x H' => H' = H ∧ x = .int (lo + i), fun i _ => n ≤ i⟩
theorem turn_list {P : Program} {w : World} {K : PySem.W.Frag} {tg : Expr} (a it : Addr) : Turn P w K tg (Itl K a) [it] it (fun i h => h.IsListIter it a i) where
  mem := by simp
  obj := fun i h st b hb => by
    have e : b = it := by simpa using hb
    subst e
    obtain ⟨o, e, c, d⟩ := st
    exact ⟨o, e, fun v z => by rw [d] at z; cases z⟩
  keep := fun i h h' st k => st.at fun o e => k it (by simp) o e
  item := by
    intro X hP hw hK hc i pins s σ H E I hf st hg
    subst hP hw hK
    obtain ⟨xs, x, hq, hx⟩ := hg
    obtain ⟨its, rv, p, hz⟩ := I.list hq
    obtain ⟨u, hu, ru⟩ := rv.get hx
    obtain ⟨f0, f1, f2, f3, f4, f5⟩ := hf it (by simp)
    refine wpAny_pyNext_list_item st p.isList (x := u) (by simpa using hu) fun h' st' sb => ?_
    have I1 : Inv X pins σ H { s with heap := h' } := I.turned (t' := s.toks) (fun b o hb e => (sb.2 b hb).trans e) f0 f1 f3 f4 f5
    obtain ⟨o, e, c, d⟩ := id st'
    exact ⟨u, rfl, go_of (s := { s with heap := h' }) e c d (by decide) ⟨x, H, I1, ru, ⟨rfl, fun ys hy => by rw [I.list_inj hy hq]; exact hx⟩, st', fun b hb => (hf b hb).1⟩⟩
  done := by
    intro X hP hw hK hc i pins s σ H E I hf st hg
    subst hP hw hK
    obtain ⟨xs, hq, hx⟩ := hg
    obtain ⟨its, rv, p, hz⟩ := I.list hq
    obtain ⟨f0, f1, f2, f3, f4, f5⟩ := hf it (by simp)
    have hl := rv.length
    exact wpAny_pyNext_list_end (I.ok.hd hc) st p.isList (by simp; omega) fun h' eb => ⟨rfl, I.turned (t' := s.toks) (fun b o hb e => eb b o hb e) f0 f1 f3 f4 f5⟩
  self := fun _ _ _ _ _ st h => wpAny_pyIter_listiter st h
theorem turn_tuple {P : Program} {w : World} {K : PySem.W.Frag} {tg : Expr} (a it : Addr) : Turn P w K tg (Itt K a) [it] it (fun i h => h.IsTupleIter it a i) where
  mem := by simp
  obj := fun i h st b hb => by
    have e : b = it := by simpa using hb
    subst e
    obtain ⟨o, e, c, d⟩ := st
    exact ⟨o, e, fun v z => by rw [d] at z; cases z⟩
  keep := fun i h h' st k => st.at fun o e => k it (by simp) o e
  item := by
    intro X hP hw hK hc i pins s σ H E I hf st hg
    subst hP hw hK
    obtain ⟨xs, x, hq, hx⟩ := hg
    obtain ⟨its, rv, p, hz⟩ := I.tuple hq
    obtain ⟨u, hu, ru⟩ := rv.get hx
    obtain ⟨f0, f1, f2, f3, f4, f5⟩ := hf it (by simp)
    refine wpAny_pyNext_tuple_item st (show s.heap.IsTuple a its.toArray from p) (x := u) (by simpa using hu) fun h' st' sb => ?_
    have I1 : Inv X pins σ H { s with heap := h' } := I.turned (t' := s.toks) (fun b o hb e => (sb.2 b hb).trans e) f0 f1 f3 f4 f5
    obtain ⟨o, e, c, d⟩ := id st'
    exact ⟨u, rfl, go_of (s := { s with heap := h' }) e c d (by decide) ⟨x, H, I1, ru, ⟨rfl, fun ys hy => by rw [I.tuple_inj hy hq]; exact hx⟩, st', fun b hb => (hf b hb).1⟩⟩
  done := by
    intro X hP hw hK hc i pins s σ H E I hf st hg
    subst hP hw hK
    obtain ⟨xs, hq, hx⟩ := hg
    obtain ⟨its, rv, p, hz⟩ := I.tuple hq
    obtain ⟨f0, f1, f2, f3, f4, f5⟩ := hf it (by simp)
    have hl := rv.length
    exact wpAny_pyNext_tuple_end (I.ok.hd hc) st (show s.heap.IsTuple a its.toArray from p) (by simp; omega) fun h' eb => ⟨rfl, I.turned (t' := s.toks) (fun b o hb e => eb b o hb e) f0 f1 f3 f4 f5⟩
  self := fun _ _ _ _ _ st h => wpAny_pyIter_tupleiter st h
theorem turn_range {P : Program} {w : World} {K : PySem.W.Frag} {tg : Expr} (it : Addr) (lo : Int) (n : Nat) : Turn P w K tg (Itr lo n) [it] it (fun i h => IsRangeIter h it (lo + (i : Nat) * 1) ((n : Int) - (i : Nat)) 1) where
  mem := by simp
  obj := fun i h st b hb => by
    have e : b = it := by simpa using hb
    subst e
    exact ⟨_, st, fun v z => by
      have z' : Data.fields _ = Data.cell v := z
      cases z'⟩
  keep := fun i h h' st k => k it (by simp) _ st
  item := by
    intro X hP hw hK hc i pins s σ H E I hf st hg
    subst hP hw hK
    obtain ⟨f0, f1, f2, f3, f4, f5⟩ := hf it (by simp)
    have W := Walks.range (prog := X.prog) (w := X.w) (I.ok.hd hc) it lo 1 n
    refine W.item i s _ _ hg st fun v h' tk hv st' kk => ?_
    obtain ⟨t, rfl⟩ := hv
    have I1 : Inv X pins σ H { s with heap := h', toks := tk } := I.turned (fun b o hb e => kk b o (by simpa using hb) e) f0 f1 f3 f4 f5
    refine ⟨_, rfl, go_of (s := { s with heap := h', toks := tk }) (n := "range_iterator") st' rfl rfl (by decide) ⟨.int (lo + i), H, I1, ⟨t, ?_⟩, ⟨rfl, rfl⟩, st', fun b hb => (hf b hb).1⟩⟩
    rw [Int.mul_one]
  done := by
    intro X hP hw hK hc i pins s σ H E I hf st hg
    subst hP hw hK
    obtain ⟨f0, f1, f2, f3, f4, f5⟩ := hf it (by simp)
    exact wpAny_pyNext_range_end (I.ok.hd hc) st (by have : n ≤ i := hg; omega) fun h' eb => ⟨rfl, I.turned (t' := s.toks) (fun b o hb e => eb b o hb e) f0 f1 f3 f4 f5⟩
  self := fun _ _ _ _ _ st h => wpAny_pyIter_rangeiter st h
end L2
namespace L2
open PySem PySem.Spec PyProof.Rows
section
variable {X : Cx} {tg : Expr}
def iList (K : PySem.W.Frag) (tl : TE) : TI := fun σ H R => tl σ H fun x H1 => ∃ a, x = .ref a ∧ (∃ xs, SqL K H1 a xs) ∧ R (Itl K a) H1
def iTup (K : PySem.W.Frag) (tl : TE) : TI := fun σ H R => tl σ H fun x H1 => ∃ a, x = .ref a ∧ (∃ xs, SqT K H1 a xs) ∧ R (Itt K a) H1
theorem pi_list {l : Expr} {tl : TE} (hl : PE X l tl) : PI X tg l (iList X.K tl) := by
  intro pins s σ H R I h
  refine thn (hl pins s σ H _ I h) fun v s1 ⟨x, H1, I1, r1, q1⟩ => ?_
  obtain ⟨a, e, ⟨xs, hq⟩, q⟩ := q1
  subst e
  cases r1
  obtain ⟨its, rv, p, hz⟩ := I1.list hq
  refine wpAny_pyIter_list p.isList ?_
  refine ⟨s1.heap.objs.size, [s1.heap.objs.size], _, _, H1, rfl, I1.kept (t' := s1.toks) fun b o e => Heap.get?_push_of_some _ e, turn_list a _, ⟨_, Heap.get?_push_size _ rfl, rfl, rfl⟩, fun b hb => ?_, q⟩
  have e : b = s1.heap.objs.size := by simpa using hb
  subst e
  exact I1.fpOk (Nat.le_refl _) (I1.hok.fresh (Nat.le_refl _))
theorem pi_tup {l : Expr} {tl : TE} (hl : PE X l tl) : PI X tg l (iTup X.K tl) := by
  intro pins s σ H R I h
  refine thn (hl pins s σ H _ I h) fun v s1 ⟨x, H1, I1, r1, q1⟩ => ?_
  obtain ⟨a, e, ⟨xs, hq⟩, q⟩ := q1
  subst e
  cases r1
  obtain ⟨its, rv, p, hz⟩ := I1.tuple hq
  refine wpAny_pyIter_tuple (show s1.heap.IsTuple a its.toArray from p) ?_
  refine ⟨s1.heap.objs.size, [s1.heap.objs.size], _, _, H1, rfl, I1.kept (t' := s1.toks) fun b o e => Heap.get?_push_of_some _ e, turn_tuple a _, ⟨_, Heap.get?_push_size _ rfl, rfl, rfl⟩, fun b hb => ?_, q⟩
  have e : b = s1.heap.objs.size := by simpa using hb
  subst e
  exact I1.fpOk (Nat.le_refl _) (I1.hok.fresh (Nat.le_refl _))
theorem range_it {pins : List (Addr × Obj)} {σ : St} {H : Hp} {s : Shared} {R : It → Hp → Prop} {E : Value → Shared → Prop} {lo hi : Int} {t u v : Tok} {tk : Nat} (I : Inv X pins σ H s) (h1 : -(2 ^ 62) ≤ lo) (h2 : lo < 2 ^ 62) (h3 : -(2 ^ 62) ≤ hi) (h4 : hi < 2 ^ 62)
    (q : R (Itr lo (hi - lo).toNat) H) : wpAny (model X.prog X.w) X.A (pyIter (.ref s.heap.objs.size)) (PIE X pins σ tg R) E { s with heap := s.heap.push { cls := .type "range", data := .fields #[.int lo t, .int hi u, .int 1 v] }, toks := tk } := by
  refine wpAny_pyIter_range (IsRange.new ..) (small_one h1 h2 h3 h4) ?_
  have I1 : Inv X pins σ H { s with heap := s.heap.push { cls := .type "range", data := .fields #[.int lo t, .int hi u, .int 1 v] }, toks := tk } := I.kept fun b o e => Heap.get?_push_of_some _ e
  refine ⟨(s.heap.push { cls := .type "range", data := .fields #[.int lo t, .int hi u, .int 1 v] }).objs.size, [(s.heap.push { cls := .type "range", data := .fields #[.int lo t, .int hi u, .int 1 v] }).objs.size], _, _, H, rfl,
    I1.kept (t' := tk) fun b o e => Heap.get?_push_of_some _ e, turn_range _ lo (hi - lo).toNat, ?_, fun b hb => ?_, q⟩
  · have e1 : lo + ((0 : Nat) : Int) * 1 = lo := by simp
    have e2 : (((hi - lo).toNat : Nat) : Int) - ((0 : Nat) : Int) = Builtin.Range.rangeSize lo hi 1 := by rw [rangeSize_one]; split <;> omega
    show IsRangeIter _ _ (lo + ((0 : Nat) : Int) * 1) ((((hi - lo).toNat : Nat) : Int) - ((0 : Nat) : Int)) 1
    rw [e1, e2]
    exact Heap.get?_push_size _ rfl
  · have e : b = (s.heap.push { cls := .type "range", data := .fields #[.int lo t, .int hi u, .int 1 v] }).objs.size := by simpa using hb
    subst e
    exact I1.fpOk (Nat.le_refl _) (I1.hok.fresh (Nat.le_refl _))
def iRng1 (ta : TA) : TI := fun σ H R => ta σ H fun vs H1 => ∃ j : Int, vs = [.int j] ∧ -(2 ^ 62) ≤ j ∧ j < 2 ^ 62 ∧ R (Itr 0 j.toNat) H1
def iRng2 (ta : TA) : TI := fun σ H R => ta σ H fun vs H1 => ∃ i j : Int, vs = [.int i, .int j] ∧ (-(2 ^ 62) ≤ i ∧ i < 2 ^ 62 ∧ -(2 ^ 62) ≤ j ∧ j < 2 ^ 62) ∧ R (Itr i (j - i).toNat) H1
theorem pi_range1 {a : Expr} {ta : TA} {p pos : Pos} (hg : Gl X "range") (hm : X.mg "range" = none) (ha : PA X [a] ta) (hs : starEach [a] X.env = [(false, eval a X.env)] := by rfl) : PI X tg (.Call (.Name "range" p) [a] [] pos) (iRng1 ta) := by
  intro pins s σ H R I h
  refine Call_ (ld_blt I hg hm boot_range (PyProof.Rows.callWith_type1 (thn (ha pos pins s σ H _ I h) fun us s1 ⟨vs, H1, I1, r1, q1⟩ => ?_) hs rfl))
  obtain ⟨j, e, q1, q2, q⟩ := q1
  subst e
  cases r1 with
  | cons r rr =>
    cases rr
    obtain ⟨t, rfl⟩ := r
    exact call_range_1 (range_it I1 (by omega) (by omega) q1 q2 (by simpa using q))
def tFor (wi : TI) (g : TG) (tb : TS) : TS := fun D σ H => wi σ H fun J H1 => ∃ W : Nat → Nat → St → Hp → Prop, (∃ m, W 0 m σ H1) ∧ ∀ i m σ H, W i m σ H →
  (J.stop i H ∧ D.nx σ H) ∨ (J.go i H ∧ ∃ N : St → Hp → Prop, (∀ σ' H', N σ' H' → ∃ m', m' < m ∧ W (i + 1) m' σ' H') ∧ ∀ x H', J.yld i H x H' → g x σ H' fun σ2 H2 => tb { D with nx := N, ct := N, bk := D.nx } σ2 H2)
def pinsAt (fp : List Addr) (h : Heap) : List (Addr × Obj) := fp.filterMap fun b => (h.get? b).map fun o => (b, o)
theorem mem_pinsAt {fp : List Addr} {h : Heap} {b : Addr} {o : Obj} (hb : b ∈ fp) (e : h.get? b = some o) : (b, o) ∈ pinsAt fp h := List.mem_filterMap.mpr ⟨b, hb, by rw [e]; rfl⟩
theorem of_pinsAt {fp : List Addr} {h : Heap} {p : Addr × Obj} (hp : p ∈ pinsAt fp h) : p.1 ∈ fp ∧ h.get? p.1 = some p.2 := by
  obtain ⟨b, hb, e⟩ := List.mem_filterMap.mp hp
  cases q : h.get? b with
  | none => rw [q] at e; cases e
  | some o =>
    rw [q] at e
    have e' : (b, o) = p := Option.some.inj e
    subst e'
    exact ⟨hb, q⟩
theorem Inv.pinned {pins : List (Addr × Obj)} {σ : St} {H : Hp} {s : Shared} {fp : List Addr} (I : Inv X pins σ H s) (hf : ∀ b ∈ fp, FpOk X pins H b) (ho : ∀ b ∈ fp, ∃ o, s.heap.get? b = some o ∧ ∀ v, o.data ≠ .cell v) : Inv X (pins ++ pinsAt fp s.heap) σ H s :=
  I.pins_of fun p hp => (List.mem_append.mp hp).elim (fun z => I.pin p (List.mem_append_right _ z)) fun z => by
    obtain ⟨hb, e⟩ := of_pinsAt z
    obtain ⟨f0, f1, f2, _⟩ := hf p.1 hb
    obtain ⟨o, e', d⟩ := ho p.1 hb
    rw [e] at e'; cases e'
    exact ⟨e, f0, f1, f2, d⟩
theorem Inv.unpinned {pins pl : List (Addr × Obj)} {σ : St} {H : Hp} {s : Shared} (I : Inv X (pins ++ pl) σ H s) : Inv X pins σ H s := I.pins_of fun p hp => I.pin p (List.mem_append_right _ (List.mem_append_left _ hp))
theorem ps_for {iter : Expr} {body : List Stmt} {wi : TI} {g : TG} {tb : TS} {pos : Pos} (hp : PassesOwn (model X.prog X.w) X.A X.env X.xe) (hc : X.calm = true) (hi : PI X tg iter wi) (hg : PG X tg g) (hb : PSs X body tb)
    (hs : ∀ x, foldedSetIterable iter X.env x = pure x := by intro _; rfl) : PS X (.For tg iter body [] pos) (tFor wi g tb) := by
  intro pins s σ H D I h
  refine wpAny_For (thn (hi pins s σ H _ I h) fun v s1 h1 => thn h1 fun itv s2 h2 => ?_) hs
  obtain ⟨it, fp, tn, J, H2, e, I2, T, st2, f2, W, ⟨m0, w0⟩, turn⟩ := h2
  subst e
  -- what stays true of the iterator's objects through the loop
  have stat : ∀ {H' : Hp}, (∀ b ∈ fp, H' b = none) → ∀ b ∈ fp, FpOk X pins H' b := fun hn b hb => ⟨hn b hb, (f2 b hb).2⟩
  refine codeAny_forLoop_any (fun n s' => ∃ i σ' H', Inv X pins σ' H' s' ∧ tn i s'.heap ∧ (∀ b ∈ fp, H' b = none) ∧ W i n σ' H') ?_ m0 ⟨0, σ, H2, I2, st2, fun b hb => (f2 b hb).1, w0⟩
  rintro n s3 ⟨i, σ3, H3, I3, st3, fr3, w3⟩
  rcases turn i n σ3 H3 w3 with ⟨stop, qn⟩ | ⟨go, N, hN, step⟩
  · refine wpAny_passesOwn hp (thn (T.done X rfl rfl rfl hc i pins s3 σ3 H3 X.xe I3 (stat fr3) st3 stop) fun r s4 ⟨hr, I4⟩ => ?_)
    subst hr
    exact wpAny_execs_nil ⟨σ3, H3, I4, qn⟩
  · refine wpAny_passesOwn hp (thn (T.item X rfl rfl rfl hc i pins s3 σ3 H3 X.xe I3 (stat fr3) st3 go) fun r s4 ⟨u, hr, h4⟩ => ?_)
    subst hr
    refine wpAny_passesOwn hp (thn h4 fun _ s5 ⟨x, H5, I5, r5, y5, st5, fr5⟩ => ?_)
    have I5' := I5.pinned (stat fr5) (T.obj _ _ st5)
    refine wpAny_passesOwn hp (thn (hg _ s5 σ3 H5 x u _ I5' r5 (step x H5 y5)) fun _ s6 ⟨σ6, H6, I6, q6⟩ => ?_)
    refine wpAny_passesOwn hp (thn (hb _ s6 σ6 H6 _ I6 q6) fun f s7 q7 => ?_)
    have again : ∀ {σ7 : St} {H7 : Hp}, Inv X (pins ++ pinsAt fp s5.heap) σ7 H7 s7 → N σ7 H7 → ∃ m, m < n ∧ ∃ i σ' H', Inv X pins σ' H' s7 ∧ tn i s7.heap ∧ (∀ b ∈ fp, H' b = none) ∧ W i m σ' H' := fun {σ7 H7} I7 n7 => by
      obtain ⟨m', hm, w7⟩ := hN σ7 H7 n7
      refine ⟨m', hm, i + 1, σ7, H7, I7.unpinned, T.keep _ _ _ st5 fun b hb o e => (I7.pin (b, o) (List.mem_append_right _ (List.mem_append_right _ (mem_pinsAt hb e)))).1, fun b hb => ?_, w7⟩
      obtain ⟨o, e, d⟩ := T.obj _ _ st5 b hb
      exact (I7.pin (b, o) (List.mem_append_right _ (List.mem_append_right _ (mem_pinsAt hb e)))).2.1
    cases f with
    | next => obtain ⟨σ7, H7, I7, n7⟩ := q7; exact again I7 n7
    | cont => obtain ⟨σ7, H7, I7, n7⟩ := q7; exact again I7 n7
    | brk => obtain ⟨σ7, H7, I7, q7⟩ := q7; exact ⟨σ7, H7, I7.unpinned, q7⟩
    | ret v => obtain ⟨x7, σ7, H7, I7, r7, q7⟩ := q7; exact ⟨x7, σ7, H7, I7.unpinned, r7, q7⟩
end
end L2
namespace L2
open PySem PySem.Spec PyProof.Rows
abbrev R2 := V → V → Hp → VK → Prop
def OpR (X : Cx) (f : Value → Value → Sem Value) (r : R2) : Prop :=
  ∀ (pins : List (Addr × Obj)) (s : Shared) (σ : St) (H : Hp) (x y : V) (v u : Value) (Q : VK), Inv X pins σ H s → RelV x v → RelV y u → r x y H Q →
    wpAny (model X.prog X.w) X.A (f v u) (EP X pins σ Q) X.xe s
def UnR (X : Cx) (f : Value → Sem Value) (r : V → Hp → VK → Prop) : Prop :=
  ∀ (pins : List (Addr × Obj)) (s : Shared) (σ : St) (H : Hp) (x : V) (v : Value) (Q : VK), Inv X pins σ H s → RelV x v → r x H Q →
    wpAny (model X.prog X.w) X.A (f v) (EP X pins σ Q) X.xe s
def CallR (X : Cx) (f : Value) (r : List V → Hp → VK → Prop) : Prop :=
  ∀ (pins : List (Addr × Obj)) (s : Shared) (σ : St) (H : Hp) (xs : List V) (us : List Value) (Q : VK), Inv X pins σ H s → Vals xs us → r xs H Q →
    wpAny (model X.prog X.w) X.A (call f us) (EP X pins σ Q) X.xe s
def tOp (r : R2) (ta tb : TE) : TE := fun σ H Q => ta σ H fun x H1 => tb σ H1 fun y H2 => r x y H2 Q
def tUn (r : V → Hp → VK → Prop) (ta : TE) : TE := fun σ H Q => ta σ H fun x H1 => r x H1 Q
def rI (C : Int → Int → Prop) (g : Int → Int → V) : R2 := fun x y H Q => ∃ i j, x = .int i ∧ y = .int j ∧ C i j ∧ Q (g i j) H
def rI0 (g : Int → Int → V) : R2 := fun x y H Q => ∃ i j, x = .int i ∧ y = .int j ∧ Q (g i j) H
def rU (g : Int → V) : V → Hp → VK → Prop := fun x H Q => ∃ i, x = .int i ∧ Q (g i) H
section
variable {X : Cx} {a b c : Expr} {ta tb tc : TE} {pos : Pos}
theorem binT (ha : PE X a ta) (hb : PE X b tb) {pins : List (Addr × Obj)} {s : Shared} {σ : St} {H : Hp} {R : V → V → Hp → Prop} (I : Inv X pins σ H s)
    (h : ta σ H fun x H1 => tb σ H1 fun y H2 => R x y H2) {Q : Value → Shared → Prop} {f : Value → Value → Sem Value}
    (hf : ∀ v u s2 x y H2, Inv X pins σ H2 s2 → RelV x v → RelV y u → R x y H2 → wpAny (model X.prog X.w) X.A (f v u) Q X.xe s2) :
    wpAny (model X.prog X.w) X.A (eval a X.env) (fun v s₁ => wpAny (model X.prog X.w) X.A (eval b X.env) (fun u s₂ => wpAny (model X.prog X.w) X.A (f v u) Q X.xe s₂) X.xe s₁) X.xe s := by
  refine thn (ha pins s σ H _ I h) fun v s1 ⟨x, H1, I1, r1, q1⟩ => ?_
  refine thn (hb pins s1 σ H1 _ I1 q1) fun u s2 ⟨y, H2, I2, r2, q2⟩ => ?_
  exact hf v u s2 x y H2 I2 r1 r2 q2
theorem pe_op {op : Operator} {r : R2} (ho : OpR X (binaryOp op) r) (ha : PE X a ta) (hb : PE X b tb) : PE X (.BinOp a op b pos) (tOp r ta tb) := by
  intro pins s σ H Q I h
  exact wpAny_BinOp (binT ha hb I h fun v u s2 x y H2 I2 rx ry q => ho pins s2 σ H2 x y v u Q I2 rx ry q)
theorem pe_un {op : UnaryOp} {r : V → Hp → VK → Prop} (ho : UnR X (unaryOp op) r) (ha : PE X a ta) : PE X (.UnaryOp op a pos) (tUn r ta) := by
  intro pins s σ H Q I h
  exact UnaryOp_ (thn (ha pins s σ H _ I h) fun v s1 ⟨x, H1, I1, r1, q1⟩ => ho pins s1 σ H1 x v Q I1 r1 q1)
theorem opI {f : Value → Value → Sem Value} {C : Int → Int → Prop} {g : Int → Int → Int}
    (rule : ∀ (i j : Int) (t u : Tok) (s : Shared) (Q : Value → Shared → Prop) (E : Value → Shared → Prop), C i j → Q (.int (g i j) s.toks) { s with toks := s.toks + 1 } → wpAny (model X.prog X.w) X.A (f (.int i t) (.int j u)) Q E s) :
    OpR X f (rI C fun i j => .int (g i j)) := by
  intro pins s σ H x y v u Q I rx ry h
  obtain ⟨i, j, rfl, rfl, hc, q⟩ := h
  obtain ⟨t, rfl⟩ := rx
  obtain ⟨t', rfl⟩ := ry
  exact rule i j t t' s _ _ hc ⟨.int (g i j), H, I.tok _, ⟨_, rfl⟩, q⟩
theorem opI0 {f : Value → Value → Sem Value} {g : Int → Int → Int}
    (rule : ∀ (i j : Int) (t u : Tok) (s : Shared) (Q : Value → Shared → Prop) (E : Value → Shared → Prop), Q (.int (g i j) s.toks) { s with toks := s.toks + 1 } → wpAny (model X.prog X.w) X.A (f (.int i t) (.int j u)) Q E s) :
    OpR X f (rI0 fun i j => .int (g i j)) := by
  intro pins s σ H x y v u Q I rx ry h
  obtain ⟨i, j, rfl, rfl, q⟩ := h
  obtain ⟨t, rfl⟩ := rx
  obtain ⟨t', rfl⟩ := ry
  exact rule i j t t' s _ _ ⟨.int (g i j), H, I.tok _, ⟨_, rfl⟩, q⟩
theorem opB0 {f : Value → Value → Sem Value} {g : Int → Int → Bool}
    (rule : ∀ (i j : Int) (t u : Tok) (s : Shared) (Q : Value → Shared → Prop) (E : Value → Shared → Prop), Q (.bool (g i j)) s → wpAny (model X.prog X.w) X.A (f (.int i t) (.int j u)) Q E s) :
    OpR X f (rI0 fun i j => .bl (g i j)) := by
  intro pins s σ H x y v u Q I rx ry h
  obtain ⟨i, j, rfl, rfl, q⟩ := h
  obtain ⟨t, rfl⟩ := rx
  obtain ⟨t', rfl⟩ := ry
  exact rule i j t t' s _ _ ⟨.bl (g i j), H, I, rfl, q⟩
def CPow (i j : Int) : Prop := 0 ≤ j ∧ j ≤ 1000000 ∧ i.natAbs < 2 ^ 64
def CMul (i j : Int) : Prop := (-(2 ^ 64) < i ∧ i < 2 ^ 64) ∨ (-(2 ^ 64) < j ∧ j < 2 ^ 64)
theorem CMul.ok {i j : Int} (h : CMul i j) : IntMulOk i j := by
  rcases h with ⟨h1, h2⟩ | ⟨h1, h2⟩
  · exact .of_left (intBits_le_64 h1 h2)
  · exact .of_right (intBits_le_64 h1 h2)
theorem op_add : OpR X (binaryOp .Add) (rI0 fun i j => .int (i + j)) := opI0 fun _ _ _ _ _ _ _ q => add_int q
theorem op_sub : OpR X (binaryOp .Sub) (rI0 fun i j => .int (i - j)) := opI0 fun _ _ _ _ _ _ _ q => sub_int q
theorem op_modN : OpR X (binaryOp .Mod) (rI (fun _ j => j ≠ 0) fun i j => .int (i.fmod j)) := opI fun _ _ _ _ _ _ _ hc q => mod_int' hc q
theorem op_pow : OpR X (binaryOp .Pow) (rI CPow fun i j => .int (i ^ j.toNat)) := opI fun _ _ _ _ _ _ _ hc q => pow_int_small hc.1 hc.2.1 hc.2.2 q
theorem op_xor : OpR X (binaryOp .BitXor) (rI0 fun i j => .int (Builtin.bitXor i j)) := opI0 fun _ _ _ _ _ _ _ q => xor_int q
theorem unI {f : Value → Sem Value} {g : Int → Int}
    (rule : ∀ (i : Int) (t : Tok) (s : Shared) (Q : Value → Shared → Prop) (E : Value → Shared → Prop), Q (.int (g i) s.toks) { s with toks := s.toks + 1 } → wpAny (model X.prog X.w) X.A (f (.int i t)) Q E s) :
    UnR X f (rU fun i => .int (g i)) := by
  intro pins s σ H x v Q I rx h
  obtain ⟨i, rfl, q⟩ := h
  obtain ⟨t, rfl⟩ := rx
  exact rule i t s _ _ ⟨.int (g i), H, I.tok _, ⟨_, rfl⟩, q⟩
theorem un_neg : UnR X (unaryOp .USub) (rU fun i => .int (-i)) := unI fun _ _ _ _ _ q => neg_int q
end
section
variable {X : Cx} {a b c : Expr} {ta tb tc : TE} {pos : Pos}
theorem fin_bl {pins : List (Addr × Obj)} {σ : St} {H : Hp} {s : Shared} {Q : VK} {k k' : Bool} (I : Inv X pins σ H s) (q : Q (.bl k) H) (e : k = k') : EP X pins σ Q (.bool k') s := by
  subst e
  exact ⟨.bl k, H, I, rfl, q⟩
theorem op_lt : OpR X (compareOp .Lt) (rI0 fun i j => .bl (decide (i < j))) := opB0 fun _ _ _ _ _ _ _ q => lt_int q
theorem op_le : OpR X (compareOp .LtE) (rI0 fun i j => .bl (decide (i ≤ j))) := opB0 fun _ _ _ _ _ _ _ q => le_int q
theorem op_in_str : OpR X (compareOp .In) (fun x y H Q => ∃ i j, x = .str i ∧ y = .str j ∧ Q (.bl (!(Builtin.Str.occurrences j i 0 j.length 1).isEmpty)) H) := by
  intro pins s σ H x y v u Q I rx ry h
  obtain ⟨i, j, rfl, rfl, q⟩ := h
  obtain ⟨t, rfl⟩ := rx
  obtain ⟨t', rfl⟩ := ry
  exact in_str (fin_bl I q rfl)
theorem op_notin_str : OpR X (compareOp .NotIn) (fun x y H Q => ∃ i j, x = .str i ∧ y = .str j ∧ Q (.bl (!(!(Builtin.Str.occurrences j i 0 j.length 1).isEmpty))) H) := by
  intro pins s σ H x y v u Q I rx ry h
  obtain ⟨i, j, rfl, rfl, q⟩ := h
  obtain ⟨t, rfl⟩ := rx
  obtain ⟨t', rfl⟩ := ry
  exact notIn_str (fin_bl I q rfl)
theorem OpR.or {f : Value → Value → Sem Value} {r r' : R2} (h : OpR X f r) (h' : OpR X f r') : OpR X f (fun x y H Q => r x y H Q ∨ r' x y H Q) := by
  intro pins s σ H x y v u Q I rx ry q
  rcases q with q | q
  · exact h pins s σ H x y v u Q I rx ry q
  · exact h' pins s σ H x y v u Q I rx ry q
theorem nomark (b : Expr) {op : CmpOp} (h : op ≠ .In := by decide) (h2 : op ≠ .NotIn := by decide) : behindInMarks op b = false := by
  have e1 : (op == CmpOp.In) = false := by cases op <;> first | rfl | exact absurd rfl h
  have e2 : (op == CmpOp.NotIn) = false := by cases op <;> first | rfl | exact absurd rfl h2
  cases b <;> simp [behindInMarks, e1, e2]
theorem pe_cmpR {op : CmpOp} {r : R2} (ho : OpR X (compareOp op) r) (ha : PE X a ta) (hb : PE X b tb) (hm : behindInMarks op b = false) : PE X (.Compare a [op] [b] pos) (tOp r ta tb) := by
  intro pins s σ H Q I h
  exact wpAny_Compare1 (binT ha hb I h fun v u s2 x y H2 I2 rx ry q => ho pins s2 σ H2 x y v u Q I2 rx ry q) hm
def tTest (t : TE) : TT := fun σ H Q => t σ H fun x H' => ∃ k, x = .bl k ∧ Q k H'
theorem pt_cmpR {op : CmpOp} {r : R2} (ho : OpR X (compareOp op) r) (ha : PE X a ta) (hb : PE X b tb) (hm : behindInMarks op b = false) : PT X (.Compare a [op] [b] pos) (tTest (tOp r ta tb)) := by
  intro pins s σ H Q I h
  refine wpAny_isTrue_Compare1 (thn (ha pins s σ H _ I h) fun v s1 ⟨x, H1, I1, r1, q1⟩ => thn (hb pins s1 σ H1 _ I1 q1) fun u s2 ⟨y, H2, I2, r2, q2⟩ =>
    thn (ho pins s2 σ H2 x y v u _ I2 r1 r2 q2) fun c s3 ⟨z, H3, I3, r3, k, e, q3⟩ => ?_) hm
  subst e
  cases r3
  exact wpAny_truthy_bool ⟨H3, I3, q3⟩
def tChain (r r' : R2) (ta tb tc : TE) : TE := fun σ H Q => ta σ H fun x H1 => tb σ H1 fun y H2 => r x y H2 fun z H3 => ∃ k, z = .bl k ∧
  (if k = true then tc σ H3 fun w' H4 => r' y w' H4 Q else Q (.bl false) H3)
theorem pt_chain {op op' : CmpOp} {r r' : R2} (ho : OpR X (compareOp op) r) (ho' : OpR X (compareOp op') r') (ha : PE X a ta) (hb : PE X b tb) (hc : PE X c tc)
    (hm : lastMarks [op, op'] [b, c] = false := by with_unfolding_all rfl) : PT X (.Compare a [op, op'] [b, c] pos) (tTest (tChain r r' ta tb tc)) := by
  intro pins s σ H Q I h
  refine isTrue_chain (thn (ha pins s σ H _ I h) fun v s1 ⟨x, H1, I1, r1, q1⟩ => test_link (thn (hb pins s1 σ H1 _ I1 q1) fun u s2 ⟨y, H2, I2, r2, q2⟩ =>
    thn (ho pins s2 σ H2 x y v u _ I2 r1 r2 q2) fun d s3 ⟨z, H3, I3, r3, k, e, q3⟩ => ?_)) hm
  subst e
  cases r3
  refine wpAny_truthy_bool ?_
  cases k with
  | false =>
    obtain ⟨k', e', q'⟩ := q3
    cases e'
    exact ite_ff ⟨H3, I3, q'⟩
  | true =>
    refine ite_tt (test_last (thn (hc pins s3 σ H3 _ I3 q3) fun w' s4 ⟨z', H4, I4, r4, q4⟩ => thn (ho' pins s4 σ H4 y z' u w' _ I4 r2 r4 q4) fun d' s5 ⟨z2, H5, I5, r5, k2, e2, q5⟩ => ?_))
    subst e2
    cases r5
    exact wpAny_truthy_bool ⟨H5, I5, q5⟩
theorem line63 : (sizeLine : Nat) < 2 ^ 63 := by rw [sizeLine_eq]; decide
theorem op_add_str : OpR X (binaryOp .Add) (fun x y H Q => ∃ i j, x = .str i ∧ y = .str j ∧ i.length + j.length ≤ sizeLine ∧ Q (.str (i ++ j)) H) := by
  intro pins s σ H x y v u Q I rx ry h
  obtain ⟨i, j, rfl, rfl, hz, q⟩ := h
  obtain ⟨t, rfl⟩ := rx
  obtain ⟨t', rfl⟩ := ry
  exact add_str (fun t' tk => ⟨.str (i ++ j), H, I.tok _, ⟨_, rfl⟩, q⟩) hz
theorem vals1 {x : V} {us : List Value} (r : Vals [x] us) : ∃ u, us = [u] ∧ RelV x u := by
  cases r with
  | cons r1 r2 => cases r2; exact ⟨_, rfl, r1⟩
theorem call_abs : CallR X (.builtin "abs") (fun xs H Q => ∃ i, xs = [.int i] ∧ Q (.int (if i < 0 then -i else i)) H) := by
  intro pins s σ H xs us Q I r h
  obtain ⟨i, rfl, q⟩ := h
  obtain ⟨u, rfl, t, rfl⟩ := vals1 r
  exact call_abs_int fun u tk => ⟨.int (if i < 0 then -i else i), H, I.tok _, ⟨_, rfl⟩, q⟩
def LenV (K : PySem.W.Frag) (x : V) (H : Hp) (n : Nat) : Prop :=
  match x with
  | .str y => y.length ≤ sizeLine ∧ n = y.length
  | .byt y => y.size ≤ sizeLine ∧ n = y.size
  | .ref p => (∃ xs, SqL K H p xs ∧ n = xs.length) ∨ ∃ xs, SqT K H p xs ∧ n = xs.length
  | _ => False
theorem call_len : CallR X (.builtin "len") (fun xs H Q => ∃ x n, xs = [x] ∧ LenV X.K x H n ∧ Q (.int n) H) := by
  intro pins s σ H xs us Q I r h
  obtain ⟨x, n, rfl, e, q⟩ := h
  obtain ⟨u, rfl, rx⟩ := vals1 r
  have hl := line63
  have hs : sizeLine = 16777216 := sizeLine_eq
  cases x with
  | str y =>
    obtain ⟨t, rfl⟩ := rx
    obtain ⟨hy, e'⟩ : y.length ≤ sizeLine ∧ n = y.length := e
    subst e'
    exact len_str (by omega) ⟨.int _, H, I.tok _, ⟨_, rfl⟩, q⟩
  | byt y =>
    obtain ⟨t, rfl⟩ := rx
    obtain ⟨hy, e'⟩ : y.size ≤ sizeLine ∧ n = y.size := e
    subst e'
    exact PySem.W.len_bytes (by omega) ⟨.int _, H, I.tok _, ⟨_, rfl⟩, q⟩
  | ref p =>
    cases rx
    have e' : (∃ xs, SqL X.K H p xs ∧ n = xs.length) ∨ ∃ xs, SqT X.K H p xs ∧ n = xs.length := e
    rcases e' with ⟨xs, hx, e'⟩ | ⟨xs, hx, e'⟩
    · subst e'
      obtain ⟨its, r', pl, hz⟩ := I.list hx
      have hlen := r'.length
      exact Calls.call_len_list pl.isList (by simp only [List.size_toArray]; omega) ⟨.int xs.length, H, I.tok _, ⟨_, by simp only [List.size_toArray]; rw [hlen]⟩, q⟩
    · subst e'
      obtain ⟨its, r', pl, hz⟩ := I.tuple hx
      have hlen := r'.length
      exact len_tuple pl (by simp only [List.size_toArray]; omega) ⟨.int xs.length, H, I.tok _, ⟨_, by simp only [List.size_toArray]; rw [hlen]⟩, q⟩
  | _ => exact (show False from e).elim
end
end L2
namespace L2
open PySem PySem.Spec PyProof.Rows
structure ObjM (h : Heap) (x dx C : Addr) (mA : Str → Option Value) : Prop where
  obj : h.get? x = some (PySem.W.instObj C dx)
  ns : h.Ns1 dx mA
  ne : dx ≠ x
theorem lookIn_ns {h : Heap} {dx : Addr} {mA : Str → Option Value} (n : h.Ns1 dx mA) : ∃ od, h.get? dx = some od ∧ ∀ name, PySem.W.lookIn name od = some (mA name) := by
  obtain ⟨o, es, ep, ho, hd, hk, _, hm⟩ := n
  refine ⟨o, ho, fun name => ?_⟩
  have e := hm name
  unfold nsFind findBy at e
  rw [← Array.find?_toList] at e
  unfold PySem.W.lookIn
  rw [hd]
  dsimp only
  split
  · rename_i y q
    rw [q] at e
    exact congrArg some e
  · rename_i q
    rw [q] at e
    have a : es.toList.any (·.refKey) = false := by
      rw [List.any_eq_false]
      intro y hy
      obtain ⟨z, t, hkey⟩ := hk y (Array.mem_toList_iff.mp hy)
      simp [DictEntry.refKey, hkey]
    have a' : ¬ es.toList.any (·.refKey) = true := by rw [a]; exact Bool.false_ne_true
    rw [if_neg a']
    exact congrArg some e
theorem ObjM.look {h : Heap} {x dx C : Addr} {mA : Str → Option Value} (I : ObjM h x dx C mA) : ∃ od, PySem.W.InstAt h x (PySem.W.instObj C dx) C (some od) ∧ ∀ name, PySem.W.lookIn name od = some (mA name) :=
  let ⟨od, ho, hl⟩ := lookIn_ns I.ns
  ⟨od, ⟨I.obj, rfl, rfl, ho⟩, hl⟩
section
variable {prog : Program} {w : World} {A : Around} {E : Value → Shared → Prop} {s : Shared} {K : PySem.W.Frag} {x dx C f : Addr} {mA : Str → Option Value} {name : Str} {v : Value}
theorem get_map {expr : Bool} {Q : Value → Shared → Prop} (X : K.In s.heap) (I : ObjM s.heap x dx C mA) (hg : PySem.W.plainGet K C name = true) (hh : PySem.W.hasDictIn K C = true)
    (ha : PySem.W.findIn K (.ref C) name = some none) (hv : mA name = some v) (hv' : PySem.W.handedIn v = true) (h : Q v { s with toks := s.toks + 1 }) :
    wpAny (model prog w) A (getAttr (.ref x) name expr) Q E s := by
  obtain ⟨od, J, hl⟩ := I.look
  exact PySem.W.get_value X J (PySem.W.plainGet_of hg).1 (PySem.W.findObj_own hh ha rfl (by rw [hl, hv])) hv' h
theorem get_meth {pl : Sem Bool} {Q : Value × List Value → Shared → Prop} (X : K.In s.heap) (I : ObjM s.heap x dx C mA) (hg : PySem.W.plainGet K C name = true)
    (hf : PySem.W.findIn K (.ref C) name = some (some (.ref f))) (ht : PySem.W.isFn K (.ref f) = true) (hv : mA name = none) (h : Q (.ref f, [.ref x]) s) :
    wpAny (model prog w) A (getMethod (.ref x) name pl) Q E s := by
  obtain ⟨od, J, hl⟩ := I.look
  exact PySem.W.method_fn X J (PySem.W.plainGet_of hg).1 (PySem.W.plainGet_of hg).2 hf (beq_iff_eq.mp ht) (by show (PySem.W.lookIn name od).map (·.isSome) = some false; rw [hl, hv]; rfl) h
theorem set_map {ns : List Str} {Q : Unit → Shared → Prop} (X : K.In s.heap) (I : ObjM s.heap x dx C mA)
    (hs : PySem.W.findIn K (.ref C) "__setattr__" = some (some (.builtin "object.__setattr__"))) (hp : PySem.W.plainOver K C = true) (ht : PySem.W.takerIn K C name = some none) (hh : PySem.W.hasDictIn K C = true)
    (hw : PySem.Within mA ns) (hsz : ns.length ≤ sizeLine)
    (h : ∀ h', ObjM h' x dx C (fun y => if y = name then some v else mA y) → Heap.SameBut dx s.heap h' → Q () { s with heap := h', toks := s.toks + 2 }) :
    wpAny (model prog w) A (setAttr (.ref x) name v) Q E s := by
  obtain ⟨od, J, hl⟩ := I.look
  refine PySem.W.set_plain X J hs (PySem.W.osa_open (s := { s with toks := s.toks + 1 }) (r := none) X J hp ht fun b => ?_)
  obtain ⟨cd, hc, hd'⟩ := PySem.W.any_some hh
  have hx : s.heap.get? x = some ⟨.ref C, some dx, .plain, #[]⟩ := I.obj
  refine wpAny_bind (wpAny_pure (wpAny_bind (wpAny_bind (wpAny_loadPart hx (wpAny_bind (PySem.W.Looks.here (s := { s with toks := s.toks + 1 }) (PySem.W.looks_clsIn X hc) ?_))))))
  rw [hd']
  refine wpAny_pure (a := some dx) (wpAny_bind (wpAny_pure (wpAny_bind ?_)))
  refine wpAny_nsSet1 (s := { s with toks := s.toks + 1 }) I.ns fun h' hn2 hs2 => ?_
  obtain ⟨oD, esD, epD, hoD, hdD, hcD⟩ := hn2.count (PySem.Within.cons name v hw)
  refine wpAny_bind (wpAny_lookBehind hoD (by rw [hdD]; exact pastItsLine_dict (Nat.le_trans hcD (by rw [List.length_cons]; omega))) ?_)
  exact wpAny_pure (h _ ⟨(hs2.2 _ (Ne.symm I.ne)).trans I.obj, hn2, I.ne⟩ hs2)
theorem make_map {R : Result → Shared → Prop} {vs : List Value} {kw : List (Str × Value)} (X : K.In s.heap) (hm : PySem.W.makesIn K C = true)
    (hi : PySem.W.findIn K (.ref C) "__init__" = some (some (.ref f))) (hf : PySem.W.typeIn K (.ref f) = some (.type "function"))
    (h : codeAny (model prog w) (A.under (.builtin "type.__call__" ⟨.ref C :: vs, kw⟩)) (.call (.ref f) ⟨.ref (s.heap.objs.size + 1) :: vs, kw⟩) (PySem.W.InitBack (s.heap.objs.size + 1) R)
      { s with heap := (s.heap.push PySem.W.emptyDict).push (PySem.W.instObj C s.heap.objs.size) }) :
    codeAny (model prog w) A (.call (.ref C) ⟨vs, kw⟩) R s := by
  obtain ⟨hh, g, d, t, os⟩ := s
  exact PySem.W.make_core (PySem.W.makes_of X hm) (PySem.W.looks_findIn X hi) (fun self => PySem.W.bind_fn X self hf) (.inl rfl) h
end
def putF (f : Str) (v : V) : List (Str × V) → List (Str × V)
  | [] => [(f, v)]
  | (g, x) :: r => if g = f then (g, v) :: r else (g, x) :: putF f v r
theorem lookup_putF (f g : Str) (v : V) : ∀ fs : List (Str × V), (putF f v fs).lookup g = if g = f then some v else fs.lookup g
  | [] => by
    show List.lookup g [(f, v)] = _
    by_cases h : g = f
    · have hb : (g == f) = true := beq_iff_eq.mpr h
      simp only [List.lookup, hb, if_pos h]
    · have hb : (g == f) = false := beq_eq_false_iff_ne.mpr h
      simp only [List.lookup, hb, if_neg h]
  | (k, x) :: r => by
    have ih := lookup_putF f g v r
    rw [show putF f v ((k, x) :: r) = (if k = f then (k, v) :: r else (k, x) :: putF f v r) from rfl]
    by_cases hk : k = f
    · rw [if_pos hk]
      by_cases h : g = k
      · have hb : (g == k) = true := beq_iff_eq.mpr h
        simp only [List.lookup, hb, if_pos (h.trans hk)]
      · have hb : (g == k) = false := beq_eq_false_iff_ne.mpr h
        simp only [List.lookup, hb, if_neg (fun e : g = f => h (e.trans hk.symm))]
    · rw [if_neg hk]
      by_cases h : g = k
      · have hb : (g == k) = true := beq_iff_eq.mpr h
        simp only [List.lookup, hb, if_neg (fun e : g = f => hk (h.symm.trans e))]
      · have hb : (g == k) = false := beq_eq_false_iff_ne.mpr h
        simp only [List.lookup, hb]
        exact ih
theorem keys_putF (f : Str) (v : V) : ∀ fs : List (Str × V), f ∈ (putF f v fs).map (·.1) ∧ ∀ g, g ∈ fs.map (·.1) → g ∈ (putF f v fs).map (·.1)
  | [] => ⟨by simp [putF], fun g h => by simp at h⟩
  | (k, x) :: r => by
    obtain ⟨i1, i2⟩ := keys_putF f v r
    rw [show putF f v ((k, x) :: r) = (if k = f then (k, v) :: r else (k, x) :: putF f v r) from rfl]
    by_cases hk : k = f
    · rw [if_pos hk]
      subst hk
      exact ⟨by simp, fun g h => by simpa using h⟩
    · rw [if_neg hk]
      refine ⟨?_, fun g h => ?_⟩
      · rw [List.map_cons]
        exact List.mem_cons_of_mem _ i1
      · rw [List.map_cons] at h ⊢
        rcases List.mem_cons.mp h with e | e
        · exact List.mem_cons.mpr (.inl e)
        · exact List.mem_cons_of_mem _ (i2 g e)
theorem length_putF (f : Str) (v : V) : ∀ fs : List (Str × V), (putF f v fs).length ≤ fs.length + 1
  | [] => by simp [putF]
  | (k, x) :: r => by
    have ih := length_putF f v r
    rw [show putF f v ((k, x) :: r) = (if k = f then (k, v) :: r else (k, x) :: putF f v r) from rfl]
    by_cases hk : k = f
    · rw [if_pos hk, List.length_cons, List.length_cons]; omega
    · rw [if_neg hk, List.length_cons, List.length_cons]; omega
theorem RelO.some_of {v : V} {o : Option Value} (r : RelO (some v) o) : ∃ u, o = some u ∧ RelV v u := by
  cases o with
  | none => exact (show False from r).elim
  | some u => exact ⟨u, rfl, r⟩
theorem RelO.none_of {o : Option Value} (r : RelO none o) : o = none := by
  cases o with
  | none => rfl
  | some u => exact (show False from r).elim
theorem handed_of {v : V} {u : Value} (r : RelV v u) : PySem.W.handedIn u = true := by
  cases v with
  | non => cases (show u = Value.none from r); rfl
  | bl b => cases (show u = Value.bool b from r); rfl
  | int i => obtain ⟨t, e⟩ := (show ∃ t, u = Value.int i t from r); cases e; rfl
  | str x => obtain ⟨t, e⟩ := (show ∃ t, u = Value.str x t from r); cases e; rfl
  | byt b => obtain ⟨t, e⟩ := (show ∃ t, u = Value.bytes b t from r); cases e; rfl
  | flt b => obtain ⟨t, e⟩ := (show ∃ t, u = Value.float b t from r); cases e; rfl
  | ref a => cases (show u = Value.ref a from r); rfl
  | ty n => cases (show u = Value.type n from r); rfl
section
variable {P : Program} {w : World} {H H' : Hp} {h h' : Heap} {a C dx : Addr} {fs fs' : List (Str × V)}
theorem ins_get (hok : HOk P w H h) (e : H a = some (.ins C dx fs)) : ∃ mA, ObjM h a dx C mA ∧ (∀ f, RelO (fs.lookup f) (mA f)) ∧ PySem.Within mA (fs.map (·.1)) ∧ fs.length ≤ 1000 ∧ H dx = some (.own a) := by
  obtain ⟨d, z, ne, ob, mA, n, r, q⟩ := (show ObjOk P w H h a (.ins C dx fs) from hok a _ e)
  exact ⟨mA, ⟨ob, n, ne⟩, r, q, z, d⟩
end
structure Cls (K : PySem.W.Frag) (C : Addr) : Prop where
  pg : PySem.W.plainGet K C Str.empty = true
  hd : PySem.W.hasDictIn K C = true
  po : PySem.W.plainOver K C = true
  sa : PySem.W.findIn K (.ref C) "__setattr__" = some (some (.builtin "object.__setattr__"))
theorem Cls.get {K : PySem.W.Frag} {C : Addr} (c : Cls K C) (f : Str) : PySem.W.plainGet K C f = true := c.pg
def NoAttr (K : PySem.W.Frag) (C : Addr) (f : Str) : Prop := PySem.W.findIn K (.ref C) f = some none
theorem NoAttr.taker {K : PySem.W.Frag} {C : Addr} {f : Str} (n : NoAttr K C f) : PySem.W.takerIn K C f = some none := by
  unfold PySem.W.takerIn
  rw [show PySem.W.findIn K (.ref C) f = some none from n]
  rfl
structure Con (K : PySem.W.Frag) (C : Addr) (f : Str) (v : V) (u : Value) : Prop where
  at_ : PySem.W.findIn K (.ref C) f = some (some u)
  rel : RelV v u
  get : PySem.W.specialIn K u "__get__" = some none
  cp : PySem.W.copiedNames.contains f = false
structure Meth (K : PySem.W.Frag) (C : Addr) (m : Str) (f : Addr) : Prop where
  at_ : PySem.W.findIn K (.ref C) m = some (some (.ref f))
  fn : PySem.W.isFn K (.ref f) = true
  kp : PySem.W.keepIn K (.ref f) = true
section
variable {X : Cx} {pins : List (Addr × Obj)} {σ : St} {H : Hp} {s : Shared} {a C dx : Addr} {fs : List (Str × V)} {f : Str} {v : V} {A : Around} {E : Value → Shared → Prop}
theorem getattr_ok {b : Bool} {Q : Value → Shared → Prop} (I : Inv X pins σ H s) (e : H a = some (.ins C dx fs)) (c : Cls X.K C) (n : NoAttr X.K C f) (l : fs.lookup f = some v)
    (h : ∀ u s', Inv X pins σ H s' → RelV v u → Q u s') : wpAny (model X.prog X.w) A (getAttr (.ref a) f b) Q E s := by
  obtain ⟨mA, O, r, _, _, _⟩ := ins_get I.hok e
  obtain ⟨u, hu, ru⟩ := RelO.some_of (v := v) (o := mA f) (by rw [← l]; exact r f)
  exact get_map I.kIn O (c.get f) c.hd n hu (handed_of ru) (h u _ (I.tok _) ru)
theorem getmeth_ok {m : Str} {g : Addr} {pl : Sem Bool} {Q : Value × List Value → Shared → Prop} (I : Inv X pins σ H s) (e : H a = some (.ins C dx fs)) (c : Cls X.K C) (k : Meth X.K C m g) (l : fs.lookup m = none)
    (h : Q (.ref g, [.ref a]) s) : wpAny (model X.prog X.w) A (getMethod (.ref a) m pl) Q E s := by
  obtain ⟨mA, O, r, _, _, _⟩ := ins_get I.hok e
  have hn : mA m = none := RelO.none_of (by rw [← l]; exact r m)
  exact get_meth I.kIn O (c.get m) k.at_ k.fn hn h
theorem setattr_ok {y : V} {u : Value} {Q : Unit → Shared → Prop} (I : Inv X pins σ H s) (e : H a = some (.ins C dx fs)) (c : Cls X.K C) (n : NoAttr X.K C f) (hl : fs.length < 1000) (ry : RelV y u)
    (h : ∀ s', Inv X pins σ (upd H a (.ins C dx (putF f y fs))) s' → Q () s') : wpAny (model X.prog X.w) A (setAttr (.ref a) f u) Q E s := by
  obtain ⟨mA, O, r, wi, _, ho⟩ := ins_get I.hok e
  have hz : (fs.map (·.1)).length ≤ sizeLine := by rw [List.length_map, sizeLine_eq]; omega
  refine set_map I.kIn O c.sa c.po n.taker c.hd wi hz fun h' O' sb => h _ ?_
  have hd : ∃ o, h'.get? dx = some o := let ⟨o, _, _, e', _⟩ := O'.ns; ⟨o, e'⟩
  refine I.write (x := a) (e := dx) (by rw [e]; exact True.intro) (.inr ho) (fun b q hb z => (sb.2 b hb).trans z) hd ?_
  refine ⟨by rw [upd_ne O.ne]; exact ho, ?_, O.ne, O'.obj, _, O'.ns, fun g => ?_, fun g hg => ?_⟩
  · have := length_putF f y fs; omega
  · show RelO ((putF f y fs).lookup g) (if g = f then some u else mA g)
    rw [lookup_putF]
    by_cases q : g = f
    · rw [if_pos q, if_pos q]; exact ry
    · rw [if_neg q, if_neg q]; exact r g
  · by_cases q : g = f
    · rw [q]; exact (keys_putF f y fs).1
    · refine (keys_putF f y fs).2 g (wi g fun z => hg ?_)
      show (if g = f then some u else mA g) = none
      rw [if_neg q]; exact z
theorem Inv.made (I : Inv X pins σ H s) : Inv X pins σ (upd (upd H s.heap.objs.size (.own (s.heap.objs.size + 1))) (s.heap.objs.size + 1) (.ins C s.heap.objs.size []))
    { s with heap := (s.heap.push PySem.W.emptyDict).push (PySem.W.instObj C s.heap.objs.size) } := by
  have e1 : (s.heap.push PySem.W.emptyDict).get? s.heap.objs.size = some PySem.W.emptyDict := Heap.get?_push_size s.heap rfl
  have e2 : ((s.heap.push PySem.W.emptyDict).push (PySem.W.instObj C s.heap.objs.size)).get? (s.heap.objs.size + 1) = some (PySem.W.instObj C s.heap.objs.size) := by
    have := Heap.get?_push_size (s.heap.push PySem.W.emptyDict) (o := PySem.W.instObj C s.heap.objs.size) rfl
    rwa [Heap.size_push] at this
  have e3 : (s.heap.push PySem.W.emptyDict).Ns s.heap.objs.size (fun _ => none) := ⟨PySem.W.emptyDict, #[], _, e1, rfl, (fun e he => absurd he (by simp)), fun _ => rfl⟩
  have I1 := I.laid (a := s.heap.objs.size) (o := .own (s.heap.objs.size + 1)) (h' := s.heap.push PySem.W.emptyDict) (t' := s.toks) (fun b u q => Heap.get?_push_of_some _ q) (Nat.le_refl _) ⟨_, e1⟩
  refine I1.laid (a := s.heap.objs.size + 1) (o := .ins C s.heap.objs.size []) (t' := s.toks) (fun b u q => Heap.get?_push_of_some _ q) (Nat.le_of_eq (Heap.size_push _ _)) ?_
  have ne : s.heap.objs.size ≠ s.heap.objs.size + 1 := Nat.ne_of_lt (Nat.lt_succ_self _)
  refine ⟨by rw [upd_ne ne, upd_same], Nat.zero_le _, ne, e2, fun _ => none, (Heap.Ns1.of_empty e3).at fun o q => Heap.get?_push_of_some _ q, fun _ => True.intro, fun y hy => absurd rfl hy⟩
theorem attr_of {prog : Program} {w : World} {env : Env} {e : Expr} {f : Str} {pos : Pos} {s : Shared} {Q : Value → Shared → Prop} (hb : attributeBase e f env (eval e env) = eval e env)
    (h : wpAny (model prog w) A (eval e env) (fun o s₁ => wpAny (model prog w) A (getAttr o f true) Q E s₁) E s) : wpAny (model prog w) A (eval (.Attribute e f pos) env) Q E s :=
  Attribute_any_ h (by rw [arm_eval_Attribute, hb])
end
def tFld (K : PySem.W.Frag) (ta : TE) (f : Str) : TE := fun σ H Q => ta σ H fun x H1 => ∃ a C dx fs v, x = .ref a ∧ H1 a = some (.ins C dx fs) ∧ Cls K C ∧ NoAttr K C f ∧ fs.lookup f = some v ∧ Q v H1
def sFld (K : PySem.W.Frag) (ta tv : TE) (f : Str) : TS := fun D σ H => tv σ H fun y H1 => ta σ H1 fun x H2 => ∃ a C dx fs, x = .ref a ∧ H2 a = some (.ins C dx fs) ∧ Cls K C ∧ NoAttr K C f ∧ fs.length < 1000 ∧
  D.nx σ (upd H2 a (.ins C dx (putF f y fs)))
section
variable {X : Cx} {o e value : Expr} {f : Str} {pos pos' tpos : Pos} {ta tv : TE}
theorem pe_fld (he : PE X e ta) (hb : attributeBase e f X.env (eval e X.env) = eval e X.env) : PE X (.Attribute e f pos) (tFld X.K ta f) := by
  intro pins s σ H Q I h
  refine attr_of hb (thn (he pins s σ H _ I h) fun u s1 ⟨x, H1, I1, rx, a, C, dx, fs, v, ex, ea, c, n, l, q⟩ => ?_)
  subst ex
  obtain rfl : u = Value.ref a := rx
  exact getattr_ok I1 ea c n l fun u' s2 I2 ru => ⟨v, H1, I2, ru, q⟩
theorem ps_fld (ha : PE X o ta) (hv : PE X value tv) (hs : swapsWith value (some (.Attribute o f pos')) pos.line X.env = pure false) : PS X (.Assign [.Attribute o f pos'] value pos) (sFld X.K ta tv f) := by
  intro pins s σ H D I h
  refine plainObj_wpAny_Assign_Attribute (thn (hv pins s σ H _ I h) fun u s1 ⟨y, H1, I1, ry, q⟩ => thn (ha pins s1 σ H1 _ I1 q) fun ov s2 ⟨x, H2, I2, rx, a, C, dx, fs, ex, ea, c, n, l, q2⟩ => ?_) hs
  subst ex
  obtain rfl : ov = Value.ref a := rx
  exact setattr_ok I2 ea c n l ry fun s3 I3 => ⟨σ, _, I3, q2⟩
end
section
variable {X : Cx} {pins : List (Addr × Obj)} {σ : St} {H : Hp} {s : Shared} {A : Around} {E : Value → Shared → Prop} {Q : Value → Shared → Prop} {c : Value} {b : Bool}
inductive TyOf (K : PySem.W.Frag) (H : Hp) : V → Value → Prop where
  | non : TyOf K H .non (.type "NoneType")
  | bl (x : Bool) : TyOf K H (.bl x) (.type "bool")
  | int (i : Int) : TyOf K H (.int i) (.type "int")
  | str (x : Str) : TyOf K H (.str x) (.type "str")
  | flt (x : UInt64) : TyOf K H (.flt x) (.type "float")
  | lst {a : Addr} {xs : List V} (e : H a = some (.lst xs)) : TyOf K H (.ref a) (.type "list")
  | frz {a : Addr} {o : Obj} {xs : List V} (e : H a = some (.frz o (.lst xs))) : TyOf K H (.ref a) (.type "list")
  | tup {a : Addr} {xs : List V} (e : H a = some (.tup xs)) : TyOf K H (.ref a) (.type "tuple")
  | dK {a : Addr} {kvs : List (Key × V)} (e : H a = some (.dK kvs)) : TyOf K H (.ref a) (.type "dict")
  | dT {a : Addr} {kvs : List (List Key × V)} (e : H a = some (.dT kvs)) : TyOf K H (.ref a) (.type "dict")
  | ins {a C dx : Addr} {fs : List (Str × V)} (e : H a = some (.ins C dx fs)) (cl : Cls K C) (ha : PySem.W.findIn K (.ref C) "__class__" = some (some (.builtin "object.__class__")))
      (hn : PySem.W.specialIn K (.builtin "object.__class__") "__get__" = some (some (.builtin "getset_descriptor.__get__"))) (htk : PySem.W.takesIn K (.builtin "object.__class__") = some true)
      (hm : PySem.W.mroIn K C (.type "object") = some true) : TyOf K H (.ref a) (.ref C)
end
end L2
namespace L2
open PySem PySem.Spec PyProof.Rows
structure Room (k : Nat) (A : Around) : Prop where
  hd : A.handled = none
  dp : A.depth + 3 * k + 5 < recursionLimit
  un : A.units + 16 * k + 200 < cLine
theorem Room.mono {j k : Nat} {A : Around} (r : Room k A) (h : j ≤ k) : Room j A := ⟨r.hd, by have := r.dp; omega, by have := r.un; omega⟩
theorem Room.deeper {k : Nat} {A : Around} (r : Room (k + 1) A) (env : Env) : Room k (A.deeper env) :=
  ⟨r.hd, by have := r.dp; show A.depth + 1 + 3 * k + 5 < _; omega, by have := r.un; show A.units + 3 + 16 * k + 200 < _; omega⟩
theorem make_depth {A : Around} {C : Addr} {us : List Value} {kw : List (Str × Value)} : (A.under (.builtin "type.__call__" ⟨.ref C :: us, kw⟩)).depth = A.depth + 1 := by
  first | rfl | simp [Around.under, Code.weight, Code.isCreation, Code.isGuard, Code.isCaller, Code.frames, Code.isFrame, guardIds]
theorem make_units {A : Around} {C : Addr} {us : List Value} {kw : List (Str × Value)} : (A.under (.builtin "type.__call__" ⟨.ref C :: us, kw⟩)).units = A.units + 1 := by
  first | rfl | simp [Around.under, Code.cUnits, Code.frames, Code.isFrame]
theorem Room.make {k : Nat} {A : Around} (r : Room (k + 1) A) (C : Addr) (us : List Value) (kw : List (Str × Value)) : Room k (A.under (.builtin "type.__call__" ⟨.ref C :: us, kw⟩)) :=
  ⟨r.hd, by have := r.dp; rw [make_depth]; omega, by have := r.un; rw [make_units]; omega⟩
theorem Room.depth {k : Nat} {A : Around} (r : Room k A) : A.depth < recursionLimit := by have := r.dp; omega
theorem Room.units {k : Nat} {A : Around} (r : Room k A) : A.units + 64 < cLine := by have := r.un; omega
def tNil : TA := fun _ H Q => Q [] H
def tCons (ta : TE) (tr : TA) : TA := fun σ H Q => ta σ H fun x H1 => tr σ H1 fun xs H2 => Q (x :: xs) H2
section
variable {X : Cx} {e : Expr} {es : List Expr} {te : TE} {t : TA} {pos : Pos}
theorem pa_nil : PA X [] tNil := fun _ _ _ _ H Q I h => Calls.spliced_nil ⟨[], H, I, .nil, h⟩
theorem pa_cons (ha : PE X e te) (hr : PA X es t) (hs : starEach (e :: es) X.env = (false, eval e X.env) :: starEach es X.env := by rfl) : PA X (e :: es) (tCons te t) := by
  intro pos pins s σ H Q I h
  rw [hs]
  show wpAny _ _ (spliced ((false, eval e X.env) :: backTo pos (starEach es X.env))) _ _ s
  refine Calls.spliced_cons (thn (ha pins s σ H _ I h) fun u s1 ⟨x, H1, I1, r1, q1⟩ => ?_)
  exact thn (hr pos pins s1 σ H1 _ I1 q1) fun us s2 ⟨xs, H2, I2, r2, q2⟩ => ⟨x :: xs, H2, I2, .cons r1 r2, q2⟩
def tTup (t : TA) : TE := fun σ H Q => t σ H fun xs H1 => xs.length ≤ sizeLine ∧ ∀ p, H1 p = none → Q (.ref p) (upd H1 p (.tup xs))
def tLst (t : TA) : TE := fun σ H Q => t σ H fun xs H1 => xs.length ≤ sizeLine ∧ ∀ p, H1 p = none → Q (.ref p) (upd H1 p (.lst xs))
theorem pe_tup {x1} (h : PA X es t) : PE X (.Tuple es x1 pos) (tTup t) := by
  intro pins s σ H Q I hq
  refine wpAny_Tuple_spliced (thn (h pos pins s σ H _ I hq) fun us s1 ⟨xs, H1, I1, r, z, q⟩ => ⟨by rw [← r.length]; exact z, ?_⟩)
  have hf : H1 s1.heap.objs.size = none := I1.hok.fresh (Nat.le_refl _)
  refine ⟨.ref s1.heap.objs.size, upd H1 s1.heap.objs.size (.tup xs), I1.laid (t' := s1.toks) (fun b u e => Heap.get?_push_of_some _ e) (Nat.le_refl _) ?_, rfl, q _ hf⟩
  exact ⟨z, us, r, ⟨_, Heap.get?_push_size _ rfl, rfl, _, rfl⟩⟩
theorem pe_lst (h : PA X es t) : PE X (.List es pos) (tLst t) := by
  intro pins s σ H Q I hq
  refine wpAny_List_spliced (thn (h pos pins s σ H _ I hq) fun us s1 ⟨xs, H1, I1, r, z, q⟩ => ⟨by rw [← r.length]; exact z, ?_⟩)
  have hf : H1 s1.heap.objs.size = none := I1.hok.fresh (Nat.le_refl _)
  refine ⟨.ref s1.heap.objs.size, upd H1 s1.heap.objs.size (.lst xs), I1.laid (t' := s1.toks) (fun b u e => Heap.get?_push_of_some _ e) (Nat.le_refl _) ?_, rfl, q _ hf⟩
  exact ⟨z, us, 0, r, Heap.get?_push_size _ rfl⟩
end
abbrev Sp := List V → Hp → VK → XK → Prop
abbrev CXT := List Env → Hp → Shared → XK → Value → Shared → Prop
structure Env0 (P : Program) (w : World) (K : PySem.W.Frag) (mg : Str → Option Value) (base : Heap) (A : Around) (outer : List Env) (s : Shared) (H : Hp) : Prop where
  frames : A.frames = some outer
  mod : Mod K mg base
  bs : ∀ b o, base.get? b = some o → s.heap.get? b = some o ∧ H b = none
  bsz : base.objs.size ≤ s.heap.objs.size
  funs : s.heap.FunFrames base outer
  frf : ∀ b ∈ frs outer, H b = none
  hok : HOk P w H s.heap
  bare : AllBare s.gens
def CE (outer : List Env) (P : Program) (w : World) (H : Hp) (s : Shared) (Q : VK) (u : Value) (s' : Shared) : Prop :=
  ∃ v H', s'.os = s.os ∧ AllBare s'.gens ∧ Un (frs outer) [] H H' s.heap s'.heap ∧ HOk P w H' s'.heap ∧ RelV v u ∧ Q v H'
def CR (CX : CXT) (outer : List Env) (P : Program) (w : World) (H : Hp) (s : Shared) (Q : VK) (E : XK) (r : Result) (s' : Shared) : Prop :=
  match r with
  | .ok (.ret u) => CE outer P w H s Q u s'
  | .ok _ => False
  | .error e => CX outer H s E e s'
structure FnOk (P : Program) (w : World) (K : PySem.W.Frag) (mg : Str → Option Value) (base : Heap) (CX : CXT) (k : Nat) (f : Addr) (fd : FuncData) (ps : List Str) (sp : Sp) : Prop where
  len : ∀ vs H Q E, sp vs H Q E → vs.length = ps.length
  run : ∀ (A : Around) (outer : List Env) (s : Shared) (H : Hp) (args : Args) (us : List Value) (vs : List V) (Q : VK) (E : XK), Room k A → Env0 P w K mg base A outer s H → BindsTo s fd args (ps.zip us) → Vals vs us → sp vs H Q E →
    codeAny (model P w) A (.call (.ref f) args) (CR CX outer P w H s Q E) s
theorem FnOk.mono {P : Program} {w : World} {K : PySem.W.Frag} {mg : Str → Option Value} {base : Heap} {CX : CXT} {j k : Nat} {f : Addr} {fd : FuncData} {ps : List Str} {sp : Sp} (F : FnOk P w K mg base CX j f fd ps sp) (h : j ≤ k) :
    FnOk P w K mg base CX k f fd ps sp := ⟨F.len, fun A outer s H args us vs Q E hr => F.run A outer s H args us vs Q E (hr.mono h)⟩
theorem FnOk.imp {P : Program} {w : World} {K : PySem.W.Frag} {mg : Str → Option Value} {base : Heap} {CX : CXT} {k : Nat} {f : Addr} {fd : FuncData} {ps : List Str} {sp sp' : Sp} (F : FnOk P w K mg base CX k f fd ps sp)
    (h : ∀ vs H Q E, sp' vs H Q E → sp vs H Q E) : FnOk P w K mg base CX k f fd ps sp' :=
  ⟨fun vs H Q E q => F.len vs H Q E (h _ _ _ _ q), fun A outer s H args us vs Q E hr he hb hv hs => F.run A outer s H args us vs Q E hr he hb hv (h _ _ _ _ hs)⟩
theorem Env0.make {P : Program} {w : World} {K : PySem.W.Frag} {mg : Str → Option Value} {base : Heap} {A : Around} {outer : List Env} {s : Shared} {H : Hp} (e : Env0 P w K mg base A outer s H) (C : Addr) (us : List Value) (kw : List (Str × Value)) :
    Env0 P w K mg base (A.under (.builtin "type.__call__" ⟨.ref C :: us, kw⟩)) outer s H := ⟨by first | exact e.frames | (simpa [Around.under, Code.envs, Code.isFrame, pushEnvs] using e.frames), e.mod, e.bs, e.bsz, e.funs, e.frf, e.hok, e.bare⟩
section
variable {X : Cx} {pins : List (Addr × Obj)} {σ : St} {H : Hp} {s s' : Shared}
theorem Inv.env0 (I : Inv X pins σ H s) : Env0 X.prog X.w X.K X.mg X.base X.A X.stack s H :=
  ⟨I.ok.frames, I.ok.mod, I.bs, Nat.le_trans I.ok.bsz I.sz, I.stack, I.stkFree, I.hok, I.bare⟩
theorem Inv.after {Q : VK} {u : Value} (I : Inv X pins σ H s) (h : CE X.stack X.prog X.w H s Q u s') : EP X pins σ Q u s' := by
  obtain ⟨v, H', os, bare, un, hok, r, q⟩ := h
  obtain ⟨hh, g, d, t, os'⟩ := s'
  obtain rfl : os' = s.os := os
  exact ⟨v, H', I.call (h' := hh) (g' := g) (d' := d) (t' := t) (ch := []) un hok bare (fun b z => absurd z (by simp)), r, q⟩
end
def Binds (K : PySem.W.Frag) (fd : FuncData) (ps : List Str) (ds : List Value) : Prop :=
  ∀ (s : Shared) (us : List Value), K.In s.heap → (us ++ ds).length = ps.length → BindsTo s fd ⟨us, []⟩ (ps.zip (us ++ ds))
theorem Binds.all {K : PySem.W.Frag} {fd : FuncData} {ps : List Str} (h : ∀ us : List Value, us.length = ps.length → bindArgs fd ⟨us, []⟩ = pure (ps.zip us)) : Binds K fd ps [] := fun s us _ hl => by
  rw [List.append_nil] at hl ⊢
  exact .of_eq (h us hl)
section
variable {X : Cx} {CX : CXT} {k : Nat} {f C : Addr} {fd : FuncData} {ps : List Str} {sp : Sp} {dvs : List V} {ds : List Value} {E : XK} {x m : Str} {p pos apos : Pos} {e o : Expr} {es : List Expr} {ta : TE} {t : TA}
structure Mk (K : PySem.W.Frag) (C f : Addr) : Prop where
  makes : PySem.W.makesIn K C = true
  init : PySem.W.findIn K (.ref C) "__init__" = some (some (.ref f))
  fn : PySem.W.isFn K (.ref f) = true
  kp : PySem.W.keepIn K (.ref C) = true
end
section
variable {X : Cx} {CX : CXT} {k : Nat} {f C : Addr} {fd : FuncData} {ps ks : List Str} {sp : Sp} {E : XK} {x m : Str} {p pos apos kpos : Pos} {e o : Expr} {es : List Expr} {kws : List Keyword} {te ta : TE} {t tk : TA} {nm : Option Str}
structure KBinds (K : PySem.W.Frag) (fd : FuncData) (ps ks : List Str) (g : List Value → List Value → List Value) (gV : List V → List V → List V) : Prop where
  to : ∀ (s : Shared) (us ws : List Value), K.In s.heap → (g us ws).length = ps.length → BindsTo s fd ⟨us, ks.zip ws⟩ (ps.zip (g us ws))
  rel : ∀ {vs : List V} {us : List Value} {zs : List V} {ws : List Value}, Vals vs us → Vals zs ws → Vals (gV vs zs) (g us ws)
variable {g : List Value → List Value → List Value} {gV : List V → List V → List V}
end
structure FnScope (N P : List Str) (sc : Scope) : Prop where
  kind : sc.kind = .function
  co : sc.isCoroutine = false
  gen : sc.isGenerator = false
  nd : N.Nodup
  pre : N.take P.length = P
  par : ∀ x ∈ P, sc.names.lookup x = some .local ∨ sc.names.lookup x = some .cell
  nofree : ∀ y ∈ sc.names, y.2 ≠ .free
theorem bindL_out {kindOf : Str → Option NameKind} {x : Str} : ∀ {binds : List (Str × Value)} {m : Str → Option Value}, (∀ v, (x, v) ∉ binds) → bindL kindOf binds m x = m x
  | [], _, _ => rfl
  | (n, v) :: r, m, h => by
    unfold bindL
    rw [bindL_out fun w hw => h w (List.mem_cons_of_mem _ hw)]
    split
    · have : x ≠ n := by rintro rfl; exact h v List.mem_cons_self
      simp [this]
    · rfl
theorem bindC_out {kindOf : Str → Option NameKind} {x : Str} : ∀ {binds : List (Str × Value)} {m : Str → Option Value}, (∀ v, (x, v) ∉ binds) → bindC kindOf binds m x = m x
  | [], _, _ => rfl
  | (n, v) :: r, m, h => by
    unfold bindC
    rw [bindC_out fun w hw => h w (List.mem_cons_of_mem _ hw)]
    split
    · rfl
    · have : x ≠ n := by rintro rfl; exact h v List.mem_cons_self
      simp [this]
theorem bindL_get {kindOf : Str → Option NameKind} {x : Str} {v : Value} : ∀ {P : List Str} {vs : List Value} {i : Nat} {m : Str → Option Value}, P.Nodup → P[i]? = some x → vs[i]? = some v → kindOf x = some .local →
    bindL kindOf (P.zip vs) m x = some v
  | [], _, _, _, _, h, _, _ => by simp at h
  | _ :: _, [], _, _, _, _, h, _ => by simp at h
  | p :: P, w :: vs, 0, m, nd, h1, h2, hk => by
    simp at h1 h2; subst h1; subst h2
    show bindL kindOf ((p, w) :: P.zip vs) m p = _
    unfold bindL
    rw [bindL_out fun v hv => (List.nodup_cons.mp nd).1 (List.of_mem_zip hv).1, if_pos hk]
    simp
  | p :: P, w :: vs, i + 1, m, nd, h1, h2, hk => by
    show bindL kindOf ((p, w) :: P.zip vs) m x = _
    unfold bindL
    exact bindL_get (i := i) (List.nodup_cons.mp nd).2 (by simpa using h1) (by simpa using h2) hk
theorem bindC_get {kindOf : Str → Option NameKind} {x : Str} {v : Value} : ∀ {P : List Str} {vs : List Value} {i : Nat} {m : Str → Option Value}, P.Nodup → P[i]? = some x → vs[i]? = some v → kindOf x ≠ some .local →
    bindC kindOf (P.zip vs) m x = some v
  | [], _, _, _, _, h, _, _ => by simp at h
  | _ :: _, [], _, _, _, _, h, _ => by simp at h
  | p :: P, w :: vs, 0, m, nd, h1, h2, hk => by
    simp at h1 h2; subst h1; subst h2
    show bindC kindOf ((p, w) :: P.zip vs) m p = _
    unfold bindC
    rw [bindC_out fun v hv => (List.nodup_cons.mp nd).1 (List.of_mem_zip hv).1, if_neg hk]
    simp
  | p :: P, w :: vs, i + 1, m, nd, h1, h2, hk => by
    show bindC kindOf ((p, w) :: P.zip vs) m x = _
    unfold bindC
    exact bindC_get (i := i) (List.nodup_cons.mp nd).2 (by simpa using h1) (by simpa using h2) hk
def start (N : List Str) (vs : List V) : St := vs.map some ++ List.replicate (N.length - vs.length) none
def cxOf (CX : CXT) (P : Program) (w : World) (K : PySem.W.Frag) (mg : Str → Option Value) (base : Heap) (N : List Str) (qual : Str) (scope : Scope) (f : Addr) (cd : Value) (A : Around) (outer : List Env) (s : Shared) (H : Hp) (E : XK) : Cx where
  prog := P
  w := w
  K := K
  mg := mg
  base := base
  A := A.deeper (envOfC qual scope s.heap.objs.size f cd)
  N := N
  s₀ := s
  H₀ := H
  env := envOfC qual scope s.heap.objs.size f cd
  outer := outer
  stack := envOfC qual scope s.heap.objs.size f cd :: outer
  ex := []
  calm := true
  fn := fun _ => true
  pn := []
  xe := fun e s' => wpAny (model P w) (A.deeper (envOfC qual scope s.heap.objs.size f cd)) (leaving (envOfC qual scope s.heap.objs.size f cd) e) (fun _ s'' => CX outer H s E e s'') (fun e' s'' => CX outer H s E e' s'') s'
theorem cell_has {sc : Scope} {n : Nat} {x : Str} (h : sc.names.lookup x = some .cell) : ∃ c, (cellsFrom n sc.names []).lookup x = some c := by
  have q := PySem.W.cellsFrom_some sc.names n [] (.inl h)
  exact Option.isSome_iff_exists.mp q
theorem inv_start {CX : CXT} {P : Program} {w : World} {K : PySem.W.Frag} {mg : Str → Option Value} {base : Heap} {N ps : List Str} {qual : Str} {scope : Scope} {f : Addr} {cd : Value} {A : Around} {outer : List Env} {s s1 : Shared} {H : Hp} {E : XK} {us : List Value} {vs : List V}
    (S : FnScope N ps scope) (hd : A.handled = none) (e0 : Env0 P w K mg base A outer s H) (hl : vs.length = ps.length) (r : Vals vs us)
    (x : InCallC s s.heap.objs.size (bindL (envOfC qual scope s.heap.objs.size f cd).kindOf (ps.zip us) fun _ => none) (cellsFrom (s.heap.objs.size + 1) scope.names []) (bindC (envOfC qual scope s.heap.objs.size f cd).kindOf (ps.zip us) fun _ => none) s1) :
    Inv (cxOf CX P w K mg base N qual scope f cd A outer s H E) [] (start N vs) H s1 := by
  have hpl : ps.length ≤ N.length := by have := congrArg List.length S.pre; rw [List.length_take] at this; omega
  obtain ⟨h1, tk, rfl, hk⟩ := x.done
  have noA : ∀ b : Addr, b ∉ (cxOf CX P w K mg base N qual scope f cd A outer s H E).ex := fun b z => absurd (show b ∈ ([] : List Addr) from z) (by simp)
  refine ⟨⟨e0.mod, S.kind, rfl, rfl, Nat.le_refl _, fun y z c h1 h2 => ?_, fun y hy => ?_, fun y c _ h => ?_, fun _ => hd, Around.frames_deeper e0.frames, .inr ⟨rfl, rfl⟩, fun b z => absurd z (noA b), e0.bs, e0.bsz, fun b _ _ => noA b, fun b z => absurd z (noA b), e0.funs, e0.frf⟩,
    rfl, e0.bare, Un.kept hk, ⟨_, x.toInCall.ns, fun i y v h1 h2 h3 => ?_⟩, fun y c h => ⟨_, x.cell y c h⟩, e0.hok.fresh (Nat.le_refl _), fun y c h => ?_, fun p hp => absurd (show p ∈ ([] : List (Addr × Obj)) from hp) (by simp), e0.hok.kept hk, ?_⟩
  · exact name_of_addr x.apart (PySem.mem_of_lookup h1) (PySem.mem_of_lookup h2)
  · have hy : scope.names.lookup y = some .cell ∨ scope.names.lookup y = some .free := hy
    rcases hy with hy | hy
    · exact cell_has hy
    · exact absurd rfl (S.nofree _ (PySem.mem_of_lookup hy))
  · exact Nat.le_of_lt (x.above y c (PySem.mem_of_lookup h))
  · have hi : i < vs.length := by
      unfold start at h2
      by_cases hi : i < vs.length
      · exact hi
      · rw [List.getElem?_append_right (by simpa using hi)] at h2
        rw [List.getElem?_replicate] at h2
        split at h2 <;> cases h2
    have ha : vs[i]? = some v := by
      unfold start at h2
      rw [List.getElem?_append_left (by simpa using hi), List.getElem?_map] at h2
      cases e : vs[i]? with
      | none => rw [e] at h2; cases h2
      | some a => rw [e] at h2; cases h2; rfl
    obtain ⟨u, hu, rv⟩ := r.get ha
    have hp : ps[i]? = some y := by
      rw [← S.pre, List.getElem?_take_of_lt (by omega)]; exact h1
    have ndP : ps.Nodup := by rw [← S.pre]; exact S.nd.sublist (List.take_sublist _ _)
    refine ⟨u, rv, ?_⟩
    rcases S.par y (List.mem_of_getElem? hp) with k | k
    · exact .inl ⟨k, bindL_get ndP hp hu k⟩
    · obtain ⟨c, e⟩ := cell_has (n := s.heap.objs.size + 1) k
      refine .inr ⟨.inl k, c, e, ?_⟩
      have q := x.cell y c e
      rw [bindC_get ndP hp hu (by show scope.names.lookup y ≠ _; rw [k]; decide)] at q
      exact q
  · exact e0.hok.fresh (Nat.le_of_lt (x.above y c (PySem.mem_of_lookup h)))
  · unfold start
    show _ = N.length
    rw [List.length_append, List.length_map, List.length_replicate]
    omega
theorem fn_of {CX : CXT} {P : Program} {w : World} {K : PySem.W.Frag} {mg : Str → Option Value} {base : Heap} {k : Nat} {f : Addr} {name qual : Str} {params : Arguments} {body : List Stmt} {scope : Scope} {dV kV doc pm cdv ct oc : Value} {an od : Option Addr}
    {osl : Array (Option Value)} {N ps : List Str} {sp : Sp} (lk : K.lookup f = some ⟨oc, od, .func (PySem.W.fnOf name qual params body scope dV kV doc pm an cdv ct), osl⟩) (hcd : PySem.W.codeIn K cdv qual = true) (S : FnScope N ps scope)
    (len : ∀ vs H Q E, sp vs H Q E → vs.length = ps.length)
    (hbody : ∀ (A : Around) (outer : List Env) (s : Shared) (H : Hp) (vs : List V) (Q : VK) (E : XK), Room k (A.deeper (envOfC qual scope s.heap.objs.size f cdv)) → sp vs H Q E →
      ∃ t, PSs (cxOf CX P w K mg base N qual scope f cdv A outer s H E) body t ∧ t { nx := fun _ H' => Q .non H', rt := Q } (start N vs) H) :
    FnOk P w K mg base CX (k + 1) f (PySem.W.fnOf name qual params body scope dV kV doc pm an cdv ct) ps sp := by
  refine ⟨len, fun A outer s H args us vs Q E hr e0 hb r hsp => ?_⟩
  have hl := len _ _ _ _ hsp
  have KX : K.In s.heap := e0.mod.kin.keeps fun b o e => (e0.bs b o e).1
  have lim : s.heap.NoLimit := e0.mod.nolimit.keeps fun b o e => (e0.bs b o e).1
  have hkind : ∀ y ∈ ps.zip us, scope.names.lookup y.1 = some .local ∨ (scope.names.lookup y.1 = some .cell ∧ ((cellsFrom (s.heap.objs.size + 1) scope.names []).lookup y.1).isSome = true) := fun ⟨n, v⟩ hy => by
    rcases S.par n (List.of_mem_zip hy).1 with q | q
    · exact .inl q
    · exact .inr ⟨q, PySem.W.cellsFrom_some _ _ _ (.inl q)⟩
  refine codeAny_call_function hr.depth (KX _ _ lk) rfl S.co S.gen rfl (PySem.W.codeRec_of KX hcd) (hb _ _ _ _ ?_)
  refine wpAny_newFunctionEnv_cells S.kind hkind fun env he s1 x => ?_
  subst he
  refine ⟨lim.keeps x.toInCall.keep, codeAny_func ?_⟩
  obtain ⟨t, ht, hq⟩ := hbody A outer s H vs Q E (hr.deeper _) hsp
  have I : Inv (cxOf CX P w K mg base N qual scope f cdv A outer s H E) [] (start N vs) H s1 := inv_start S hr.hd e0 hl r x
  refine wpAny_mono (ht [] s1 (start N vs) H _ I hq) (fun fl s' hs => ?_) fun e s' hs => hs
  have fin : ∀ {σ' : St} {H' : Hp} {v : V} {u : Value}, Inv (cxOf CX P w K mg base N qual scope f cdv A outer s H E) [] σ' H' s' → RelV v u → Q v H' → CE outer P w H s Q u s' :=
    fun {σ' H' v u} J rv q => ⟨v, H', J.os, J.bare, J.base, J.hok, rv, q⟩
  cases fl with
  | ret u =>
    obtain ⟨v, σ', H', J, rv, q⟩ := hs
    exact fin J rv q
  | next =>
    obtain ⟨σ', H', J, q⟩ := hs
    exact fin (v := V.non) (u := Value.none) J rfl q
  | brk =>
    obtain ⟨_, _, _, q⟩ := hs
    exact False.elim q
  | cont =>
    obtain ⟨_, _, _, q⟩ := hs
    exact False.elim q
end L2
namespace L2
open PySem PySem.Spec PyProof.Rows
section
variable {X : Cx} {x : Str} {p pos : Pos} {e : Expr} {es : List Expr} {t : TA} {id T : String} {r : List V → Hp → VK → Prop}
def tCB (r : List V → Hp → VK → Prop) (t : TA) : TE := fun σ H Q => t σ H fun vs H1 => r vs H1 Q
theorem pe_callB (hc : CallR X (.builtin id) r) (hg : Gl X x) (hm : X.mg x = none) (hv : bootBuiltins x = some (.builtin id)) (ha : PA X (e :: es) t) (hn : x ≠ "__name__" := by decide) (hdb : (x == ("__debug__" : Str)) = false := by decide)
    (he : starEach (e :: es) X.env = (false, eval e X.env) :: starEach es X.env := by rfl) (hpl : (backTo pos (starEach es X.env)).any (·.1) = false := by rfl) : PE X (.Call (.Name x p) (e :: es) [] pos) (tCB r t) := by
  intro pins s σ H Q I h
  refine wpAny_Call_Name_kw (ld_blt I hg hm hv ?_ hn hdb)
  exact PyProof.Rows.callWith_builtin1 (thn (ha pos pins s σ H _ I h) fun us s1 ⟨vs, H1, I1, r1, q1⟩ => hc pins s1 σ H1 vs us Q I1 r1 q1) he hpl
end
end L2
namespace HT
open PySem PyProof.Rows
section
open PySem.SeqAt
open PySem.AutoSeq1 (wpAny_loadPart')
open PySem.MeetsSeq PySem.MeetsSeq2 PySem.MeetsSeq3
end
section
variable {prog : Program} {w : World} {A : Around} {E : Value → Shared → Prop} {s : Shared}
def sIx (n d : Nat) : Option Int → Nat
  | none => d
  | some v => if v < 0 then (v + (n : Int)).toNat else min v.toNat n
end
end HT
namespace L2
open PySem PySem.Spec PyProof.Rows
abbrev TO := St → Hp → (Option Int → Hp → Prop) → Prop
def PO (X : Cx) (e : Option Expr) (t : TO) : Prop :=
  ∀ (pins : List (Addr × Obj)) (s : Shared) (σ : St) (H : Hp) (Q : Option Int → Hp → Prop), Inv X pins σ H s → t σ H Q →
    wpAny (model X.prog X.w) X.A (evalPart e X.env) (fun u s' => ∃ o H', Inv X pins σ H' s' ∧ IsPart u o ∧ Q o H') X.xe s
def tNoPart : TO := fun _ H Q => Q none H
def tPart (t : TE) : TO := fun σ H Q => t σ H fun x H1 => ∃ i, x = .int i ∧ Q (some i) H1
section
variable {X : Cx} {e : Expr} {te : TE} {lo hi : Option Expr} {tl th : TO} {pos p2 : Pos}
theorem po_none : PO X none tNoPart := by
  intro pins s σ H Q I h
  rw [evalPart_none]
  exact wpAny_pure ⟨none, H, I, .none, h⟩
theorem po_some (h : PE X e te) : PO X (some e) (tPart te) := by
  intro pins s σ H Q I hw
  rw [evalPart_some]
  refine thn (h pins s σ H _ I hw) fun u s1 ⟨x, H1, I1, r1, q1⟩ => ?_
  obtain ⟨i, rfl, q⟩ := q1
  obtain ⟨t, rfl⟩ := r1
  exact ⟨some i, H1, I1, .int i t, q⟩
def SlR (X : Cx) (r : V → Option Int → Option Int → Hp → VK → Prop) : Prop :=
  ∀ (pins : List (Addr × Obj)) (s : Shared) (σ : St) (H : Hp) (x : V) (v vl vu : Value) (lo hi : Option Int) (sl : Addr) (Q : VK), Inv X pins σ H s → RelV x v → s.heap.IsSliceOf sl vl vu .none → IsPart vl lo → IsPart vu hi → r x lo hi H Q →
    ∃ T id, typeLookup (.type T) "__getitem__" = pure (some (.builtin id)) ∧ s.TypeIs v T ∧ wpAny (model X.prog X.w) X.A (getItem v (.ref sl)) (EP X pins σ Q) X.xe s
theorem SlR.or {r r' : V → Option Int → Option Int → Hp → VK → Prop} (h : SlR X r) (h' : SlR X r') : SlR X (fun x lo hi H Q => r x lo hi H Q ∨ r' x lo hi H Q) := by
  intro pins s σ H x v vl vu lo hi sl Q I rx hs pl pu q
  rcases q with q | q
  · exact h pins s σ H x v vl vu lo hi sl Q I rx hs pl pu q
  · exact h' pins s σ H x v vl vu lo hi sl Q I rx hs pl pu q
def tSl (r : V → Option Int → Option Int → Hp → VK → Prop) (te : TE) (tl th : TO) : TE := fun σ H Q => te σ H fun x H1 => tl σ H1 fun l H2 => th σ H2 fun u H3 => r x l u H3 Q
theorem pe_slice {r : V → Option Int → Option Int → Hp → VK → Prop} (hr : SlR X r) (he : PE X e te) (hl : PO X lo tl) (hu : PO X hi th) : PE X (.Subscript e (.Slice lo hi none p2) pos) (tSl r te tl th) := by
  intro pins s σ H Q I h
  refine Subscript_ (thn (he pins s σ H _ I h) fun v s1 ⟨x, H1, I1, r1, q1⟩ => ?_)
  refine wpAny_Slice (thn (hl pins s1 σ H1 _ I1 q1) fun vl s2 ⟨l, H2, I2, pl, q2⟩ => thn (hu pins s2 σ H2 _ I2 q2) fun vu s3 ⟨u, H3, I3, pu, q3⟩ => ?_)
  rw [evalPart_none]
  refine wpAny_pure ?_
  have I4 : Inv X pins σ H3 { s3 with heap := s3.heap.push { cls := .type "slice", data := .fields #[vl, vu, .none] } } := I3.kept (t' := s3.toks) fun b ob q => Heap.get?_push_of_some _ q
  obtain ⟨T, id, hT, ht, hg⟩ := hr pins { s3 with heap := s3.heap.push { cls := .type "slice", data := .fields #[vl, vu, .none] } } σ H3 x v vl vu l u s3.heap.objs.size Q I4 r1 (Heap.IsSliceOf.new ..) pl pu q3
  show wpAny (model X.prog X.w) X.A (subscriptTail e (.Slice lo hi none p2) v (.ref s3.heap.objs.size)) (EP X pins σ Q) X.xe { s3 with heap := s3.heap.push { cls := .type "slice", data := .fields #[vl, vu, .none] } }
  exact tail_any (ops := [.ref s3.heap.objs.size, v]) ht hT hg (by with_unfolding_all rfl)
def cutV (xs : List V) (lo hi : Option Int) : List V := (xs.drop (HT.sIx xs.length 0 lo)).take (HT.sIx xs.length xs.length hi - HT.sIx xs.length 0 lo)
theorem cutV_length (xs : List V) (lo hi : Option Int) : (cutV xs lo hi).length ≤ xs.length := by
  unfold cutV
  rw [List.length_take, List.length_drop]
  omega
end
end L2
namespace L2
open PySem PySem.Spec PyProof.Rows
def ixN (n : Nat) (i : Int) : Option Nat := if 0 ≤ i then (if i < n then some i.toNat else none) else if -(n : Int) ≤ i then some (i + n).toNat else none
def atI {α : Type} (xs : List α) (i : Int) : Option α := (ixN xs.length i).bind fun j => xs[j]?
theorem ixN_seq {n : Nat} {i : Int} {j : Nat} (h : ixN n i = some j) : seqIndex? i n = some j ∧ j < n ∧ -(n : Int) ≤ i ∧ i < n := by
  unfold ixN at h
  by_cases h0 : 0 ≤ i
  · rw [if_pos h0] at h
    by_cases h1 : i < n
    · rw [if_pos h1] at h
      have e : i.toNat = j := Option.some.inj h
      exact ⟨by rw [seqIndex_of h0 h1, e], by omega, by omega, h1⟩
    · rw [if_neg h1] at h; cases h
  · rw [if_neg h0] at h
    by_cases h1 : -(n : Int) ≤ i
    · rw [if_pos h1] at h
      have e : (i + n).toNat = j := Option.some.inj h
      exact ⟨by rw [seqIndex_neg (by omega) h1, e], by omega, h1, by omega⟩
    · rw [if_neg h1] at h; cases h
theorem atI_get {α : Type} {xs : List α} {i : Int} {v : α} (h : atI xs i = some v) : ∃ j, seqIndex? i xs.length = some j ∧ xs[j]? = some v ∧ j < xs.length ∧ -(xs.length : Int) ≤ i ∧ i < xs.length := by
  unfold atI at h
  cases e : ixN xs.length i with
  | none => rw [e] at h; cases h
  | some j =>
    rw [e] at h
    obtain ⟨h1, h2, h3, h4⟩ := ixN_seq e
    exact ⟨j, h1, h, h2, h3, h4⟩
def PlainIx (b : Expr) : Prop := ∀ o i, subscripted b false o i = operate [o, i] (getItem o i)
def IxR (X : Cx) (r : R2) : Prop :=
  ∀ (value slice : Expr) (pins : List (Addr × Obj)) (s : Shared) (σ : St) (H : Hp) (x y : V) (v u : Value) (Q : VK), Inv X pins σ H s → RelV x v → RelV y u → r x y H Q →
    subscripted slice false v u = operate [v, u] (getItem v u) → wpAny (model X.prog X.w) X.A (subscriptTail value slice v u) (EP X pins σ Q) X.xe s
def MtR (X : Cx) (id : String) (r : V → List V → Hp → VK → Prop) : Prop :=
  ∀ (pins : List (Addr × Obj)) (s : Shared) (σ : St) (H : Hp) (x : V) (xs : List V) (v : Value) (us : List Value) (Q : VK), Inv X pins σ H s → RelV x v → Vals xs us → r x xs H Q →
    wpAny (model X.prog X.w) X.A (call (.builtin id) (v :: us)) (EP X pins σ Q) X.xe s
section
variable {X : Cx} {a b : Expr} {ta tb : TE} {pos : Pos}
theorem IxR.or {r r' : R2} (h : IxR X r) (h' : IxR X r') : IxR X (fun x y H Q => r x y H Q ∨ r' x y H Q) := by
  intro value slice pins s σ H x y v u Q I rx ry q hs
  rcases q with q | q
  · exact h value slice pins s σ H x y v u Q I rx ry q hs
  · exact h' value slice pins s σ H x y v u Q I rx ry q hs
theorem MtR.or {id : String} {r r' : V → List V → Hp → VK → Prop} (h : MtR X id r) (h' : MtR X id r') : MtR X id (fun x xs H Q => r x xs H Q ∨ r' x xs H Q) := by
  intro pins s σ H x xs v us Q I rx rs q
  rcases q with q | q
  · exact h pins s σ H x xs v us Q I rx rs q
  · exact h' pins s σ H x xs v us Q I rx rs q
theorem pe_ix {r : R2} (hr : IxR X r) (ha : PE X a ta) (hb : PE X b tb) (hs : PlainIx b) : PE X (.Subscript a b pos) (tOp r ta tb) := by
  intro pins s σ H Q I h
  exact Subscript_ (binT ha hb I h fun v u s2 x y H2 I2 rx ry q => hr a b pins s2 σ H2 x y v u Q I2 rx ry q (hs _ _))
def rIxL (K : PySem.W.Frag) : R2 := fun x y H Q => ∃ p xs i v, x = .ref p ∧ y = .int i ∧ SqL K H p xs ∧ atI xs i = some v ∧ Q v H
def rIxT (K : PySem.W.Frag) : R2 := fun x y H Q => ∃ p xs i v, x = .ref p ∧ y = .int i ∧ SqT K H p xs ∧ atI xs i = some v ∧ Q v H
def rIxS : R2 := fun x y H Q => ∃ z i c, x = .str z ∧ y = .int i ∧ z.length ≤ sizeLine ∧ atI z.cps.toList i = some c ∧ Q (.str ⟨#[c]⟩) H
theorem ix_list : IxR X (rIxL X.K) := by
  intro value slice pins s σ H x y v u Q I rx ry h hs
  obtain ⟨p, xs, i, z, rfl, rfl, hq, he, q⟩ := h
  cases rx
  obtain ⟨t, rfl⟩ := ry
  obtain ⟨its, r, pl, hz⟩ := I.list hq
  obtain ⟨j, h1, h2, h3, h4, h5⟩ := atI_get he
  obtain ⟨w, ew, rw'⟩ := r.get h2
  have hl := r.length
  have hn := line63
  have fin : EP X pins σ Q w s := ⟨z, H, I, rw', q⟩
  by_cases h0 : 0 ≤ i
  · have hj : i.toNat = j := by
      rw [seqIndex_of h0 h5] at h1
      exact Option.some.inj h1
    exact item_listR pl.isList h0 (by omega) (by rw [hj]; simpa using ew) fin hs
  · have hj : (i + (its.toArray.size : Int)).toNat = j := by
      rw [seqIndex_neg (by omega) h4] at h1
      rw [List.size_toArray, ← hl]
      exact Option.some.inj h1
    exact subscriptTail_builtinR (x := w) pl.isList.typeIs slot_list_getitem.lookup
      (wpAny_getItem_list_neg (Q := fun r s' => r = w ∧ EP X pins σ Q r s') pl.isList (by omega) (by rw [List.size_toArray] <;> omega) (by omega) (by rw [hj]; simpa using ew) ⟨rfl, fin⟩) hs
theorem ix_tup : IxR X (rIxT X.K) := by
  intro value slice pins s σ H x y v u Q I rx ry h hs
  obtain ⟨p, xs, i, z, rfl, rfl, hq, he, q⟩ := h
  cases rx
  obtain ⟨t, rfl⟩ := ry
  obtain ⟨its, r, pl, hz⟩ := I.tuple hq
  obtain ⟨j, h1, h2, h3, h4, h5⟩ := atI_get he
  obtain ⟨w, ew, rw'⟩ := r.get h2
  have hl := r.length
  have hn := line63
  have fin : EP X pins σ Q w s := ⟨z, H, I, rw', q⟩
  exact subscriptTail_builtinR (x := w) pl.typeIs slot_tuple_getitem.lookup
    (getItem_tuple (j := j) (Q := fun r s' => r = w ∧ EP X pins σ Q r s') pl (by omega) (by omega) (by rw [List.size_toArray, ← hl]; exact h1) (by simpa using ew) ⟨rfl, fin⟩) hs
theorem ix_str : IxR X rIxS := by
  intro value slice pins s σ H x y v u Q I rx ry h hs
  obtain ⟨z, i, c, rfl, rfl, hz, he, q⟩ := h
  obtain ⟨t, rfl⟩ := rx
  obtain ⟨t', rfl⟩ := ry
  obtain ⟨j, h1, h2, h3, h4, h5⟩ := atI_get he
  have hl : z.cps.toList.length = z.length := by simp [Str.length]
  rw [hl] at h1 h4 h5
  have hn := line63
  exact tail_any (typeIs_str s z t) slot_str_getitem.lookup (getItem_str (c := c) (by
    have e1 : decide (i < -(2 ^ 63 : Int)) = false := decide_eq_false (by omega)
    have e2 : decide (i ≥ 2 ^ 63) = false := decide_eq_false (by omega)
    rw [e1, e2, Bool.or_false]) (by rw [h1]; simpa using h2) ⟨.str ⟨#[c]⟩, H, I.tok _, ⟨_, rfl⟩, q⟩) hs
def rIx (K : PySem.W.Frag) : R2 := fun x y H Q => rIxL K x y H Q ∨ rIxT K x y H Q ∨ rIxS x y H Q
theorem ix_seq : IxR X (rIx X.K) := ix_list.or (ix_tup.or ix_str)
theorem Inv.lst {pins : List (Addr × Obj)} {σ : St} {H : Hp} {s : Shared} {p : Addr} {xs : List V} (I : Inv X pins σ H s) (h : H p = some (.lst xs)) :
    ∃ (its : List Value) (n : Nat), Vals xs its ∧ s.heap.get? p = some { cls := .type "list", data := .seq its.toArray n } ∧ xs.length ≤ sizeLine := by
  obtain ⟨z, its, n, r, e⟩ := I.hok p _ h
  exact ⟨its, n, r, e, z⟩
theorem slice_bounds (lo hi : Option Int) (n : Nat) : (sliceBounds lo hi none n).1 = ((HT.sIx n 0 lo : Nat) : Int) ∧ (sliceBounds lo hi none n).2.1 = ((HT.sIx n n hi : Nat) : Int) ∧ (sliceBounds lo hi none n).2.2 = 1 := by
  refine ⟨?_, ?_, rfl⟩
  · cases lo with
    | none => simp [sliceBounds, HT.sIx]
    | some i =>
      simp only [sliceBounds, HT.sIx, Option.getD_none, show (1 : Int) > 0 by decide, if_true]
      by_cases h : i < 0
      · simp only [h, if_true] <;> omega
      · simp only [h, if_false] <;> omega
  · cases hi with
    | none => simp [sliceBounds, HT.sIx]
    | some i =>
      simp only [sliceBounds, HT.sIx, Option.getD_none, show (1 : Int) > 0 by decide, if_true]
      by_cases h : i < 0
      · simp only [h, if_true] <;> omega
      · simp only [h, if_false] <;> omega
theorem slicePick_cut (its : List Value) (lo hi : Option Int) : slicePick its.toArray lo hi none = ((its.drop (HT.sIx its.length 0 lo)).take (HT.sIx its.length its.length hi - HT.sIx its.length 0 lo)).toArray := by
  obtain ⟨h1, h2, h3⟩ := slice_bounds lo hi its.toArray.size
  unfold slicePick
  rw [h1, h2, h3]
  simp only [sliceRange_one, pick_run, List.size_toArray] <;> rfl
def rSlL (K : PySem.W.Frag) : V → Option Int → Option Int → Hp → VK → Prop := fun x lo hi H Q => ∃ a xs, x = .ref a ∧ SqL K H a xs ∧ ∀ p, H p = none → Q (.ref p) (upd H p (.lst (cutV xs lo hi)))
theorem sl_list : SlR X (rSlL X.K) := by
  intro pins s σ H x v vl vu lo hi sl Q I rx hs pl pu h
  obtain ⟨a, xs, rfl, hx, q⟩ := h
  cases rx
  obtain ⟨its, r, ht, hz⟩ := I.list hx
  have hlen := r.length
  refine ⟨"list", _, slot_list_getitem.lookup, ht.isList.typeIs, ?_⟩
  refine wpAny_getItem_list_slice ht.isList hs pl pu .none (by simp) ?_ (by rw [List.size_toArray] <;> omega)
  rw [slicePick_cut, ← hlen]
  refine ⟨.ref s.heap.objs.size, _, I.laid (t' := s.toks) (o := .lst (cutV xs lo hi)) (fun b ob q => Heap.get?_push_of_some _ q) (Nat.le_refl _) ?_, rfl, q _ (I.hok.fresh (Nat.le_refl _))⟩
  exact ⟨Nat.le_trans (cutV_length xs lo hi) hz, _, 0, (r.drop (HT.sIx xs.length 0 lo)).take (HT.sIx xs.length xs.length hi - HT.sIx xs.length 0 lo), Heap.get?_push_size _ rfl⟩
def flatV : V → Bool
  | .non => true
  | .bl _ => true
  | .int _ => true
  | .str _ => true
  | _ => false
def eqV : V → V → Bool
  | .non, .non => true
  | .bl a, .bl b => a == b
  | .bl a, .int b => (if a then 1 else 0) == b
  | .int a, .bl b => a == (if b then 1 else 0)
  | .int a, .int b => a == b
  | .str a, .str b => a == b
  | _, _ => false
theorem eqAt_V {A : Around} {s : Shared} {y x : V} {u v : Value} (ry : RelV y u) (rx : RelV x v) (fy : flatV y = true) (fx : flatV x = true) : SeqAt.EqAt A s u v (eqV y x) := by
  cases y with
  | non =>
    cases ry
    cases x with
    | non => cases rx; exact SeqAt.EqAt.same _
    | bl b => cases rx; exact SeqAt.EqAt.none_bool b
    | int b => obtain ⟨t, rfl⟩ := rx; exact SeqAt.EqAt.none_int b t
    | str b => obtain ⟨t, rfl⟩ := rx; exact SeqAt.EqAt.none_str b t
    | _ => exact absurd (show false = true from fx) Bool.false_ne_true
  | bl a =>
    cases ry
    cases x with
    | non => cases rx; exact SeqAt.EqAt.bool_none a
    | bl b => cases rx; exact SeqAt.EqAt.bool_bool a b
    | int b => obtain ⟨t, rfl⟩ := rx; exact SeqAt.EqAt.bool_int a b t
    | str b => obtain ⟨t, rfl⟩ := rx; exact SeqAt.EqAt.bool_str a b t
    | _ => exact absurd (show false = true from fx) Bool.false_ne_true
  | int a =>
    obtain ⟨t', rfl⟩ := ry
    cases x with
    | non => cases rx; exact SeqAt.EqAt.int_none a t'
    | bl b => cases rx; exact SeqAt.EqAt.int_bool a t' b
    | int b => obtain ⟨t, rfl⟩ := rx; exact SeqAt.EqAt.int_int a t' b t
    | str b => obtain ⟨t, rfl⟩ := rx; exact SeqAt.EqAt.int_str a t' b t
    | _ => exact absurd (show false = true from fx) Bool.false_ne_true
  | str a =>
    obtain ⟨t', rfl⟩ := ry
    cases x with
    | non => cases rx; exact SeqAt.EqAt.str_none a t'
    | bl b => cases rx; exact SeqAt.EqAt.str_bool a t' b
    | int b => obtain ⟨t, rfl⟩ := rx; exact SeqAt.EqAt.str_int a t' b t
    | str b => obtain ⟨t, rfl⟩ := rx; exact SeqAt.EqAt.str_str a t' b t
    | _ => exact absurd (show false = true from fx) Bool.false_ne_true
  | _ => exact absurd (show false = true from fy) Bool.false_ne_true
def eqU (x : V) (u : Value) : Bool := match u with
  | .none => eqV .non x
  | .bool b => eqV (.bl b) x
  | .int i _ => eqV (.int i) x
  | .str z _ => eqV (.str z) x
  | _ => false
theorem eqU_of {x y : V} {u : Value} (r : RelV y u) (f : flatV y = true) : eqU x u = eqV y x := by
  cases y with
  | non => cases r; rfl
  | bl b => cases r; rfl
  | int i => obtain ⟨t, rfl⟩ := r; rfl
  | str z => obtain ⟨t, rfl⟩ := r; rfl
  | _ => exact absurd (show false = true from f) Bool.false_ne_true
theorem any_eqU {x : V} : ∀ {xs : List V} {us : List Value}, Vals xs us → xs.all flatV = true → us.any (eqU x) = xs.any fun y => eqV y x
  | _, _, .nil, _ => rfl
  | y :: xs, u :: us, .cons r t, f => by
    rw [List.all_cons, Bool.and_eq_true] at f
    rw [List.any_cons, List.any_cons, eqU_of r f.1, any_eqU t f.2]
theorem mem_eqAt {A : Around} {s : Shared} {x : V} {v : Value} (rx : RelV x v) (fx : flatV x = true) : ∀ {xs : List V} {us : List Value}, Vals xs us → xs.all flatV = true → ∀ u ∈ us, SeqAt.EqAt A s u v (eqU x u)
  | _, _, .nil, _ => fun u hu => by cases hu
  | y :: xs, u :: us, .cons r t, f => fun u' hu => by
    rw [List.all_cons, Bool.and_eq_true] at f
    rcases List.mem_cons.mp hu with rfl | hu
    · rw [eqU_of r f.1]; exact eqAt_V r rx f.1 fx
    · exact mem_eqAt rx fx t f.2 u' hu
def inV (x : V) (xs : List V) : Bool := xs.any fun y => eqV y x
def rIn (K : PySem.W.Frag) (neg : Bool) : R2 := fun x y H Q => ∃ p xs, y = .ref p ∧ (SqL K H p xs ∨ SqT K H p xs) ∧ flatV x = true ∧ xs.all flatV = true ∧ Q (.bl (if neg then !inV x xs else inV x xs)) H
theorem op_in_seq : OpR X (compareOp .In) (rIn X.K false) := by
  intro pins s σ H x y v u Q I rx ry h
  obtain ⟨p, xs, rfl, hq, fx, fs, q⟩ := h
  cases ry
  rcases hq with hq | hq
  · obtain ⟨its, r, pl, hz⟩ := I.list hq
    refine SeqAt.in_listAt (eqU x) pl.isList (fun w hw => mem_eqAt rx fx r fs w (by simpa using hw)) ⟨.bl _, H, I, rfl, ?_⟩
    rw [show its.toArray.any (eqU x) = its.any (eqU x) by simp, any_eqU r fs]
    exact q
  · obtain ⟨its, r, pl, hz⟩ := I.tuple hq
    refine SeqAt.in_tupleAt (eqU x) pl (fun w hw => mem_eqAt rx fx r fs w (by simpa using hw)) ⟨.bl _, H, I, rfl, ?_⟩
    rw [show its.toArray.any (eqU x) = its.any (eqU x) by simp, any_eqU r fs]
    exact q
theorem op_notIn_seq : OpR X (compareOp .NotIn) (rIn X.K true) := by
  intro pins s σ H x y v u Q I rx ry h
  obtain ⟨p, xs, rfl, hq, fx, fs, q⟩ := h
  cases ry
  rcases hq with hq | hq
  · obtain ⟨its, r, pl, hz⟩ := I.list hq
    refine SeqAt.notIn_listAt (eqU x) pl.isList (fun w hw => mem_eqAt rx fx r fs w (by simpa using hw)) ⟨.bl _, H, I, rfl, ?_⟩
    rw [show its.toArray.any (eqU x) = its.any (eqU x) by simp, any_eqU r fs]
    exact q
  · obtain ⟨its, r, pl, hz⟩ := I.tuple hq
    refine SeqAt.notIn_tupleAt (eqU x) pl (fun w hw => mem_eqAt rx fx r fs w (by simpa using hw)) ⟨.bl _, H, I, rfl, ?_⟩
    rw [show its.toArray.any (eqU x) = its.any (eqU x) by simp, any_eqU r fs]
    exact q
theorem CallR.or {f : Value} {r r' : List V → Hp → VK → Prop} (h : CallR X f r) (h' : CallR X f r') : CallR X f (fun xs H Q => r xs H Q ∨ r' xs H Q) := by
  intro pins s σ H xs us Q I rs q
  rcases q with q | q
  · exact h pins s σ H xs us Q I rs q
  · exact h' pins s σ H xs us Q I rs q
variable {o e : Expr} {es : List Expr} {to : TE} {t : TA} {name : Str} {apos cpos : Pos} {T id : String} {r : V → List V → Hp → VK → Prop}
end
end L2
namespace L2
open PySem PySem.Spec PyProof.Rows
def MtM (X : Cx) (id : String) (r : V → List V → Hp → VK → Prop) : Prop :=
  ∀ (pins : List (Addr × Obj)) (s : Shared) (σ : St) (H : Hp) (x : V) (xs : List V) (v : Value) (us : List Value) (Q : VK), Inv X pins σ H s → RelV x v → Vals xs us → r x xs H Q →
    wpAny (model X.prog X.w) X.A (call (.builtin id) (v :: us)) (EP X pins σ Q) X.xe s
theorem Vals.one : ∀ {x : V} {us : List Value}, Vals [x] us → ∃ u, us = [u] ∧ RelV x u
  | _, _, .cons r .nil => ⟨_, rfl, r⟩
theorem Vals.two : ∀ {x y : V} {us : List Value}, Vals [x, y] us → ∃ u v, us = [u, v] ∧ RelV x u ∧ RelV y v
  | _, _, _, .cons r (.cons q .nil) => ⟨_, _, rfl, r, q⟩
theorem Vals.zero : ∀ {us : List Value}, Vals [] us → us = []
  | _, .nil => rfl
theorem Vals.reverse {xs : List V} {us : List Value} (h : Vals xs us) : Vals xs.reverse us.reverse := by
  induction h with
  | nil => exact .nil
  | cons r t ih => rw [List.reverse_cons, List.reverse_cons]; exact Vals.append ih (.cons r .nil)
section
variable {X : Cx} {pins : List (Addr × Obj)} {σ : St} {H : Hp} {s : Shared} {l b : Addr} {xs ys zs : List V}
theorem Inv.lset {its its' : List Value} {n : Nat} {f : Array Value → Array Value} {t' : Nat} (I : Inv X pins σ H s) (hH : H l = some (.lst xs))
    (e : s.heap.get? l = some { cls := .type "list", data := .seq its.toArray n }) (hf : f its.toArray = its'.toArray) (hv : Vals ys its') (hz : ys.length ≤ sizeLine) :
    Inv X pins σ (upd H l (.lst ys)) { s with heap := s.heap.update l (Obj.mapSeq f), toks := t' } := by
  have q := PySem.IsL.update e f
  rw [hf] at q
  refine I.write (x := l) (e := l) (by rw [hH]; exact trivial) (.inl rfl) (fun b' u hb hu => (Heap.get?_update_other s.heap (Obj.mapSeq f) (Ne.symm hb)).trans hu) ⟨_, q⟩ ?_
  exact ⟨hz, its', _, hv, q⟩
theorem Inv.lnew {its : List Value} {t' : Nat} (I : Inv X pins σ H s) (hv : Vals ys its) (hz : ys.length ≤ sizeLine) :
    Inv X pins σ (upd H s.heap.objs.size (.lst ys)) { s with heap := s.heap.push { cls := .type "list", data := .seq its.toArray }, toks := t' } :=
  I.laid (fun _ _ q => Heap.get?_push_of_some _ q) (Nat.le_refl _) ⟨hz, its, 0, hv, Heap.get?_push_size _ rfl⟩
theorem Inv.fresh (I : Inv X pins σ H s) : H s.heap.objs.size = none := I.hok.fresh (Nat.le_refl _)
theorem Inv.lstM (I : Inv X pins σ H s) (hH : H l = some (.lst xs)) : xs.length ≤ sizeLine ∧ ∃ (its : List Value) (n : Nat), Vals xs its ∧ xs.length = its.length ∧ s.heap.get? l = some { cls := .type "list", data := .seq its.toArray n } := by
  obtain ⟨z, its, n, r, e⟩ := I.hok l _ hH
  exact ⟨z, its, n, r, r.length, e⟩
end
section
variable {X : Cx}
def rAppend : V → List V → Hp → VK → Prop := fun x vs H Q => ∃ l xs y, x = .ref l ∧ vs = [y] ∧ H l = some (.lst xs) ∧ xs.length < sizeLine ∧ Q .non (upd H l (.lst (xs ++ [y])))
theorem mt_append : MtM X "list.append" rAppend := by
  intro pins s σ H x vs v us Q I rx rv h
  obtain ⟨l, xs, y, rfl, rfl, hH, hz, q⟩ := h
  cases rx
  obtain ⟨u, rfl, ru⟩ := rv.one
  obtain ⟨z, its, n, r, hl, e⟩ := I.lstM hH
  refine call_meets F.slot_list_append ⟨_, e, rfl⟩ F.entry_list_append (F.args_list_append_2 _ _) (PySem.list_append l its.toArray n u (by rw [List.size_toArray]; omega)) ⟨e, ?_⟩
  refine ⟨.non, _, I.lset (its' := its ++ [u]) hH e (by simp) (r.append (.cons ru .nil)) ?_, rfl, q⟩
  rw [List.length_append, List.length_singleton]
  omega
end
section
variable {prog : Program} {w : World} {A : Around} {E : Value → Shared → Prop} {s : Shared}
end
section
variable {X : Cx}
end
end L2
namespace L2
open PySem PySem.Spec PyProof.Rows
section
variable {κ : Type} [DecidableEq κ]
def valV (kvs : List (κ × V)) (k : κ) : Option V := (kvs.find? fun kv => decide (kv.1 = k)).map (·.2)
def putK (kvs : List (κ × V)) (k : κ) (v : V) : List (κ × V) :=
  if (kvs.any fun kv => decide (kv.1 = k)) = true then kvs.map (fun kv => if kv.1 = k then (kv.1, v) else kv) else kvs ++ [(k, v)]
def dropK (kvs : List (κ × V)) (k : κ) : List (κ × V) := kvs.filter fun kv => decide (kv.1 ≠ k)
theorem valV_pos {p : κ × V} {r : List (κ × V)} {k : κ} (e : p.1 = k) : valV (p :: r) k = some p.2 := by simp [valV, List.find?_cons, e]
theorem valV_neg {p : κ × V} {r : List (κ × V)} {k : κ} (e : ¬ p.1 = k) : valV (p :: r) k = valV r k := by simp [valV, List.find?_cons, e]
theorem RelO.getD {o : Option V} {u : Option Value} {d : V} {d' : Value} (r : RelO o u) (rd : RelV d d') : RelV (o.getD d) (u.getD d') := by
  cases o with
  | none => cases u with
    | none => exact rd
    | some _ => exact (show False from r).elim
  | some _ => cases u with
    | none => exact (show False from r).elim
    | some _ => exact r
theorem KV.val {kvs : List (κ × V)} {vs : List (κ × Value)} (r : KV kvs vs) (k : κ) : RelO (valV kvs k) (valueAt vs k) := by
  unfold KV at r
  induction r with
  | nil => exact True.intro
  | @cons p q ps qs h t ih =>
    obtain ⟨h1, h2⟩ := h
    by_cases e : p.1 = k
    · have e' : q.1 = k := h1.symm.trans e
      have b : valueAt (q :: qs) k = some q.2 := by simp [valueAt, List.find?_cons, e']
      rw [valV_pos e, b]; exact h2
    · have e' : ¬ q.1 = k := fun z => e (h1.trans z)
      have b : valueAt (q :: qs) k = valueAt qs k := by simp [valueAt, List.find?_cons, e']
      rw [valV_neg e, b]; exact ih
theorem KV.any {kvs : List (κ × V)} {vs : List (κ × Value)} (r : KV kvs vs) (k : κ) : (kvs.any fun kv => decide (kv.1 = k)) = vs.any fun kv => decide (kv.1 = k) := by
  unfold KV at r
  induction r with
  | nil => rfl
  | cons h t ih => rw [List.any_cons, List.any_cons, ih, h.1]
theorem KV.drop {kvs : List (κ × V)} {vs : List (κ × Value)} (r : KV kvs vs) (k : κ) : KV (dropK kvs k) (without vs k) := by
  unfold KV at r ⊢
  unfold dropK without
  induction r with
  | nil => exact .nil
  | @cons p q ps qs h t ih =>
    obtain ⟨h1, h2⟩ := h
    rw [List.filter_cons, List.filter_cons]
    by_cases e : p.1 = k
    · have a : ¬ decide (p.1 ≠ k) = true := by simp [e]
      have b : ¬ decide (q.1 ≠ k) = true := by simp [h1.symm.trans e]
      rw [if_neg a, if_neg b]; exact ih
    · have e' : ¬ q.1 = k := fun z => e (h1.trans z)
      have a : decide (p.1 ≠ k) = true := by simp [e]
      have b : decide (q.1 ≠ k) = true := by simp [e']
      rw [if_pos a, if_pos b]; exact .cons ⟨h1, h2⟩ ih
theorem KV.keys {kvs : List (κ × V)} {vs : List (κ × Value)} (r : KV kvs vs) : kvs.map (·.1) = vs.map (·.1) := by
  unfold KV at r
  induction r with
  | nil => rfl
  | cons h t ih => rw [List.map_cons, List.map_cons, ih, h.1]
theorem KV.length {kvs : List (κ × V)} {vs : List (κ × Value)} (r : KV kvs vs) : kvs.length = vs.length := Paired.length r
end
abbrev KT (H : Hp) : List (List Key × V) → List (List Key × Addr × Value) → Prop := Paired fun p q => p.1 = q.1 ∧ H q.2.1 = some (.tup (p.1.map kV)) ∧ RelV p.2 q.2.2
theorem KT.val {H : Hp} {kvs : List (List Key × V)} {xs : List (List Key × Addr × Value)} (r : KT H kvs xs) (k : List Key) : RelO (valV kvs k) ((atKey xs k).map (·.2)) := by
  induction r with
  | nil => exact True.intro
  | @cons p q ps qs h t ih =>
    obtain ⟨h1, _, h2⟩ := h
    by_cases e : p.1 = k
    · have e' : q.1 = k := h1.symm.trans e
      have b : atKey (q :: qs) k = some q.2 := by simp [atKey, List.find?_cons, e']
      rw [valV_pos e, b]; exact h2
    · have e' : ¬ q.1 = k := fun z => e (h1.trans z)
      have b : atKey (q :: qs) k = atKey qs k := by simp [atKey, List.find?_cons, e']
      rw [valV_neg e, b]; exact ih
theorem KT.keeps {H H' : Hp} {kvs : List (List Key × V)} {xs : List (List Key × Addr × Value)} (r : KT H kvs xs) (ht : ∀ b ys, H b = some (.tup ys) → H' b = some (.tup ys)) : KT H' kvs xs :=
  Paired.mapP r fun _ _ z => ⟨z.1, ht _ _ z.2.1, z.2.2⟩
section
variable {P : Program} {w : World} {H : Hp} {h : Heap} {a : Addr}
end
def DGet (H : Hp) (a : Addr) (y : V) (r : Option V) : Prop :=
  (∃ kvs k, Rd H a (.dK kvs) ∧ y = kV k ∧ r = valV kvs k) ∨ ∃ kvs k b, Rd H a (.dT kvs) ∧ y = .ref b ∧ H b = some (.tup (k.map kV)) ∧ r = valV kvs k
def DPut (H : Hp) (a : Addr) (y v : V) (H' : Hp) : Prop :=
  (∃ kvs k, H a = some (.dK kvs) ∧ y = kV k ∧ kvs.length < sizeLine ∧ H' = upd H a (.dK (putK kvs k v))) ∨
  ∃ kvs k b, H a = some (.dT kvs) ∧ y = .ref b ∧ H b = some (.tup (k.map kV)) ∧ kvs.length < sizeLine ∧ H' = upd H a (.dT (putK kvs k v))
theorem DGet.k {H : Hp} {a : Addr} {kvs : List (Key × V)} {k : Key} (e : H a = some (.dK kvs)) : DGet H a (kV k) (valV kvs k) := .inl ⟨kvs, k, .inl e, rfl, rfl⟩
theorem DGet.t {H : Hp} {a b : Addr} {kvs : List (List Key × V)} {k : List Key} (e : H a = some (.dT kvs)) (eb : H b = some (.tup (k.map kV))) : DGet H a (.ref b) (valV kvs k) := .inr ⟨kvs, k, b, .inl e, rfl, eb, rfl⟩
theorem DPut.k {H : Hp} {a : Addr} {kvs : List (Key × V)} {k : Key} {v : V} (e : H a = some (.dK kvs)) (hl : kvs.length < sizeLine) : DPut H a (kV k) v (upd H a (.dK (putK kvs k v))) := .inl ⟨kvs, k, e, rfl, hl, rfl⟩
theorem DPut.t {H : Hp} {a b : Addr} {kvs : List (List Key × V)} {k : List Key} {v : V} (e : H a = some (.dT kvs)) (eb : H b = some (.tup (k.map kV))) (hl : kvs.length < sizeLine) :
    DPut H a (.ref b) v (upd H a (.dT (putK kvs k v))) := .inr ⟨kvs, k, b, e, rfl, eb, hl, rfl⟩
section
variable {X : Cx} {pins : List (Addr × Obj)} {σ : St} {H : Hp} {s : Shared} {a : Addr} {y v : V} {u r : Value} {o : Option V} {A : Around} {E : Value → Shared → Prop}
end
section
variable {X : Cx} {pins : List (Addr × Obj)} {σ : St} {H : Hp} {s : Shared} {a : Addr} {kvs : List (Key × V)} {k : Key} {u : Value} {A : Around} {E : Value → Shared → Prop}
end
section
variable {X : Cx} {o i e value : Expr} {pos pos' tpos : Pos} {td ty tv : TE}
end
section
variable {X : Cx} {pos : Pos}
end
structure M1 (X : Cx) (o : Expr) (m : Str) (apos : Pos) (e : Expr) (cpos : Pos) : Prop where
  base : attributeBase o m X.env (eval o X.env) = eval o X.env
  few : ((backTo cpos (starEach [e] X.env)).all (fun x => !x.1) && (backToKw cpos (keywordEach [] X.env)).all (fun x => x.1.isSome)
    && decide (([e] : List Expr).length + ([] : List Keyword).length + (if ([] : List Keyword).isEmpty then 0 else 1) < 30)) = true
  line : (apos.endLine == cpos.line) = true
  trees : backTo cpos (starEach [e] X.env) = [(false, eval e X.env)]
structure M2 (X : Cx) (o : Expr) (m : Str) (apos : Pos) (e f : Expr) (cpos : Pos) : Prop where
  base : attributeBase o m X.env (eval o X.env) = eval o X.env
  few : ((backTo cpos (starEach [e, f] X.env)).all (fun x => !x.1) && (backToKw cpos (keywordEach [] X.env)).all (fun x => x.1.isSome)
    && decide (([e, f] : List Expr).length + ([] : List Keyword).length + (if ([] : List Keyword).isEmpty then 0 else 1) < 30)) = true
  line : (apos.endLine == cpos.line) = true
  trees : backTo cpos (starEach [e, f] X.env) = [(false, eval e X.env), (false, eval f X.env)]
section
variable {X : Cx} {pins : List (Addr × Obj)} {σ : St} {H : Hp} {s : Shared} {a : Addr} {y d : V} {u r : Value} {o : Option V} {A : Around} {E : Value → Shared → Prop}
end
section
variable {X : Cx} {o e f : Expr} {apos cpos : Pos} {td ty tx : TE}
end
section
variable {X : Cx} {pins : List (Addr × Obj)} {σ : St} {H : Hp} {s : Shared} {a : Addr} {kvs : List (Key × V)} {A : Around} {E : Value → Shared → Prop}
end
section
variable {X : Cx} {pins : List (Addr × Obj)} {σ : St} {H : Hp} {s : Shared} {a : Addr} {y : V} {u : Value} {A : Around} {E : Value → Shared → Prop}
end
end L2
namespace Att
open PySem PySem.W PySem.Calls PyProof.Rows
theorem ints_of_wellAll {P : Params} {h : Heap} : ∀ (ns : List Int) (vs : List Value), WellAll P h vs (ns.map WData.int) → IntsAre vs ns := by
  intro ns
  induction ns with
  | nil =>
    intro vs w
    rw [List.map_nil] at w
    cases w
    exact .nil
  | cons n ns ih =>
    intro vs w
    rw [List.map_cons] at w
    cases w with
    | cons a b =>
      cases a
      exact .cons _ _ (ih _ b)
theorem script_of {l : OpenLaw} {n : Nat} (hn : l.most = some n) {P : Params} {h : Heap} {args : List WData} {vals : List Value}
    (hpre : l.row.toRowW.claim.pre args = true) (hwl : WellAll P h vals args) :
    ∃ a vs ns, vals = [Value.ref a] ∧ args = [WData.list (ns.map WData.int)] ∧ h.get? a = some { cls := .type "list", data := .seq vs.toArray } ∧ IntsAre vs ns ∧ ns.length ≤ n := by
  have hsh : WShape.hasAll [] args [.list .int] = true := (pre_splitW hpre).1
  have hc : l.pre.holds [] { args := args } = true := (pre_splitW hpre).2
  obtain ⟨d, r, rfl, h1, h2⟩ := hasAllW_cons hsh
  obtain rfl := hasAllW_nil h2
  obtain ⟨xs, rfl, h3⟩ := hasW_list h1
  obtain ⟨ns, rfl⟩ := items_int h3
  have hlen : ns.length ≤ n := by
    unfold OpenLaw.pre at hc
    have h4 : (WTm.not (.lt (.lit (.int (n : Int))) (.len (.arg 0)))).holds [] { args := [.list (ns.map .int)] } = true := by
      have h4 := (holds_andW hc).1
      rw [hn] at h4
      exact h4
    have h5 := condW_of h4 (w_not (w_lt w_lit (w_len_list (w_arg rfl))))
    rw [List.length_map] at h5
    refine Nat.le_of_not_lt fun q => ?_
    have q' : (n : Int) < ((ns.length : Nat) : Int) := by omega
    first
      | (rw [decide_eq_true q'] at h5; exact absurd h5 (by decide))
      | (simp at h5; omega)
  cases hwl with
  | cons w1 w2 =>
    cases w2
    cases w1 with
    | list ho hall => exact ⟨_, _, ns, rfl, rfl, ho, ints_of_wellAll ns _ hall, hlen⟩
theorem post_true (l : OpenLaw) (args : List WData) : l.row.toRowW.claim.post args (.bool true) args = true :=
  postW_of (r := l.row.toRowW) (X := (true == true))
    (show WShape.has [] (.bool true) .bool = true by first | rfl | decide | simp [WShape.has, WShape.arms, WShape.armsAll])
    (show (WTm.eq .res (.lit (.bool true))).value [] { args := args, res := some (.bool true), after := args } = some (.bool (true == true)) from w_eq_bool (w_res rfl) w_lit) rfl
theorem attach_call {l : OpenLaw} {n : Nat} {q : Program} {loose : List Str} {XP : (Str → Option Value) → Heap → Prop} {YP : World → Heap → Prop} {d : DefRec}
    (hn : l.most = some n) (hdf : d.params.defaults = [])
    (call : ∀ (w : World) (s₀ s₁ : Shared) (mg mb : Str → Option Value) (fa : Addr) (o : Obj) (pm cd doc : Value) (a : Addr) (vs : List Value) (ns : List Int),
      Ground q loose [] XP w s₀ mg mb s₁.heap → YP w s₁.heap →
      s₁.heap.get? fa = some o → o.data = .func (docDef d.name d.params d.body d.scope pm cd doc) → s₁.heap.CodeRec cd d.name → mg d.name = some (.ref fa) →
      s₁.heap.get? a = some { cls := .type "list", data := .seq vs.toArray } → IntsAre vs ns → ns.length ≤ n → s₁.gens = #[] →
      codeAny (model l.prog w) callerA (.call (.ref fa) ⟨[.ref a], []⟩) (fun r s' => r = .ok (.ret (.bool true)) ∧ OldK s₁.heap s'.heap ∧ s'.os = s₁.os ∧ AllBare s'.gens) s₁) :
    WalkO q loose XP YP l.row.toRowW d [] (fun f vs => PySem.call f vs) := by
  intro w s₀ s₁ mg mb G Y fa o pm cd doc dV kV ho hd hcd hD hmg hg args vals as hpre hlay hrd hwl hlo
  obtain rfl : dV = .none := Dflts.none hD hdf
  obtain rfl : kV = .none := Dflts.noKw hD
  obtain ⟨a, vs, ns, rfl, rfl, hobj, hints, hlen⟩ := script_of hn hpre hwl
  refine enter_call (codeAny_mono (call w s₀ s₁ mg mb fa o pm cd doc a vs ns G Y ho (fd_plain hd) hcd hmg hobj hints hlen hg) fun r s' hq => ?_)
  obtain ⟨rfl, h2, h3, h4⟩ := hq
  exact ⟨.inl ⟨.bool true, .bool true, [], rfl, fun _ => rfl, .bool true, post_true l _, fun _ => ⟨List.Pairwise.nil, fun _ hm => (nomatch hm)⟩⟩, h2, h3, h4⟩
section
variable {prog : Program} {w : World} {A : Around} {E : Value → Shared → Prop} {s : Shared} {K : Frag}
end
end Att
namespace L2
open PySem PySem.Spec PyProof.Rows
theorem vals_ints : ∀ {vs : List Value} {ns : List Int}, IntsAre vs ns → Vals (ns.map V.int) vs
  | _, _, .nil => .nil
  | _, _, .cons n t h => .cons ⟨t, rfl⟩ (vals_ints h)
def Only (H : Hp) : Prop := ∀ b, H b = none ∨ ∃ o xs, H b = some (.frz o (.lst xs))
theorem law_call {P : Program} {w : World} {K : PySem.W.Frag} {mg mb : Str → Option Value} {CX : CXT} {k : Nat} {fa a : Addr} {fd : FuncData} {x : Str} {sp : Sp} {s₁ : Shared} {vs : List Value} {ns : List Int}
    (KX : K.In s₁.heap) (hns : s₁.heap.Ns mainGlobals mg) (hb : s₁.heap.Ns builtinsNs mb) (hbb : ∀ x : Str, x ≠ "__name__" → mb x = bootBuiltins x) (hlim : s₁.heap.NoLimit) (hg : s₁.gens = #[])
    (ha : s₁.heap.get? a = some { cls := .type "list", data := .seq vs.toArray }) (hi : IntsAre vs ns) (hl : ns.length ≤ sizeLine) (hr : Room k callerA)
    (F : ∀ base : Heap, K.In base → base.Ns mainGlobals mg → FnOk P w K mg base CX k fa fd [x] sp) (hbind : ∀ (s : Shared) (u : Value), BindsTo s fd ⟨[u], []⟩ [(x, u)])
    (hsp : ∀ H : Hp, Only H → SqL K H a (ns.map V.int) → sp [.ref a] H (fun v _ => v = .bl true) fun _ _ _ => False)
    (hCX : ∀ H e s', CX [] H s₁ (fun _ _ _ => False) e s' → False) :
    codeAny (model P w) callerA (.call (.ref fa) ⟨[.ref a], []⟩) (fun r s' => r = .ok (.ret (.bool true)) ∧ OldK s₁.heap s'.heap ∧ s'.os = s₁.os ∧ AllBare s'.gens) s₁ := by
  have rv := vals_ints hi
  have lenV := hi.length
  -- from an abstract heap in which nothing but the script may be tracked
  have core : ∀ H : Hp, Only H → SqL K H a (ns.map V.int) → HOk P w H s₁.heap → (∀ b, H b ≠ none → b = a) → (H a ≠ none → K.lookup a = none) →
      codeAny (model P w) callerA (.call (.ref fa) ⟨[.ref a], []⟩) (fun r s' => r = .ok (.ret (.bool true)) ∧ OldK s₁.heap s'.heap ∧ s'.os = s₁.os ∧ AllBare s'.gens) s₁ := by
    intro H hO hS hok hA hK
    have base_of : ∀ {b : Addr} {o : Obj}, s₁.heap.get? b = some o → H b = none → (hidT s₁.heap H).get? b = some o := fun e n => hidT_get e n
    have noA : ∀ {b : Addr} {o : Obj} {es : Array DictEntry} {ep : Nat}, s₁.heap.get? b = some o → o.data = .dict es ep → H b = none := fun {b o es ep} e d => by
      cases q : H b with
      | none => rfl
      | some u =>
        have e' : b = a := hA b (by rw [q]; simp)
        subst e'
        rw [ha] at e; cases e
        have d' : Data.seq vs.toArray _ = Data.dict es ep := d
        cases d'
    have nsK : ∀ {b : Addr} {m : Str → Option Value}, s₁.heap.Ns b m → (hidT s₁.heap H).Ns b m := fun {b m} ⟨o, es, ep, e, d, r⟩ => ⟨o, es, ep, base_of e (noA e d), d, r⟩
    have hKb : K.In (hidT s₁.heap H) := fun b o e => base_of (KX b o e) (by
      cases q : H b with
      | none => rfl
      | some u =>
        have e' : b = a := hA b (by rw [q]; simp)
        subst e'
        rw [hK (by rw [q]; simp)] at e; cases e)
    have hM : Mod K mg (hidT s₁.heap H) := ⟨hKb, nsK hns, ⟨mb, nsK hb, hbb⟩, let ⟨mc, h1, h2⟩ := hlim; ⟨mc, nsK h1, h2⟩⟩
    have e0 : Env0 P w K mg (hidT s₁.heap H) callerA [] s₁ H := ⟨rfl, hM, fun b o e => of_hidT e, Nat.le_of_eq (hidT_size _ _), trivial, fun b hb => absurd (show b ∈ ([] : List Addr) from hb) (by simp), hok, .of_eq hg⟩
    refine codeAny_mono ((F _ hKb (nsK hns)).run callerA [] s₁ H ⟨[.ref a], []⟩ [.ref a] [.ref a] _ _ hr e0 (hbind s₁ (.ref a)) (.cons rfl .nil) (hsp H hO hS)) fun r s' h => ?_
    cases r with
    | error e => exact (hCX H e s' h).elim
    | ok fl =>
      cases fl with
      | next => exact False.elim h
      | brk => exact False.elim h
      | cont => exact False.elim h
      | ret u =>
        obtain ⟨v, H', os, bare, un, hok', r', q⟩ := h
        have q' : v = .bl true := q
        subst q'
        obtain rfl : u = Value.bool true := r'
        refine ⟨rfl, OldK.of_keep fun b o e => ?_, os, bare⟩
        cases q : H b with
        | none => exact un.keep b o e q (by intro z; exact absurd (show b ∈ ([] : List Addr) from z) (by simp)) (by simp)
        | some u =>
          rcases hO b with z | ⟨ob, xs, z⟩
          · rw [q] at z; cases z
          · have z2 := un.frzs b ob _ z
            obtain ⟨e1, _⟩ := hok b _ z
            obtain ⟨e2, _⟩ := hok' b _ z2
            rw [e] at e1; cases e1
            exact e2
  cases hk : K.lookup a with
  | some o =>
    -- the script is one of the module's own objects
    have e := KX a o hk
    rw [ha] at e
    cases e
    refine core (fun _ => none) (fun _ => .inl rfl) (.inr ⟨_, vs.toArray, _, hk, rfl, rfl, rfl, by rw [List.size_toArray, lenV]; exact hl, by simpa using rv⟩) (fun b u z => by have z' : (none : Option HO) = some u := z; cases z') (fun b z => absurd rfl z) fun z => absurd rfl z
  | none =>
    refine core (fun b => if b = a then some (.frz { cls := .type "list", data := .seq vs.toArray } (.lst (ns.map V.int))) else none) (fun b => ?_) (.inl (.inr ⟨{ cls := .type "list", data := .seq vs.toArray }, if_pos rfl⟩)) (fun b u z => ?_) (fun b z => ?_) fun _ => hk
    · by_cases hb : b = a
      · exact .inr ⟨_, _, if_pos hb⟩
      · exact .inl (if_neg hb)
    · by_cases hb : b = a
      · have z' := (if_pos hb).symm.trans z
        cases z'
        subst hb
        exact ⟨ha, by rw [List.length_map]; exact hl, vs, _, rv, ha⟩
      · have z' := (if_neg hb).symm.trans z
        cases z'
    · by_cases hb : b = a
      · exact hb
      · exact absurd (if_neg hb) z
end L2
namespace L2
open PySem PySem.Spec PyProof.Rows
theorem walk_of {l : PySem.W.OpenLaw} {n k : Nat} {q : Program} {loose : List Str} {XP : (Str → Option Value) → Heap → Prop} {YP : World → Heap → Prop} {d : DefRec} {K : Params → PySem.W.Frag} {CX : World → CXT} {sp : World → Sp} {x : Str}
    (hn : l.most = some n) (hn2 : n ≤ sizeLine) (hdf : d.params.defaults = []) (hr : Room k callerA)
    (hY : ∀ (w : World) (h : Heap), YP w h → (K w.params).In h)
    (F : ∀ (w : World) (mg : Str → Option Value) (fa : Addr) (h : Heap), (K w.params).In h → h.Ns mainGlobals mg → mg d.name = some (.ref fa) →
      ∃ fd : FuncData, (∀ (s : Shared) (u : Value), BindsTo s fd ⟨[u], []⟩ [(x, u)]) ∧
        ∀ base : Heap, (K w.params).In base → base.Ns mainGlobals mg → FnOk l.prog w (K w.params) mg base (CX w) k fa fd [x] (sp w))
    (hsp : ∀ (w : World) (H : Hp) (a : Addr) (ns : List Int), ns.length ≤ n → Only H → SqL (K w.params) H a (ns.map V.int) → sp w [.ref a] H (fun v _ => v = .bl true) fun _ _ _ => False)
    (hCX : ∀ (w : World) (H : Hp) (s : Shared) (e : Value) (s' : Shared), CX w [] H s (fun _ _ _ => False) e s' → False) :
    PySem.W.WalkO q loose XP YP l.row.toRowW d [] (fun f vs => PySem.call f vs) := by
  refine Att.attach_call hn hdf fun w s₀ s₁ mg mb fa o pm cd doc a vs ns G Y ho hd hcd hmg hobj hints hlen hg => ?_
  have KX := hY w _ Y
  obtain ⟨fd, hb, hF⟩ := F w mg fa _ KX G.T.g hmg
  exact law_call KX G.T.g G.T.b G.T.builtins G.T.nolimit hg hobj hints (Nat.le_trans hlen hn2) hr hF hb (fun H hO hS => hsp w H a ns hlen hO hS) fun H e s' => hCX w H s₁ e s'
end L2
namespace L2
open PySem PySem.Spec PyProof.Rows
def defArgs (s : Stmt) : Arguments := match s with
  | .FunctionDef _ a _ _ _ _ _ _ _ _ => a
  | _ => { posonlyargs := [], args := [], vararg := none, kwonlyargs := [], kw_defaults := [], kwarg := none, defaults := [] }
def defBody (s : Stmt) : List Stmt := match s with
  | .FunctionDef _ _ b _ _ _ _ _ _ _ => b
  | _ => []
def defScope (s : Stmt) : Scope := match s with
  | .FunctionDef _ _ _ _ _ _ sc _ _ _ => sc
  | _ => { kind := .function, names := [], isGenerator := false, isCoroutine := false }
abbrev CX0 : CXT := fun _ _ _ _ _ _ => False
structure Fun (K : PySem.W.Frag) (x qual : Str) (st : Stmt) (f : Addr) (fd : FuncData) : Prop where
  ex : ∃ (oc : Value) (od : Option Addr) (kV doc pm : Value) (an : Option Addr) (cdv ct : Value) (osl : Array (Option Value)),
    fd = PySem.W.fnOf x qual (defArgs st) (defBody st) (defScope st) .none kV doc pm an cdv ct ∧ K.lookup f = some ⟨oc, od, .func fd, osl⟩ ∧ PySem.W.codeIn K cdv qual = true
  kp : PySem.W.keepIn K (.ref f) = true
section
variable {P : Program} {w : World} {K : PySem.W.Frag} {mg : Str → Option Value} {base : Heap}
theorem Fun.ok {x qual : Str} {st : Stmt} {f : Addr} {fd : FuncData} {N ps : List Str} {k : Nat} {sp : Sp} (F : Fun K x qual st f fd) (S : FnScope N ps (defScope st)) (len : ∀ vs H Q E, sp vs H Q E → vs.length = ps.length)
    (hbody : ∀ (cdv : Value) (A : Around) (outer : List Env) (s : Shared) (H : Hp) (vs : List V) (Q : VK) (E : XK), Room k (A.deeper (envOfC qual (defScope st) s.heap.objs.size f cdv)) → sp vs H Q E →
      ∃ t, PSs (cxOf CX0 P w K mg base N qual (defScope st) f cdv A outer s H E).nox (defBody st) t ∧ t { nx := fun _ H' => Q .non H', rt := Q } (start N vs) H) : FnOk P w K mg base CX0 (k + 1) f fd ps sp := by
  obtain ⟨oc, od, kV, doc, pm, an, cdv, ct, osl, rfl, lk, hcd⟩ := F.ex
  refine fn_of lk hcd S len fun A outer s H vs Q E hr hsp => ?_
  obtain ⟨t, h, q⟩ := hbody cdv A outer s H vs Q E hr hsp
  exact ⟨t, h.nox, q⟩
theorem Fun.binds {x qual : Str} {st : Stmt} {f : Addr} {fd : FuncData} {ps : List Str} (F : Fun K x qual st f fd)
    (h : ∀ (kV doc pm : Value) (an : Option Addr) (cdv ct : Value) (us : List Value), us.length = ps.length → bindArgs (PySem.W.fnOf x qual (defArgs st) (defBody st) (defScope st) .none kV doc pm an cdv ct) ⟨us, []⟩ = pure (ps.zip us)) : Binds K fd ps [] := by
  obtain ⟨oc, od, kV, doc, pm, an, cdv, ct, osl, rfl, lk, hcd⟩ := F.ex
  exact .all (h kV doc pm an cdv ct)
theorem fun_mk {x qual : Str} {st : Stmt} {f : Addr} {oc : Value} {od an : Option Addr} {osl : Array (Option Value)} {kV doc pm cdv ct : Value} (l : K.lookup f = some ⟨oc, od, .func (PySem.W.fnOf x qual (defArgs st) (defBody st) (defScope st) .none kV doc pm an cdv ct), osl⟩)
    (c : PySem.W.codeIn K cdv qual = true) (k : PySem.W.keepIn K (.ref f) = true) : Fun K x qual st f (PySem.W.fnOf x qual (defArgs st) (defBody st) (defScope st) .none kV doc pm an cdv ct) := ⟨⟨oc, od, kV, doc, pm, an, cdv, ct, osl, rfl, l, c⟩, k⟩
end
theorem small1000 {n : Nat} (h : n ≤ 1000) : n < sizeLine := Nat.lt_of_le_of_lt h (by decide)
section
variable {X : Cx}
end
theorem iteF {A B : Prop} (h : B) : if false = true then A else B := by
  rw [if_neg Bool.false_ne_true]
  exact h
theorem iteT {A B : Prop} (h : A) : if true = true then A else B := by
  rw [if_pos rfl]
  exact h
def Same (H H' : Hp) : Prop := ∀ b o, H b = some o → H' b = some o
theorem Same.refl (H : Hp) : Same H H := fun _ _ h => h
theorem Same.trans {H H1 H2 : Hp} (a : Same H H1) (b : Same H1 H2) : Same H H2 := fun c o h => b c o (a c o h)
theorem Same.free {H H' : Hp} (e : Same H H') {l : Addr} (h : H' l = Option.none) : H l = Option.none := by
  cases q : H l with
  | none => rfl
  | some o =>
    rw [e l o q] at h
    cases h
theorem Same.seq {K : PySem.W.Frag} {H H' : Hp} {a : Addr} {xs : List V} (e : Same H H') (h : SqL K H a xs) : SqL K H' a xs := by
  rcases h with (h | ⟨o, h⟩) | h
  · exact .inl (.inl (e _ _ h))
  · exact .inl (.inr ⟨o, e _ _ h⟩)
  · exact .inr h
section
variable {κ : Type} [DecidableEq κ]
end
end L2
end
section
set_option Elab.async false
set_option linter.all false
set_option maxRecDepth 100000
namespace L4
open PySem
def ixN (n : Nat) (i : Int) : Option Nat := if 0 ≤ i then (if i < n then some i.toNat else none) else if -(n : Int) ≤ i then some (i + n).toNat else none
def atI {α : Type} (xs : List α) (i : Int) : Option α := (ixN xs.length i).bind fun j => xs[j]?
def sIx (n d : Nat) : Option Int → Nat
  | none => d
  | some v => if v < 0 then (v + (n : Int)).toNat else min v.toNat n
inductive D where
  | non | bl (b : Bool) | int (i : Int) | str (x : Str) | tup (xs : List D) | lst (xs : List D)
  /-- an instance that nobody changes any more; an exception -/
  | obj (c : String) (ns : List Str) (xs : List D) | exc (c : String)
  /-- a list that someone lends: for this expression (true), for this call (false) -/
  | bor (t : Bool) (xs : List D)
  /-- a dict that nobody changes; a lent one -/
  | dic (ks : List (Sum Int Str)) (xs : List D) | bdc (t : Bool) (ks : List (Sum Int Str)) (xs : List D)
  /-- a lent instance that may change -/
  | bob (t : Bool) (c : String) (ns : List Str) (xs : List D)
inductive M where
  | d (x : D) | l (xs : List D) | n (ms : List M) | t (ms : List M) | k (ks : List (Sum Int Str)) (xs : List D)
  /-- an instance that may change -/
  | o (c : String) (ns : List Str) (xs : List D)
mutual
/-- lent for an expression -/
def lend : M → D
  | .d x => x
  | .l xs => .bor true xs
  | .n ms => .bor true (lends ms)
  | .t ms => .tup (lends ms)
  | .k ks xs => .bdc true ks xs
  | .o c ns xs => .bob true c ns xs
def lends : List M → List D
  | [] => []
  | m :: ms => lend m :: lends ms
end
mutual
/-- changed no more -/
def fzM : M → D
  | .d x => x
  | .l xs => .lst xs
  | .n ms => .lst (fzMs ms)
  | .t ms => .tup (fzMs ms)
  | .k ks xs => .dic ks xs
  | .o _ _ _ => .non
def fzMs : List M → List D
  | [] => []
  | m :: ms => fzM m :: fzMs ms
end
mutual
/-- no instance that may change is in it -/
def fzOk : M → Bool
  | .n ms => fzOks ms
  | .t ms => fzOks ms
  | .o _ _ _ => false
  | _ => true
def fzOks : List M → Bool
  | [] => true
  | m :: ms => fzOk m && fzOks ms
end
mutual
/-- nothing lent for the expression alone is in it -/
def nt : D → Bool
  | .tup xs => nts xs
  | .lst xs => nts xs
  | .obj _ _ xs => nts xs
  | .dic _ xs => nts xs
  | .bor t xs => !t && nts xs
  | .bdc t _ xs => !t && nts xs
  | .bob t _ _ xs => !t && nts xs
  | _ => true
def nts : List D → Bool
  | [] => true
  | d :: ds => nt d && nts ds
end
mutual
/-- nothing lent is in it -/
def nb : D → Bool
  | .tup xs => nbs xs
  | .lst xs => nbs xs
  | .obj _ _ xs => nbs xs
  | .dic _ xs => nbs xs
  | .bor _ _ => false
  | .bdc _ _ _ => false
  | .bob _ _ _ _ => false
  | _ => true
def nbs : List D → Bool
  | [] => true
  | d :: ds => nb d && nbs ds
end
mutual
/-- lent on to a def that is called -/
def dn : D → D
  | .tup xs => .tup (dns xs)
  | .lst xs => .lst (dns xs)
  | .obj c ns xs => .obj c ns (dns xs)
  | .dic ks xs => .dic ks (dns xs)
  | .bor _ xs => .bor false (dns xs)
  | .bdc _ ks xs => .bdc false ks (dns xs)
  | .bob _ c ns xs => .bob false c ns (dns xs)
  | d => d
def dns : List D → List D
  | [] => []
  | d :: ds => dn d :: dns ds
end
mutual
def nbM : M → Bool
  | .d x => nb x
  | .l xs => nbs xs
  | .n ms => nbMs ms
  | .t ms => nbMs ms
  | .k _ xs => nbs xs
  | .o _ _ xs => nbs xs
def nbMs : List M → Bool
  | [] => true
  | m :: ms => nbM m && nbMs ms
end
mutual
def ntM : M → Bool
  | .d x => nt x
  | .l xs => nts xs
  | .n ms => ntMs ms
  | .t ms => ntMs ms
  | .k _ xs => nts xs
  | .o _ _ xs => nts xs
def ntMs : List M → Bool
  | [] => true
  | m :: ms => ntM m && ntMs ms
end
inductive Res (α : Type) where
  | ok (a : α) | err (c : String) | bad
def Res.bnd {α β : Type} (r : Res α) (f : α → Res β) : Res β := match r with
  | .ok a => f a
  | .err c => .err c
  | .bad => .bad
@[simp] theorem Res.bnd_ok {α β : Type} (a : α) (f : α → Res β) : (Res.ok a).bnd f = f a := (rfl)
@[simp] theorem Res.bnd_err {α β : Type} (c : String) (f : α → Res β) : (Res.err c : Res α).bnd f = .err c := (rfl)
@[simp] theorem Res.bnd_bad {α β : Type} (f : α → Res β) : (Res.bad : Res α).bnd f = .bad := (rfl)
inductive Slot where
  | no | val (d : D) | own (m : M) | par (m : M)
abbrev Sg := List Slot
inductive Out where
  | nx (Γ : Sg) | bk (Γ : Sg) | ct (Γ : Sg) | rt (d : D) | rtm (m : M) | rtG (d : D) (Γ : Sg) | rtmG (m : M) (Γ : Sg) | err (c : String) (Γ : Sg) | bad
def dVar (i : Nat) : Sg → Res D := fun Γ => match Γ[i]? with
  | some (.val d) => .ok d
  | _ => .bad
def dVarO (i : Nat) : Sg → Res D := fun Γ => match Γ[i]? with
  | some (.val d) => .ok d
  | some (.own m) => .ok (lend m)
  | some (.par m) => .ok (lend m)
  | _ => .bad
def dC (d : D) : Sg → Res D := fun _ => .ok d
def dOp (r : D → D → Res D) (f g : Sg → Res D) : Sg → Res D := fun Γ => (f Γ).bnd fun x => (g Γ).bnd fun y => r x y
def tst : D → Res Bool
  | .bl b => .ok b
  | _ => .bad
def dT (f : Sg → Res D) : Sg → Res Bool := fun Γ => (f Γ).bnd tst
def tru : D → Res Bool
  | .non => .ok false
  | .bl b => .ok b
  | .int i => .ok (i != 0)
  | .str x => if x.length ≤ sizeLine then .ok ((x.length : Int) != 0) else .bad
  | .lst ds => .ok (!ds.isEmpty)
  | .bor _ ds => .ok (!ds.isEmpty)
  | .tup ds => .ok (!ds.isEmpty)
  | _ => .bad
def dTru (f : Sg → Res D) : Sg → Res Bool := fun Γ => (f Γ).bnd tru
def cAnd (f g : Sg → Res Bool) : Sg → Res Bool := fun Γ => (f Γ).bnd fun c => if c = true then g Γ else .ok false
def cOr (f g : Sg → Res Bool) : Sg → Res Bool := fun Γ => (f Γ).bnd fun c => if c = true then .ok true else g Γ
def cNot (f : Sg → Res Bool) : Sg → Res Bool := fun Γ => (f Γ).bnd fun c => .ok (!c)
def dAnd (f g : Sg → Res D) : Sg → Res D := fun Γ => (f Γ).bnd fun x => (tst x).bnd fun c => if c = true then g Γ else .ok (.bl false)
def dOr (f g : Sg → Res D) : Sg → Res D := fun Γ => (f Γ).bnd fun x => (tst x).bnd fun c => if c = true then .ok (.bl true) else g Γ
def dNot (f : Sg → Res D) : Sg → Res D := fun Γ => (f Γ).bnd fun x => (tst x).bnd fun c => .ok (.bl (!c))
def dIf (p : Sg → Res Bool) (f g : Sg → Res D) : Sg → Res D := fun Γ => (p Γ).bnd fun c => if c = true then f Γ else g Γ
def dNil : Sg → Res (List D) := fun _ => .ok []
def dCons (f : Sg → Res D) (r : Sg → Res (List D)) : Sg → Res (List D) := fun Γ => (f Γ).bnd fun x => (r Γ).bnd fun xs => .ok (x :: xs)
def dTup (r : Sg → Res (List D)) : Sg → Res D := fun Γ => (r Γ).bnd fun xs => if xs.length ≤ 1000 then .ok (.tup xs) else .bad
def dLst (r : Sg → Res (List D)) : Sg → Res (List D) := fun Γ => (r Γ).bnd fun xs => if xs.length ≤ 1000 then .ok xs else .bad
def dFz (f : Sg → Res (List D)) : Sg → Res D := fun Γ => (f Γ).bnd fun ds => .ok (.lst ds)
def oE {α : Type} (r : Res α) (Γ : Sg) (k : α → Out) : Out := match r with
  | .ok d => k d
  | .err c => .err c Γ
  | .bad => .bad
@[simp] theorem oE_ok {α : Type} (d : α) (Γ : Sg) (k : α → Out) : oE (.ok d) Γ k = k d := (rfl)
@[simp] theorem oE_err {α : Type} (c : String) (Γ : Sg) (k : α → Out) : oE (.err c) Γ k = .err c Γ := (rfl)
@[simp] theorem oE_bad {α : Type} (Γ : Sg) (k : α → Out) : oE .bad Γ k = .bad := (rfl)
def sNext : Sg → Out := fun Γ => .nx Γ
def sSeq (F G : Sg → Out) : Sg → Out := fun Γ => match F Γ with
  | .nx Γ' => G Γ'
  | o => o
def sDrop (f : Sg → Res D) : Sg → Out := fun Γ => oE (f Γ) Γ fun _ => .nx Γ
def sRet (f : Sg → Res D) : Sg → Out := fun Γ => oE (f Γ) Γ fun d => .rt d
def sRetO (f : Sg → Res D) : Sg → Out := fun Γ => oE (f Γ) Γ fun d => if nt d = true then .rt d else .bad
def sRetM (f : Sg → Res M) : Sg → Out := fun Γ => oE (f Γ) Γ fun m => if ntM m = true then .rtm m else .bad
def sRetN : Sg → Out := fun _ => .rt .non
def sIf (p : Sg → Res Bool) (F G : Sg → Out) : Sg → Out := fun Γ => oE (p Γ) Γ fun c => if c = true then F Γ else G Γ
def sSet (i : Nat) (f : Sg → Res D) : Sg → Out := fun Γ => oE (f Γ) Γ fun d => .nx (Γ.set i (.val d))
def sSetO (i : Nat) (f : Sg → Res D) : Sg → Out := fun Γ => oE (f Γ) Γ fun d => if nt d = true then .nx (Γ.set i (.val d)) else .bad
def sSetM (i : Nat) (f : Sg → Res M) : Sg → Out := fun Γ => oE (f Γ) Γ fun m => if ntM m = true then .nx (Γ.set i (.own m)) else .bad
def mL (f : Sg → Res (List D)) : Sg → Res M := fun Γ => (f Γ).bnd fun ds => .ok (.l ds)
def mD (f : Sg → Res D) : Sg → Res M := fun Γ => (f Γ).bnd fun d => .ok (.d d)
def fzR (m : M) : Res D := if fzOk m = true then .ok (fzM m) else .bad
def dFzM (f : Sg → Res M) : Sg → Res D := fun Γ => (f Γ).bnd fzR
abbrev Tg := D → Sg → Option Sg
abbrev Tgs := List D → Sg → Option Sg
def tgName (i : Nat) : Tg := fun d Γ => some (Γ.set i (.val d))
def tgNil : Tgs := fun ds Γ => match ds with
  | [] => some Γ
  | _ => none
def tgCons (t : Tg) (u : Tgs) : Tgs := fun ds Γ => match ds with
  | d :: r => (t d Γ).bind fun Γ' => u r Γ'
  | [] => none
def tgTup (n : Nat) (t : Tgs) : Tg := fun d Γ => match d with
  | .tup ds => if ds.length = n then t ds Γ else none
  | _ => none
def sAsg (f : Sg → Res D) (t : Tg) : Sg → Out := fun Γ => oE (f Γ) Γ fun d => match t d Γ with
  | some Γ' => .nx Γ'
  | none => .bad
def sPar (i k : Nat) (r : Sg → Res (List D)) : Sg → Out := fun Γ => oE (r Γ) Γ fun ds => match ds with
  | [x, y] => .nx ((Γ.set i (.val x)).set k (.val y))
  | _ => .bad
def forD (t : Tg) (B : Sg → Out) : List D → Sg → Out
  | [], Γ => .nx Γ
  | x :: xs, Γ => match t x Γ with
    | none => .bad
    | some Γ1 => match B Γ1 with
      | .nx Γ' => forD t B xs Γ'
      | .ct Γ' => forD t B xs Γ'
      | .bk Γ' => .nx Γ'
      | o => o
def whileD (p : Sg → Res Bool) (B : Sg → Out) : Nat → Sg → Out
  | 0, _ => .bad
  | n + 1, Γ => oE (p Γ) Γ fun c => if c = true then (match B Γ with
      | .nx Γ' => whileD p B n Γ'
      | .ct Γ' => whileD p B n Γ'
      | .bk Γ' => .nx Γ'
      | o => o) else .nx Γ
def sFor (f : Sg → Res D) (t : Tg) (B : Sg → Out) : Sg → Out := fun Γ => oE (f Γ) Γ fun d => match d with
  | .lst xs => forD t B xs Γ
  | .tup xs => forD t B xs Γ
  | .bor false xs => forD t B xs Γ
  | _ => .bad
theorem drop_one {α : Type} {xs : List α} {i : Nat} {d : α} (h : xs[i]? = some d) : xs.drop i = d :: xs.drop (i + 1) := by
  obtain ⟨hi, e⟩ := List.getElem?_eq_some_iff.mp h
  rw [List.drop_eq_getElem_cons hi, e]
def intsD (lo : Int) (n : Nat) : List D := (List.range n).map fun (k : Nat) => D.int (lo + k)
theorem intsD_get {lo : Int} {n i : Nat} (h : i < n) : (intsD lo n)[i]? = some (.int (lo + i)) := by
  unfold intsD
  rw [List.getElem?_map, List.getElem?_range h]
  rfl
theorem intsD_len {lo : Int} {n : Nat} : (intsD lo n).length = n := by simp [intsD]
def rng1 (ds : List D) : Res (List D) := match ds with
  | [.int j] => if -(2 ^ 62) ≤ j ∧ j < 2 ^ 62 then .ok (intsD 0 j.toNat) else .bad
  | _ => .bad
def sForR1 (r : Sg → Res (List D)) (t : Tg) (B : Sg → Out) : Sg → Out := fun Γ => oE ((r Γ).bnd rng1) Γ fun xs => forD t B xs Γ
theorem rng1_ok {ds : List D} {xs : List D} (h : rng1 ds = .ok xs) : ∃ j, ds = [.int j] ∧ -(2 ^ 62) ≤ j ∧ j < 2 ^ 62 ∧ xs = intsD 0 j.toNat := by
  unfold rng1 at h
  split at h
  · split at h
    · rename_i j hj; cases h; exact ⟨j, rfl, hj.1, hj.2, rfl⟩
    · cases h
  · cases h
theorem rng1_ne (ds : List D) (c : String) : rng1 ds ≠ .err c := by
  unfold rng1
  split
  · split <;> exact fun z => nomatch z
  · exact fun z => nomatch z
def rng2 (ds : List D) : Res (List D) := match ds with
  | [.int i, .int j] => if -(2 ^ 62) ≤ i ∧ i < 2 ^ 62 ∧ -(2 ^ 62) ≤ j ∧ j < 2 ^ 62 then .ok (intsD i (j - i).toNat) else .bad
  | _ => .bad
def sForR2 (r : Sg → Res (List D)) (t : Tg) (B : Sg → Out) : Sg → Out := fun Γ => oE ((r Γ).bnd rng2) Γ fun xs => forD t B xs Γ
inductive Ans where
  | ok (d : D) | new (m : M) | okG (d : D) (os : List (Nat × M)) | newG (m : M) (os : List (Nat × M)) | err (c : String) | bad
def outsAt : Nat → Sg → List (Nat × M)
  | _, [] => []
  | i, .par m :: r => (i, m) :: outsAt (i + 1) r
  | i, _ :: r => outsAt (i + 1) r
def ans : Out → Ans
  | .nx _ => .ok .non
  | .rt d => .ok d
  | .rtm m => .new m
  | .rtG d Γ => .okG d (outsAt 0 Γ)
  | .rtmG m Γ => .newG m (outsAt 0 Γ)
  | .err c _ => .err c
  | _ => .bad
def ansG : Out → Ans
  | .nx Γ => .okG .non (outsAt 0 Γ)
  | o => ans o
def dAns : Ans → Res D
  | .ok d => .ok d
  | .new m => fzR m
  | .err c => .err c
  | _ => .bad
def mAns : Ans → Res M
  | .ok d => .ok (.d d)
  | .new m => .ok m
  | .err c => .err c
  | _ => .bad
def dCall (n : Nat) (F : List Slot → Ans) (fa : Sg → Res (List D)) : Sg → Res D := fun Γ => (fa Γ).bnd fun ds => if ds.length = n then dAns (F (ds.map Slot.val)) else .bad
def mCall (n : Nat) (F : List Slot → Ans) (fa : Sg → Res (List D)) : Sg → Res M := fun Γ => (fa Γ).bnd fun ds => if ds.length = n then mAns (F (ds.map Slot.val)) else .bad
def ntR (d : D) : Res D := if nt d = true then .ok d else .bad
def dNt (f : Sg → Res D) : Sg → Res D := fun Γ => (f Γ).bnd ntR
def mNt (f : Sg → Res M) : Sg → Res M := fun Γ => (f Γ).bnd fun m => if ntM m = true then .ok m else .bad
def dCallN (n : Nat) (F : List Slot → Ans) (fa : Sg → Res (List D)) : Sg → Res D := fun Γ => (fa Γ).bnd fun ds => if ds.length = n ∧ nts ds = true then dAns (F (ds.map Slot.val)) else .bad
def mCallN (n : Nat) (F : List Slot → Ans) (fa : Sg → Res (List D)) : Sg → Res M := fun Γ => (fa Γ).bnd fun ds => if ds.length = n ∧ nts ds = true then mAns (F (ds.map Slot.val)) else .bad
def nbA : Ans → Ans
  | .ok d => if nb d = true then .ok d else .bad
  | .new m => if nbM m = true then .new m else .bad
  | .err c => .err c
  | _ => .bad
def dCallO (n : Nat) (F : List Slot → Ans) (fa : Sg → Res (List D)) : Sg → Res D := fun Γ => (fa Γ).bnd fun ds => if ds.length = n then dAns (nbA (F ((dns ds).map Slot.val))) else .bad
def mCallO (n : Nat) (F : List Slot → Ans) (fa : Sg → Res (List D)) : Sg → Res M := fun Γ => (fa Γ).bnd fun ds => if ds.length = n then mAns (nbA (F ((dns ds).map Slot.val))) else .bad
def st0 (N : List Str) (as : List Slot) : Sg := as ++ List.replicate (N.length - as.length) Slot.no
def intD (C : Int → Int → Bool) (g : Int → Int → D) : D → D → Res D
  | .int i, .int j => if C i j = true then .ok (g i j) else .bad
  | _, _ => .bad
@[simp] theorem intD_int (C : Int → Int → Bool) (g : Int → Int → D) (i j : Int) : intD C g (.int i) (.int j) = if C i j = true then .ok (g i j) else .bad := (rfl)
abbrev yes : Int → Int → Bool := fun _ _ => true
def addI : D → D → Res D := intD yes fun i j => .int (i + j)
def subI : D → D → Res D := intD yes fun i j => .int (i - j)
def mulOk (i j : Int) : Bool := decide (Builtin.Int.intBits i ≤ 64) || decide (Builtin.Int.intBits j ≤ 64) || (decide (Builtin.Int.intBits i ≤ 2 ^ 20) && decide (Builtin.Int.intBits j ≤ 2 ^ 20))
def mulI : D → D → Res D := intD mulOk fun i j => .int (i * j)
def divOk (_ j : Int) : Bool := decide (j ≠ 0) && decide (j.natAbs.log2 < 9000)
def fdivI : D → D → Res D := intD divOk fun i j => .int (i.fdiv j)
def modI : D → D → Res D := intD (fun _ j => decide (j ≠ 0)) fun i j => .int (i.fmod j)
def powOk (i j : Int) : Bool := decide (0 ≤ j) && decide (j ≤ 1000000) && decide (i.natAbs < 2 ^ 64)
def powI : D → D → Res D := intD powOk fun i j => .int (i ^ j.toNat)
def xorI : D → D → Res D := intD yes fun i j => .int (Builtin.bitXor i j)
def ltI : D → D → Res D := intD yes fun i j => .bl (decide (i < j))
def leI : D → D → Res D := intD yes fun i j => .bl (decide (i ≤ j))
def gtI : D → D → Res D := intD yes fun i j => .bl (decide (j < i))
def geI : D → D → Res D := intD yes fun i j => .bl (decide (j ≤ i))
def negI : D → Res D
  | .int i => .ok (.int (-i))
  | _ => .bad
def dUn (r : D → Res D) (f : Sg → Res D) : Sg → Res D := fun Γ => (f Γ).bnd r
def dCB (r : List D → Res D) (fa : Sg → Res (List D)) : Sg → Res D := fun Γ => (fa Γ).bnd r
def absD : List D → Res D
  | [.int i] => .ok (.int (if i < 0 then -i else i))
  | _ => .bad
def lenD : List D → Res D
  | [.lst ds] => .ok (.int ds.length)
  | [.tup ds] => .ok (.int ds.length)
  | [.bor _ ds] => .ok (.int ds.length)
  | [.str x] => if x.length ≤ sizeLine then .ok (.int x.length) else .bad
  | _ => .bad
mutual
def py : D → PyData
  | .non => .none
  | .bl b => .bool b
  | .int i => .int i
  | .str x => .str x
  | .tup ds => .tuple (pys ds)
  | .lst ds => .list (pys ds)
  | .bor _ ds => .list (pys ds)
  | .obj _ _ _ => .none
  | .exc _ => .none
  | .dic _ _ => .none
  | .bdc _ _ _ => .none
  | .bob _ _ _ _ => .none
def pys : List D → List PyData
  | [] => []
  | d :: ds => py d :: pys ds
end
def okq : Nat → D → Bool
  | _, .non => true
  | _, .bl _ => true
  | _, .int _ => true
  | _, .str x => PyData.strOk x
  | n + 1, .tup ds => ds.all (okq n)
  | n + 1, .lst ds => ds.all (okq n)
  | n + 1, .bor _ ds => ds.all (okq n)
  | _, _ => false
def deq (x y : D) : Bool := (py x).eqv (py y)
def eqD (x y : D) : Res D := if okq 12 x = true ∧ okq 12 y = true then .ok (.bl (deq x y)) else .bad
def neD (x y : D) : Res D := if okq 12 x = true ∧ okq 12 y = true then .ok (.bl (!deq x y)) else .bad
theorem beq_dec (i j : Int) : (i == j) = decide (i = j) := by
  by_cases h : i = j
  · subst h; simp
  · simp [h]
@[simp] theorem eqD_int (i j : Int) : eqD (.int i) (.int j) = .ok (.bl (decide (i = j))) := by simp [eqD, okq, deq, py, PyData.eqv, beq_dec]
@[simp] theorem neD_int (i j : Int) : neD (.int i) (.int j) = .ok (.bl (!decide (i = j))) := by simp [neD, okq, deq, py, PyData.eqv, beq_dec]
def ixD : D → D → Res D
  | .lst ds, .int i => match atI ds i with
    | some d => .ok d
    | none => .bad
  | .bor _ ds, .int i => match atI ds i with
    | some d => .ok d
    | none => .bad
  | .tup ds, .int i => match atI ds i with
    | some d => .ok d
    | none => .bad
  | .str x, .int i => if x.length ≤ sizeLine then (match atI x.cps.toList i with
    | some c => .ok (.str ⟨#[c]⟩)
    | none => .bad) else .bad
  | _, _ => .bad
def addD : D → D → Res D
  | .int i, .int j => .ok (.int (i + j))
  | .str x, .str y => if x.length + y.length ≤ sizeLine then .ok (.str (x ++ y)) else .bad
  | _, _ => .bad
@[simp] theorem addD_int (i j : Int) : addD (.int i) (.int j) = .ok (.int (i + j)) := (rfl)
def asL : D → Option (List D)
  | .lst xs => some xs
  | .bor _ xs => some xs
  | _ => none
@[simp] theorem asL_lst (xs : List D) : asL (.lst xs) = some xs := (rfl)
@[simp] theorem asL_bor (t : Bool) (xs : List D) : asL (.bor t xs) = some xs := (rfl)
def catD (x y : D) : Res (List D) := match asL x, asL y with
  | some xs, some ys => if xs.length + ys.length ≤ sizeLine then .ok (xs ++ ys) else .bad
  | _, _ => .bad
def lOp (r : D → D → Res (List D)) (f g : Sg → Res D) : Sg → Res (List D) := fun Γ => (f Γ).bnd fun x => (g Γ).bnd fun y => r x y
def cutL {α : Type} (xs : List α) (lo hi : Option Int) : List α := (xs.drop (sIx xs.length 0 lo)).take (sIx xs.length xs.length hi - sIx xs.length 0 lo)
def dNoP : Sg → Res (Option Int) := fun _ => .ok none
def dP (f : Sg → Res D) : Sg → Res (Option Int) := fun Γ => (f Γ).bnd fun d => match d with
  | .int i => .ok (some i)
  | _ => .bad
def lCut (f : Sg → Res D) (l u : Sg → Res (Option Int)) : Sg → Res (List D) := fun Γ => (f Γ).bnd fun d => (l Γ).bnd fun lo => (u Γ).bnd fun hi => match asL d with
  | some xs => .ok (cutL xs lo hi)
  | none => .bad
def atM : M → List Nat → Option M
  | m, [] => some m
  | .n ms, k :: ks => (ms[k]?).bind fun m => atM m ks
  | .t ms, k :: ks => (ms[k]?).bind fun m => atM m ks
  | _, _ :: _ => none
def putM : M → List Nat → M → M
  | _, [], m' => m'
  | .n ms, k :: ks, m' => .n (match ms[k]? with
    | some m => ms.set k (putM m ks m')
    | none => ms)
  | .t ms, k :: ks, m' => .t (match ms[k]? with
    | some m => ms.set k (putM m ks m')
    | none => ms)
  | m, _ :: _, _ => m
def slM : Slot → Option M
  | .own m => some m
  | .par m => some m
  | _ => none
def pVar (i : Nat) : Sg → Res (List Nat) := fun Γ => match (Γ[i]?).bind slM with
  | some _ => .ok []
  | none => .bad
def reS : Slot → M → Slot
  | .own _, m => .own m
  | .par _, m => .par m
  | s, _ => s
def upM (i : Nat) (ks : List Nat) (f : M → Option M) (Γ : Sg) : Option Sg := (Γ[i]?).bind fun s => (slM s).bind fun m => (atM m ks).bind fun m' => (f m').map fun m'' => Γ.set i (reS s (putM m ks m''))
def oUp : Option Sg → Out
  | some Γ => .nx Γ
  | none => .bad
def appM (d : D) : M → Option M
  | .l xs => if xs.length < 1000000 ∧ nt d = true then some (.l (xs ++ [d])) else none
  | .n ms => if ms.length < 1000000 ∧ nt d = true then some (.n (ms ++ [.d d])) else none
  | _ => none
def clrM : M → Option M
  | .l _ => some (.l [])
  | .n _ => some (.n [])
  | _ => none
def isLM : Option M → Bool
  | some (.l _) => true
  | some (.n _) => true
  | _ => false
def nodeM (i : Nat) (ks : List Nat) (Γ : Sg) : Option M := ((Γ[i]?).bind slM).bind fun m => atM m ks
def sAppend (i : Nat) (g : Sg → Res (List Nat)) (f : Sg → Res D) : Sg → Out := fun Γ => oE (g Γ) Γ fun ks => if isLM (nodeM i ks Γ) = true then oE (f Γ) Γ fun d => oUp (upM i ks (appM d) Γ) else .bad
def sClear (i : Nat) (g : Sg → Res (List Nat)) : Sg → Out := fun Γ => oE (g Γ) Γ fun ks => oUp (upM i ks clrM Γ)
def signs (x : Str) : List D := x.cps.toList.map fun c => .str ⟨#[c]⟩
def seqD : D → Res (List D)
  | .lst xs => .ok xs
  | .bor _ xs => .ok xs
  | .tup xs => .ok xs
  | .str x => .ok (signs x)
  | _ => .bad
def sForI (fi : Sg → Res (List D)) (t : Tg) (B : Sg → Out) : Sg → Out := fun Γ => oE (fi Γ) Γ fun xs => forD t B xs Γ
def iSeq (f : Sg → Res D) : Sg → Res (List D) := fun Γ => (f Γ).bnd seqD
def iRng1 (r : Sg → Res (List D)) : Sg → Res (List D) := fun Γ => (r Γ).bnd rng1
def iRng2 (r : Sg → Res (List D)) : Sg → Res (List D) := fun Γ => (r Γ).bnd rng2
def blkS (tm : Bool) : Slot → Slot
  | .val d => .val d
  | .own m => if tm = true then .val (lend m) else .no
  | .par m => if tm = true then .val (lend m) else .no
  | .no => .no
def blk (tm : Bool) (k : Nat) (caps : List Nat) (Γ : Sg) : Sg := List.replicate k .no ++ caps.map fun i => blkS tm ((Γ[i]?).getD .no)
theorem blk_get {tm : Bool} {k : Nat} {caps : List Nat} {Γ : Sg} {i : Nat} {sl : Slot} (h : (blk tm k caps Γ)[i]? = some sl) : sl = .no ∨ ∃ c sc, caps[i - k]? = some c ∧ k ≤ i ∧ Γ[c]? = some sc ∧ sl = blkS tm sc := by
  unfold blk at h
  by_cases hi : i < k
  · rw [List.getElem?_append_left (by simpa using hi), List.getElem?_replicate, if_pos hi] at h
    cases h; exact .inl rfl
  · rw [List.getElem?_append_right (by simpa using hi), List.length_replicate, List.getElem?_map] at h
    cases q : caps[i - k]? with
    | none => rw [q] at h; cases h
    | some c =>
      rw [q] at h
      simp only [Option.map_some, Option.some.injEq] at h
      subst h
      cases q2 : Γ[c]? with
      | none => exact .inl rfl
      | some sl => exact .inr ⟨c, sl, rfl, Nat.le_of_not_lt hi, q2, rfl⟩
def elD (t : Tg) (p : Sg → Res Bool) (fe : Sg → Res D) (Γ0 : Sg) (x : D) : Res (Option D) := match t x Γ0 with
  | none => .bad
  | some Γ1 => match p Γ1 with
    | .ok true => (match fe Γ1 with
      | .ok d => .ok (some d)
      | _ => .bad)
    | .ok false => .ok none
    | _ => .bad
def compD (e : D → Res (Option D)) : List D → Res (List D)
  | [] => .ok []
  | x :: xs => (e x).bnd fun o => (compD e xs).bnd fun r => .ok (match o with
    | some d => d :: r
    | none => r)
def lComp (tm : Bool) (fi : Sg → Res (List D)) (k : Nat) (caps : List Nat) (t : Tg) (p : Sg → Res Bool) (fe : Sg → Res D) : Sg → Res (List D) := fun Γ => (fi Γ).bnd fun xs => if xs.length < 1000000 then compD (elD t p fe (blk tm k caps Γ)) xs else .bad
def elM (t : Tg) (p : Sg → Res Bool) (fe : Sg → Res M) (Γ0 : Sg) (x : D) : Res (Option M) := match t x Γ0 with
  | none => .bad
  | some Γ1 => match p Γ1 with
    | .ok true => (match fe Γ1 with
      | .ok d => .ok (some d)
      | _ => .bad)
    | .ok false => .ok none
    | _ => .bad
def compM (e : D → Res (Option M)) : List D → Res (List M)
  | [] => .ok []
  | x :: xs => (e x).bnd fun o => (compM e xs).bnd fun r => .ok (match o with
    | some d => d :: r
    | none => r)
def mComp (tm : Bool) (fi : Sg → Res (List D)) (k : Nat) (caps : List Nat) (t : Tg) (p : Sg → Res Bool) (fe : Sg → Res M) : Sg → Res (List M) := fun Γ => (fi Γ).bnd fun xs => if xs.length < 1000000 then compM (elM t p fe (blk tm k caps Γ)) xs else .bad
def mN (f : Sg → Res (List M)) : Sg → Res M := fun Γ => (f Γ).bnd fun ms => .ok (.n ms)
theorem elM_ne {t : Tg} {p : Sg → Res Bool} {fe : Sg → Res M} {Γ0 : Sg} {x : D} {c : String} : elM t p fe Γ0 x ≠ .err c := by
  unfold elM
  split
  · exact fun z => nomatch z
  · split
    · split <;> exact fun z => nomatch z
    · exact fun z => nomatch z
    · exact fun z => nomatch z
theorem compM_ne {e : D → Res (Option M)} (he : ∀ x c, e x ≠ .err c) : ∀ xs c, compM e xs ≠ .err c
  | [], c => fun z => nomatch z
  | x :: xs, c => by
    simp only [compM]
    cases q : e x with
    | ok o =>
      cases q2 : compM e xs with
      | ok r => exact fun z => nomatch z
      | err c' => exact absurd q2 (compM_ne he xs c')
      | bad => exact fun z => nomatch z
    | err c' => exact absurd q (he x c')
    | bad => exact fun z => nomatch z
theorem compM_cons {e : D → Res (Option M)} {x : D} {xs : List D} {r : List M} (h : compM e (x :: xs) = .ok r) : ∃ o r', e x = .ok o ∧ compM e xs = .ok r' ∧ r = (match o with | some d => d :: r' | none => r') := by
  simp only [compM] at h
  cases q : e x with
  | ok o =>
    cases q2 : compM e xs with
    | ok r' => rw [q, q2] at h; cases h; exact ⟨o, r', rfl, rfl, rfl⟩
    | err c' => rw [q, q2] at h; cases h
    | bad => rw [q, q2] at h; cases h
  | err c' => rw [q] at h; cases h
  | bad => rw [q] at h; cases h
theorem elM_elD {t : Tg} {p : Sg → Res Bool} {fe : Sg → Res D} {Γ0 : Sg} {x : D} : elM t p (mD fe) Γ0 x = (elD t p fe Γ0 x).bnd fun o => .ok (o.map M.d) := by
  unfold elM elD mD
  cases t x Γ0 with
  | none => rfl
  | some Γ1 =>
    dsimp only
    cases p Γ1 with
    | ok b =>
      cases b with
      | false => rfl
      | true => dsimp only; cases fe Γ1 <;> rfl
    | err c => rfl
    | bad => rfl
theorem compM_compD {t : Tg} {p : Sg → Res Bool} {fe : Sg → Res D} {Γ0 : Sg} : ∀ (xs : List D), compM (elM t p (mD fe) Γ0) xs = (compD (elD t p fe Γ0) xs).bnd fun ds => .ok (ds.map M.d)
  | [] => rfl
  | x :: xs => by
    simp only [compM, compD, compM_compD xs, elM_elD]
    cases elD t p fe Γ0 x with
    | ok o =>
      simp only [Res.bnd_ok]
      cases compD (elD t p fe Γ0) xs with
      | ok r => cases o <;> rfl
      | err c => rfl
      | bad => rfl
    | err c => rfl
    | bad => rfl
def cYes : Sg → Res Bool := fun _ => .ok true
def noML (Γ : Sg) : Prop := ∀ (i : Nat) (m : M), Γ[i]? ≠ some (.own m) ∧ Γ[i]? ≠ some (.par m)
def sRaise (c : String) (fa : Sg → Res (List D)) : Sg → Out := fun Γ => oE (fa Γ) Γ fun ds => if ds.length ≤ 1000 then .err c Γ else .bad
def tryD (hit : String → Option Bool) (F : Sg → Out) (G : String → Sg → Out) : Sg → Out := fun Γ => match F Γ with
  | .err c Γ1 => (match hit c with
    | some true => G c Γ1
    | _ => .bad)
  | o => o
def offS (i : Nat) : Out → Out
  | .nx Γ => .nx (Γ.set i .no)
  | .bk Γ => .bk (Γ.set i .no)
  | .ct Γ => .ct (Γ.set i .no)
  | .err _ _ => .bad
  | o => o
def hitOf (mt : List (String × List String)) (T : String) : String → Option Bool := fun c => (mt.lookup c).map (·.contains T)
def sTryAs (i : Nat) (hit : String → Option Bool) (F G : Sg → Out) : Sg → Out := tryD hit F fun c Γ1 => offS i (G (Γ1.set i (.val (.exc c))))
def kinds (mt : List (String × List String)) : D → Option (List String)
  | .non => some ["NoneType"]
  | .bl _ => some ["bool", "int"]
  | .int _ => some ["int"]
  | .str _ => some ["str"]
  | .tup _ => some ["tuple"]
  | .lst _ => some ["list"]
  | .bor _ _ => some ["list"]
  | .obj c _ _ => mt.lookup c
  | .exc c => mt.lookup c
  | .dic _ _ => some ["dict"]
  | .bdc _ _ _ => some ["dict"]
  | .bob _ _ _ _ => none
def isiD (mt : List (String × List String)) (cs : List String) (d : D) : Res D := match kinds mt d with
  | some ks => .ok (.bl (cs.any fun c => ks.contains c))
  | none => .bad
def dIsi (mt : List (String × List String)) (cs : List String) (f : Sg → Res D) : Sg → Res D := fun Γ => (f Γ).bnd (isiD mt cs)
def bools : List D → Option (List Bool)
  | [] => some []
  | .bl b :: r => (bools r).map (b :: ·)
  | _ :: _ => none
def allD : List D → Res D
  | [x] => match asL x with
    | some ds => (match bools ds with
      | some bs => .ok (.bl (bs.all id))
      | none => .bad)
    | none => .bad
  | _ => .bad
def fldD (f : Str) : D → Res D
  | .obj _ ns xs => match (ns.zip xs).lookup f with
    | some d => .ok d
    | none => .bad
  | .bob _ _ ns xs => match (ns.zip xs).lookup f with
    | some d => .ok d
    | none => .bad
  | _ => .bad
def dFld (f : Str) (g : Sg → Res D) : Sg → Res D := fun Γ => (g Γ).bnd (fldD f)
def methF (tbl : List (String × (List Slot → Ans))) : D → Option (List Slot → Ans)
  | .obj c _ _ => tbl.lookup c
  | _ => none
def mMeth (n : Nat) (tbl : List (String × (List Slot → Ans))) (fo : Sg → Res D) (fa : Sg → Res (List D)) : Sg → Res M := fun Γ => (fo Γ).bnd fun o => match methF tbl o with
  | some F => (fa Γ).bnd fun ds => if ds.length = n then mAns (F ((o :: ds).map Slot.val)) else .bad
  | none => .bad
def mMethN (n : Nat) (tbl : List (String × (List Slot → Ans))) (fo : Sg → Res D) (fa : Sg → Res (List D)) : Sg → Res M := fun Γ => (fo Γ).bnd fun o => match methF tbl o with
  | some F => (fa Γ).bnd fun ds => if ds.length = n ∧ nts (o :: ds) = true then mAns (F ((o :: ds).map Slot.val)) else .bad
  | none => .bad
def mkAns (c : String) (ns : List Str) : Ans → Res D
  | .okG .non [(0, .o c' ns' xs)] => if c' = c ∧ ns' = ns then .ok (.obj c ns xs) else .bad
  | .err x => .err x
  | _ => .bad
def dMake (n : Nat) (c : String) (ns : List Str) (F : List Slot → Ans) (fa : Sg → Res (List D)) : Sg → Res D := fun Γ => (fa Γ).bnd fun ds => if ds.length = n then mkAns c ns (F (.par (.o c [] []) :: ds.map Slot.val)) else .bad
def dMakeN (n : Nat) (c : String) (ns : List Str) (F : List Slot → Ans) (fa : Sg → Res (List D)) : Sg → Res D := fun Γ => (fa Γ).bnd fun ds => if ds.length = n ∧ nts ds = true then mkAns c ns (F (.par (.o c [] []) :: ds.map Slot.val)) else .bad
def putO (ft : List (String × List Str)) (f : Str) (d : D) : M → Option M
  | .o c ns xs => (ft.lookup c).bind fun full => if nt d = true ∧ ns.length < full.length ∧ ns.length < 900 ∧ f ∉ ns then some (.o c (ns ++ [f]) (xs ++ [d])) else none
  | _ => none
def sSetF (i : Nat) (ft : List (String × List Str)) (f : Str) (g : Sg → Res D) : Sg → Out := fun Γ => oE (g Γ) Γ fun d => oE (pVar i Γ) Γ fun ks => oUp (upM i ks (putO ft f d) Γ)
def sRetG (f : Sg → Res D) : Sg → Out := fun Γ => oE (f Γ) Γ fun d => .rtG d Γ
def flatD : D → Bool
  | .non => true
  | .bl _ => true
  | .int _ => true
  | .str _ => true
  | _ => false
def eqF : D → D → Bool
  | .non, .non => true
  | .bl a, .bl b => a == b
  | .bl a, .int b => (if a then 1 else 0) == b
  | .int a, .bl b => a == (if b then 1 else 0)
  | .int a, .int b => a == b
  | .str a, .str b => a == b
  | _, _ => false
def inF (x : D) (xs : List D) : Bool := xs.any fun y => eqF y x
def seqO : D → Option (List D)
  | .lst xs => some xs
  | .bor _ xs => some xs
  | .tup xs => some xs
  | _ => none
def inD (x y : D) : Res D := match seqO y with
  | some xs => if flatD x = true ∧ xs.all flatD = true then .ok (.bl (inF x xs)) else .bad
  | none => .bad
def notInD (x y : D) : Res D := match seqO y with
  | some xs => if flatD x = true ∧ xs.all flatD = true then .ok (.bl (!inF x xs)) else .bad
  | none => .bad
def inStr (i j : Str) : Bool := !(Builtin.Str.occurrences j i 0 j.length 1).isEmpty
def inA (x y : D) : Res D := match y with
  | .str j => (match x with
    | .str i => .ok (.bl (inStr i j))
    | _ => .bad)
  | _ => inD x y
def notInA (x y : D) : Res D := match y with
  | .str j => (match x with
    | .str i => .ok (.bl (!inStr i j))
    | _ => .bad)
  | _ => notInD x y
def dCutS (f : Sg → Res D) (l u : Sg → Res (Option Int)) : Sg → Res D := fun Γ => (f Γ).bnd fun d => (l Γ).bnd fun lo => (u Γ).bnd fun hi => match d with
  | .str x => if x.length ≤ sizeLine then .ok (.str (Txt.slice x lo hi)) else .bad
  | _ => .bad
def ltT : D → D → Option Bool
  | .tup (.int i :: _), .tup (.int j :: _) => if i = j then none else some (decide (i < j))
  | _, _ => none
def sort2D : List D → Res (List D)
  | [x] => match asL x with
    | some [] => .ok []
    | some [a] => .ok [a]
    | some [a, b] => (match ltT b a with
      | some true => .ok [b, a]
      | some false => .ok [a, b]
      | none => .bad)
    | _ => .bad
  | _ => .bad
def lCB (r : List D → Res (List D)) (fa : Sg → Res (List D)) : Sg → Res (List D) := fun Γ => (fa Γ).bnd r
def keyD : D → Option (Sum Int Str)
  | .int i => some (.inl i)
  | .str x => some (.inr x)
  | _ => none
def dcO : D → Option (List (Sum Int Str) × List D)
  | .dic ks xs => some (ks, xs)
  | .bdc _ ks xs => some (ks, xs)
  | _ => none
def getK (ks : List (Sum Int Str)) (xs : List D) (k : Sum Int Str) : Option D := ((ks.zip xs).find? fun kv => decide (kv.1 = k)).map (·.2)
def getD (o y : D) : Res D := match dcO o with
  | some (ks, xs) => (match keyD y with
    | some k => (match getK ks xs k with
      | some d => .ok d
      | none => .bad)
    | none => .bad)
  | none => ixD o y
def dChain (r r' : D → D → Res D) (f g h : Sg → Res D) : Sg → Res D := fun Γ => (f Γ).bnd fun x => (g Γ).bnd fun y => (r x y).bnd fun z => match z with
  | .bl true => (h Γ).bnd fun w => r' y w
  | .bl false => .ok (.bl false)
  | _ => .bad
end L4
end
section
set_option Elab.async false
set_option linter.all false
set_option maxRecDepth 100000
set_option exponentiation.threshold 10000
namespace L4
open PySem
def oSeq (o : Out) (G : Sg → Out) : Out := match o with
  | .nx Γ' => G Γ'
  | o => o
def oTry (i : Nat) (h : String → Option Bool) (o : Out) (G : Sg → Out) : Out := match o with
  | .err c Γ1 => (match h c with
    | some true => offS i (G (Γ1.set i (.val (.exc c))))
    | _ => .bad)
  | o => o
def oIte (r : Res Bool) (F G : Sg → Out) (Γ : Sg) : Out := oE r Γ fun c => if c = true then F Γ else G Γ
def rAnd (r : Res Bool) (q : Sg → Res Bool) (Γ : Sg) : Res Bool := r.bnd fun c => if c = true then q Γ else .ok false
def rOr (r : Res Bool) (q : Sg → Res Bool) (Γ : Sg) : Res Bool := r.bnd fun c => if c = true then .ok true else q Γ
def vAnd (r : Res Bool) (q : Sg → Res D) (Γ : Sg) : Res D := r.bnd fun c => if c = true then q Γ else .ok (.bl false)
def vOr (r : Res Bool) (q : Sg → Res D) (Γ : Sg) : Res D := r.bnd fun c => if c = true then .ok (.bl true) else q Γ
def vIte (r : Res Bool) (f g : Sg → Res D) (Γ : Sg) : Res D := r.bnd fun c => if c = true then f Γ else g Γ
section
variable (Γ : Sg) (f g : Sg → Res D) (p q : Sg → Res Bool) (F G : Sg → Out) (fa : Sg → Res (List D))
@[simp] theorem sSeq_app : sSeq F G Γ = oSeq (F Γ) G := (rfl)
@[simp] theorem oSeq_nx : oSeq (.nx Γ) G = G Γ := (rfl)
@[simp] theorem oSeq_bk : oSeq (.bk Γ) G = .bk Γ := (rfl)
@[simp] theorem oSeq_ct : oSeq (.ct Γ) G = .ct Γ := (rfl)
@[simp] theorem oSeq_rt (d : D) : oSeq (.rt d) G = .rt d := (rfl)
@[simp] theorem oSeq_rtm (d : M) : oSeq (.rtm d) G = .rtm d := (rfl)
@[simp] theorem oSeq_rtG (d : D) : oSeq (.rtG d Γ) G = .rtG d Γ := (rfl)
@[simp] theorem oSeq_err (c : String) : oSeq (.err c Γ) G = .err c Γ := (rfl)
@[simp] theorem oSeq_bad : oSeq .bad G = .bad := (rfl)
@[simp] theorem sNext_app : sNext Γ = .nx Γ := (rfl)
@[simp] theorem sIf_app : sIf p F G Γ = oIte (p Γ) F G Γ := (rfl)
@[simp] theorem oIte_tt : oIte (.ok true) F G Γ = F Γ := (rfl)
@[simp] theorem oIte_ff : oIte (.ok false) F G Γ = G Γ := (rfl)
@[simp] theorem oIte_err (c : String) : oIte (.err c) F G Γ = .err c Γ := (rfl)
@[simp] theorem rAnd_tt : rAnd (.ok true) q Γ = q Γ := (rfl)
@[simp] theorem rAnd_ff : rAnd (.ok false) q Γ = .ok false := (rfl)
@[simp] theorem rOr_tt : rOr (.ok true) q Γ = .ok true := (rfl)
@[simp] theorem rOr_ff : rOr (.ok false) q Γ = q Γ := (rfl)
@[simp] theorem vAnd_tt : vAnd (.ok true) f Γ = f Γ := (rfl)
@[simp] theorem vAnd_ff : vAnd (.ok false) f Γ = .ok (.bl false) := (rfl)
@[simp] theorem vOr_tt : vOr (.ok true) f Γ = .ok (.bl true) := (rfl)
@[simp] theorem vOr_ff : vOr (.ok false) f Γ = f Γ := (rfl)
@[simp] theorem vIte_tt : vIte (.ok true) f g Γ = f Γ := (rfl)
@[simp] theorem vIte_ff : vIte (.ok false) f g Γ = g Γ := (rfl)
@[simp] theorem sRet_app : sRet f Γ = oE (f Γ) Γ fun d => .rt d := (rfl)
@[simp] theorem sRetM_app (fm : Sg → Res M) : sRetM fm Γ = oE (fm Γ) Γ fun m => if ntM m = true then .rtm m else .bad := (rfl)
@[simp] theorem sRetO_app : sRetO f Γ = oE (f Γ) Γ fun d => if nt d = true then .rt d else .bad := (rfl)
@[simp] theorem sRetG_app : sRetG f Γ = oE (f Γ) Γ fun d => .rtG d Γ := (rfl)
@[simp] theorem sRetN_app : sRetN Γ = .rt .non := (rfl)
@[simp] theorem sDrop_app : sDrop f Γ = oE (f Γ) Γ fun _ => .nx Γ := (rfl)
@[simp] theorem sSet_app (i : Nat) : sSet i f Γ = oE (f Γ) Γ fun d => .nx (Γ.set i (.val d)) := (rfl)
@[simp] theorem sSetM_app (i : Nat) (fm : Sg → Res M) : sSetM i fm Γ = oE (fm Γ) Γ fun m => if ntM m = true then .nx (Γ.set i (.own m)) else .bad := (rfl)
@[simp] theorem sSetO_app (i : Nat) : sSetO i f Γ = oE (f Γ) Γ fun d => if nt d = true then .nx (Γ.set i (.val d)) else .bad := (rfl)
@[simp] theorem mL_app : mL fa Γ = (fa Γ).bnd fun ds => .ok (.l ds) := (rfl)
@[simp] theorem mD_app : mD f Γ = (f Γ).bnd fun d => .ok (.d d) := (rfl)
@[simp] theorem dFzM_app (fm : Sg → Res M) : dFzM fm Γ = (fm Γ).bnd fzR := (rfl)
@[simp] theorem dNt_app : dNt f Γ = (f Γ).bnd ntR := (rfl)
@[simp] theorem mNt_app (fm : Sg → Res M) : mNt fm Γ = (fm Γ).bnd fun m => if ntM m = true then .ok m else .bad := (rfl)
@[simp] theorem dFld_app (n : Str) : dFld n f Γ = (f Γ).bnd (fldD n) := (rfl)
@[simp] theorem dVarO_app (i : Nat) : dVarO i Γ = match Γ[i]? with
  | some (.val d) => .ok d
  | some (.own m) => .ok (lend m)
  | some (.par m) => .ok (lend m)
  | _ => .bad := (rfl)
@[simp] theorem lCB_app (r : List D → Res (List D)) : lCB r fa Γ = (fa Γ).bnd r := (rfl)
@[simp] theorem sPar_app (i k : Nat) : sPar i k fa Γ = oE (fa Γ) Γ fun ds => match ds with
  | [x, y] => .nx ((Γ.set i (.val x)).set k (.val y))
  | _ => .bad := (rfl)
@[simp] theorem sAsg_app (t : Tg) : sAsg f t Γ = oE (f Γ) Γ fun d => match t d Γ with
  | some Γ' => .nx Γ'
  | none => .bad := (rfl)
@[simp] theorem sRaise_app (c : String) : sRaise c fa Γ = oE (fa Γ) Γ fun ds => if ds.length ≤ 1000 then .err c Γ else .bad := (rfl)
@[simp] theorem sTryAs_app (i : Nat) (h : String → Option Bool) : sTryAs i h F G Γ = oTry i h (F Γ) G := (rfl)
@[simp] theorem oTry_nx (i : Nat) (h : String → Option Bool) : oTry i h (.nx Γ) G = .nx Γ := (rfl)
@[simp] theorem oTry_rt (i : Nat) (h : String → Option Bool) (d : D) : oTry i h (.rt d) G = .rt d := (rfl)
theorem oTry_err (i : Nat) (h : String → Option Bool) (c : String) (e : h c = some true) : oTry i h (.err c Γ) G = offS i (G (Γ.set i (.val (.exc c)))) := by simp only [oTry, e]
@[simp] theorem offS_nx (i : Nat) : offS i (.nx Γ) = .nx (Γ.set i .no) := (rfl)
@[simp] theorem offS_rt (i : Nat) (d : D) : offS i (.rt d) = .rt d := (rfl)
@[simp] theorem dVar_app (i : Nat) : dVar i Γ = match Γ[i]? with
  | some (.val d) => .ok d
  | _ => .bad := (rfl)
@[simp] theorem dC_app (d : D) : dC d Γ = .ok d := (rfl)
@[simp] theorem dOp_app (r : D → D → Res D) : dOp r f g Γ = (f Γ).bnd fun x => (g Γ).bnd fun y => r x y := (rfl)
@[simp] theorem lOp_app (r : D → D → Res (List D)) : lOp r f g Γ = (f Γ).bnd fun x => (g Γ).bnd fun y => r x y := (rfl)
@[simp] theorem dT_app : dT f Γ = (f Γ).bnd tst := (rfl)
@[simp] theorem tst_bl (b : Bool) : tst (.bl b) = .ok b := (rfl)
@[simp] theorem dTru_app : dTru f Γ = (f Γ).bnd tru := (rfl)
@[simp] theorem cAnd_app : cAnd p q Γ = rAnd (p Γ) q Γ := (rfl)
@[simp] theorem cOr_app : cOr p q Γ = rOr (p Γ) q Γ := (rfl)
@[simp] theorem cNot_app : cNot p Γ = (p Γ).bnd fun c => .ok (!c) := (rfl)
@[simp] theorem dAnd_app : dAnd f g Γ = vAnd ((f Γ).bnd tst) g Γ := by cases h : f Γ <;> simp only [dAnd, vAnd, h, Res.bnd_ok, Res.bnd_err, Res.bnd_bad]
@[simp] theorem dOr_app : dOr f g Γ = vOr ((f Γ).bnd tst) g Γ := by cases h : f Γ <;> simp only [dOr, vOr, h, Res.bnd_ok, Res.bnd_err, Res.bnd_bad]
@[simp] theorem dNot_app : dNot f Γ = (f Γ).bnd fun x => (tst x).bnd fun c => .ok (.bl (!c)) := (rfl)
@[simp] theorem dIf_app : dIf p f g Γ = vIte (p Γ) f g Γ := (rfl)
@[simp] theorem dNil_app : dNil Γ = .ok [] := (rfl)
@[simp] theorem dCons_app : dCons f fa Γ = (f Γ).bnd fun x => (fa Γ).bnd fun xs => .ok (x :: xs) := (rfl)
@[simp] theorem dTup_app : dTup fa Γ = (fa Γ).bnd fun xs => if xs.length ≤ 1000 then .ok (.tup xs) else .bad := (rfl)
@[simp] theorem dLst_app : dLst fa Γ = (fa Γ).bnd fun xs => if xs.length ≤ 1000 then .ok xs else .bad := (rfl)
@[simp] theorem dFz_app : dFz fa Γ = (fa Γ).bnd fun ds => .ok (.lst ds) := (rfl)
@[simp] theorem dUn_app (r : D → Res D) : dUn r f Γ = (f Γ).bnd r := (rfl)
@[simp] theorem negI_int (i : Int) : negI (.int i) = .ok (.int (-i)) := (rfl)
@[simp] theorem dCB_app (r : List D → Res D) : dCB r fa Γ = (fa Γ).bnd r := (rfl)
@[simp] theorem dCall_app (n : Nat) (K : List Slot → Ans) : dCall n K fa Γ = (fa Γ).bnd fun ds => if ds.length = n then dAns (K (ds.map Slot.val)) else .bad := (rfl)
@[simp] theorem mCall_app (n : Nat) (K : List Slot → Ans) : mCall n K fa Γ = (fa Γ).bnd fun ds => if ds.length = n then mAns (K (ds.map Slot.val)) else .bad := (rfl)
@[simp] theorem dCallN_app (n : Nat) (K : List Slot → Ans) : dCallN n K fa Γ = (fa Γ).bnd fun ds => if ds.length = n ∧ nts ds = true then dAns (K (ds.map Slot.val)) else .bad := (rfl)
@[simp] theorem dCallO_app (n : Nat) (K : List Slot → Ans) : dCallO n K fa Γ = (fa Γ).bnd fun ds => if ds.length = n then dAns (nbA (K ((dns ds).map Slot.val))) else .bad := (rfl)
@[simp] theorem mCallN_app (n : Nat) (K : List Slot → Ans) : mCallN n K fa Γ = (fa Γ).bnd fun ds => if ds.length = n ∧ nts ds = true then mAns (K (ds.map Slot.val)) else .bad := (rfl)
@[simp] theorem mCallO_app (n : Nat) (K : List Slot → Ans) : mCallO n K fa Γ = (fa Γ).bnd fun ds => if ds.length = n then mAns (nbA (K ((dns ds).map Slot.val))) else .bad := (rfl)
@[simp] theorem dMake_app (n : Nat) (c : String) (ns : List Str) (K : List Slot → Ans) : dMake n c ns K fa Γ = (fa Γ).bnd fun ds => if ds.length = n then mkAns c ns (K (.par (.o c [] []) :: ds.map Slot.val)) else .bad := (rfl)
@[simp] theorem dIsi_app (mt : List (String × List String)) (cs : List String) : dIsi mt cs f Γ = (f Γ).bnd (isiD mt cs) := (rfl)
@[simp] theorem dNoP_app : dNoP Γ = .ok none := (rfl)
@[simp] theorem dP_app : dP f Γ = (f Γ).bnd fun d => match d with
  | .int i => .ok (some i)
  | _ => .bad := (rfl)
@[simp] theorem iSeq_app : iSeq f Γ = (f Γ).bnd seqD := (rfl)
@[simp] theorem seqD_lst (xs : List D) : seqD (.lst xs) = .ok xs := (rfl)
@[simp] theorem seqD_bor (tm : Bool) (xs : List D) : seqD (.bor tm xs) = .ok xs := (rfl)
@[simp] theorem seqD_tup (xs : List D) : seqD (.tup xs) = .ok xs := (rfl)
@[simp] theorem cYes_app : cYes Γ = .ok true := (rfl)
@[simp] theorem tgName_app (i : Nat) (d : D) : tgName i d Γ = some (Γ.set i (.val d)) := (rfl)
@[simp] theorem tgNil_app : tgNil [] Γ = some Γ := (rfl)
@[simp] theorem tgCons_app (t : Tg) (u : Tgs) (d : D) (r : List D) : tgCons t u (d :: r) Γ = (t d Γ).bind fun Γ' => u r Γ' := (rfl)
@[simp] theorem tgTup_app (n : Nat) (t : Tgs) (ds : List D) : tgTup n t (.tup ds) Γ = if ds.length = n then t ds Γ else none := (rfl)
end
@[simp] theorem dAns_ok (d : D) : dAns (.ok d) = .ok d := (rfl)
@[simp] theorem dAns_new (m : M) : dAns (.new m) = fzR m := (rfl)
@[simp] theorem dAns_err (c : String) : dAns (.err c) = .err c := (rfl)
@[simp] theorem mAns_ok (d : D) : mAns (.ok d) = .ok (.d d) := (rfl)
@[simp] theorem mAns_new (m : M) : mAns (.new m) = .ok m := (rfl)
@[simp] theorem mAns_err (c : String) : mAns (.err c) = .err c := (rfl)
@[simp] theorem fzR_d (d : D) : fzR (.d d) = .ok d := (rfl)
@[simp] theorem fzR_l (xs : List D) : fzR (.l xs) = .ok (.lst xs) := (rfl)
@[simp] theorem ntM_d (d : D) : ntM (.d d) = nt d := by simp [ntM]
@[simp] theorem ntM_l (xs : List D) : ntM (.l xs) = nts xs := by simp [ntM]
@[simp] theorem nt_int (i : Int) : nt (.int i) = true := by simp [nt]
@[simp] theorem nt_bl (i : Bool) : nt (.bl i) = true := by simp [nt]
@[simp] theorem nt_str (i : Str) : nt (.str i) = true := by simp [nt]
@[simp] theorem nt_non : nt .non = true := by simp [nt]
@[simp] theorem nt_tup (xs : List D) : nt (.tup xs) = nts xs := by simp [nt]
@[simp] theorem nt_lst (xs : List D) : nt (.lst xs) = nts xs := by simp [nt]
@[simp] theorem nts_nil : nts [] = true := by simp [nts]
@[simp] theorem nts_cons (d : D) (ds : List D) : nts (d :: ds) = (nt d && nts ds) := by simp [nts]
@[simp] theorem lends_nil : lends [] = [] := by simp [lends]
@[simp] theorem lends_cons (m : M) (ms : List M) : lends (m :: ms) = lend m :: lends ms := by simp [lends]
@[simp] theorem lend_l (xs : List D) : lend (.l xs) = .bor true xs := by simp [lend]
@[simp] theorem lend_d (x : D) : lend (.d x) = x := by simp [lend]
@[simp] theorem atM_nil (m : M) : atM m [] = some m := by cases m <;> rfl
@[simp] theorem putM_nil (m m' : M) : putM m [] m' = m' := by cases m <;> rfl
@[simp] theorem slM_own (m : M) : slM (.own m) = some m := (rfl)
@[simp] theorem slM_par (m : M) : slM (.par m) = some m := (rfl)
@[simp] theorem reS_own (m m' : M) : reS (.own m) m' = .own m' := (rfl)
@[simp] theorem reS_par (m m' : M) : reS (.par m) m' = .par m' := (rfl)
@[simp] theorem oUp_some (Γ : Sg) : oUp (some Γ) = .nx Γ := (rfl)
@[simp] theorem ans_nx (Γ : Sg) : ans (.nx Γ) = .ok .non := (rfl)
@[simp] theorem ans_rt (d : D) : ans (.rt d) = .ok d := (rfl)
@[simp] theorem ans_rtm (m : M) : ans (.rtm m) = .new m := (rfl)
@[simp] theorem ansG_nx (Γ : Sg) : ansG (.nx Γ) = .okG .non (outsAt 0 Γ) := (rfl)
@[simp] theorem ansG_rtG (d : D) (Γ : Sg) : ansG (.rtG d Γ) = .okG d (outsAt 0 Γ) := (rfl)
@[simp] theorem ansG_err (c : String) (Γ : Sg) : ansG (.err c Γ) = .err c := (rfl)
@[simp] theorem ans_err (c : String) (Γ : Sg) : ans (.err c Γ) = .err c := (rfl)
@[simp] theorem addI_int (i j : Int) : addI (.int i) (.int j) = .ok (.int (i + j)) := (rfl)
@[simp] theorem subI_int (i j : Int) : subI (.int i) (.int j) = .ok (.int (i - j)) := (rfl)
@[simp] theorem ltI_int (i j : Int) : ltI (.int i) (.int j) = .ok (.bl (decide (i < j))) := (rfl)
@[simp] theorem leI_int (i j : Int) : leI (.int i) (.int j) = .ok (.bl (decide (i ≤ j))) := (rfl)
@[simp] theorem gtI_int (i j : Int) : gtI (.int i) (.int j) = .ok (.bl (decide (j < i))) := (rfl)
@[simp] theorem geI_int (i j : Int) : geI (.int i) (.int j) = .ok (.bl (decide (j ≤ i))) := (rfl)
theorem mulI_int (i j : Int) (h : mulOk i j = true) : mulI (.int i) (.int j) = .ok (.int (i * j)) := by simp [mulI, h]
theorem fdivI_int (i j : Int) (h : divOk i j = true) : fdivI (.int i) (.int j) = .ok (.int (i.fdiv j)) := by simp [fdivI, h]
theorem modI_int (i j : Int) (h : j ≠ 0) : modI (.int i) (.int j) = .ok (.int (i.fmod j)) := by simp [modI, h]
@[simp] theorem kinds_int (mt : List (String × List String)) (i : Int) : kinds mt (.int i) = some ["int"] := (rfl)
@[simp] theorem kinds_bl (mt : List (String × List String)) (i : Bool) : kinds mt (.bl i) = some ["bool", "int"] := (rfl)
@[simp] theorem kinds_tup (mt : List (String × List String)) (i : List D) : kinds mt (.tup i) = some ["tuple"] := (rfl)
@[simp] theorem kinds_lst (mt : List (String × List String)) (i : List D) : kinds mt (.lst i) = some ["list"] := (rfl)
@[simp] theorem kinds_str (mt : List (String × List String)) (i : Str) : kinds mt (.str i) = some ["str"] := (rfl)
@[simp] theorem kinds_non (mt : List (String × List String)) : kinds mt .non = some ["NoneType"] := (rfl)
@[simp] theorem kinds_exc (mt : List (String × List String)) (c : String) : kinds mt (.exc c) = mt.lookup c := (rfl)
@[simp] theorem eqD_pair (a b c d : Int) : eqD (.tup [.int a, .int b]) (.tup [.int c, .int d]) = .ok (.bl (decide (a = c) && decide (b = d))) := by
  simp [eqD, okq, deq, py, pys, PyData.eqv, PyData.eqvAll, beq_dec]
@[simp] theorem neD_pair (a b c d : Int) : neD (.tup [.int a, .int b]) (.tup [.int c, .int d]) = .ok (.bl (!(decide (a = c) && decide (b = d)))) := by
  simp [neD, okq, deq, py, pys, PyData.eqv, PyData.eqvAll, beq_dec]
@[simp] theorem eqD_bl (a b : Bool) : eqD (.bl a) (.bl b) = .ok (.bl (a == b)) := by
  simp [eqD, okq, deq, py, pys, PyData.eqv]
theorem bits_le {i : Int} {n : Nat} (h : i.natAbs < 2 ^ n) : Builtin.Int.intBits i ≤ n := by
  unfold Builtin.Int.intBits
  split
  · exact Nat.zero_le _
  · rename_i hz
    have : i.natAbs ≠ 0 := by simpa using hz
    exact Nat.succ_le_of_lt ((Nat.log2_lt this).mpr h)
theorem mulOk_right {i j : Int} (h : j.natAbs < 2 ^ 64) : mulOk i j = true := by
  simp [mulOk, bits_le h]
theorem mulOk_left {i j : Int} (h : i.natAbs < 2 ^ 64) : mulOk i j = true := by
  simp [mulOk, bits_le h]
theorem mulOk_both {i j : Int} {a b : Nat} (hi : i.natAbs < 2 ^ a) (hj : j.natAbs < 2 ^ b) (ha : a ≤ 2 ^ 20) (hb : b ≤ 2 ^ 20) : mulOk i j = true := by
  have h1 := Nat.le_trans (bits_le hi) ha
  have h2 := Nat.le_trans (bits_le hj) hb
  simp only [mulOk, Bool.or_eq_true, Bool.and_eq_true, decide_eq_true_eq]
  exact .inr ⟨h1, h2⟩
theorem divOk_of {i j : Int} (h0 : j ≠ 0) (h : j.natAbs < 2 ^ 9000) : divOk i j = true := by
  have : j.natAbs ≠ 0 := by simpa using h0
  simp only [divOk, Bool.and_eq_true, decide_eq_true_eq]
  exact ⟨h0, (Nat.log2_lt this).mpr h⟩
@[simp] theorem modI_lit (i j : Int) (h : j ≠ 0) : modI (.int i) (.int j) = .ok (.int (i.fmod j)) := modI_int i j h
@[simp] theorem mulI_lit (i j : Int) (h : j.natAbs < 18446744073709551616) : mulI (.int i) (.int j) = .ok (.int (i * j)) := mulI_int i j (mulOk_right h)
@[simp] theorem mulI_litL (i j : Int) (h : i.natAbs < 18446744073709551616) : mulI (.int i) (.int j) = .ok (.int (i * j)) := mulI_int i j (mulOk_left h)
@[simp] theorem fdivI_lit (i j : Int) (h : j ≠ 0) (h2 : j.natAbs < 18446744073709551616) : fdivI (.int i) (.int j) = .ok (.int (i.fdiv j)) :=
  fdivI_int i j (divOk_of h (Nat.lt_of_lt_of_le h2 (show 2 ^ 64 ≤ 2 ^ 9000 from Nat.pow_le_pow_right (by decide) (by decide))))
@[simp] theorem powI_lit (i j : Int) (h0 : 0 ≤ j) (h1 : j ≤ 1000000) (h2 : i.natAbs < 18446744073709551616) : powI (.int i) (.int j) = .ok (.int (i ^ j.toNat)) := by
  have : powOk i j = true := by simp [powOk, h0, h1]; omega
  simp [powI, this]
def oFor (r : Res D) (t : Tg) (B : Sg → Out) (Γ : Sg) : Out := oE r Γ fun d => match d with
  | .lst xs => forD t B xs Γ
  | .tup xs => forD t B xs Γ
  | .bor false xs => forD t B xs Γ
  | _ => .bad
def oForR (r : Res (List D)) (t : Tg) (B : Sg → Out) (Γ : Sg) : Out := oE r Γ fun xs => forD t B xs Γ
section
variable (f : Sg → Res D) (r : Sg → Res (List D)) (t : Tg) (B : Sg → Out) (Γ : Sg) (xs : List D)
@[simp] theorem sFor_app : sFor f t B Γ = oFor (f Γ) t B Γ := (rfl)
@[simp] theorem oFor_lst : oFor (.ok (.lst xs)) t B Γ = forD t B xs Γ := (rfl)
@[simp] theorem oFor_bor : oFor (.ok (.bor false xs)) t B Γ = forD t B xs Γ := (rfl)
@[simp] theorem oFor_tup : oFor (.ok (.tup xs)) t B Γ = forD t B xs Γ := (rfl)
@[simp] theorem sForR1_app : sForR1 r t B Γ = oForR ((r Γ).bnd rng1) t B Γ := (rfl)
@[simp] theorem sForR2_app : sForR2 r t B Γ = oForR ((r Γ).bnd rng2) t B Γ := (rfl)
@[simp] theorem oForR_ok : oForR (.ok xs) t B Γ = forD t B xs Γ := (rfl)
end
@[simp] theorem forD_nil (t : Tg) (B : Sg → Out) (Γ : Sg) : forD t B [] Γ = .nx Γ := (rfl)
theorem forD_all {t : Tg} {B : Sg → Out} (I : Sg → Prop) : ∀ (xs : List D) (Γ : Sg), I Γ → (∀ x ∈ xs, ∀ Γ, I Γ → ∃ Γ1 Γ2, t x Γ = some Γ1 ∧ (B Γ1 = .nx Γ2 ∨ B Γ1 = .ct Γ2) ∧ I Γ2) → ∃ Γ', forD t B xs Γ = .nx Γ' ∧ I Γ'
  | [], Γ, h, _ => ⟨Γ, rfl, h⟩
  | x :: r, Γ, h, k => by
    obtain ⟨Γ1, Γ2, h1, h2, h3⟩ := k x (.head _) Γ h
    obtain ⟨Γ', h4, h5⟩ := forD_all I r Γ2 h3 fun y hy => k y (.tail _ hy)
    refine ⟨Γ', ?_, h5⟩
    rcases h2 with h2 | h2 <;> simp only [forD, h1, h2, h4]
section
variable (Γ : Sg) (f g h : Sg → Res D) (fa : Sg → Res (List D)) (t : Tg) (B : Sg → Out)
def oForI (r : Res (List D)) (t : Tg) (B : Sg → Out) (Γ : Sg) : Out := oE r Γ fun xs => forD t B xs Γ
@[simp] theorem sForI_app : sForI fa t B Γ = oForI (fa Γ) t B Γ := (rfl)
@[simp] theorem oForI_ok (xs : List D) : oForI (.ok xs) t B Γ = forD t B xs Γ := (rfl)
@[simp] theorem oForI_err (c : String) : oForI (.err c) t B Γ = .err c Γ := (rfl)
@[simp] theorem iRng1_app : iRng1 fa Γ = (fa Γ).bnd rng1 := (rfl)
@[simp] theorem iRng2_app : iRng2 fa Γ = (fa Γ).bnd rng2 := (rfl)
@[simp] theorem dMakeN_app (n : Nat) (c : String) (ns : List Str) (K : List Slot → Ans) : dMakeN n c ns K fa Γ = (fa Γ).bnd fun ds => if ds.length = n ∧ nts ds = true then mkAns c ns (K (.par (.o c [] []) :: ds.map Slot.val)) else .bad := (rfl)
def rMeth (n : Nat) (tbl : List (String × (List Slot → Ans))) (o : D) (r : Res (List D)) : Res M := match methF tbl o with
  | some F => r.bnd fun ds => if ds.length = n then mAns (F ((o :: ds).map Slot.val)) else .bad
  | none => .bad
def rMethN (n : Nat) (tbl : List (String × (List Slot → Ans))) (o : D) (r : Res (List D)) : Res M := match methF tbl o with
  | some F => r.bnd fun ds => if ds.length = n ∧ nts (o :: ds) = true then mAns (F ((o :: ds).map Slot.val)) else .bad
  | none => .bad
@[simp] theorem mMeth_app (n : Nat) (tbl : List (String × (List Slot → Ans))) : mMeth n tbl f fa Γ = (f Γ).bnd fun o => rMeth n tbl o (fa Γ) := (rfl)
@[simp] theorem mMethN_app (n : Nat) (tbl : List (String × (List Slot → Ans))) : mMethN n tbl f fa Γ = (f Γ).bnd fun o => rMethN n tbl o (fa Γ) := (rfl)
theorem rMeth_ok {n : Nat} {tbl : List (String × (List Slot → Ans))} {c : String} {ns : List Str} {xs ds : List D} {F : List Slot → Ans} (hF : tbl.lookup c = some F) (hn : ds.length = n) : rMeth n tbl (.obj c ns xs) (.ok ds) = mAns (F ((D.obj c ns xs :: ds).map Slot.val)) := by
  simp [rMeth, methF, hF, hn]
@[simp] theorem nt_obj (c : String) (ns : List Str) (xs : List D) : nt (.obj c ns xs) = nts xs := by simp [nt]
@[simp] theorem kinds_obj (mt : List (String × List String)) (c : String) (ns : List Str) (xs : List D) : kinds mt (.obj c ns xs) = mt.lookup c := (rfl)
def vChain (r : Res D) (r' : D → D → Res D) (y : D) (h : Sg → Res D) (Γ : Sg) : Res D := r.bnd fun z => match z with
  | .bl true => (h Γ).bnd fun w => r' y w
  | .bl false => .ok (.bl false)
  | _ => .bad
@[simp] theorem dChain_app (r r' : D → D → Res D) : dChain r r' f g h Γ = (f Γ).bnd fun x => (g Γ).bnd fun y => vChain (r x y) r' y h Γ := (rfl)
@[simp] theorem vChain_tt (r' : D → D → Res D) (y : D) : vChain (.ok (.bl true)) r' y h Γ = (h Γ).bnd fun w => r' y w := (rfl)
@[simp] theorem vChain_ff (r' : D → D → Res D) (y : D) : vChain (.ok (.bl false)) r' y h Γ = .ok (.bl false) := (rfl)
@[simp] theorem sSetF_app (i : Nat) (ft : List (String × List Str)) (n : Str) : sSetF i ft n f Γ = oE (f Γ) Γ fun d => oE (pVar i Γ) Γ fun ks => oUp (upM i ks (putO ft n d) Γ) := (rfl)
@[simp] theorem sClear_app (i : Nat) (p : Sg → Res (List Nat)) : sClear i p Γ = oE (p Γ) Γ fun ks => oUp (upM i ks clrM Γ) := (rfl)
@[simp] theorem sAppend_app (i : Nat) (p : Sg → Res (List Nat)) : sAppend i p f Γ = oE (p Γ) Γ fun ks => if isLM (nodeM i ks Γ) = true then oE (f Γ) Γ fun d => oUp (upM i ks (appM d) Γ) else .bad := (rfl)
@[simp] theorem lComp_app (tm : Bool) (k : Nat) (caps : List Nat) (p : Sg → Res Bool) : lComp tm fa k caps t p f Γ = (fa Γ).bnd fun xs => if xs.length < 1000000 then compD (elD t p f (blk tm k caps Γ)) xs else .bad := (rfl)
end
@[simp] theorem xorI_int (i j : Int) : xorI (.int i) (.int j) = .ok (.int (Builtin.bitXor i j)) := (rfl)
@[simp] theorem kinds_bor (mt : List (String × List String)) (b : Bool) (xs : List D) : kinds mt (.bor b xs) = some ["list"] := (rfl)
end L4
end
section
set_option Elab.async false
set_option linter.all false
namespace L4
open PySem
def frD (b : Int) (g : Nat) : Int := if b < 0 then -(g : Int) else (g : Int)
def frT (t b : Int) : Int := t.fdiv (frD b (Int.gcd t b))
def frB (t b : Int) : Int := b.fdiv (frD b (Int.gcd t b))
theorem gcd_pos {t b : Int} (h : b ≠ 0) : 0 < Int.gcd t b := Int.gcd_pos_of_ne_zero_right t h
theorem frD_ne {t b : Int} (h : b ≠ 0) : frD b (Int.gcd t b) ≠ 0 := by
  have := gcd_pos (t := t) h
  unfold frD
  split <;> omega
theorem frD_dvd_left (t b : Int) : frD b (Int.gcd t b) ∣ t := by
  unfold frD
  split
  · exact Int.neg_dvd.mpr (Int.gcd_dvd_left _ _)
  · exact Int.gcd_dvd_left _ _
theorem frD_dvd_right (t b : Int) : frD b (Int.gcd t b) ∣ b := by
  unfold frD
  split
  · exact Int.neg_dvd.mpr (Int.gcd_dvd_right _ _)
  · exact Int.gcd_dvd_right _ _
theorem fdiv_mul_of_dvd {a d : Int} (h : d ∣ a) : a.fdiv d * d = a := by
  rw [Int.fdiv_eq_ediv_of_dvd h]
  exact Int.ediv_mul_cancel h
theorem frT_mul (t b : Int) : frT t b * frD b (Int.gcd t b) = t := fdiv_mul_of_dvd (frD_dvd_left t b)
theorem frB_mul (t b : Int) : frB t b * frD b (Int.gcd t b) = b := fdiv_mul_of_dvd (frD_dvd_right t b)
theorem fr_cross (t b : Int) : frT t b * b = t * frB t b := by
  have h1 := frT_mul t b
  have h2 := frB_mul t b
  generalize hd : frD b (Int.gcd t b) = d at h1 h2
  calc frT t b * b = frT t b * (frB t b * d) := by rw [h2]
    _ = (frT t b * d) * frB t b := by rw [Int.mul_comm (frB t b) d, Int.mul_assoc]
    _ = t * frB t b := by rw [h1]
theorem frB_pos {t b : Int} (h : b ≠ 0) : 1 ≤ frB t b := by
  have g := gcd_pos (t := t) h
  have h2 := frB_mul t b
  unfold frD at h2
  by_cases hb : b < 0
  · rw [if_pos hb] at h2
    by_cases hp : 1 ≤ frB t b
    · exact hp
    · exfalso
      have h3 : frB t b ≤ 0 := by omega
      have h4 : 0 ≤ frB t b * -(Int.gcd t b : Int) := Int.mul_nonneg_of_nonpos_of_nonpos h3 (by omega)
      omega
  · rw [if_neg hb] at h2
    by_cases hp : 1 ≤ frB t b
    · exact hp
    · exfalso
      have h3 : frB t b ≤ 0 := by omega
      have h4 : frB t b * (Int.gcd t b : Int) ≤ 0 := Int.mul_nonpos_of_nonpos_of_nonneg h3 (by omega)
      omega
theorem fr_gcd {t b : Int} (h : b ≠ 0) : Int.gcd (frT t b) (frB t b) = 1 := by
  have g := gcd_pos (t := t) h
  have e : Int.gcd (frT t b * frD b (Int.gcd t b)) (frB t b * frD b (Int.gcd t b)) = Int.gcd t b := by rw [frT_mul, frB_mul]
  rw [Int.gcd_mul_right] at e
  have en : (frD b (Int.gcd t b)).natAbs = Int.gcd t b := by
    unfold frD
    split <;> simp
  rw [en] at e
  exact Nat.eq_of_mul_eq_mul_right g (by rw [e, Nat.one_mul])
theorem dvd_cop {q p b : Int} (h : q ∣ p * b) (g : Int.gcd p q = 1) : q ∣ b := by
  have h1 : q.natAbs ∣ p.natAbs * b.natAbs := by rw [← Int.natAbs_mul]; exact Int.natAbs_dvd_natAbs.mpr h
  have h2 : Nat.Coprime q.natAbs p.natAbs := by
    have : Nat.gcd p.natAbs q.natAbs = 1 := g
    rw [Nat.Coprime, Nat.gcd_comm]; exact this
  exact Int.natAbs_dvd_natAbs.mp (h2.dvd_of_dvd_mul_left h1)
theorem low_unique {p q a b : Int} (h1 : Int.gcd p q = 1) (hq : 1 ≤ q) (h2 : Int.gcd a b = 1) (hb : 1 ≤ b) (h : p * b = a * q) : p = a ∧ q = b := by
  have d1 : q ∣ b := by
    have : q ∣ p * b := ⟨a, by rw [h, Int.mul_comm]⟩
    exact dvd_cop this h1
  have d2 : b ∣ q := by
    have : b ∣ a * q := ⟨p, by rw [← h, Int.mul_comm]⟩
    exact dvd_cop this h2
  have e : q = b := Int.le_antisymm (Int.le_of_dvd (by omega) d1) (Int.le_of_dvd (by omega) d2)
  subst e
  exact ⟨Int.eq_of_mul_eq_mul_right (by omega) h, rfl⟩
theorem fr_of {t u a b : Int} (hu : u ≠ 0) (h2 : Int.gcd a b = 1) (hb : 1 ≤ b) (h : t * b = a * u) : frT t u = a ∧ frB t u = b := by
  refine low_unique (fr_gcd hu) (frB_pos hu) h2 hb ?_
  have c := fr_cross t u
  refine Int.eq_of_mul_eq_mul_right hu ?_
  calc frT t u * b * u = (frT t u * u) * b := by rw [Int.mul_assoc, Int.mul_comm b u, ← Int.mul_assoc]
    _ = t * frB t u * b := by rw [c]
    _ = t * b * frB t u := by rw [Int.mul_assoc, Int.mul_comm (frB t u) b, ← Int.mul_assoc]
    _ = a * u * frB t u := by rw [h]
    _ = a * frB t u * u := by rw [Int.mul_assoc, Int.mul_comm u, ← Int.mul_assoc]
theorem frD_bound {t b : Int} {n : Nat} (h : b ≠ 0) (hb : b.natAbs < 2 ^ n) : (frD b (Int.gcd t b)).natAbs < 2 ^ n := by
  have e : (frD b (Int.gcd t b)).natAbs = Int.gcd t b := by
    unfold frD
    split <;> simp
  rw [e]
  exact Nat.lt_of_le_of_lt (Nat.le_of_dvd (by omega) (Int.natAbs_dvd_natAbs.mpr (Int.gcd_dvd_right t b))) hb
theorem frB_le {t b : Int} (h : b ≠ 0) : (frB t b).natAbs ≤ b.natAbs := by
  have : frB t b ∣ b := ⟨frD b (Int.gcd t b), (frB_mul t b).symm⟩
  exact Nat.le_of_dvd (by omega) (Int.natAbs_dvd_natAbs.mpr this)
theorem frT_le {t b : Int} (h : b ≠ 0) : (frT t b).natAbs ≤ t.natAbs := by
  by_cases ht : t = 0
  · have := frT_mul t b
    rw [ht] at this ⊢
    rcases Int.mul_eq_zero.mp this with z | z
    · rw [z]; simp
    · exact absurd z (by have := frD_ne (t := 0) h; exact this)
  · have : frT t b ∣ t := ⟨frD b (Int.gcd t b), (frT_mul t b).symm⟩
    exact Nat.le_of_dvd (by omega) (Int.natAbs_dvd_natAbs.mpr this)
theorem gcd_step (l s : Nat) (h : s ≠ 0) : Nat.gcd l s = Nat.gcd s (l % s) := by
  rw [Nat.gcd_comm l s, Nat.gcd_rec, Nat.gcd_comm]
theorem fmod_nat (l s : Nat) : Int.fmod (l : Int) (s : Int) = ((l % s : Nat) : Int) := by
  rw [Int.fmod_eq_emod_of_nonneg _ (by omega)]
  rfl
end L4
end
section
set_option Elab.async false
set_option linter.all false
set_option maxRecDepth 100000
namespace L4
open PySem PySem.Spec PyProof.Rows L2
abbrev St := L2.St
structure Cb where
  exc : String → Option Addr
  cls : String → Option (Addr × List Str)
  /-- all classes of instances -/
  ins : String → Option Addr
structure Cf where
  cb : Cb
  L : Hp
  io : Addr → Prop
  args : List V
structure Ct where
  f : Cf
  B : Hp
  tm : Bool
def Cf.z (c : Cf) : Ct := ⟨c, fun _ => none, false⟩
def Cf.at' (c : Cf) (H : Hp) : Ct := ⟨c, H, true⟩
def IsExc (a C : Addr) : Heap → Prop := fun h => ∃ o, h.get? a = some o ∧ o.cls = .ref C
def FzL (K : PySem.W.Frag) (H : Hp) (a : Addr) (vs : List V) : Prop := (∃ o, H a = some (.frz o (.lst vs))) ∨
  ∃ (o : Obj) (its : Array Value) (n : Nat), K.lookup a = some o ∧ o.cls = .type "list" ∧ o.dict = none ∧ o.data = .seq its n ∧ its.size ≤ sizeLine ∧ Vals vs its.toList
theorem FzL.sq {K : PySem.W.Frag} {H : Hp} {a : Addr} {vs : List V} (h : FzL K H a vs) : SqL K H a vs := by
  rcases h with ⟨o, h⟩ | h
  · exact .inl (.inr ⟨o, h⟩)
  · exact .inr h
def Ct.lo (ct : Ct) (t : Bool) : Hp := if t = true then ct.B else ct.f.L
mutual
def Tl (K : PySem.W.Frag) (ct : Ct) (H : Hp) : D → V → Prop
  | .non, v => v = .non
  | .bl b, v => v = .bl b
  | .int i, v => v = .int i
  | .str x, v => v = .str x
  | .tup ds, v => ∃ a vs, v = .ref a ∧ SqT K H a vs ∧ Tls K ct H ds vs
  | .lst ds, v => ∃ a vs, v = .ref a ∧ FzL K H a vs ∧ Tls K ct H ds vs
  | .obj c ns ds, v => ∃ a C dx vs, v = .ref a ∧ ct.f.cb.cls c = some (C, ns) ∧ H a = some (.ins C dx (ns.zip vs)) ∧ ns.length = vs.length ∧ Tls K ct H ds vs
  | .exc c, v => ∃ a C, v = .ref a ∧ ct.f.cb.exc c = some C ∧ H a = some (.ext (IsExc a C))
  | .bor t ds, v => ∃ a vs, v = .ref a ∧ ct.lo t a = some (.lst vs) ∧ Tls K ct H ds vs
  | .dic ks ds, v => ∃ a vs, v = .ref a ∧ (∃ o, H a = some (.frz o (.dK (ks.zip vs)))) ∧ ks.length = vs.length ∧ Tls K ct H ds vs
  | .bdc t ks ds, v => ∃ a vs, v = .ref a ∧ ct.lo t a = some (.dK (ks.zip vs)) ∧ ks.length = vs.length ∧ Tls K ct H ds vs
  | .bob t c ns ds, v => ∃ a C dx vs, v = .ref a ∧ ct.f.cb.ins c = some C ∧ ct.lo t a = some (.ins C dx (ns.zip vs)) ∧ ns.length = vs.length ∧ Tls K ct H ds vs
def Tls (K : PySem.W.Frag) (ct : Ct) (H : Hp) : List D → List V → Prop
  | [], vs => vs = []
  | d :: ds, vs => ∃ v r, vs = v :: r ∧ Tl K ct H d v ∧ Tls K ct H ds r
end
def Stab (cb : Cb) : HO → Prop
  | .tup _ => True
  | .frz _ _ => True
  | .ins C _ fs => ∃ c ns, cb.cls c = some (C, ns) ∧ fs.map (·.1) = ns
  | .ext _ => True
  | _ => False
def Keep (cb : Cb) (H H' : Hp) : Prop := ∀ b o, H b = some o → Stab cb o → H' b = some o
theorem Same.keep {cb : Cb} {H H' : Hp} (e : Same H H') : Keep cb H H' := fun b o h _ => e b o h
theorem Keep.refl {cb : Cb} (H : Hp) : Keep cb H H := fun _ _ h _ => h
theorem Keep.trans {cb : Cb} {H H1 H2 : Hp} (a : Keep cb H H1) (b : Keep cb H1 H2) : Keep cb H H2 := fun c o h s => b c o (a c o h s) s
theorem Keep.lst {cb : Cb} {H : Hp} {a : Addr} {vs : List V} {o : HO} (h : H a = some (.lst vs)) : Keep cb H (upd H a o) := fun b u hb st => by
  have : b ≠ a := by rintro rfl; rw [h] at hb; cases hb; exact st
  rw [upd_ne this]; exact hb
theorem Keep.dK {cb : Cb} {H : Hp} {a : Addr} {kvs : List (Key × V)} {o : HO} (h : H a = some (.dK kvs)) : Keep cb H (upd H a o) := fun b u hb st => by
  have : b ≠ a := by rintro rfl; rw [h] at hb; cases hb; exact st
  rw [upd_ne this]; exact hb
theorem Keep.sqT {cb : Cb} {K : PySem.W.Frag} {H H' : Hp} {a : Addr} {xs : List V} (e : Keep cb H H') (h : SqT K H a xs) : SqT K H' a xs := by
  rcases h with (h | ⟨o, h⟩) | h
  · exact .inl (.inl (e _ _ h trivial))
  · exact .inl (.inr ⟨o, e _ _ h trivial⟩)
  · exact .inr h
theorem Keep.fzL {cb : Cb} {K : PySem.W.Frag} {H H' : Hp} {a : Addr} {xs : List V} (e : Keep cb H H') (h : FzL K H a xs) : FzL K H' a xs := by
  rcases h with ⟨o, h⟩ | h
  · exact .inl ⟨o, e _ _ h trivial⟩
  · exact .inr h
theorem zip_keys {α β : Type} : ∀ {ns : List α} {vs : List β}, ns.length = vs.length → (ns.zip vs).map (·.1) = ns
  | [], _, _ => by simp
  | n :: ns, [], h => by simp at h
  | n :: ns, v :: vs, h => by
    simp only [List.zip_cons_cons, List.map_cons, List.cons.injEq, true_and]
    exact zip_keys (by simpa using h)
mutual
theorem Tl.keep {K : PySem.W.Frag} {ct : Ct} {H H' : Hp} (e : Keep ct.f.cb H H') : ∀ {d : D} {v : V}, Tl K ct H d v → Tl K ct H' d v
  | .non, _, h => by simpa [Tl] using h
  | .bl b, _, h => by simpa [Tl] using h
  | .int i, _, h => by simpa [Tl] using h
  | .str x, _, h => by simpa [Tl] using h
  | .tup ds, v, h => by
    simp only [Tl] at h ⊢
    obtain ⟨a, vs, h1, h2, h3⟩ := h
    exact ⟨a, vs, h1, e.sqT h2, Tls.keep e h3⟩
  | .lst ds, v, h => by
    simp only [Tl] at h ⊢
    obtain ⟨a, vs, h1, h2, h3⟩ := h
    exact ⟨a, vs, h1, e.fzL h2, Tls.keep e h3⟩
  | .obj c ns ds, v, h => by
    simp only [Tl] at h ⊢
    obtain ⟨a, C, dx, vs, h1, h2, h3, h4, h5⟩ := h
    exact ⟨a, C, dx, vs, h1, h2, e _ _ h3 ⟨c, ns, h2, zip_keys h4⟩, h4, Tls.keep e h5⟩
  | .exc c, v, h => by
    simp only [Tl] at h ⊢
    obtain ⟨a, C, h1, h2, h3⟩ := h
    exact ⟨a, C, h1, h2, e _ _ h3 trivial⟩
  | .bor t ds, v, h => by
    simp only [Tl] at h ⊢
    obtain ⟨a, vs, h1, h2, h3⟩ := h
    exact ⟨a, vs, h1, h2, Tls.keep e h3⟩
  | .dic ks ds, v, h => by
    simp only [Tl] at h ⊢
    obtain ⟨a, vs, h1, ⟨o, h2⟩, h3, h4⟩ := h
    exact ⟨a, vs, h1, ⟨o, e _ _ h2 trivial⟩, h3, Tls.keep e h4⟩
  | .bdc t ks ds, v, h => by
    simp only [Tl] at h ⊢
    obtain ⟨a, vs, h1, h2, h3, h4⟩ := h
    exact ⟨a, vs, h1, h2, h3, Tls.keep e h4⟩
  | .bob t c ns ds, v, h => by
    simp only [Tl] at h ⊢
    obtain ⟨a, C, dx, vs, h1, h2, h3, h4, h5⟩ := h
    exact ⟨a, C, dx, vs, h1, h2, h3, h4, Tls.keep e h5⟩
theorem Tls.keep {K : PySem.W.Frag} {ct : Ct} {H H' : Hp} (e : Keep ct.f.cb H H') : ∀ {ds : List D} {vs : List V}, Tls K ct H ds vs → Tls K ct H' ds vs
  | [], _, h => by simpa [Tls] using h
  | d :: ds, _, h => by
    simp only [Tls] at h ⊢
    obtain ⟨v, r, h1, h2, h3⟩ := h
    exact ⟨v, r, h1, Tl.keep e h2, Tls.keep e h3⟩
end
structure Relend (ct ct' : Ct) (p : Bool → Bool) (g : Bool → Bool) : Prop where
  cb : ct'.f.cb = ct.f.cb
  at' : ∀ t a o, p t = true → ct.lo t a = some o → ct'.lo (g t) a = some o
mutual
def reD (g : Bool → Bool) : D → D
  | .tup xs => .tup (reDs g xs)
  | .lst xs => .lst (reDs g xs)
  | .obj c ns xs => .obj c ns (reDs g xs)
  | .dic ks xs => .dic ks (reDs g xs)
  | .bor t xs => .bor (g t) (reDs g xs)
  | .bdc t ks xs => .bdc (g t) ks (reDs g xs)
  | .bob t c ns xs => .bob (g t) c ns (reDs g xs)
  | .non => .non
  | .bl b => .bl b
  | .int i => .int i
  | .str x => .str x
  | .exc c => .exc c
def reDs (g : Bool → Bool) : List D → List D
  | [] => []
  | d :: ds => reD g d :: reDs g ds
end
mutual
def okP (p : Bool → Bool) : D → Bool
  | .tup xs => okPs p xs
  | .lst xs => okPs p xs
  | .obj _ _ xs => okPs p xs
  | .dic _ xs => okPs p xs
  | .bor t xs => p t && okPs p xs
  | .bdc t _ xs => p t && okPs p xs
  | .bob t _ _ xs => p t && okPs p xs
  | _ => true
def okPs (p : Bool → Bool) : List D → Bool
  | [] => true
  | d :: ds => okP p d && okPs p ds
end
mutual
theorem Tl.re {K : PySem.W.Frag} {ct ct' : Ct} {H : Hp} {p g : Bool → Bool} (r : Relend ct ct' p g) : ∀ {d : D} {v : V}, okP p d = true → Tl K ct H d v → Tl K ct' H (reD g d) v
  | .non, _, _, h => by simpa [Tl, reD] using h
  | .bl b, _, _, h => by simpa [Tl, reD] using h
  | .int i, _, _, h => by simpa [Tl, reD] using h
  | .str x, _, _, h => by simpa [Tl, reD] using h
  | .exc c, v, _, h => by
    simp only [Tl, reD] at h ⊢
    rw [r.cb]; exact h
  | .tup ds, v, q, h => by
    simp only [Tl, reD, okP] at h q ⊢
    obtain ⟨a, vs, h1, h2, h3⟩ := h
    exact ⟨a, vs, h1, h2, Tls.re r q h3⟩
  | .lst ds, v, q, h => by
    simp only [Tl, reD, okP] at h q ⊢
    obtain ⟨a, vs, h1, h2, h3⟩ := h
    exact ⟨a, vs, h1, h2, Tls.re r q h3⟩
  | .obj c ns ds, v, q, h => by
    simp only [Tl, reD, okP] at h q ⊢
    obtain ⟨a, C, dx, vs, h1, h2, h3, h4, h5⟩ := h
    exact ⟨a, C, dx, vs, h1, by rw [r.cb]; exact h2, h3, h4, Tls.re r q h5⟩
  | .bor t ds, v, q, h => by
    simp only [Tl, reD, okP, Bool.and_eq_true] at h q ⊢
    obtain ⟨a, vs, h1, h2, h3⟩ := h
    exact ⟨a, vs, h1, r.at' t a _ q.1 h2, Tls.re r q.2 h3⟩
  | .dic ks ds, v, q, h => by
    simp only [Tl, reD, okP] at h q ⊢
    obtain ⟨a, vs, h1, h2, h3, h4⟩ := h
    exact ⟨a, vs, h1, h2, h3, Tls.re r q h4⟩
  | .bdc t ks ds, v, q, h => by
    simp only [Tl, reD, okP, Bool.and_eq_true] at h q ⊢
    obtain ⟨a, vs, h1, h2, h3, h4⟩ := h
    exact ⟨a, vs, h1, r.at' t a _ q.1 h2, h3, Tls.re r q.2 h4⟩
  | .bob t c ns ds, v, q, h => by
    simp only [Tl, reD, okP, Bool.and_eq_true] at h q ⊢
    obtain ⟨a, C, dx, vs, h1, h2, h3, h4, h5⟩ := h
    exact ⟨a, C, dx, vs, h1, by rw [r.cb]; exact h2, r.at' t a _ q.1 h3, h4, Tls.re r q.2 h5⟩
theorem Tls.re {K : PySem.W.Frag} {ct ct' : Ct} {H : Hp} {p g : Bool → Bool} (r : Relend ct ct' p g) : ∀ {ds : List D} {vs : List V}, okPs p ds = true → Tls K ct H ds vs → Tls K ct' H (reDs g ds) vs
  | [], _, _, h => by simpa [Tls, reDs] using h
  | d :: ds, _, q, h => by
    simp only [Tls, reDs, okPs, Bool.and_eq_true] at h q ⊢
    obtain ⟨v, w, h1, h2, h3⟩ := h
    exact ⟨v, w, h1, Tl.re r q.1 h2, Tls.re r q.2 h3⟩
end
mutual
theorem reD_id : ∀ (d : D), reD id d = d
  | .non | .bl _ | .int _ | .str _ | .exc _ => by simp [reD]
  | .tup ds | .lst ds | .obj _ _ ds | .dic _ ds | .bor _ ds | .bdc _ _ ds | .bob _ _ _ ds => by simp [reD, reDs_id ds]
theorem reDs_id : ∀ (ds : List D), reDs id ds = ds
  | [] => rfl
  | d :: ds => by simp [reDs, reD_id d, reDs_id ds]
end
mutual
theorem reD_dn : ∀ (d : D), reD (fun _ => false) d = dn d
  | .non | .bl _ | .int _ | .str _ | .exc _ => by simp [reD, dn]
  | .tup ds | .lst ds | .obj _ _ ds | .dic _ ds | .bor _ ds | .bdc _ _ ds | .bob _ _ _ ds => by simp [reD, dn, reDs_dn ds]
theorem reDs_dn : ∀ (ds : List D), reDs (fun _ => false) ds = dns ds
  | [] => rfl
  | d :: ds => by simp [reDs, dns, reD_dn d, reDs_dn ds]
end
mutual
theorem okP_all : ∀ (d : D), okP (fun _ => true) d = true
  | .non | .bl _ | .int _ | .str _ | .exc _ => by simp [okP]
  | .tup ds | .lst ds | .obj _ _ ds | .dic _ ds | .bor _ ds | .bdc _ _ ds | .bob _ _ _ ds => by simp [okP, okPs_all ds]
theorem okPs_all : ∀ (ds : List D), okPs (fun _ => true) ds = true
  | [] => rfl
  | d :: ds => by simp [okPs, okP_all d, okPs_all ds]
end
mutual
theorem okP_nt : ∀ (d : D), okP (fun t => !t) d = nt d
  | .non | .bl _ | .int _ | .str _ | .exc _ => by simp [okP, nt]
  | .tup ds | .lst ds | .obj _ _ ds | .dic _ ds | .bor _ ds | .bdc _ _ ds | .bob _ _ _ ds => by simp [okP, nt, okPs_nt ds]
theorem okPs_nt : ∀ (ds : List D), okPs (fun t => !t) ds = nts ds
  | [] => rfl
  | d :: ds => by simp [okPs, nts, okP_nt d, okPs_nt ds]
end
mutual
theorem okP_nb : ∀ (d : D), okP (fun _ => false) d = nb d
  | .non | .bl _ | .int _ | .str _ | .exc _ => by simp [okP, nb]
  | .tup ds | .lst ds | .obj _ _ ds | .dic _ ds => by simp [okP, nb, okPs_nb ds]
  | .bor _ ds | .bdc _ _ ds | .bob _ _ _ ds => by simp [okP, nb]
theorem okPs_nb : ∀ (ds : List D), okPs (fun _ => false) ds = nbs ds
  | [] => rfl
  | d :: ds => by simp [okPs, nbs, okP_nb d, okPs_nb ds]
end
theorem Tl.lift {K : PySem.W.Frag} {c : Cf} {B H : Hp} {d : D} {v : V} (h : Tl K c.z H d v) : Tl K (c.at' B) H d v := by
  have := Tl.re (ct := c.z) (ct' := c.at' B) (p := fun _ => true) (g := id) ⟨rfl, fun t a o _ q => by cases t with
    | true => exact absurd q (by simp [Ct.lo, Cf.z])
    | false => exact q⟩ (okP_all d) h
  rwa [reD_id] at this
theorem Tl.down {K : PySem.W.Frag} {c : Cf} {B H : Hp} {tm : Bool} {d : D} {v : V} (h : Tl K ⟨c, B, tm⟩ H d v) (n : nt d = true) : Tl K c.z H d v := by
  have := Tl.re (ct := ⟨c, B, tm⟩) (ct' := c.z) (p := fun t => !t) (g := id) ⟨rfl, fun t a o p q => by cases t with
    | true => cases p
    | false => exact q⟩ (by rw [okP_nt]; exact n) h
  rwa [reD_id] at this
theorem Tl.bare {K : PySem.W.Frag} {ct ct' : Ct} {H : Hp} {d : D} {v : V} (e : ct'.f.cb = ct.f.cb) (h : Tl K ct H d v) (n : nb d = true) : Tl K ct' H d v := by
  have := Tl.re (ct := ct) (ct' := ct') (p := fun _ => false) (g := id) ⟨e, fun t a o p q => nomatch p⟩ (by rw [okP_nb]; exact n) h
  rwa [reD_id] at this
theorem Tls.bare {K : PySem.W.Frag} {ct ct' : Ct} {H : Hp} {d : List D} {v : List V} (e : ct'.f.cb = ct.f.cb) (h : Tls K ct H d v) (n : nbs d = true) : Tls K ct' H d v := by
  have := Tls.re (ct := ct) (ct' := ct') (p := fun _ => false) (g := id) ⟨e, fun t a o p q => nomatch p⟩ (by rw [okPs_nb]; exact n) h
  rwa [reDs_id] at this
theorem Tls.lift {K : PySem.W.Frag} {c : Cf} {B H : Hp} {d : List D} {v : List V} (h : Tls K c.z H d v) : Tls K (c.at' B) H d v := by
  have := Tls.re (ct := c.z) (ct' := c.at' B) (p := fun _ => true) (g := id) ⟨rfl, fun t a o _ q => by cases t with
    | true => exact absurd q (by simp [Ct.lo, Cf.z])
    | false => exact q⟩ (okPs_all d) h
  rwa [reDs_id] at this
theorem Tls.down {K : PySem.W.Frag} {c : Cf} {B H : Hp} {tm : Bool} {d : List D} {v : List V} (h : Tls K ⟨c, B, tm⟩ H d v) (n : nts d = true) : Tls K c.z H d v := by
  have := Tls.re (ct := ⟨c, B, tm⟩) (ct' := c.z) (p := fun t => !t) (g := id) ⟨rfl, fun t a o p q => by cases t with
    | true => cases p
    | false => exact q⟩ (by rw [okPs_nt]; exact n) h
  rwa [reDs_id] at this
theorem Tls.lent {K : PySem.W.Frag} {ct : Ct} {c' : Cf} {H : Hp} {d : List D} {v : List V} (e : c'.cb = ct.f.cb) (eL : c'.L = H) (l : Same ct.f.L H) (b : Same ct.B H) (h : Tls K ct H d v) : Tls K c'.z H (dns d) v := by
  have := Tls.re (ct := ct) (ct' := c'.z) (p := fun _ => true) (g := fun _ => false) ⟨e, fun t a o _ q => by
    show c'.L a = some o
    rw [eL]
    cases t with
    | true => exact b a o q
    | false => exact l a o q⟩ (okPs_all d) h
  rwa [reDs_dn] at this
theorem Tls.length {K : PySem.W.Frag} {ct : Ct} {H : Hp} : ∀ {ds : List D} {vs : List V}, Tls K ct H ds vs → ds.length = vs.length
  | [], _, h => by simp only [Tls] at h; rw [h]; rfl
  | d :: ds, _, h => by
    simp only [Tls] at h
    obtain ⟨v, r, rfl, _, h⟩ := h
    simp [Tls.length h]
theorem Tls.get {K : PySem.W.Frag} {ct : Ct} {H : Hp} : ∀ {ds : List D} {vs : List V} {i : Nat} {d : D}, Tls K ct H ds vs → ds[i]? = some d → ∃ v, vs[i]? = some v ∧ Tl K ct H d v
  | [], _, _, _, _, e => by simp at e
  | d :: ds, _, i, d', h, e => by
    simp only [Tls] at h
    obtain ⟨v, r, rfl, h1, h2⟩ := h
    cases i with
    | zero => simp at e; subst e; exact ⟨v, rfl, h1⟩
    | succ i => exact Tls.get (i := i) h2 (by simpa using e)
theorem Tls.nil {K : PySem.W.Frag} {ct : Ct} {H : Hp} : Tls K ct H [] [] := by simp [Tls]
theorem Tls.cons {K : PySem.W.Frag} {ct : Ct} {H : Hp} {d : D} {v : V} {ds : List D} {vs : List V} (h : Tl K ct H d v) (t : Tls K ct H ds vs) : Tls K ct H (d :: ds) (v :: vs) := by
  simp only [Tls]; exact ⟨v, vs, rfl, h, t⟩
theorem Tls.append {K : PySem.W.Frag} {ct : Ct} {H : Hp} : ∀ {ds es : List D} {vs us : List V}, Tls K ct H ds vs → Tls K ct H es us → Tls K ct H (ds ++ es) (vs ++ us)
  | [], _, _, _, h, t => by simp only [Tls] at h; subst h; simpa using t
  | d :: ds, _, _, _, h, t => by
    simp only [Tls] at h
    obtain ⟨v, r, rfl, h1, h2⟩ := h
    exact Tls.cons h1 (Tls.append h2 t)
theorem Tls.take {K : PySem.W.Frag} {ct : Ct} {H : Hp} : ∀ {ds : List D} {vs : List V} (n : Nat), Tls K ct H ds vs → Tls K ct H (ds.take n) (vs.take n)
  | [], _, n, h => by simp only [Tls] at h; subst h; simp [Tls]
  | d :: ds, _, 0, _ => by simp [Tls]
  | d :: ds, _, n + 1, h => by
    simp only [Tls] at h
    obtain ⟨v, r, rfl, h1, h2⟩ := h
    exact Tls.cons h1 (Tls.take n h2)
theorem Tls.drop {K : PySem.W.Frag} {ct : Ct} {H : Hp} : ∀ {ds : List D} {vs : List V} (n : Nat), Tls K ct H ds vs → Tls K ct H (ds.drop n) (vs.drop n)
  | [], _, n, h => by simp only [Tls] at h; subst h; simp [Tls]
  | d :: ds, _, 0, h => h
  | d :: ds, _, n + 1, h => by
    simp only [Tls] at h
    obtain ⟨v, r, rfl, h1, h2⟩ := h
    exact Tls.drop n h2
theorem Tls.set {K : PySem.W.Frag} {ct : Ct} {H : Hp} {d : D} {v : V} (q : Tl K ct H d v) : ∀ {ds : List D} {vs : List V} (n : Nat), Tls K ct H ds vs → Tls K ct H (ds.set n d) (vs.set n v)
  | [], _, n, h => by simp only [Tls] at h; subst h; simp [Tls]
  | _ :: ds, _, 0, h => by
    simp only [Tls] at h
    obtain ⟨w, r, rfl, _, h2⟩ := h
    exact Tls.cons q h2
  | _ :: ds, _, n + 1, h => by
    simp only [Tls] at h
    obtain ⟨w, r, rfl, h1, h2⟩ := h
    exact Tls.cons h1 (Tls.set q n h2)
end L4
end
section
set_option Elab.async false
set_option linter.all false
set_option maxRecDepth 100000
namespace L4
open PySem PySem.Spec PyProof.Rows L2
abbrev Fp := Addr → Prop
mutual
def Ow (K : PySem.W.Frag) (ct : Ct) (H : Hp) : M → V → Fp → Prop
  | .d x, v, _ => Tl K ct H x v
  | .l xs, v, S => ∃ a vs, v = .ref a ∧ S a ∧ H a = some (.lst vs) ∧ Tls K ct H xs vs
  | .n ms, v, S => ∃ a vs, v = .ref a ∧ S a ∧ H a = some (.lst vs) ∧ Ows K ct H ms vs fun b => S b ∧ b ≠ a
  | .t ms, v, S => ∃ a vs, v = .ref a ∧ H a = some (.tup vs) ∧ Ows K ct H ms vs S
  | .k ks xs, v, S => ∃ a vs, v = .ref a ∧ S a ∧ H a = some (.dK (ks.zip vs)) ∧ ks.length = vs.length ∧ Tls K ct H xs vs
  | .o c ns xs, v, S => ∃ a C dx vs, v = .ref a ∧ S a ∧ ct.f.cb.ins c = some C ∧ H a = some (.ins C dx (ns.zip vs)) ∧ ns.length = vs.length ∧ Tls K ct H xs vs
def Ows (K : PySem.W.Frag) (ct : Ct) (H : Hp) : List M → List V → Fp → Prop
  | [], vs, _ => vs = []
  | m :: ms, vs, S => ∃ v r S1 S2, vs = v :: r ∧ (∀ b, S1 b → S b) ∧ (∀ b, S2 b → S b) ∧ (∀ b, S1 b → ¬ S2 b) ∧ Ow K ct H m v S1 ∧ Ows K ct H ms r S2
end
section
variable {K : PySem.W.Frag} {ct ct' : Ct} {H H' : Hp}
mutual
/-- a wider place -/
theorem Ow.wide : ∀ {m : M} {v : V} {S T : Fp}, (∀ b, S b → T b) → Ow K ct H m v S → Ow K ct H m v T
  | .d x, v, S, T, _, h => by simpa [Ow] using h
  | .l xs, v, S, T, k, h => by
    simp only [Ow] at h ⊢
    obtain ⟨a, vs, h1, h2, h3⟩ := h
    exact ⟨a, vs, h1, k _ h2, h3⟩
  | .n ms, v, S, T, k, h => by
    simp only [Ow] at h ⊢
    obtain ⟨a, vs, h1, h2, h3, h4⟩ := h
    exact ⟨a, vs, h1, k _ h2, h3, Ows.wide (fun b z => ⟨k b z.1, z.2⟩) h4⟩
  | .t ms, v, S, T, k, h => by
    simp only [Ow] at h ⊢
    obtain ⟨a, vs, h1, h2, h3⟩ := h
    exact ⟨a, vs, h1, h2, Ows.wide k h3⟩
  | .k ks xs, v, S, T, k, h => by
    simp only [Ow] at h ⊢
    obtain ⟨a, vs, h1, h2, h3⟩ := h
    exact ⟨a, vs, h1, k _ h2, h3⟩
  | .o c ns xs, v, S, T, k, h => by
    simp only [Ow] at h ⊢
    obtain ⟨a, C, dx, vs, h1, h2, h3⟩ := h
    exact ⟨a, C, dx, vs, h1, k _ h2, h3⟩
theorem Ows.wide : ∀ {ms : List M} {vs : List V} {S T : Fp}, (∀ b, S b → T b) → Ows K ct H ms vs S → Ows K ct H ms vs T
  | [], vs, S, T, _, h => by simpa [Ows] using h
  | m :: ms, vs, S, T, k, h => by
    simp only [Ows] at h ⊢
    obtain ⟨v, r, S1, S2, h1, h2, h3, h4, h5, h6⟩ := h
    exact ⟨v, r, S1, S2, h1, fun b z => k b (h2 b z), fun b z => k b (h3 b z), h4, h5, h6⟩
end
mutual
/-- its places are untouched, the data are kept -/
theorem Ow.frame (e : Keep ct.f.cb H H') : ∀ {m : M} {v : V} {S : Fp}, (∀ b o, S b → H b = some o → H' b = some o) → Ow K ct H m v S → Ow K ct H' m v S
  | .d x, v, S, _, h => by simp only [Ow] at h ⊢; exact h.keep e
  | .l xs, v, S, k, h => by
    simp only [Ow] at h ⊢
    obtain ⟨a, vs, h1, h2, h3, h4⟩ := h
    exact ⟨a, vs, h1, h2, k _ _ h2 h3, h4.keep e⟩
  | .n ms, v, S, k, h => by
    simp only [Ow] at h ⊢
    obtain ⟨a, vs, h1, h2, h3, h4⟩ := h
    exact ⟨a, vs, h1, h2, k _ _ h2 h3, Ows.frame e (fun b o z => k b o z.1) h4⟩
  | .t ms, v, S, k, h => by
    simp only [Ow] at h ⊢
    obtain ⟨a, vs, h1, h2, h3⟩ := h
    exact ⟨a, vs, h1, e _ _ h2 trivial, Ows.frame e k h3⟩
  | .k ks xs, v, S, k, h => by
    simp only [Ow] at h ⊢
    obtain ⟨a, vs, h1, h2, h3, h4, h5⟩ := h
    exact ⟨a, vs, h1, h2, k _ _ h2 h3, h4, h5.keep e⟩
  | .o c ns xs, v, S, k, h => by
    simp only [Ow] at h ⊢
    obtain ⟨a, C, dx, vs, h1, h2, h3, h4, h5, h6⟩ := h
    exact ⟨a, C, dx, vs, h1, h2, h3, k _ _ h2 h4, h5, h6.keep e⟩
theorem Ows.frame (e : Keep ct.f.cb H H') : ∀ {ms : List M} {vs : List V} {S : Fp}, (∀ b o, S b → H b = some o → H' b = some o) → Ows K ct H ms vs S → Ows K ct H' ms vs S
  | [], vs, S, _, h => by simpa [Ows] using h
  | m :: ms, vs, S, k, h => by
    simp only [Ows] at h ⊢
    obtain ⟨v, r, S1, S2, h1, h2, h3, h4, h5, h6⟩ := h
    exact ⟨v, r, S1, S2, h1, h2, h3, h4, Ow.frame e (fun b o z => k b o (h2 b z)) h5, Ows.frame e (fun b o z => k b o (h3 b z)) h6⟩
end
mutual
/-- lent for an expression -/
theorem Ow.lend : ∀ {m : M} {v : V} {S : Fp}, (∀ b, S b → ct.B b = H b) → Ow K ct H m v S → Tl K ct H (lend m) v
  | .d x, v, S, _, h => by simpa only [Ow, L4.lend] using h
  | .l xs, v, S, k, h => by
    simp only [Ow, L4.lend, Tl] at h ⊢
    obtain ⟨a, vs, h1, h2, h3, h4⟩ := h
    exact ⟨a, vs, h1, (k a h2).trans h3, h4⟩
  | .n ms, v, S, k, h => by
    simp only [Ow, L4.lend, Tl] at h ⊢
    obtain ⟨a, vs, h1, h2, h3, h4⟩ := h
    exact ⟨a, vs, h1, (k a h2).trans h3, Ows.lend (fun b z => k b z.1) h4⟩
  | .t ms, v, S, k, h => by
    simp only [Ow, L4.lend, Tl] at h ⊢
    obtain ⟨a, vs, h1, h2, h3⟩ := h
    exact ⟨a, vs, h1, .inl (.inl h2), Ows.lend k h3⟩
  | .k ks xs, v, S, k, h => by
    simp only [Ow, L4.lend, Tl] at h ⊢
    obtain ⟨a, vs, h1, h2, h3, h4, h5⟩ := h
    exact ⟨a, vs, h1, (k a h2).trans h3, h4, h5⟩
  | .o c ns xs, v, S, k, h => by
    simp only [Ow, L4.lend, Tl] at h ⊢
    obtain ⟨a, C, dx, vs, h1, h2, h3, h4, h5, h6⟩ := h
    exact ⟨a, C, dx, vs, h1, h3, (k a h2).trans h4, h5, h6⟩
theorem Ows.lend : ∀ {ms : List M} {vs : List V} {S : Fp}, (∀ b, S b → ct.B b = H b) → Ows K ct H ms vs S → Tls K ct H (lends ms) vs
  | [], vs, S, _, h => by simpa [Ows, L4.lends, Tls] using h
  | m :: ms, vs, S, k, h => by
    simp only [Ows, L4.lends, Tls] at h ⊢
    obtain ⟨v, r, S1, S2, h1, h2, h3, h4, h5, h6⟩ := h
    exact ⟨v, r, h1, Ow.lend (fun b z => k b (h2 b z)) h5, Ows.lend (fun b z => k b (h3 b z)) h6⟩
end
mutual
/-- the data in it told otherwise -/
theorem Ow.map {p : D → Bool} (ec : ct'.f.cb = ct.f.cb) (g : ∀ d v, p d = true → Tl K ct H d v → Tl K ct' H d v) {q : List D → Bool} (gs : ∀ d v, q d = true → Tls K ct H d v → Tls K ct' H d v) {pm : M → Bool} {pms : List M → Bool}
    (e1 : ∀ x, pm (.d x) = true → p x = true) (e2 : ∀ x, pm (.l x) = true → q x = true) (e3 : ∀ x, pm (.n x) = true → pms x = true) (e4 : ∀ x, pm (.t x) = true → pms x = true) (e5 : ∀ k x, pm (.k k x) = true → q x = true) (e7 : ∀ c k x, pm (.o c k x) = true → q x = true)
    (e6 : ∀ m ms, pms (m :: ms) = true → pm m = true ∧ pms ms = true) : ∀ {m : M} {v : V} {S : Fp}, pm m = true → Ow K ct H m v S → Ow K ct' H m v S
  | .d x, v, S, z, h => by simp only [Ow] at h ⊢; exact g _ _ (e1 _ z) h
  | .l xs, v, S, z, h => by
    simp only [Ow] at h ⊢
    obtain ⟨a, vs, h1, h2, h3, h4⟩ := h
    exact ⟨a, vs, h1, h2, h3, gs _ _ (e2 _ z) h4⟩
  | .n ms, v, S, z, h => by
    simp only [Ow] at h ⊢
    obtain ⟨a, vs, h1, h2, h3, h4⟩ := h
    exact ⟨a, vs, h1, h2, h3, Ows.map ec g gs e1 e2 e3 e4 e5 e7 e6 (e3 _ z) h4⟩
  | .t ms, v, S, z, h => by
    simp only [Ow] at h ⊢
    obtain ⟨a, vs, h1, h2, h3⟩ := h
    exact ⟨a, vs, h1, h2, Ows.map ec g gs e1 e2 e3 e4 e5 e7 e6 (e4 _ z) h3⟩
  | .k ks xs, v, S, z, h => by
    simp only [Ow] at h ⊢
    obtain ⟨a, vs, h1, h2, h3, h4, h5⟩ := h
    exact ⟨a, vs, h1, h2, h3, h4, gs _ _ (e5 _ _ z) h5⟩
  | .o c ns xs, v, S, z, h => by
    simp only [Ow] at h ⊢
    obtain ⟨a, C, dx, vs, h1, h2, h3, h4, h5, h6⟩ := h
    exact ⟨a, C, dx, vs, h1, h2, by rw [ec]; exact h3, h4, h5, gs _ _ (e7 _ _ _ z) h6⟩
theorem Ows.map {p : D → Bool} (ec : ct'.f.cb = ct.f.cb) (g : ∀ d v, p d = true → Tl K ct H d v → Tl K ct' H d v) {q : List D → Bool} (gs : ∀ d v, q d = true → Tls K ct H d v → Tls K ct' H d v) {pm : M → Bool} {pms : List M → Bool}
    (e1 : ∀ x, pm (.d x) = true → p x = true) (e2 : ∀ x, pm (.l x) = true → q x = true) (e3 : ∀ x, pm (.n x) = true → pms x = true) (e4 : ∀ x, pm (.t x) = true → pms x = true) (e5 : ∀ k x, pm (.k k x) = true → q x = true) (e7 : ∀ c k x, pm (.o c k x) = true → q x = true)
    (e6 : ∀ m ms, pms (m :: ms) = true → pm m = true ∧ pms ms = true) : ∀ {ms : List M} {vs : List V} {S : Fp}, pms ms = true → Ows K ct H ms vs S → Ows K ct' H ms vs S
  | [], vs, S, _, h => by simpa [Ows] using h
  | m :: ms, vs, S, z, h => by
    simp only [Ows] at h ⊢
    obtain ⟨v, r, S1, S2, h1, h2, h3, h4, h5, h6⟩ := h
    exact ⟨v, r, S1, S2, h1, h2, h3, h4, Ow.map ec g gs e1 e2 e3 e4 e5 e7 e6 (e6 _ _ z).1 h5, Ows.map ec g gs e1 e2 e3 e4 e5 e7 e6 (e6 _ _ z).2 h6⟩
end
end
section
variable {K : PySem.W.Frag} {c : Cf} {B H : Hp} {m : M} {v : V} {S : Fp}
theorem Ow.lift (h : Ow K c.z H m v S) : Ow K (c.at' B) H m v S :=
  Ow.map (ct := c.z) (ct' := c.at' B) (p := fun _ => true) rfl (fun _ _ _ => Tl.lift) (q := fun _ => true) (fun _ _ _ => Tls.lift) (pm := fun _ => true) (pms := fun _ => true) (fun _ _ => rfl) (fun _ _ => rfl) (fun _ _ => rfl) (fun _ _ => rfl) (fun _ _ _ => rfl) (fun _ _ _ _ => rfl) (fun _ _ _ => ⟨rfl, rfl⟩) rfl h
theorem Ow.down {tm : Bool} (h : Ow K ⟨c, B, tm⟩ H m v S) (n : ntM m = true) : Ow K c.z H m v S :=
  Ow.map (ct := ⟨c, B, tm⟩) (ct' := c.z) (p := nt) rfl (fun _ _ n h => h.down n) (q := nts) (fun _ _ n h => h.down n) (pm := ntM) (pms := ntMs) (fun _ z => by simpa [ntM] using z) (fun _ z => by simpa [ntM] using z) (fun _ z => by simpa [ntM] using z) (fun _ z => by simpa [ntM] using z) (fun _ _ z => by simpa [ntM] using z) (fun _ _ _ z => by simpa [ntM] using z)
    (fun _ _ z => by simpa [ntMs] using z) n h
theorem Ow.bare {ct ct' : Ct} (e : ct'.f.cb = ct.f.cb) (h : Ow K ct H m v S) (n : nbM m = true) : Ow K ct' H m v S :=
  Ow.map (p := nb) e (fun _ _ n h => h.bare e n) (q := nbs) (fun _ _ n h => h.bare e n) (pm := nbM) (pms := nbMs) (fun _ z => by simpa [nbM] using z) (fun _ z => by simpa [nbM] using z) (fun _ z => by simpa [nbM] using z) (fun _ z => by simpa [nbM] using z) (fun _ _ z => by simpa [nbM] using z) (fun _ _ _ z => by simpa [nbM] using z)
    (fun _ _ z => by simpa [nbMs] using z) n h
end
structure SOk (ct : Ct) (H₀ H : Hp) (S : Fp) : Prop where
  new : ∀ b, S b → H₀ b = none ∨ ct.f.io b
  here : ∀ b, S b → H b ≠ none
  notL : ∀ b, S b → ct.f.L b = none
  lent : ∀ b, S b → ct.tm = true → ct.B b = H b
def SlotOk (K : PySem.W.Frag) (ct : Ct) (H₀ H : Hp) (i : Nat) (S : Fp) : Slot → Option V → Prop
  | .no, _ => ∀ b, ¬ S b
  | .val d, ov => (∃ v, ov = some v ∧ Tl K ct H d v) ∧ ∀ b, ¬ S b
  | .own m, ov => ∃ v, ov = some v ∧ Ow K ct H m v S ∧ SOk ct H₀ H S ∧ ∀ b, S b → H₀ b = none
  | .par m, ov => ∃ v, ov = some v ∧ Ow K ct H m v S ∧ SOk ct H₀ H S ∧ ct.f.args[i]? = some v
structure J (K : PySem.W.Frag) (ct : Ct) (H₀ : Hp) (Γ : Sg) (σ : St) (H : Hp) : Prop where
  same : ∀ b o, H₀ b = some o → ¬ ct.f.io b → H b = some o
  free : ∀ b, H b = none → H₀ b = none
  lL : Same ct.f.L H
  lB : Same ct.B H
  len : Γ.length = σ.length
  sl : ∃ S : Nat → Fp, (∀ i sl ov, Γ[i]? = some sl → σ[i]? = some ov → SlotOk K ct H₀ H i (S i) sl ov) ∧ (∀ i j b, i ≠ j → S i b → ¬ S j b) ∧ ∀ i b, S i b → H b ≠ none
section
variable {K : PySem.W.Frag} {ct : Ct} {H₀ H H' : Hp} {Γ : Sg} {σ : St} {i : Nat} {S : Fp} {sl : Slot} {ov : Option V}
theorem SOk.same (h : SOk ct H₀ H S) (e : Same H H') : SOk ct H₀ H' S := ⟨h.new, fun b z q => h.here b z (by
    cases w : H b with
    | none => rfl
    | some o => rw [e b o w] at q; cases q), h.notL, fun b z t => by
  rw [h.lent b z t]
  cases w : H b with
  | none => exact absurd w (h.here b z)
  | some o => exact (e b o w).symm⟩
theorem SlotOk.same (h : SlotOk K ct H₀ H i S sl ov) (e : Same H H') : SlotOk K ct H₀ H' i S sl ov := by
  cases sl with
  | no => exact h
  | val d => obtain ⟨⟨v, h1, h2⟩, h3⟩ := h; exact ⟨⟨v, h1, h2.keep (Same.keep e)⟩, h3⟩
  | own m => obtain ⟨v, h1, h2, h3, h4⟩ := h; exact ⟨v, h1, h2.frame (Same.keep e) (fun b o _ q => e b o q), h3.same e, h4⟩
  | par m => obtain ⟨v, h1, h2, h3, h4⟩ := h; exact ⟨v, h1, h2.frame (Same.keep e) (fun b o _ q => e b o q), h3.same e, h4⟩
theorem J.mono (j : J K ct H₀ Γ σ H) (e : Same H H') : J K ct H₀ Γ σ H' := by
  obtain ⟨S, h1, h2, h3⟩ := j.sl
  exact ⟨fun b o q n => e b o (j.same b o q n), fun b q => j.free b (e.free q), j.lL.trans e, j.lB.trans e, j.len, S, fun i sl ov g1 g2 => (h1 i sl ov g1 g2).same e, h2, fun i b w q => h3 i b w (e.free q)⟩
theorem J.get (j : J K ct H₀ Γ σ H) (h : Γ[i]? = some sl) : ∃ ov S, σ[i]? = some ov ∧ SlotOk K ct H₀ H i S sl ov := by
  have hi : i < σ.length := by rw [← j.len]; exact (List.getElem?_eq_some_iff.mp h).1
  obtain ⟨S, h1, h2⟩ := j.sl
  exact ⟨σ[i], S i, List.getElem?_eq_getElem hi, h1 i sl _ h (List.getElem?_eq_getElem hi)⟩
theorem J.val {d : D} (j : J K ct H₀ Γ σ H) (h : Γ[i]? = some (.val d)) : ∃ v, σ[i]? = some (some v) ∧ Tl K ct H d v := by
  obtain ⟨ov, S, h1, ⟨v, h2, h3⟩, _⟩ := j.get h
  exact ⟨v, by rw [h1, h2], h3⟩
theorem J.own {m : M} (j : J K ct H₀ Γ σ H) (h : Γ[i]? = some (.own m)) : ∃ v S, σ[i]? = some (some v) ∧ Ow K ct H m v S ∧ SOk ct H₀ H S ∧ ∀ b, S b → H₀ b = none := by
  obtain ⟨ov, S, h1, v, h2, h3⟩ := j.get h
  exact ⟨v, S, by rw [h1, h2], h3⟩
theorem J.par {m : M} (j : J K ct H₀ Γ σ H) (h : Γ[i]? = some (.par m)) : ∃ v S, σ[i]? = some (some v) ∧ Ow K ct H m v S ∧ SOk ct H₀ H S ∧ ct.f.args[i]? = some v := by
  obtain ⟨ov, S, h1, v, h2, h3⟩ := j.get h
  exact ⟨v, S, by rw [h1, h2], h3⟩
theorem J.lift {c : Cf} (j : J K c.z H₀ Γ σ H) : J K (c.at' H) H₀ Γ σ H := by
  obtain ⟨S, h1, h2⟩ := j.sl
  refine ⟨j.same, j.free, j.lL, Same.refl H, j.len, S, fun i sl ov g1 g2 => ?_, h2⟩
  have h := h1 i sl ov g1 g2
  cases sl with
  | no => exact h
  | val d => obtain ⟨⟨v, h1, h2⟩, h3⟩ := h; exact ⟨⟨v, h1, h2.lift⟩, h3⟩
  | own m => obtain ⟨v, h1, h2, h3, h4⟩ := h; exact ⟨v, h1, h2.lift, ⟨h3.new, h3.here, h3.notL, fun _ _ _ => rfl⟩, h4⟩
  | par m => obtain ⟨v, h1, h2, h3, h4⟩ := h; exact ⟨v, h1, h2.lift, ⟨h3.new, h3.here, h3.notL, fun _ _ _ => rfl⟩, h4⟩
theorem J.chg (j : J K ct H₀ Γ σ H) (i : Nat) : ∃ S : Fp, (∀ sl ov, Γ[i]? = some sl → σ[i]? = some ov → SlotOk K ct H₀ H i S sl ov) ∧
    ∀ (H' : Hp) (sl : Slot) (ov : Option V) (S' : Fp), Keep ct.f.cb H H' → (∀ b o, H b = some o → ¬ S b → H' b = some o) → (∀ b, H' b = none → H b = none) →
      Same ct.B H' → SlotOk K ct H₀ H' i S' sl ov → (∀ b, S' b → S b ∨ H b = none) → J K ct H₀ (Γ.set i sl) (σ.set i ov) H' := by
  obtain ⟨S, h1, h2, h3⟩ := j.sl
  by_cases hi : i < Γ.length
  · refine ⟨S i, fun sl ov g1 g2 => h1 i sl ov g1 g2, fun H' sl ov S' kp hs hf hB new hS' => ?_⟩
    have hiσ : i < σ.length := by rw [← j.len]; exact hi
    -- the places of i, if it has some
    have q := h1 i Γ[i] σ[i] (List.getElem?_eq_getElem hi) (List.getElem?_eq_getElem hiσ)
    have so : (∀ b, S i b → H₀ b = none ∨ ct.f.io b) ∧ ∀ b, S i b → ct.f.L b = none := by
      generalize Γ[i] = sl0 at q
      cases sl0 with
      | no => exact ⟨fun b z => absurd z (q b), fun b z => absurd z (q b)⟩
      | val d => exact ⟨fun b z => absurd z (q.2 b), fun b z => absurd z (q.2 b)⟩
      | own m => obtain ⟨v, _, _, h3, _⟩ := q; exact ⟨h3.new, h3.notL⟩
      | par m => obtain ⟨v, _, _, h3, _⟩ := q; exact ⟨h3.new, h3.notL⟩
    refine ⟨fun b o e n => ?_, fun b e => j.free b (hf b e), fun b o e => ?_, fun b o e => ?_, by simp [j.len], fun k => if k = i then S' else S k, fun k sl' ov' g1 g2 => ?_, fun k l b hkl => ?_, fun k b w => ?_⟩
    · have := j.same b o e n
      refine hs b o this fun z => ?_
      rcases so.1 b z with w | w
      · rw [w] at e; cases e
      · exact n w
    · exact hs b o (j.lL b o e) fun z => by rw [so.2 b z] at e; cases e
    · exact hB b o e
    · by_cases e : i = k
      · subst e
        rw [List.getElem?_set_self hi] at g1
        rw [List.getElem?_set_self hiσ] at g2
        cases g1; cases g2
        simpa using new
      · rw [List.getElem?_set_ne e] at g1 g2
        have ek : ¬ k = i := fun z => e z.symm
        simp only [ek, if_false]
        have z := h1 k sl' ov' g1 g2
        have un : ∀ b o, S k b → H b = some o → H' b = some o := fun b o w q => hs b o q fun w' => h2 k i b ek w w'
        have sok : SOk ct H₀ H (S k) → SOk ct H₀ H' (S k) := fun s => ⟨s.new, fun b w q => s.here b w (hf b q), s.notL, fun b w t => by
          rw [s.lent b w t]
          cases x : H b with
          | none => exact absurd x (s.here b w)
          | some o => exact (un b o w x).symm⟩
        cases sl' with
        | no => exact z
        | val d => obtain ⟨⟨v, z1, z2⟩, z3⟩ := z; exact ⟨⟨v, z1, z2.keep kp⟩, z3⟩
        | own m => obtain ⟨v, z1, z2, z3, z4⟩ := z; exact ⟨v, z1, z2.frame kp un, sok z3, z4⟩
        | par m => obtain ⟨v, z1, z2, z3, z4⟩ := z; exact ⟨v, z1, z2.frame kp un, sok z3, z4⟩
    · -- apart
      have far : ∀ l b, ¬ l = i → S' b → ¬ S l b := fun l b hl w w' => by
        rcases hS' b w with u | u
        · exact h2 l i b hl w' u
        · exact h3 l b w' u
      by_cases e1 : k = i
      · subst e1
        have e2 : ¬ l = k := fun z => hkl z.symm
        simp only [if_true, e2, if_false]
        exact far l b e2
      · by_cases e2 : l = i
        · subst e2
          simp only [e1, if_false, if_true]
          exact fun w w' => far k b e1 w' w
        · simp only [e1, e2, if_false]
          exact h2 k l b hkl
    · by_cases e : k = i
      · subst e
        simp only [if_true] at w
        cases sl with
        | no => exact absurd w (new b)
        | val d => exact absurd w (new.2 b)
        | own m => obtain ⟨v, _, _, z, _⟩ := new; exact z.here b w
        | par m => obtain ⟨v, _, _, z, _⟩ := new; exact z.here b w
      · simp only [e, if_false] at w
        exact fun q => h3 k b w (hf b q)
  · refine ⟨fun _ => False, fun sl ov g1 g2 => ?_, fun H' sl ov S' kp hs hf hB new hS' => ?_⟩
    · rw [List.getElem?_eq_none (Nat.le_of_not_lt hi)] at g1; cases g1
    · rw [List.set_eq_of_length_le (Nat.le_of_not_lt hi), List.set_eq_of_length_le (by rw [← j.len]; exact Nat.le_of_not_lt hi)]
      exact j.mono fun b o q => hs b o q fun z => z
theorem J.set {d : D} {v : V} (j : J K ct H₀ Γ σ H) (h : Tl K ct H d v) : J K ct H₀ (Γ.set i (.val d)) (σ.set i (some v)) H := by
  obtain ⟨S, _, h2⟩ := j.chg i
  exact h2 H _ _ (fun _ => False) (Keep.refl H) (fun _ _ q _ => q) (fun _ q => q) j.lB ⟨⟨v, rfl, h⟩, fun _ z => z⟩ fun _ z => z.elim
theorem J.unset (j : J K ct H₀ Γ σ H) : J K ct H₀ (Γ.set i .no) (σ.set i ov) H := by
  obtain ⟨S, _, h2⟩ := j.chg i
  exact h2 H _ _ (fun _ => False) (Keep.refl H) (fun _ _ q _ => q) (fun _ q => q) j.lB (fun _ z => z) fun _ z => z.elim
theorem J.weak {Γ1 : Sg} (j : J K ct H₀ Γ1 σ H) (hl : Γ1.length = Γ.length) (h : ∀ i : Nat, Γ[i]? = some .no ∨ Γ[i]? = Γ1[i]?) : J K ct H₀ Γ σ H := by
  obtain ⟨S, h1, h2, h3⟩ := j.sl
  refine ⟨j.same, j.free, j.lL, j.lB, by rw [← hl]; exact j.len, fun i b => S i b ∧ Γ[i]? = Γ1[i]? ∧ Γ[i]? ≠ some .no, fun i sl ov g1 g2 => ?_, fun i k b e w w' => h2 i k b e w.1 w'.1, fun i b w => h3 i b w.1⟩
  by_cases e : sl = .no
  · subst e; exact fun b w => w.2.2 g1
  · have e1 : Γ[i]? = Γ1[i]? := by
      rcases h i with z | z
      · rw [z] at g1; cases g1; exact absurd rfl e
      · exact z
    have q := h1 i sl ov (e1 ▸ g1) g2
    have eS : (fun b => S i b ∧ Γ[i]? = Γ1[i]? ∧ Γ[i]? ≠ some .no) = S i := funext fun b => propext ⟨fun w => w.1, fun w => ⟨w, e1, by rw [g1]; exact fun z => e (Option.some.inj z)⟩⟩
    show SlotOk K ct H₀ H i (fun b => S i b ∧ Γ[i]? = Γ1[i]? ∧ Γ[i]? ≠ some .no) sl ov
    rw [eS]; exact q
theorem J.touch (j : J K ct H₀ Γ σ H) (n : noML Γ) (k : Keep ct.f.cb H H') (s : ∀ b o, H₀ b = some o → ¬ ct.f.io b → H' b = some o) (f : ∀ b, H' b = none → H₀ b = none) (l : Same ct.f.L H') (b : Same ct.B H') : J K ct H₀ Γ σ H' := by
  obtain ⟨S, h1, h2, h3⟩ := j.sl
  refine ⟨s, f, l, b, j.len, fun _ _ => False, fun i sl ov g1 g2 => ?_, fun _ _ _ _ z => z.elim, fun _ _ z => z.elim⟩
  have q := h1 i sl ov g1 g2
  cases sl with
  | no => exact fun _ z => z
  | val d => obtain ⟨⟨v, q1, q2⟩, _⟩ := q; exact ⟨⟨v, q1, q2.keep k⟩, fun _ z => z⟩
  | own m => exact absurd g1 (n i m).1
  | par m => exact absurd g1 (n i m).2
theorem Tl.seqL {d : D} {v : V} {ds : List D} (l : Same ct.f.L H) (b : Same ct.B H) (h : Tl K ct H d v) (e : asL d = some ds) : ∃ a vs, v = .ref a ∧ SqL K H a vs ∧ Tls K ct H ds vs := by
  cases d with
  | lst xs =>
    cases e
    simp only [Tl] at h
    obtain ⟨a, vs, h1, h2, h3⟩ := h
    exact ⟨a, vs, h1, h2.sq, h3⟩
  | bor t xs =>
    cases e
    simp only [Tl] at h
    obtain ⟨a, vs, h1, h2, h3⟩ := h
    refine ⟨a, vs, h1, .inl (.inl ?_), h3⟩
    cases t with
    | true => exact b a _ h2
    | false => exact l a _ h2
  | _ => cases e
end
end L4
end
section
set_option Elab.async false
set_option linter.all false
set_option maxRecDepth 100000
namespace L4
open PySem PySem.Spec PyProof.Rows L2
def CX1 (P : Program) (w : World) : CXT := fun outer H s E e s' => ∃ (a C : Addr) (H' : Hp) (B : Heap) (a0 : Value), e = .ref a ∧ E (.ref C) none H' ∧ s'.os = s.os ∧ AllBare s'.gens ∧ Heap.FlyingW B outer a (.ref C) a0 s'.heap ∧
  H' a = none ∧ s.heap.get? a = none ∧ ∀ h' : Heap, B.StaysIn h' → s'.heap.UpToSlots h' → Un (frs outer) [] H H' s.heap h' ∧ HOk P w H' h'
def RaisedAt (X : Cx) (cb : Cb) (σ : St) (H : Hp) (c : String) (e : Value) (s' : Shared) : Prop :=
  ∃ (pins : List (Addr × Obj)) (H1 : Hp) (s1 : Shared) (C : Addr), Inv X pins σ H1 s1 ∧ Same H H1 ∧ cb.exc c = some C ∧
    ((∃ (a : Addr) (args : List Value) (h' : Heap), e = .ref a ∧ s' = { s1 with heap := h' } ∧ Heap.MadeExcOf s1.heap h' a (.ref C) args) ∨
     CX1 X.prog X.w X.stack H1 s1 (fun cls od H' => cls = .ref C ∧ od = none ∧ Same H1 H') e s')
theorem RaisedAt.mono {X : Cx} {cb : Cb} {σ : St} {H H2 : Hp} {c : String} {e : Value} {s' : Shared} (s : Same H H2) (h : RaisedAt X cb σ H2 c e s') : RaisedAt X cb σ H c e s' := by
  obtain ⟨pins, H1, s1, C, h1, h2, h3⟩ := h
  exact ⟨pins, H1, s1, C, h1, s.trans h2, h3⟩
def Ok {α : Type} (X : Cx) (ct : Ct) (σ : St) (H : Hp) (r : Res α) (W : α → Prop) : Prop := match r with
  | .ok d => W d
  | .err c => ∀ e s', RaisedAt X ct.f.cb σ H c e s' → X.xe e s'
  | .bad => False
theorem Ok.mono {α : Type} {X : Cx} {ct : Ct} {σ : St} {H H2 : Hp} {r : Res α} {W W' : α → Prop} (s : Same H H2) (h : Ok X ct σ H r W) (k : ∀ d, W d → W' d) : Ok X ct σ H2 r W' := by
  cases r with
  | ok d => exact k d h
  | err c => exact fun e s' q => h e s' (q.mono s)
  | bad => exact h
theorem Ok.bnd {α β : Type} {X : Cx} {ct : Ct} {σ : St} {H : Hp} {r : Res α} {f : α → Res β} {W : β → Prop} {W' : α → Prop} (h : Ok X ct σ H (r.bnd f) W) (k : ∀ d, r = .ok d → Ok X ct σ H (f d) W → W' d) : Ok X ct σ H r W' := by
  cases r with
  | ok d => exact k d rfl h
  | err c => exact h
  | bad => exact h
def Wd (X : Cx) (ct : Ct) (H : Hp) (Q : VK) (d : D) : Prop := ∀ v H', Same H H' → Tl X.K ct H' d v → Q v H'
def Wl (X : Cx) (ct : Ct) (H : Hp) (Q : VK) (ds : List D) : Prop := ∀ a vs H', Same H H' → H a = none → H' a = some (.lst vs) → Tls X.K ct H' ds vs → Q (.ref a) H'
def Wm (X : Cx) (ct : Ct) (H : Hp) (Q : VK) (m : M) : Prop := ∀ v H' S, Same H H' → Ow X.K ct H' m v S → (∀ b, S b → H b = none) → (∀ b, S b → H' b ≠ none) → Q v H'
def Wt (H : Hp) (Q : Bool → Hp → Prop) (b : Bool) : Prop := ∀ H', Same H H' → Q b H'
def Wa (X : Cx) (ct : Ct) (H : Hp) (Q : List V → Hp → Prop) (ds : List D) : Prop := ∀ vs H', Same H H' → Tls X.K ct H' ds vs → Q vs H'
abbrev Jx (X : Cx) (ct : Ct) (Γ : Sg) (σ : St) (H : Hp) : Prop := J X.K ct X.H₀ Γ σ H
def eOf (X : Cx) (ct : Ct) (f : Sg → Res D) : TE := fun σ H Q => ∃ Γ, Jx X ct Γ σ H ∧ Ok X ct σ H (f Γ) (Wd X ct H Q)
def lOf (X : Cx) (ct : Ct) (f : Sg → Res (List D)) : TE := fun σ H Q => ∃ Γ, Jx X ct Γ σ H ∧ Ok X ct σ H (f Γ) (Wl X ct H Q)
def mOf (X : Cx) (ct : Ct) (f : Sg → Res M) : TE := fun σ H Q => ∃ Γ, Jx X ct Γ σ H ∧ Ok X ct σ H (f Γ) (Wm X ct H Q)
def cOf (X : Cx) (ct : Ct) (f : Sg → Res Bool) : TT := fun σ H Q => ∃ Γ, Jx X ct Γ σ H ∧ Ok X ct σ H (f Γ) (Wt H Q)
def aOf (X : Cx) (ct : Ct) (f : Sg → Res (List D)) : TA := fun σ H Q => ∃ Γ, Jx X ct Γ σ H ∧ Ok X ct σ H (f Γ) (Wa X ct H Q)
abbrev PD (X : Cx) (ct : Ct) (e : Expr) (f : Sg → Res D) : Prop := PE X e (eOf X ct f)
abbrev PL (X : Cx) (ct : Ct) (e : Expr) (f : Sg → Res (List D)) : Prop := PE X e (lOf X ct f)
abbrev PM (X : Cx) (ct : Ct) (e : Expr) (f : Sg → Res M) : Prop := PE X e (mOf X ct f)
abbrev PDT (X : Cx) (ct : Ct) (e : Expr) (f : Sg → Res Bool) : Prop := PT X e (cOf X ct f)
abbrev PDW (X : Cx) (ct : Ct) (e : Expr) (f : Sg → Res Bool) : Prop := PW X e (cOf X ct f)
abbrev PDA (X : Cx) (ct : Ct) (es : List Expr) (f : Sg → Res (List D)) : Prop := PA X es (aOf X ct f)
structure Bk (X : Cx) (c : Cf) (H' : Hp) : Prop where
  same : ∀ b o, X.H₀ b = some o → ¬ c.io b → H' b = some o
  free : ∀ b, H' b = none → X.H₀ b = none
theorem J.bk {X : Cx} {ct : Ct} {Γ : Sg} {σ : St} {H : Hp} (j : Jx X ct Γ σ H) : Bk X ct.f H := ⟨j.same, j.free⟩
def Fn (X : Cx) (c : Cf) (H : Hp) (o : Out) (E : Ends) : Prop := match o with
  | .nx Γ => ∀ σ' H', Keep c.cb H H' → Jx X c.z Γ σ' H' → E.nx σ' H'
  | .bk Γ => ∀ σ' H', Keep c.cb H H' → Jx X c.z Γ σ' H' → E.bk σ' H'
  | .ct Γ => ∀ σ' H', Keep c.cb H H' → Jx X c.z Γ σ' H' → E.ct σ' H'
  | .rt d => ∀ v H', Bk X c H' → Tl X.K c.z H' d v → E.rt v H'
  | .rtm m => ∀ v H' S, Bk X c H' → Ow X.K c.z H' m v S → (∀ b, S b → X.H₀ b = none) → (∀ b, S b → H' b ≠ none) → E.rt v H'
  | .rtG d Γ => ∀ v σ' H', Jx X c.z Γ σ' H' → Tl X.K c.z H' d v → E.rt v H'
  | .rtmG _ _ => False
  | .err x Γ => ∀ σ' H' e s', Keep c.cb H H' → Jx X c.z Γ σ' H' → RaisedAt X c.cb σ' H' x e s' → X.xe e s'
  | .bad => False
theorem Fn.mono {X : Cx} {c : Cf} {H H2 : Hp} {o : Out} {E : Ends} (k : Keep c.cb H H2) (h : Fn X c H o E) : Fn X c H2 o E := by
  cases o with
  | nx Γ => exact fun σ' H' e => h σ' H' (k.trans e)
  | bk Γ => exact fun σ' H' e => h σ' H' (k.trans e)
  | ct Γ => exact fun σ' H' e => h σ' H' (k.trans e)
  | rt d => exact h
  | rtm m => exact h
  | rtG d Γ => exact h
  | rtmG m Γ => exact h
  | err x Γ => exact fun σ' H' e s' q => h σ' H' e s' (k.trans q)
  | bad => exact h
def sOf (X : Cx) (c : Cf) (F : Sg → Out) : TS := fun E σ H => ∃ Γ, Jx X c.z Γ σ H ∧ Fn X c H (F Γ) E
abbrev PDS (X : Cx) (c : Cf) (st : Stmt) (F : Sg → Out) : Prop := PS X st (sOf X c F)
abbrev PDSs (X : Cx) (c : Cf) (sts : List Stmt) (F : Sg → Out) : Prop := PSs X sts (sOf X c F)
structure WE (X : Cx) (e : Expr) (t : TE) : Prop where
  out : PE X e t
structure WT (X : Cx) (e : Expr) (t : TT) : Prop where
  out : PT X e t
structure WW (X : Cx) (e : Expr) (t : TT) : Prop where
  out : PW X e t
structure WA (X : Cx) (es : List Expr) (t : TA) : Prop where
  out : PA X es t
structure WS (X : Cx) (st : Stmt) (t : TS) : Prop where
  out : PS X st t
structure WSs (X : Cx) (st : List Stmt) (t : TS) : Prop where
  out : PSs X st t
abbrev WD (X : Cx) (ct : Ct) (e : Expr) (f : Sg → Res D) : Prop := WE X e (eOf X ct f)
abbrev WL (X : Cx) (ct : Ct) (e : Expr) (f : Sg → Res (List D)) : Prop := WE X e (lOf X ct f)
abbrev WM (X : Cx) (ct : Ct) (e : Expr) (f : Sg → Res M) : Prop := WE X e (mOf X ct f)
abbrev WDT (X : Cx) (ct : Ct) (e : Expr) (f : Sg → Res Bool) : Prop := WT X e (cOf X ct f)
abbrev WDW (X : Cx) (ct : Ct) (e : Expr) (f : Sg → Res Bool) : Prop := WW X e (cOf X ct f)
abbrev WDA (X : Cx) (ct : Ct) (es : List Expr) (f : Sg → Res (List D)) : Prop := WA X es (aOf X ct f)
abbrev WDS (X : Cx) (c : Cf) (st : Stmt) (F : Sg → Out) : Prop := WS X st (sOf X c F)
abbrev WDSs (X : Cx) (c : Cf) (sts : List Stmt) (F : Sg → Out) : Prop := WSs X sts (sOf X c F)
theorem wa_nil {X : Cx} : WA X [] tNil := ⟨pa_nil⟩
theorem wa_cons {X : Cx} {e : Expr} {es : List Expr} {te : TE} {t : TA} (ha : WE X e te) (hr : WA X es t) (hs : starEach (e :: es) X.env = (false, eval e X.env) :: starEach es X.env := by rfl) : WA X (e :: es) (tCons te t) := ⟨pa_cons ha.out hr.out hs⟩
section
variable {X : Cx} {ct : Ct} {a b e : Expr} {f g : Sg → Res D} {H : Hp} {Γ : Sg} {σ : St} {pos : Pos}
theorem PE.imp {t u : TE} (h : PE X e t) (k : ∀ σ H Q, u σ H Q → t σ H Q) : PE X e u := fun pins s σ H Q I q => h pins s σ H Q I (k σ H Q q)
theorem PT.imp {t u : TT} (h : PT X e t) (k : ∀ σ H Q, u σ H Q → t σ H Q) : PT X e u := fun pins s σ H Q I q => h pins s σ H Q I (k σ H Q q)
theorem PW.imp {t u : TT} (h : PW X e t) (k : ∀ σ H Q, u σ H Q → t σ H Q) : PW X e u := fun wh pins s σ H Q I q => h wh pins s σ H Q I (k σ H Q q)
theorem PA.imp {es : List Expr} {t u : TA} (h : PA X es t) (k : ∀ σ H Q, u σ H Q → t σ H Q) : PA X es u := fun pos pins s σ H Q I q => h pos pins s σ H Q I (k σ H Q q)
theorem PS.imp {st : Stmt} {t u : TS} (h : PS X st t) (k : ∀ E σ H, u E σ H → t E σ H) : PS X st u := fun pins s σ H E I q => h pins s σ H E I (k E σ H q)
theorem PSs.imp {st : List Stmt} {t u : TS} (h : PSs X st t) (k : ∀ E σ H, u E σ H → t E σ H) : PSs X st u := fun pins s σ H E I q => h pins s σ H E I (k E σ H q)
theorem eOf.bnd {β : Type} {r : D → Res β} {W : β → Prop} {Q : VK} (j : Jx X ct Γ σ H) (h : Ok X ct σ H ((f Γ).bnd r) W)
    (k : ∀ d v H', Same H H' → Tl X.K ct H' d v → Jx X ct Γ σ H' → Ok X ct σ H (r d) W → Q v H') : eOf X ct f σ H Q :=
  ⟨Γ, j, h.bnd fun d _ q v H' s t => k d v H' s t (j.mono s) q⟩
theorem aOf.bnd {fa : Sg → Res (List D)} {β : Type} {r : List D → Res β} {W : β → Prop} {Q : List V → Hp → Prop} (j : Jx X ct Γ σ H) (h : Ok X ct σ H ((fa Γ).bnd r) W)
    (k : ∀ d v H', Same H H' → Tls X.K ct H' d v → Jx X ct Γ σ H' → Ok X ct σ H (r d) W → Q v H') : aOf X ct fa σ H Q :=
  ⟨Γ, j, h.bnd fun d _ q v H' s t => k d v H' s t (j.mono s) q⟩
theorem cOf.bnd {fa : Sg → Res Bool} {β : Type} {r : Bool → Res β} {W : β → Prop} {Q : Bool → Hp → Prop} (j : Jx X ct Γ σ H) (h : Ok X ct σ H ((fa Γ).bnd r) W)
    (k : ∀ d H', Same H H' → Jx X ct Γ σ H' → Ok X ct σ H (r d) W → Q d H') : cOf X ct fa σ H Q :=
  ⟨Γ, j, h.bnd fun d _ q H' s => k d H' s (j.mono s) q⟩
theorem Wd.mono {H2 : Hp} {Q : VK} {d : D} (s : Same H H2) (h : Wd X ct H Q d) : Wd X ct H2 Q d := fun v H' e t => h v H' (s.trans e) t
theorem Wl.mono {H2 : Hp} {Q : VK} {d : List D} (s : Same H H2) (h : Wl X ct H Q d) : Wl X ct H2 Q d := fun a vs H' e n t => h a vs H' (s.trans e) (s.free n) t
theorem Wa.mono {H2 : Hp} {Q : List V → Hp → Prop} {d : List D} (s : Same H H2) (h : Wa X ct H Q d) : Wa X ct H2 Q d := fun v H' e t => h v H' (s.trans e) t
theorem Wt.mono {H2 : Hp} {Q : Bool → Hp → Prop} {d : Bool} (s : Same H H2) (h : Wt H Q d) : Wt H2 Q d := fun H' e => h H' (s.trans e)
theorem pd_var (i : Nat) {x : Str} {pos : Pos} (hN : X.N[i]? = some x := by rfl) (hv : Vis X.env.scope x := by first | exact Or.inl rfl | exact Or.inr (Or.inl rfl) | exact Or.inr (Or.inr rfl)) (hd : (x == ("__debug__" : Str)) = false := by decide)
    (hcd : (x == ("__classdict__" : Str)) = false := by decide) : PD X ct (.Name x pos) (dVar i) := by
  refine PE.imp (pe_var hN hv hd hcd) fun σ H Q ⟨Γ, j, h⟩ => ?_
  unfold dVar at h
  split at h
  · rename_i d hd'
    obtain ⟨v, h1, h2⟩ := j.val hd'
    exact ⟨v, h1, h v H (Same.refl H) h2⟩
  · exact h.elim
theorem wd_var (i : Nat) {x : Str} {pos : Pos} (hN : X.N[i]? = some x := by rfl) (hv : Vis X.env.scope x := by first | exact Or.inl rfl | exact Or.inr (Or.inl rfl) | exact Or.inr (Or.inr rfl)) (hd : (x == ("__debug__" : Str)) = false := by decide) (hcd : (x == ("__classdict__" : Str)) = false := by decide) : WD X ct (.Name x pos) (dVar i) := ⟨pd_var (i := i) (hN := hN) (hv := hv) (hd := hd) (hcd := hcd)⟩
theorem pd_int {i k pos} : PD X ct (.Constant (.int i) k pos) (dC (.int i)) := PE.imp pe_int fun σ H Q ⟨Γ, j, h⟩ => h _ H (Same.refl H) (by simp [Tl])
theorem wd_int {i k pos} : WD X ct (.Constant (.int i) k pos) (dC (.int i)) := ⟨pd_int⟩
theorem pd_bl {b k pos} : PD X ct (.Constant (.bool b) k pos) (dC (.bl b)) := PE.imp pe_bl fun σ H Q ⟨Γ, j, h⟩ => h _ H (Same.refl H) (by simp [Tl])
theorem wd_bl {b k pos} : WD X ct (.Constant (.bool b) k pos) (dC (.bl b)) := ⟨pd_bl⟩
theorem pd_str {x k pos} : PD X ct (.Constant (.str x) k pos) (dC (.str x)) := PE.imp pe_str fun σ H Q ⟨Γ, j, h⟩ => h _ H (Same.refl H) (by simp [Tl])
theorem wd_str {x k pos} : WD X ct (.Constant (.str x) k pos) (dC (.str x)) := ⟨pd_str⟩
theorem pd_glob {x : Str} {d : D} {v : V} {u : Value} {pos : Pos} (hg : Gl X x) (hm : X.mg x = some u) (r : RelV v u) (t : ∀ H, Tl X.K ct H d v) (hd : (x == ("__debug__" : Str)) = false := by decide) : PD X ct (.Name x pos) (dC d) :=
  PE.imp (pe_glob hg hm r hd) fun σ H Q ⟨Γ, j, h⟩ => h _ H (Same.refl H) (t H)
def Op2 (X : Cx) (ct : Ct) (r2 : R2) (r : D → D → Res D) : Prop :=
  ∀ (σ : St) (H : Hp) (x y : V) (d1 d2 : D) (Q : VK), Same ct.f.L H → Same ct.B H → Tl X.K ct H d1 x → Tl X.K ct H d2 y → Ok X ct σ H (r d1 d2) (Wd X ct H Q) → r2 x y H Q
theorem op2_of {r2 : R2} {r : D → D → Res D} (ho : Op2 X ct r2 r) : ∀ σ H Q, eOf X ct (dOp r f g) σ H Q → tOp r2 (eOf X ct f) (eOf X ct g) σ H Q := by
  rintro σ H Q ⟨Γ, j, h⟩
  refine eOf.bnd j h fun d1 v H1 s1 t1 j1 h1 => ?_
  refine eOf.bnd (W := Wd X ct H Q) j1 (Ok.mono s1 h1 fun _ z => z) fun d2 u H2 s2 t2 j2 h2 => ?_
  exact ho σ H2 v u d1 d2 Q j2.lL j2.lB (t1.keep (Same.keep s2)) t2 (Ok.mono s2 h2 fun d q => q.mono (s1.trans s2))
theorem pd_op {op : Operator} {r2 : R2} {r : D → D → Res D} (hr : OpR X (binaryOp op) r2) (ho : Op2 X ct r2 r) (ha : PD X ct a f) (hb : PD X ct b g) : PD X ct (.BinOp a op b pos) (dOp r f g) :=
  PE.imp (pe_op hr ha hb) (op2_of ho)
theorem pd_cmp {op : CmpOp} {r2 : R2} {r : D → D → Res D} (hr : OpR X (compareOp op) r2) (ho : Op2 X ct r2 r) (ha : PD X ct a f) (hb : PD X ct b g) (hm : behindInMarks op b = false) : PD X ct (.Compare a [op] [b] pos) (dOp r f g) :=
  PE.imp (pe_cmpR hr ha hb hm) (op2_of ho)
theorem tst_of {t : TE} (k : ∀ σ H Q, eOf X ct f σ H Q → t σ H Q) : ∀ σ H Q, cOf X ct (dT f) σ H Q → tTest t σ H Q := by
  rintro σ H Q ⟨Γ, j, h⟩
  refine k σ H _ (eOf.bnd j h fun d v H' s t j' h' => ?_)
  cases d with
  | bl b => simp only [Tl] at t; exact ⟨b, t, h' H' s⟩
  | _ => exact h'.elim
theorem pdt_cmp {op : CmpOp} {r2 : R2} {r : D → D → Res D} (hr : OpR X (compareOp op) r2) (ho : Op2 X ct r2 r) (ha : PD X ct a f) (hb : PD X ct b g) (hm : behindInMarks op b = false) : PDT X ct (.Compare a [op] [b] pos) (dT (dOp r f g)) :=
  PT.imp (pt_cmpR hr ha hb hm) (tst_of (op2_of ho))
theorem pdt_val (ha : PD X ct e f) (he : ∀ whole, isTrue e X.env whole = (do let v ← whole; standAt e.pos; holding [v] (truthy v)) := by intro _; rfl) : PDT X ct e (dT f) := PT.imp (pt_val ha he) (tst_of fun _ _ _ z => z)
theorem wdt_val (ha : WD X ct e f) (he : ∀ whole, isTrue e X.env whole = (do let v ← whole; standAt e.pos; holding [v] (truthy v)) := by intro _; rfl) : WDT X ct e (dT f) := ⟨pdt_val (ha := ha.out) (he := he)⟩
theorem Tls.isEmpty {K : PySem.W.Frag} {ds : List D} {vs : List V} (h : Tls K ct H ds vs) : ds.isEmpty = vs.isEmpty := by
  have := h.length
  cases ds <;> cases vs <;> simp_all
variable {p q : Sg → Res Bool} {rest : List Expr}
theorem pdw_or1 (ha : PDT X ct a p) : PDW X ct (.BoolOp .Or [a] pos) p := pw_or1 ha
theorem wdw_or1 (ha : WDT X ct a p) : WDW X ct (.BoolOp .Or [a] pos) p := ⟨pdw_or1 (ha := ha.out)⟩
theorem pdw_or (ha : PDT X ct a p) (hb : PDW X ct (.BoolOp .Or (b :: rest) pos) q) : PDW X ct (.BoolOp .Or (a :: b :: rest) pos) (cOr p q) := by
  refine PW.imp (pw_or ha hb) fun σ H Q ⟨Γ, j, h⟩ => ?_
  refine cOf.bnd j h fun c H' s j' h' => ?_
  cases c with
  | true => exact iteT (h' H' s)
  | false => exact iteF ⟨Γ, j', Ok.mono s h' fun d z => z.mono s⟩
theorem wdw_or (ha : WDT X ct a p) (hb : WDW X ct (.BoolOp .Or (b :: rest) pos) q) : WDW X ct (.BoolOp .Or (a :: b :: rest) pos) (cOr p q) := ⟨pdw_or (ha := ha.out) (hb := hb.out)⟩
theorem pdt_w {e : Expr} (h : PDW X ct e p) : PDT X ct e p := h.pt
theorem wdt_w {e : Expr} (h : WDW X ct e p) : WDT X ct e p := ⟨pdt_w (h := h.out)⟩
theorem pdt_not (ha : PDT X ct a p) : PDT X ct (.UnaryOp .Not a pos) (cNot p) := by
  refine PT.imp (pt_not ha) fun σ H Q ⟨Γ, j, h⟩ => ?_
  exact cOf.bnd j h fun c H' s j' h' => h' H' s
theorem wdt_not (ha : WDT X ct a p) : WDT X ct (.UnaryOp .Not a pos) (cNot p) := ⟨pdt_not (ha := ha.out)⟩
theorem pd_one {op} (h : PD X ct a f) : PD X ct (.BoolOp op [a] pos) f := pe_one h
theorem wd_one {op} (h : WD X ct a f) : WD X ct (.BoolOp op [a] pos) f := ⟨pd_one (h := h.out)⟩
theorem pd_and (ha : PD X ct a f) (hb : PD X ct (.BoolOp .And (b :: rest) pos) g) : PD X ct (.BoolOp .And (a :: b :: rest) pos) (dAnd f g) := by
  refine PE.imp (pe_and ha hb) fun σ H Q ⟨Γ, j, h⟩ => ?_
  refine eOf.bnd j h fun d v H' s t j' h' => ?_
  cases d with
  | bl c =>
    simp only [Tl] at t
    refine ⟨c, t, ?_⟩
    cases c with
    | true => exact iteT ⟨Γ, j', Ok.mono s h' fun d z => z.mono s⟩
    | false => exact iteF (h' _ H' s (by simp [Tl]))
  | _ => exact h'.elim
theorem wd_and (ha : WD X ct a f) (hb : WD X ct (.BoolOp .And (b :: rest) pos) g) : WD X ct (.BoolOp .And (a :: b :: rest) pos) (dAnd f g) := ⟨pd_and (ha := ha.out) (hb := hb.out)⟩
theorem pd_not (ha : PD X ct a f) : PD X ct (.UnaryOp .Not a pos) (dNot f) := by
  refine PE.imp (pe_not ha) fun σ H Q ⟨Γ, j, h⟩ => ?_
  refine eOf.bnd j h fun d v H' s t j' h' => ?_
  cases d with
  | bl c => simp only [Tl] at t; exact ⟨c, t, h' _ H' s (by simp [Tl])⟩
  | _ => exact h'.elim
theorem wd_not (ha : WD X ct a f) : WD X ct (.UnaryOp .Not a pos) (dNot f) := ⟨pd_not (ha := ha.out)⟩
theorem pda_nil : PDA X ct [] dNil := PA.imp pa_nil fun σ H Q ⟨Γ, j, h⟩ => h [] H (Same.refl H) Tls.nil
theorem wda_nil  : WDA X ct [] dNil := ⟨pda_nil⟩
theorem pda_cons {es : List Expr} {r : Sg → Res (List D)} (ha : PD X ct e f) (hr : PDA X ct es r) (hs : starEach (e :: es) X.env = (false, eval e X.env) :: starEach es X.env := by rfl) : PDA X ct (e :: es) (dCons f r) := by
  refine PA.imp (pa_cons ha hr hs) fun σ H Q ⟨Γ, j, h⟩ => ?_
  refine eOf.bnd j h fun d v H1 s1 t1 j1 h1 => ?_
  refine aOf.bnd (W := Wa X ct H Q) j1 (Ok.mono s1 h1 fun _ z => z) fun ds vs H2 s2 t2 j2 h2 => ?_
  exact h2 _ H2 (s1.trans s2) (Tls.cons (t1.keep (Same.keep s2)) t2)
theorem wda_cons {es : List Expr} {r : Sg → Res (List D)} (ha : WD X ct e f) (hr : WDA X ct es r) (hs : starEach (e :: es) X.env = (false, eval e X.env) :: starEach es X.env := by rfl) : WDA X ct (e :: es) (dCons f r) := ⟨pda_cons (ha := ha.out) (hr := hr.out) (hs := hs)⟩
theorem same_new {H : Hp} {p : Addr} (h : H p = none) (o : HO) : Same H (upd H p o) := fun b u q => by rw [upd_ne (ne_of_none q h)]; exact q
theorem pd_tup {es : List Expr} {r : Sg → Res (List D)} {x1} (h : PDA X ct es r) : PD X ct (.Tuple es x1 pos) (dTup r) := by
  refine PE.imp (pe_tup h) fun σ H Q ⟨Γ, j, h⟩ => ?_
  refine aOf.bnd j h fun ds vs H1 s1 t1 j1 h1 => ?_
  split at h1
  · rename_i hl
    refine ⟨Nat.le_of_lt (small1000 (by rw [← t1.length]; exact hl)), fun p hp => ?_⟩
    have s2 := same_new hp (.tup vs)
    refine h1 _ _ (s1.trans s2) ?_
    simp only [Tl]
    exact ⟨p, vs, rfl, .inl (.inl upd_same), t1.keep (Same.keep s2)⟩
  · exact h1.elim
theorem wd_tup {es : List Expr} {r : Sg → Res (List D)} {x1} (h : WDA X ct es r) : WD X ct (.Tuple es x1 pos) (dTup r) := ⟨pd_tup (h := h.out)⟩
theorem pl_lst {es : List Expr} {r : Sg → Res (List D)} (h : PDA X ct es r) : PL X ct (.List es pos) (dLst r) := by
  refine PE.imp (pe_lst h) fun σ H Q ⟨Γ, j, h⟩ => ?_
  refine aOf.bnd j h fun ds vs H1 s1 t1 j1 h1 => ?_
  split at h1
  · rename_i hl
    refine ⟨Nat.le_of_lt (small1000 (by rw [← t1.length]; exact hl)), fun p hp => ?_⟩
    have s2 := same_new hp (.lst vs)
    exact h1 p vs _ (s1.trans s2) (s1.free hp) upd_same (t1.keep (Same.keep s2))
  · exact h1.elim
theorem wl_lst {es : List Expr} {r : Sg → Res (List D)} (h : WDA X ct es r) : WL X ct (.List es pos) (dLst r) := ⟨pl_lst (h := h.out)⟩
end
end L4
end
section
set_option Elab.async false
set_option linter.all false
set_option maxRecDepth 100000
namespace L4
open PySem PySem.Spec PyProof.Rows L2
section
variable {P : Program} {w : World}
theorem objOk_there {H : Hp} {h : Heap} {a : Addr} {o : HO} (x : ObjOk P w H h a o) : ∃ ob, h.get? a = some ob := by
  cases o with
  | lst xs => obtain ⟨_, _, _, _, e⟩ := x; exact ⟨_, e⟩
  | tup xs => obtain ⟨_, _, _, ob, e, _⟩ := x; exact ⟨_, e⟩
  | dK kvs => obtain ⟨_, _, _, _, o, _, _, e, _⟩ := x; exact ⟨_, e⟩
  | dT kvs => obtain ⟨_, _, _, _, o, _, _, e, _⟩ := x; exact ⟨_, e⟩
  | set S n => obtain ⟨o, _, _, _, e, _⟩ := x; exact ⟨_, e⟩
  | ins C dx fs => obtain ⟨_, _, _, e, _⟩ := x; exact ⟨_, e⟩
  | own y => obtain ⟨_, e⟩ := x; exact ⟨_, e⟩
  | xd fs => obtain ⟨_, ⟨_, _, _, e, _⟩, _⟩ := x; exact ⟨_, e⟩
  | rng lo hi => obtain ⟨_, _, _, e⟩ := x; exact ⟨_, e⟩
  | frz ob u => obtain ⟨e, _⟩ := x; exact ⟨_, e⟩
  | tbl ps => exact ⟨_, (show h.get? a = some _ from x)⟩
  | met f y => exact ⟨_, (show h.get? a = some _ from x)⟩
  | ext φ => obtain ⟨_, ⟨_, e⟩, _⟩ := x; exact ⟨_, e⟩
end
section
variable {X : Cx} {ct : Ct} {pins : List (Addr × Obj)} {σ : St} {H : Hp} {s : Shared} {a : Addr} {o o' : HO} {vs : List V}
theorem Inv.redesc (I : Inv X pins σ H s) (ha : H a = some o) (h0 : X.H₀ a = none) (nt : ∀ xs, o ≠ .tup xs) (no : ∀ y, o ≠ .own y) (new : ObjOk X.prog X.w (upd H a o') s.heap a o') : Inv X pins σ (upd H a o') s := by
  have ne : ∀ b, H b = none → b ≠ a := fun b hb z => by subst z; rw [ha] at hb; cases hb
  have ne0 : ∀ b u, X.H₀ b = some u → b ≠ a := fun b u hb z => by subst z; rw [h0] at hb; cases hb
  refine ⟨I.ok, I.os, I.bare, ⟨I.base.keep, I.base.slot, fun b u q n hx => ?_, I.base.there, fun b xs q => ?_, fun b u v q => ?_, fun b ps q => ?_⟩, I.loc, I.cell, ?_, fun x c h => ?_, fun p hp => ?_, fun b u e => ?_, I.len⟩
  · have := I.base.free b u q n hx
    rw [upd_ne (ne b this)]; exact this
  · rw [upd_ne (ne0 b _ q)]; exact I.base.tups b xs q
  · rw [upd_ne (ne0 b _ q)]; exact I.base.frzs b u v q
  · rw [upd_ne (ne0 b _ q)]; exact I.base.tbls b ps q
  · rw [upd_ne (ne _ I.free)]; exact I.free
  · rw [upd_ne (ne _ (I.freeC x c h))]; exact I.freeC x c h
  · obtain ⟨h1, h2, h3, h4, h5⟩ := I.pin p hp
    exact ⟨h1, by rw [upd_ne (ne _ h2)]; exact h2, h3, h4, h5⟩
  · by_cases hb : b = a
    · subst hb; rw [upd_same] at e; cases e; exact new
    · rw [upd_ne hb] at e
      refine (I.hok b u e).stay (fun c v _ q => q) (fun c q => ?_) (fun c xs q => ?_)
      · have : c ≠ a := by rintro rfl; rw [ha] at q; exact no _ (Option.some.inj q)
        rw [upd_ne this]; exact q
      · have : c ≠ a := by rintro rfl; rw [ha] at q; exact nt _ (Option.some.inj q)
        rw [upd_ne this]; exact q
theorem Inv.freeze (I : Inv X pins σ H s) (ha : H a = some (.lst vs)) (h0 : X.H₀ a = none) : ∃ ob, Inv X pins σ (upd H a (.frz ob (.lst vs))) s := by
  obtain ⟨z, its, n, r, e⟩ := I.hok a _ ha
  refine ⟨_, Inv.redesc I ha h0 (fun _ q => nomatch q) (fun _ q => nomatch q) ⟨e, z, its, n, r, e⟩⟩
theorem Inv.freezeK {kvs : List (Key × V)} (I : Inv X pins σ H s) (ha : H a = some (.dK kvs)) (h0 : X.H₀ a = none) : ∃ ob, Inv X pins σ (upd H a (.frz ob (.dK kvs))) s := by
  have q := I.hok a _ ha
  obtain ⟨ob, e⟩ := objOk_there q
  exact ⟨ob, Inv.redesc I ha h0 (fun _ q => nomatch q) (fun _ q => nomatch q) ⟨e, q⟩⟩
structure Fz (X : Cx) (ct : Ct) (pins : List (Addr × Obj)) (σ : St) (s : Shared) (S : Fp) (H H' : Hp) : Prop where
  inv : Inv X pins σ H' s
  un : ∀ b o, H b = some o → ¬ S b → H' b = some o
  keep : Keep ct.f.cb H H'
  free : ∀ b, H' b = none → H b = none
theorem Fz.step {S : Fp} {H1 : Hp} (z : Fz X ct pins σ s S H H1) (ha : H1 a = some o) (hs : S a) (no : ¬ Stab ct.f.cb o) (I : Inv X pins σ (upd H1 a o') s) : Fz X ct pins σ s S H (upd H1 a o') := by
  refine ⟨I, fun b u q n => ?_, z.keep.trans fun b u hb st => ?_, fun b q => ?_⟩
  · have : b ≠ a := by rintro rfl; exact n hs
    rw [upd_ne this]; exact z.un b u q n
  · have : b ≠ a := by rintro rfl; rw [ha] at hb; cases hb; exact no st
    rw [upd_ne this]; exact hb
  · by_cases e : b = a
    · subst e; rw [upd_same] at q; cases q
    · rw [upd_ne e] at q; exact z.free b q
mutual
theorem Inv.fzM : ∀ {m : M} {v : V} {S : Fp} {H : Hp}, fzOk m = true → Inv X pins σ H s → Ow X.K ct H m v S → (∀ b, S b → X.H₀ b = none) → ∃ H', Fz X ct pins σ s S H H' ∧ Tl X.K ct H' (L4.fzM m) v
  | .d x, v, S, H, fo, I, h, _ => by
    simp only [Ow] at h
    exact ⟨H, ⟨I, fun _ _ q _ => q, Keep.refl H, fun _ q => q⟩, by simpa only [L4.fzM] using h⟩
  | .l xs, v, S, H, fo, I, h, n => by
    simp only [Ow] at h
    obtain ⟨a, vs, rfl, h2, h3, h4⟩ := h
    obtain ⟨ob, I2⟩ := Inv.freeze I h3 (n a h2)
    have z : Fz X ct pins σ s S H H := ⟨I, fun _ _ q _ => q, Keep.refl H, fun _ q => q⟩
    have z2 := z.step h3 h2 (fun q => q) I2
    refine ⟨_, z2, ?_⟩
    simp only [L4.fzM, Tl]
    exact ⟨a, vs, rfl, .inl ⟨ob, upd_same⟩, h4.keep z2.keep⟩
  | .n ms, v, S, H, fo, I, h, n => by
    simp only [Ow] at h
    obtain ⟨a, vs, rfl, h2, h3, h4⟩ := h
    obtain ⟨H1, z1, t1⟩ := Inv.fzMs (by simpa [fzOk] using fo) I h4 fun b w => n b w.1
    have h3' := z1.un a _ h3 fun w => w.2 rfl
    obtain ⟨ob, I2⟩ := Inv.freeze z1.inv h3' (n a h2)
    have z2 : Fz X ct pins σ s S H H1 := ⟨z1.inv, fun b o q w => z1.un b o q fun u => w u.1, z1.keep, z1.free⟩
    have z3 := z2.step h3' h2 (fun q => q) I2
    refine ⟨_, z3, ?_⟩
    simp only [L4.fzM, Tl]
    exact ⟨a, vs, rfl, .inl ⟨ob, upd_same⟩, t1.keep (Keep.lst h3')⟩
  | .t ms, v, S, H, fo, I, h, n => by
    simp only [Ow] at h
    obtain ⟨a, vs, rfl, h2, h3⟩ := h
    obtain ⟨H1, z1, t1⟩ := Inv.fzMs (by simpa [fzOk] using fo) I h3 n
    refine ⟨H1, z1, ?_⟩
    simp only [L4.fzM, Tl]
    exact ⟨a, vs, rfl, .inl (.inl (z1.keep _ _ h2 trivial)), t1⟩
  | .k ks xs, v, S, H, fo, I, h, n => by
    simp only [Ow] at h
    obtain ⟨a, vs, rfl, h2, h3, h4, h5⟩ := h
    obtain ⟨ob, I2⟩ := Inv.freezeK I h3 (n a h2)
    have z : Fz X ct pins σ s S H H := ⟨I, fun _ _ q _ => q, Keep.refl H, fun _ q => q⟩
    have z2 := z.step h3 h2 (fun q => q) I2
    refine ⟨_, z2, ?_⟩
    simp only [L4.fzM, Tl]
    exact ⟨a, vs, rfl, ⟨ob, upd_same⟩, h4, h5.keep z2.keep⟩
  | .o c ns xs, v, S, H, fo, I, h, n => by simp [fzOk] at fo
theorem Inv.fzMs : ∀ {ms : List M} {vs : List V} {S : Fp} {H : Hp}, fzOks ms = true → Inv X pins σ H s → Ows X.K ct H ms vs S → (∀ b, S b → X.H₀ b = none) → ∃ H', Fz X ct pins σ s S H H' ∧ Tls X.K ct H' (L4.fzMs ms) vs
  | [], vs, S, H, fo, I, h, _ => by
    simp only [Ows] at h
    exact ⟨H, ⟨I, fun _ _ q _ => q, Keep.refl H, fun _ q => q⟩, by simpa only [L4.fzMs, Tls] using h⟩
  | m :: ms, vs, S, H, fo, I, h, n => by
    simp only [Ows] at h
    obtain ⟨v, r, S1, S2, rfl, h2, h3, h4, h5, h6⟩ := h
    obtain ⟨H1, z1, t1⟩ := Inv.fzM (Bool.and_eq_true_iff.mp (by simpa [fzOks] using fo)).1 I h5 fun b w => n b (h2 b w)
    have h6' := h6.frame z1.keep fun b o w q => z1.un b o q fun u => h4 b u w
    obtain ⟨H2, z2, t2⟩ := Inv.fzMs (Bool.and_eq_true_iff.mp (by simpa [fzOks] using fo)).2 z1.inv h6' fun b w => n b (h3 b w)
    refine ⟨H2, ⟨z2.inv, fun b o q w => z2.un b o (z1.un b o q fun u => w (h2 b u)) fun u => w (h3 b u), z1.keep.trans z2.keep, fun b q => z1.free b (z2.free b q)⟩, ?_⟩
    simp only [L4.fzMs, Tls]
    exact ⟨v, r, rfl, t1.keep z2.keep, t2⟩
end
theorem pm_of_pl {e : Expr} {f : Sg → Res (List D)} (h : PL X ct e f) : PM X ct e (mL f) := by
  refine PE.imp h fun σ H Q ⟨Γ, j, q⟩ => ⟨Γ, j, q.bnd fun ds _ w a vs H' s n k t => ?_⟩
  refine w (.ref a) H' (fun b => b = a) s ?_ (fun b z => z ▸ n) fun b z q => by subst z; rw [k] at q; cases q
  simp only [Ow]
  exact ⟨a, vs, rfl, rfl, k, t⟩
theorem wm_of_pl {e : Expr} {f : Sg → Res (List D)} (h : WL X ct e f) : WM X ct e (mL f) := ⟨pm_of_pl (h := h.out)⟩
theorem pm_of_pd {e : Expr} {f : Sg → Res D} (h : PD X ct e f) : PM X ct e (mD f) := by
  refine PE.imp h fun σ H Q ⟨Γ, j, q⟩ => ⟨Γ, j, q.bnd fun d _ w v H' s t => ?_⟩
  exact w v H' (fun _ => False) s (by simpa only [Ow] using t) (fun _ z => z.elim) fun _ z => z.elim
theorem pd_of_pm {e : Expr} {f : Sg → Res M} (h : PM X ct e f) : PD X ct e (dFzM f) := by
  intro pins s σ H Q I ⟨Γ, j, q⟩
  have t : mOf X ct f σ H (fun v H' => ∃ m S, Same H H' ∧ Ow X.K ct H' m v S ∧ (∀ b, S b → H b = none) ∧ fzOk m = true ∧ Wd X ct H Q (fzM m)) :=
    ⟨Γ, j, q.bnd fun m _ w v H' S s o n k => by
      unfold fzR at w
      split at w
      · rename_i fo; exact ⟨m, S, s, o, n, fo, w⟩
      · exact w.elim⟩
  refine thn (h pins s σ H _ I t) fun v s1 ⟨x, H1, I1, r1, m, S, e1, o, n, fo, w⟩ => ?_
  obtain ⟨H2, z, t2⟩ := Inv.fzM fo I1 o fun b u => j.free b (n b u)
  exact ⟨x, H2, z.inv, r1, w x H2 (fun b u q => z.un b u (e1 b u q) fun y => by rw [n b y] at q; cases q) t2⟩
theorem wd_of_pm {e : Expr} {f : Sg → Res M} (h : WM X ct e f) : WD X ct e (dFzM f) := ⟨pd_of_pm (h := h.out)⟩
theorem pd_of_pl {e : Expr} {f : Sg → Res (List D)} (h : PL X ct e f) : PD X ct e (dFz f) := by
  have e' : dFz f = dFzM (mL f) := funext fun Γ => by
    simp only [dFz, dFzM, mL]
    cases f Γ <;> rfl
  rw [e']; exact pd_of_pm (pm_of_pl h)
theorem wd_of_pl {e : Expr} {f : Sg → Res (List D)} (h : WL X ct e f) : WD X ct e (dFz f) := ⟨pd_of_pl (h := h.out)⟩
end
section
variable {X : Cx} {c : Cf} {st : Stmt} {rest : List Stmt} {F G : Sg → Out} {e : Expr} {f : Sg → Res D} {fl : Sg → Res M} {p : Sg → Res Bool} {pos : Pos} {H : Hp} {Γ : Sg} {σ : St}
theorem Fn.ok {α : Type} {B : Hp} {tm : Bool} {r : Res α} {k : α → Out} {E : Ends} {W : α → Prop} (j : Jx X c.z Γ σ H) (h : Fn X c H (oE r Γ k) E) (w : ∀ d, r = .ok d → Fn X c H (k d) E → W d) : Ok X ⟨c, B, tm⟩ σ H r W := by
  cases r with
  | ok d => exact w d rfl h
  | err x => exact fun e s' q => h σ H e s' (Keep.refl H) j q
  | bad => exact h.elim
theorem pdss_nil : PDSs X c [] sNext := PSs.imp pss_nil fun E σ H ⟨Γ, j, h⟩ => h σ H (Keep.refl H) j
theorem wdss_nil  : WDSs X c [] sNext := ⟨pdss_nil⟩
theorem pdss_cons (h1 : PDS X c st F) (h2 : PDSs X c rest G) : PDSs X c (st :: rest) (sSeq F G) := by
  refine PSs.imp (pss_cons h1 h2) fun E σ H ⟨Γ, j, h⟩ => ⟨Γ, j, ?_⟩
  unfold sSeq at h
  cases q : F Γ with
  | nx Γ' =>
    rw [q] at h
    exact fun σ' H' k j' => ⟨Γ', j', h.mono k⟩
  | bk Γ' => rw [q] at h; exact h
  | ct Γ' => rw [q] at h; exact h
  | rt d => rw [q] at h; exact h
  | rtm ds => rw [q] at h; exact h
  | rtG d Γ' => rw [q] at h; exact h
  | rtmG d Γ' => rw [q] at h; exact h
  | err x Γ' => rw [q] at h; exact h
  | bad => rw [q] at h; exact h
theorem wdss_cons (h1 : WDS X c st F) (h2 : WDSs X c rest G) : WDSs X c (st :: rest) (sSeq F G) := ⟨pdss_cons (h1 := h1.out) (h2 := h2.out)⟩
theorem pdss_one (h1 : PDS X c st F) : PDSs X c [st] F := pss_one h1
theorem wdss_one (h1 : WDS X c st F) : WDSs X c [st] F := ⟨pdss_one (h1 := h1.out)⟩
theorem pds_ret (he : PD X c.z e f) : PDS X c (.Return (some e) pos) (sRet f) :=
  PS.imp (ps_ret he) fun E σ H ⟨Γ, j, h⟩ => ⟨Γ, j, Fn.ok j h fun d _ q v H' s t => q v H' (j.mono s).bk t⟩
theorem wds_ret (he : WD X c.z e f) : WDS X c (.Return (some e) pos) (sRet f) := ⟨pds_ret (he := he.out)⟩
theorem pds_retM (he : ∀ B, PM X (c.at' B) e fl) : PDS X c (.Return (some e) pos) (sRetM fl) := by
  intro pins s σ H E I ⟨Γ, j, h⟩
  refine ps_ret (he H) pins s σ H E I ⟨Γ, j.lift, Fn.ok j h fun m _ q v H' S s o n k => ?_⟩
  split at q
  · rename_i nn; exact q v H' S (j.mono s).bk (o.down nn) (fun b z => j.free b (n b z)) k
  · exact q.elim
theorem wds_retM (he : ∀ B, WM X (c.at' B) e fl) : WDS X c (.Return (some e) pos) (sRetM fl) := ⟨pds_retM (he := (fun B => (he B).out))⟩
theorem pds_set (i : Nat) {x : Str} {pos' : Pos} (hN : X.N.Nodup) (he : PD X c.z e f) (hi : X.N[i]? = some x := by rfl) (hx : Loc X.env.scope x := by first | exact Or.inl rfl | exact Or.inr rfl) (hs : swapsWith e (some (.Name x pos')) pos.line X.env = pure false := by rfl)
    (hf : X.fn x = true ∨ X.env.scope.names.lookup x = some .local := by first | exact .inl rfl | exact .inr rfl) : PDS X c (.Assign [.Name x pos'] e pos) (sSet i f) :=
  PS.imp (ps_set hN hi hx he hs hf) fun E σ H ⟨Γ, j, h⟩ => ⟨Γ, j, Fn.ok j h fun d _ q v H' s t => q _ H' (Same.keep s) ((j.mono s).set t)⟩
theorem wds_set (i : Nat) {x : Str} {pos' : Pos} (hN : X.N.Nodup) (he : WD X c.z e f) (hi : X.N[i]? = some x := by rfl) (hx : Loc X.env.scope x := by first | exact Or.inl rfl | exact Or.inr rfl) (hs : swapsWith e (some (.Name x pos')) pos.line X.env = pure false := by rfl) (hf : X.fn x = true ∨ X.env.scope.names.lookup x = some .local := by first | exact .inl rfl | exact .inr rfl) : WDS X c (.Assign [.Name x pos'] e pos) (sSet i f) := ⟨pds_set (i := i) (hN := hN) (he := he.out) (hi := hi) (hx := hx) (hs := hs) (hf := hf)⟩
end
end L4
end
section
set_option Elab.async false
set_option linter.all false
set_option maxRecDepth 100000
namespace L4
open PySem PySem.Spec PyProof.Rows L2
section
variable {X : Cx} {ct : Ct} {tg : Expr} {H : Hp} {Γ : Sg} {σ : St} {pos : Pos}
def gOf (X : Cx) (ct : Ct) (t : Tg) : TG := fun v σ H Q => ∃ Γ d Γ', Jx X ct Γ σ H ∧ Tl X.K ct H d v ∧ t d Γ = some Γ' ∧ ∀ σ', Jx X ct Γ' σ' H → Q σ' H
def gsOf (X : Cx) (ct : Ct) (t : Tgs) : TGs := fun vs σ H Q => ∃ Γ ds Γ', Jx X ct Γ σ H ∧ Tls X.K ct H ds vs ∧ t ds Γ = some Γ' ∧ ∀ σ', Jx X ct Γ' σ' H → Q σ' H
theorem PG.imp {t u : TG} (h : PG X tg t) (k : ∀ v σ H Q, u v σ H Q → t v σ H Q) : PG X tg u := fun pins s σ H v w Q I r q => h pins s σ H v w Q I r (k v σ H Q q)
theorem PGs.imp {es : List Expr} {t u : TGs} (h : PGs X es t) (k : ∀ v σ H Q, u v σ H Q → t v σ H Q) : PGs X es u := fun pins s σ H v w Q I r q => h pins s σ H v w Q I r (k v σ H Q q)
abbrev PGD (X : Cx) (ct : Ct) (tg : Expr) (t : Tg) : Prop := PG X tg (gOf X ct t)
abbrev PGDs (X : Cx) (ct : Ct) (tg : List Expr) (t : Tgs) : Prop := PGs X tg (gsOf X ct t)
structure WG (X : Cx) (tg : Expr) (t : TG) : Prop where
  out : PG X tg t
structure WGs (X : Cx) (tg : List Expr) (t : TGs) : Prop where
  out : PGs X tg t
abbrev WGD (X : Cx) (ct : Ct) (tg : Expr) (t : Tg) : Prop := WG X tg (gOf X ct t)
abbrev WGDs (X : Cx) (ct : Ct) (tg : List Expr) (t : Tgs) : Prop := WGs X tg (gsOf X ct t)
theorem pgd_name (i : Nat) {x : Str} (hN : X.N.Nodup) (hi : X.N[i]? = some x := by rfl) (hx : Loc X.env.scope x := by first | exact Or.inl rfl | exact Or.inr rfl) (hf : X.fn x = true ∨ X.env.scope.names.lookup x = some .local := by first | exact .inl rfl | exact .inr rfl) :
    PGD X ct (.Name x pos) (tgName i) := by
  refine PG.imp (pg_name hN hi hx hf) ?_
  rintro v σ H Q ⟨Γ, d, Γ', j, t, e, q⟩
  cases e
  exact q _ (j.set t)
theorem wgd_name (i : Nat) {x : Str} (hN : X.N.Nodup) (hi : X.N[i]? = some x := by rfl) (hx : Loc X.env.scope x := by first | exact Or.inl rfl | exact Or.inr rfl) (hf : X.fn x = true ∨ X.env.scope.names.lookup x = some .local := by first | exact .inl rfl | exact .inr rfl) : WGD X ct (.Name x pos) (tgName i) := ⟨pgd_name (i := i) (hN := hN) (hi := hi) (hx := hx) (hf := hf)⟩
theorem pgds_nil : PGDs X ct [] tgNil := by
  refine PGs.imp pgs_nil ?_
  rintro vs σ H Q ⟨Γ, ds, Γ', j, t, e, q⟩
  cases ds with
  | nil => simp only [Tls] at t; cases e; exact ⟨t, q _ j⟩
  | cons d r => cases e
theorem wgds_nil  : WGDs X ct [] tgNil := ⟨pgds_nil⟩
theorem pgds_cons {e : Expr} {es : List Expr} {t : Tg} {u : Tgs} (h1 : PGD X ct e t) (h2 : PGDs X ct es u)
    (hs : (assignEach (e :: es) X.env).map (·.2) = assign e X.env :: (assignEach es X.env).map (·.2) := by rfl) : PGDs X ct (e :: es) (tgCons t u) := by
  refine PGs.imp (pgs_cons h1 h2 hs) ?_
  rintro vs σ H Q ⟨Γ, ds, Γ', j, tl, e, q⟩
  cases ds with
  | nil => cases e
  | cons d r =>
    simp only [Tls] at tl
    obtain ⟨v, vr, rfl, t1, t2⟩ := tl
    simp only [tgCons, Option.bind_eq_some_iff] at e
    obtain ⟨Γ1, e1, e2⟩ := e
    exact ⟨v, vr, rfl, Γ, d, Γ1, j, t1, e1, fun σ' j' => ⟨Γ1, r, Γ', j', t2, e2, q⟩⟩
theorem wgds_cons {e : Expr} {es : List Expr} {t : Tg} {u : Tgs} (h1 : WGD X ct e t) (h2 : WGDs X ct es u) (hs : (assignEach (e :: es) X.env).map (·.2) = assign e X.env :: (assignEach es X.env).map (·.2) := by rfl) : WGDs X ct (e :: es) (tgCons t u) := ⟨pgds_cons (h1 := h1.out) (h2 := h2.out) (hs := hs)⟩
theorem pgd_tup {es : List Expr} {k : Nat} {t : Tgs} {n : Nat} (hc : X.calm = true) (h : PGDs X ct es t)
    (hn : (assignEach es X.env).length = n := by rfl) (hst : (assignEach es X.env).findIdx? (·.1) = none := by rfl) : PGD X ct (.Tuple es k pos) (tgTup n t) := by
  refine PG.imp (pg_tup hc h hn hst) ?_
  rintro v σ H Q ⟨Γ, d, Γ', j, tl, e, q⟩
  cases d with
  | tup ds =>
    simp only [Tl] at tl
    obtain ⟨a, vs, rfl, h1, h2⟩ := tl
    simp only [tgTup] at e
    split at e
    · rename_i hl
      exact ⟨a, vs, rfl, h1, by rw [← h2.length]; exact hl, Γ, ds, Γ', j, h2, e, q⟩
    · cases e
  | _ => cases e
theorem wgd_tup {es : List Expr} {k : Nat} {t : Tgs} {n : Nat} (hc : X.calm = true) (h : WGDs X ct es t) (hn : (assignEach es X.env).length = n := by rfl) (hst : (assignEach es X.env).findIdx? (·.1) = none := by rfl) : WGD X ct (.Tuple es k pos) (tgTup n t) := ⟨pgd_tup (hc := hc) (h := h.out) (hn := hn) (hst := hst)⟩
theorem pds_par {c : Cf} (i j : Nat) {x y : Str} {a b : Expr} {r : Sg → Res (List D)} {px py pt : Pos} {kt k2 pt2} (hc : X.calm = true) (hN : X.N.Nodup) (ha : PDA X c.z [a, b] r) (hi : X.N[i]? = some x := by rfl) (hj : X.N[j]? = some y := by rfl) (hij : i ≠ j := by decide)
    (hx : X.env.scope.names.lookup x = some .local := by rfl) (hy : X.env.scope.names.lookup y = some .local := by rfl)
    (hw : swappedStores [.Tuple [.Name x px, .Name y py] kt pt] (.Tuple [a, b] k2 pt2) X.env = pure (some [x, y]) := by rfl)
    (hs : swapsWithSole [.Tuple [.Name x px, .Name y py] kt pt] (.Tuple [a, b] k2 pt2) pos.line X.env = pure false := by rfl) :
    PDS X c (.Assign [.Tuple [.Name x px, .Name y py] kt pt] (.Tuple [a, b] k2 pt2) pos) (sPar i j r) := by
  refine PS.imp (ps_par hc hN hi hj hij hx hy ha hw hs) fun E σ H ⟨Γ, j, h⟩ => ⟨Γ, j, Fn.ok j h fun ds _ q vs H' s tl => ?_⟩
  match ds, q, tl with
  | [d1, d2], q, tl =>
    simp only [Tls] at tl
    obtain ⟨v1, r1, rfl, t1, v2, r2, rfl, t2, rfl⟩ := tl
    exact ⟨v1, v2, rfl, q _ H' (Same.keep s) (((j.mono s).set t1).set t2)⟩
  | [], q, _ => exact q.elim
  | [_], q, _ => exact q.elim
  | _ :: _ :: _ :: _, q, _ => exact q.elim
theorem wds_par {c : Cf} (i j : Nat) {x y : Str} {a b : Expr} {r : Sg → Res (List D)} {px py pt : Pos} {kt k2 pt2} (hc : X.calm = true) (hN : X.N.Nodup) (ha : WDA X c.z [a, b] r) (hi : X.N[i]? = some x := by rfl) (hj : X.N[j]? = some y := by rfl) (hij : i ≠ j := by decide) (hx : X.env.scope.names.lookup x = some .local := by rfl) (hy : X.env.scope.names.lookup y = some .local := by rfl) (hw : swappedStores [.Tuple [.Name x px, .Name y py] kt pt] (.Tuple [a, b] k2 pt2) X.env = pure (some [x, y]) := by rfl) (hs : swapsWithSole [.Tuple [.Name x px, .Name y py] kt pt] (.Tuple [a, b] k2 pt2) pos.line X.env = pure false := by rfl) : WDS X c (.Assign [.Tuple [.Name x px, .Name y py] kt pt] (.Tuple [a, b] k2 pt2) pos) (sPar i j r) := ⟨pds_par (i := i) (j := j) (hc := hc) (hN := hN) (ha := ha.out) (hi := hi) (hj := hj) (hij := hij) (hx := hx) (hy := hy) (hw := hw) (hs := hs)⟩
end
structure Good (X : Cx) : Prop where
  po : PassesOwn (model X.prog X.w) X.A X.env X.xe
  calm : X.calm = true
  nd : X.N.Nodup
  own : X.stack = X.env :: X.outer ∧ X.env.frame = some X.env.locals
section
variable {X : Cx} {c : Cf} {tg iter : Expr} {f : Sg → Res D} {t : Tg} {B : Sg → Out} {body : List Stmt} {pos : Pos}
theorem turn_ok {H' H1 : Hp} {Γ1 Γ2 : Sg} {xs : List D} {d : D} {E : Ends} {o : Out} {Pn : St → Hp → Prop} (k1 : Keep c.cb H' H1) (e1 : t d Γ1 = some Γ2) (hx : forD t B (d :: xs) Γ1 = o) (h : Fn X c H' o E)
    (hn : ∀ Γ3 σ3 H3, Keep c.cb H' H3 → Jx X c.z Γ3 σ3 H3 → forD t B xs Γ3 = o → Pn σ3 H3) : Fn X c H1 (B Γ2) { E with nx := Pn, ct := Pn, bk := E.nx } := by
  simp only [forD, e1] at hx
  cases q : B Γ2 with
  | nx Γ3 => rw [q] at hx; exact fun σ3 H3 k3 j3 => hn Γ3 σ3 H3 (k1.trans k3) j3 hx
  | ct Γ3 => rw [q] at hx; exact fun σ3 H3 k3 j3 => hn Γ3 σ3 H3 (k1.trans k3) j3 hx
  | bk Γ3 => rw [q] at hx; subst hx; exact fun σ3 H3 k3 j3 => h σ3 H3 (k1.trans k3) j3
  | rt d => rw [q] at hx; subst hx; exact h
  | rtm d => rw [q] at hx; subst hx; exact h
  | rtG d Γ3 => rw [q] at hx; subst hx; exact h
  | rtmG d Γ3 => rw [q] at hx; subst hx; exact h
  | err x Γ3 => rw [q] at hx; subst hx; exact fun σ3 H3 e s' k3 j3 r => h σ3 H3 e s' (k1.trans k3) j3 r
  | bad => rw [q] at hx; subst hx; exact h
theorem no_turn {Γ1 : Sg} {xs : List D} {d : D} {H' : Hp} {E : Ends} {o : Out} (e : t d Γ1 = none) (hx : forD t B (d :: xs) Γ1 = o) (h : Fn X c H' o E) : False := by
  simp only [forD, e] at hx
  subst hx
  exact h
end
section
variable {X : Cx} {c : Cf} {e : Expr} {f : Sg → Res D} {fm : Sg → Res M} {p : Sg → Res Bool}
end
end L4
end
section
set_option Elab.async false
set_option linter.all false
set_option maxRecDepth 100000
namespace L4
open PySem PySem.Spec PyProof.Rows L2
def spD (K : PySem.W.Frag) (cb : Cb) (n : Nat) (F : List Slot → Ans) : Sp := fun vs H Q E => vs.length = n ∧ ∃ (c : Cf) (as : List Slot), c.cb = cb ∧ c.args = vs ∧ J K c.z H as (vs.map some) H ∧ match F as with
  | .ok d => ∀ v H', (∀ b o, H b = some o → ¬ c.io b → H' b = some o) → (∀ b, H' b = none → H b = none) → Tl K c.z H' d v → Q v H'
  | .new m => ∀ v H' S, (∀ b o, H b = some o → ¬ c.io b → H' b = some o) → (∀ b, H' b = none → H b = none) → Ow K c.z H' m v S → (∀ b, S b → H b = none) → (∀ b, S b → H' b ≠ none) → Q v H'
  | .okG d os => ∀ v Γ' σ' H', J K c.z H Γ' σ' H' → outsAt 0 Γ' = os → Tl K c.z H' d v → Q v H'
  | .newG _ _ => False
  | .err x => ∀ C H', cb.exc x = some C → (∀ b o, H b = some o → ¬ c.io b → H' b = some o) → E (.ref C) none H'
  | .bad => False
abbrev FnD (P : Program) (w : World) (K : PySem.W.Frag) (mg : Str → Option Value) (base : Heap) (cb : Cb) (k : Nat) (f : Addr) (fd : FuncData) (ps : List Str) (F : List Slot → Ans) : Prop :=
  FnOk P w K mg base (CX1 P w) k f fd ps (spD K cb ps.length F)
abbrev cfOf (cb : Cb) (L : Hp) (vs : List V) : Cf := ⟨cb, L, fun _ => False, vs⟩
theorem j_args {K : PySem.W.Frag} {cb : Cb} {L H : Hp} {ds : List D} {vs : List V} (l : Same L H) (t : Tls K (cfOf cb L vs).z H ds vs) : J K (cfOf cb L vs).z H (ds.map Slot.val) (vs.map some) H := by
  refine ⟨fun _ _ q _ => q, fun _ q => q, l, fun _ _ q => (nomatch q), by simp [t.length], fun _ _ => False, fun i sl ov h1 h2 => ?_, fun _ _ _ _ z => z.elim, fun _ _ z => z.elim⟩
  rw [List.getElem?_map] at h1 h2
  cases q : ds[i]? with
  | none => rw [q] at h1; cases h1
  | some d =>
    obtain ⟨v, e1, e2⟩ := t.get q
    rw [q] at h1; rw [e1] at h2
    cases h1; cases h2
    exact ⟨⟨v, rfl, e2⟩, fun _ z => z⟩
section
variable {X : Cx} {cb : Cb} {k : Nat} {f C : Addr} {fd : FuncData} {ps : List Str} {F : List Slot → Ans} {x : Str} {p pos apos : Pos} {e o : Expr} {es : List Expr} {fa : Sg → Res (List D)}
def AnsOk (X : Cx) (c : Cf) (σ : St) (H : Hp) (a : Ans) (Q : VK) : Prop := match a with
  | .ok d => ∀ v H', Same H H' → Tl X.K c.z H' d v → Q v H'
  | .new m => ∀ v H' S, Same H H' → Ow X.K c.z H' m v S → (∀ b, S b → H b = none) → (∀ b, S b → H' b ≠ none) → Q v H'
  | .err x => ∀ e s', RaisedAt X c.cb σ H x e s' → X.xe e s'
  | _ => False
theorem run_fnD {pins : List (Addr × Obj)} {σ : St} {H L : Hp} {s : Shared} {Q : VK} {us : List Value} {vs : List V} {ds : List D} (G : FnD X.prog X.w X.K X.mg X.base cb k f fd ps F) (hr : Room k X.A) (hb : Binds X.K fd ps [])
    (I : Inv X pins σ H s) (r : Vals vs us) (l : Same L H) (t : Tls X.K (cfOf cb L vs).z H ds vs) (hn : vs.length = ps.length) (h : AnsOk X (cfOf cb L vs) σ H (F (ds.map .val)) Q) : wpAny (model X.prog X.w) X.A (call (.ref f) us) (EP X pins σ Q) X.xe s := by
  have hl : us.length = ps.length := by rw [← r.length]; exact hn
  have hb' := hb s us I.kIn (by rw [List.append_nil]; exact hl)
  rw [List.append_nil] at hb'
  let E : XK := fun cls od H' => ∃ x C, F (ds.map .val) = .err x ∧ cb.exc x = some C ∧ cls = .ref C ∧ od = none ∧ Same H H'
  have hsp : spD X.K cb ps.length F vs H Q E := by
    refine ⟨hn, cfOf cb L vs, ds.map .val, rfl, rfl, j_args l t, ?_⟩
    cases q : F (ds.map .val) with
    | ok d => rw [q] at h; exact fun v H' s _ t => h v H' (fun b o z => s b o z fun w => w) t
    | new m => rw [q] at h; exact fun v H' S s _ o n k => h v H' S (fun b o z => s b o z fun w => w) o n k
    | okG d os => rw [q] at h; exact h.elim
    | newG d os => rw [q] at h; exact h.elim
    | err x => exact fun C H' e s => ⟨x, C, q, e, rfl, rfl, fun b o z => s b o z fun w => w⟩
    | bad => rw [q] at h; exact h
  refine wpAny_call (codeAny_mono (G.run X.A X.stack s H ⟨us, []⟩ us vs Q E hr I.env0 hb' r hsp) fun r s' hq => ?_)
  cases r with
  | error e =>
    obtain ⟨a, C, H', B, a0, h1, ⟨x, C', q1, q2, q3, q4, q5⟩, h3, h4, h5, h6, h6', h7⟩ := hq
    rw [q1] at h
    cases q3
    exact h e s' ⟨pins, H, s, C, I, Same.refl H, q2, .inr ⟨a, C, H', B, a0, h1, ⟨rfl, rfl, q5⟩, h3, h4, h5, h6, h6', h7⟩⟩
  | ok fl =>
    cases fl with
    | ret u => exact I.after hq
    | next => exact False.elim hq
    | brk => exact False.elim hq
    | cont => exact False.elim hq
structure Lends (ct : Ct) (md : List D → Option (List D)) (bk : D → Bool) (bkM : M → Bool) : Prop where
  go : ∀ K H ds vs ds', Same ct.f.L H → Same ct.B H → Tls K ct H ds vs → md ds = some ds' → ∃ L, Same L H ∧ Tls K (cfOf ct.f.cb L vs).z H ds' vs ∧
    (∀ H' d v, bk d = true → Tl K (cfOf ct.f.cb L vs).z H' d v → Tl K ct H' d v) ∧ ∀ H' m v S, bkM m = true → Ow K (cfOf ct.f.cb L vs).z H' m v S → Ow K ct H' m v S
theorem tl_cong {K : PySem.W.Frag} {ct ct' : Ct} {H : Hp} (e : ct'.f.cb = ct.f.cb) (l : ∀ t a o, ct.lo t a = some o → ct'.lo t a = some o) {d : D} {v : V} (h : Tl K ct H d v) : Tl K ct' H d v := by
  have := Tl.re (ct := ct) (ct' := ct') (p := fun _ => true) (g := id) ⟨e, fun t a o _ q => l t a o q⟩ (okP_all d) h
  rwa [reD_id] at this
theorem tls_cong {K : PySem.W.Frag} {ct ct' : Ct} {H : Hp} (e : ct'.f.cb = ct.f.cb) (l : ∀ t a o, ct.lo t a = some o → ct'.lo t a = some o) {d : List D} {v : List V} (h : Tls K ct H d v) : Tls K ct' H d v := by
  have := Tls.re (ct := ct) (ct' := ct') (p := fun _ => true) (g := id) ⟨e, fun t a o _ q => l t a o q⟩ (okPs_all d) h
  rwa [reDs_id] at this
theorem ow_cong {K : PySem.W.Frag} {ct ct' : Ct} {H : Hp} (e : ct'.f.cb = ct.f.cb) (l : ∀ t a o, ct.lo t a = some o → ct'.lo t a = some o) {m : M} {v : V} {S : Fp} (h : Ow K ct H m v S) : Ow K ct' H m v S :=
  Ow.map (p := fun _ => true) e (fun _ _ _ => tl_cong e l) (q := fun _ => true) (fun _ _ _ => tls_cong e l) (pm := fun _ => true) (pms := fun _ => true) (fun _ _ => rfl) (fun _ _ => rfl) (fun _ _ => rfl) (fun _ _ => rfl) (fun _ _ _ => rfl) (fun _ _ _ _ => rfl) (fun _ _ _ => ⟨rfl, rfl⟩) rfl h
theorem lends_plain (c : Cf) : Lends c.z some (fun _ => true) (fun _ => true) := ⟨fun K H ds vs ds' l b t e => by
  cases e
  have q : ∀ t a o, c.z.lo t a = some o → (cfOf c.cb c.L vs).z.lo t a = some o := fun t a o z => by cases t <;> exact z
  have q' : ∀ t a o, (cfOf c.cb c.L vs).z.lo t a = some o → c.z.lo t a = some o := fun t a o z => by cases t <;> exact z
  exact ⟨c.L, l, tls_cong (ct := c.z) (ct' := (cfOf c.cb c.L vs).z) rfl q t, fun H' d v _ t => tl_cong (ct := (cfOf c.cb c.L vs).z) (ct' := c.z) rfl q' t, fun H' m v S _ t => ow_cong (ct := (cfOf c.cb c.L vs).z) (ct' := c.z) rfl q' t⟩⟩
def AnsB (X : Cx) (ct : Ct) (bk : D → Bool) (bkM : M → Bool) (σ : St) (H : Hp) (a : Ans) (Q : VK) : Prop := match a with
  | .ok d => bk d = true ∧ Wd X ct H Q d
  | .new m => bkM m = true ∧ Wm X ct H Q m
  | .err x => ∀ e s', RaisedAt X ct.f.cb σ H x e s' → X.xe e s'
  | _ => False
def kOf (X : Cx) (ct : Ct) (md : List D → Option (List D)) (bk : D → Bool) (bkM : M → Bool) (n : Nat) (F : List Slot → Ans) (fa : Sg → Res (List D)) : TE := fun σ H Q =>
  ∃ Γ, Jx X ct Γ σ H ∧ Ok X ct σ H (fa Γ) fun ds => ds.length = n ∧ ∃ ds', md ds = some ds' ∧ ∀ H', Same H H' → AnsB X ct bk bkM σ H' (F (ds'.map .val)) Q
variable {ct : Ct} {md : List D → Option (List D)} {bk : D → Bool} {bkM : M → Bool}
theorem ansB_ok {σ : St} {H L : Hp} {a : Ans} {Q : VK} {vs : List V} (h : AnsB X ct bk bkM σ H a Q) (q1 : ∀ H' d v, bk d = true → Tl X.K (cfOf ct.f.cb L vs).z H' d v → Tl X.K ct H' d v) (q2 : ∀ H' m v S, bkM m = true → Ow X.K (cfOf ct.f.cb L vs).z H' m v S → Ow X.K ct H' m v S) :
    AnsOk X (cfOf ct.f.cb L vs) σ H a Q := by
  cases a with
  | ok d => exact fun v H' s t => h.2 v H' s (q1 H' d v h.1 t)
  | new m => exact fun v H' S s o n k => h.2 v H' S s (q2 H' m v S h.1 o) n k
  | err x => exact h
  | okG d os => exact h
  | newG d os => exact h
  | bad => exact h
theorem pe_callD (Z : Lends ct md bk bkM) (G : FnD X.prog X.w X.K X.mg X.base ct.f.cb k f fd ps F) (hr : Room k X.A) (hm : X.mg x = some (.ref f)) (hk : PySem.W.keepIn X.K (.ref f) = true) (hb : Binds X.K fd ps []) (ha : PDA X ct (e :: es) fa) (hg : Gl X x := by rfl)
    (hdb : (x == ("__debug__" : Str)) = false := by decide) (he : starEach (e :: es) X.env = (false, eval e X.env) :: starEach es X.env := by rfl) (hpl : (backTo pos (starEach es X.env)).any (·.1) = false := by rfl) :
    PE X (.Call (.Name x p) (e :: es) [] pos) (kOf X ct md bk bkM ps.length F fa) := by
  intro pins s σ H Q I ⟨Γ, j, h⟩
  refine wpAny_Call_Name_kw (ld_glob I hg hm ?_ hdb)
  have h' : aOf X ct fa σ H (fun vs H1 => ∃ ds ds', Same H H1 ∧ Tls X.K ct H1 ds vs ∧ ds.length = ps.length ∧ md ds = some ds' ∧ AnsB X ct bk bkM σ H1 (F (ds'.map .val)) Q) :=
    ⟨Γ, j, Ok.mono (Same.refl H) h fun ds ⟨q1, ds', q2, q3⟩ vs H1 s1 t1 => ⟨ds, ds', s1, t1, q1, q2, q3 H1 s1⟩⟩
  refine PySem.W.callWith_K (h₀ := X.base) I.ok.mod.kin hk (thn (ha pos pins s σ H _ I h') fun us s1 ⟨vs, H1, I1, r, ds, ds', sm, t1, hl, hd, q⟩ => ⟨I1.kIn, ?_⟩) he hpl
  have j1 := j.mono sm
  obtain ⟨L, l, t2, q1, q2⟩ := Z.go X.K H1 ds vs ds' j1.lL j1.lB t1 hd
  exact run_fnD G hr hb I1 r l t2 (by rw [← t1.length]; exact hl) (ansB_ok q q1 q2)
theorem Wm.mono {H H2 : Hp} {Q : VK} {m : M} (s : Same H H2) (h : Wm X ct H Q m) : Wm X ct H2 Q m := fun v H' S e o n k => h v H' S (s.trans e) o (fun b z => s.free (n b z)) k
theorem Wm.data {H : Hp} {Q : VK} {d : D} (h : Wm X ct H Q (.d d)) : Wd X ct H Q d := fun v H' e t => h v H' (fun _ => False) e (by simpa only [Ow] using t) (fun _ z => z.elim) fun _ z => z.elim
theorem pm_call {n : Nat} {g : Sg → Res M} (h : PE X e (kOf X ct md bk bkM n F fa)) (hg : ∀ Γ, g Γ = (fa Γ).bnd fun ds => if ds.length = n then (match md ds with
      | some ds' => (match F (ds'.map .val) with
        | .ok d => if bk d = true then .ok (.d d) else .bad
        | .new m => if bkM m = true then .ok m else .bad
        | .err x => .err x
        | _ => .bad)
      | none => .bad) else .bad) : PM X ct e g := by
  refine PE.imp h fun σ H Q ⟨Γ, j, q⟩ => ⟨Γ, j, ?_⟩
  rw [hg] at q
  refine q.bnd fun ds _ q => ?_
  split at q
  · rename_i hl
    split at q
    · rename_i ds' hd
      refine ⟨hl, ds', hd, fun H' s => ?_⟩
      cases z : F (ds'.map .val) with
      | ok d =>
        rw [z] at q; dsimp only at q
        split at q
        · rename_i hb; exact ⟨hb, (Wm.data q).mono s⟩
        · exact q.elim
      | new m =>
        rw [z] at q; dsimp only at q
        split at q
        · rename_i hb; exact ⟨hb, Wm.mono s q⟩
        · exact q.elim
      | err x => rw [z] at q; exact fun e s' r => q e s' (r.mono s)
      | okG d os => rw [z] at q; exact q.elim
      | newG d os => rw [z] at q; exact q.elim
      | bad => rw [z] at q; exact q.elim
    · exact q.elim
  · exact q.elim
section
variable {n : Nat}
theorem pm_callP {c : Cf} (h : PE X e (kOf X c.z some (fun _ => true) (fun _ => true) n F fa)) : PM X c.z e (mCall n F fa) := pm_call h fun Γ => by
  unfold mCall
  cases fa Γ with
  | ok ds =>
    simp only [Res.bnd_ok]
    by_cases hl : ds.length = n
    · simp only [hl, if_true]
      cases F (ds.map .val) <;> simp [mAns]
    · simp [hl]
  | err x => rfl
  | bad => rfl
theorem fz_ans (a : Ans) : dAns a = (mAns a).bnd fzR := by cases a <;> simp [dAns, mAns, fzR, fzOk, fzM]
theorem dFz_call (f : Sg → Res (List D)) (g : List D → Ans) (P : List D → Prop) [DecidablePred P] : (fun Γ => (f Γ).bnd fun ds => if P ds then dAns (g ds) else .bad) = dFzM (fun Γ => (f Γ).bnd fun ds => if P ds then mAns (g ds) else .bad) := by
  funext Γ
  unfold dFzM
  dsimp only
  cases f Γ with
  | ok ds =>
    simp only [Res.bnd_ok]
    by_cases h : P ds
    · simp only [h, if_true]; exact fz_ans _
    · simp [h]
  | err x => rfl
  | bad => rfl
theorem pd_callP {c : Cf} (h : PE X e (kOf X c.z some (fun _ => true) (fun _ => true) n F fa)) : PD X c.z e (dCall n F fa) := by
  have := pd_of_pm (pm_callP h)
  rwa [show dFzM (mCall n F fa) = dCall n F fa from (dFz_call fa (fun ds => F (ds.map .val)) fun ds => ds.length = n).symm] at this
end
end
section
variable {P : Program} {w : World} {K : PySem.W.Frag} {mg : Str → Option Value} {base : Heap} {cb : Cb}
theorem leave_ok {N : List Str} {qual : Str} {scope : Scope} {f : Addr} {cd : Value} {A : Around} {outer : List Env} {s : Shared} {H : Hp} {E : XK} {σ' : St} {H' : Hp} {c : String} {e : Value} {s' : Shared}
    (r : RaisedAt (cxOf (CX1 P w) P w K mg base N qual scope f cd A outer s H E) cb σ' H' c e s') (he : ∀ C H2, cb.exc c = some C → Same H' H2 → E (.ref C) none H2) :
    (cxOf (CX1 P w) P w K mg base N qual scope f cd A outer s H E).xe e s' := by
  obtain ⟨pins, H1, s1, C, I1, sm, hc, r⟩ := r
  have hfr := I1.ok.frames
  have back : ∀ a, s1.heap.get? a = none → s.heap.get? a = none := fun a q => by
    cases z : s.heap.get? a with
    | none => rfl
    | some o => obtain ⟨o', w'⟩ := I1.base.there a o z (by simp [cxOf]); rw [q] at w'; cases w'
  rcases r with ⟨a, args, h', rfl, rfl, hx⟩ | ⟨a, C', H2, B, a0, rfl, ⟨q1, q2, q3⟩, q4, q5, fl, na, nw, cl⟩
  · -- made here
    let X := cxOf (CX1 P w) P w K mg base N qual scope f cd A outer s H E
    have hst : s1.heap.FunFrames X.base X.stack := I1.stack
    have hin : ∀ env ∈ X.stack, ∀ b, env.frame = some b → b ∈ frs X.stack := fun env he b hb => List.mem_filterMap.mpr ⟨env, he, hb⟩
    have hkb : (PySem.W.hideAll s1.heap (frs X.stack)).StaysIn s1.heap := fun b o q => PySem.W.of_hideAll _ q
    refine wpAny_leaves_madeW (s := { s1 with heap := h' }) (L := s.heap.objs.size) hfr rfl hkb (PySem.W.funFrames_hide hst hin) hx fun h2 t fl tu tn up => ?_
    have na : H1 a = none := by
      cases z : H1 a with
      | none => rfl
      | some o =>
        obtain ⟨ob, hb⟩ := objOk_there (I1.hok a o z)
        rw [hx.new] at hb; cases hb
    refine ⟨a, C, H1, PySem.W.hideAll s1.heap (frs X.stack), .ref t, rfl, he C H1 hc sm, I1.os, I1.bare, fl, na, back a hx.new, fun h3 st3 up3 => ?_⟩
    have keep : ∀ b o, s1.heap.get? b = some o → b ∉ frs X.stack → h3.get? b = some o := fun b o q nb => st3 b o (PySem.W.hideAll_get _ q nb)
    have slot : ∀ b o, s1.heap.get? b = some o → b ∈ frs X.stack → ∃ sl, h3.get? b = some { o with slots := sl } := fun b o q hb => by
      obtain ⟨_, o', ho', hd⟩ := hst.mem hb
      rw [q] at ho'; cases ho'
      exact (up.trans up3) b o (hx.keeps b o q) hd
    have un : Un (frs X.stack) [] H1 H1 s1.heap h3 := ⟨fun b o q n nb _ => keep b o q nb, fun b o q n hb _ => slot b o q hb, fun b o q n _ => n, fun b o q _ => by
      by_cases hb : b ∈ frs X.stack
      · obtain ⟨sl, z⟩ := slot b o q hb; exact ⟨_, z⟩
      · exact ⟨o, keep b o q hb⟩, fun b xs q => q, fun b o u q => q, fun b ps q => ⟨#[], by rw [q]; simp⟩⟩
    have hok : HOk P w H1 h3 := fun b o q => (I1.hok b o q).stay (fun b' u hb' e' => by
      have tr : H1 b' ≠ none := by
        rcases hb' with rfl | hb'
        · rw [q]; exact fun z => nomatch z
        · rw [hb']; exact fun z => nomatch z
      exact keep b' u e' fun z => tr (I1.stkFree b' z)) (fun _ q => q) fun _ _ q => q
    have I3 := I1.call' (s' := { s1 with heap := h3 }) (ch := []) rfl un hok I1.bare (fun b z => absurd z (by simp))
    exact ⟨I3.base, hok⟩
  · -- out of a call
    cases q1
    refine wpAny_leaves_onW (L := s.heap.objs.size) hfr rfl fl fun h2 fl2 up => ?_
    refine ⟨a, C, H2, B, a0, rfl, he C H2 hc (sm.trans q3), q4.trans I1.os, q5, fl2, na, back a nw, fun h3 st3 up3 => ?_⟩
    obtain ⟨un, hok⟩ := cl h3 st3 (up.trans up3)
    have I3 := I1.call' (s' := { s' with heap := h3 }) (ch := []) q4 un hok q5 (fun b z => absurd z (by simp))
    exact ⟨I3.base, hok⟩
theorem j_start {N : List Str} {as : List Slot} {vs : List V} {H : Hp} {c : Cf} (j : J K c.z H as (vs.map some) H) : J K c.z H (st0 N as) (L2.start N vs) H := by
  have hl : as.length = vs.length := by have := j.len; simpa using this
  obtain ⟨S, h1, h2, h3⟩ := j.sl
  refine ⟨j.same, j.free, j.lL, j.lB, by simp [st0, L2.start, hl], fun i b => S i b ∧ i < as.length, fun i sl ov g1 g2 => ?_, fun i k b e z z' => h2 i k b e z.1 z'.1, fun i b z => h3 i b z.1⟩
  by_cases hi : i < as.length
  · rw [st0, List.getElem?_append_left hi] at g1
    rw [L2.start, List.getElem?_append_left (by simpa [← hl] using hi)] at g2
    have eS : (fun b => S i b ∧ i < as.length) = S i := funext fun b => propext ⟨fun z => z.1, fun z => ⟨z, hi⟩⟩
    show SlotOk K c.z H H i (fun b => S i b ∧ i < as.length) sl ov
    rw [eS]
    exact h1 i sl ov g1 g2
  · rw [st0, List.getElem?_append_right (Nat.le_of_not_lt hi), List.getElem?_replicate] at g1
    split at g1
    · cases g1; exact fun b z => hi z.2
    · cases g1
theorem fn_okD {x qual : Str} {st : Stmt} {f : Addr} {fd : FuncData} {N ps : List Str} {k : Nat} {F : List Slot → Ans} {B : Nat → Sg → Out} (Fn' : Fun K x qual st f fd) (S : FnScope N ps (defScope st))
    (hbody : ∀ (c : Cf) (cdv : Value) (A : Around) (outer : List Env) (s : Shared) (H : Hp) (E : XK), c.cb = cb → Room k (A.deeper (envOfC qual (defScope st) s.heap.objs.size f cdv)) →
      Good (cxOf (CX1 P w) P w K mg base N qual (defScope st) f cdv A outer s H E) → ∀ n, PDSs (cxOf (CX1 P w) P w K mg base N qual (defScope st) f cdv A outer s H E) c (defBody st) (B n))
    (hF : ∀ as, as.length = ps.length → F as ≠ .bad → ∃ n, ans (B n (st0 N as)) = F as) : FnD P w K mg base cb (k + 1) f fd ps F := by
  obtain ⟨oc, od, kV, doc, pm, an, cdv, ct', osl, rfl, lk, hcd⟩ := Fn'.ex
  refine fn_of lk hcd S (fun vs H Q E h => h.1) fun A outer s H vs Q E hr hsp => ?_
  obtain ⟨hn, c, as, ecb, eargs, j, h⟩ := hsp
  have hl : as.length = vs.length := by have := j.len; simpa using this
  have hb : F as ≠ .bad := fun z => by rw [z] at h; exact h
  obtain ⟨n, hF⟩ := hF as (by rw [hl]; exact hn) hb
  refine ⟨_, hbody c cdv A outer s H E ecb hr ⟨PassesOwn.leaving, rfl, S.nd, rfl, rfl⟩ n, st0 N as, j_start j, ?_⟩
  rw [← hF] at h
  cases q : B n (st0 N as) with
  | nx Γ => rw [q] at h; exact fun σ' H' _ j => h .non H' j.same j.free (by simp [Tl])
  | bk Γ => rw [q] at h; exact h.elim
  | ct Γ => rw [q] at h; exact h.elim
  | rt d => rw [q] at h; exact fun v H' b t => h v H' b.same b.free t
  | rtm m => rw [q] at h; exact fun v H' S b o n k => h v H' S b.same b.free o n k
  | rtG d Γ => rw [q] at h; exact fun v σ' H' j t => h v Γ σ' H' j rfl t
  | rtmG d Γ => rw [q] at h; exact h.elim
  | err x Γ =>
    rw [q] at h
    exact fun σ' H' e s' _ j r => leave_ok (ecb ▸ r) fun C H2 hc s => h C H2 hc fun b o z n => s b o (j.same b o z n)
  | bad => rw [q] at h; exact h.elim
theorem wfn_okD {x qual : Str} {st : Stmt} {f : Addr} {fd : FuncData} {N ps : List Str} {k : Nat} {F : List Slot → Ans} {B : Nat → Sg → Out} (Fn' : Fun K x qual st f fd) (S : FnScope N ps (defScope st)) (hbody : ∀ (c : Cf) (cdv : Value) (A : Around) (outer : List Env) (s : Shared) (H : Hp) (E : XK), c.cb = cb → Room k (A.deeper (envOfC qual (defScope st) s.heap.objs.size f cdv)) →
      Good (cxOf (CX1 P w) P w K mg base N qual (defScope st) f cdv A outer s H E) → ∀ n, WDSs (cxOf (CX1 P w) P w K mg base N qual (defScope st) f cdv A outer s H E) c (defBody st) (B n)) (hF : ∀ as, as.length = ps.length → F as ≠ .bad → ∃ n, ans (B n (st0 N as)) = F as) : FnD P w K mg base cb (k + 1) f fd ps F := fn_okD (Fn' := Fn') (S := S) (hbody := (fun c cdv A outer s H E h_1 h_2 h_3 n => (hbody c cdv A outer s H E h_1 h_2 h_3 n).out)) (hF := hF)
end
end L4
end
section
set_option Elab.async false
set_option linter.all false
set_option maxRecDepth 100000
namespace L4
open PySem PySem.Spec PyProof.Rows L2
section
variable {X : Cx} {ct : Ct} {a b e : Expr} {f g : Sg → Res D} {pos : Pos}
theorem op2_int {C' : Int → Int → Prop} {C : Int → Int → Bool} {gv : Int → Int → V} {gd : Int → Int → D} (hc : ∀ i j, C i j = true → C' i j) (ht : ∀ i j K ct H, Tl K ct H (gd i j) (gv i j)) : Op2 X ct (rI C' gv) (intD C gd) := by
  intro σ H x y d1 d2 Q lL lB t1 t2 h
  cases d1 with
  | int i =>
    cases d2 with
    | int j =>
      simp only [Tl] at t1 t2
      subst t1 t2
      rw [intD_int] at h
      split at h
      · rename_i hij
        exact ⟨i, j, rfl, rfl, hc i j hij, h _ H (Same.refl H) (ht i j _ _ _)⟩
      · exact h.elim
    | _ => exact h.elim
  | _ => cases d2 <;> exact h.elim
theorem opR_c {F : Value → Value → Sem Value} {gv : Int → Int → V} (h : OpR X F (rI0 gv)) : OpR X F (rI (fun _ _ => True) gv) := fun pins s σ H x y v u Q I rx ry ⟨i, j, h1, h2, _, q⟩ => h pins s σ H x y v u Q I rx ry ⟨i, j, h1, h2, q⟩
theorem mulOk_ok {i j : Int} (h : mulOk i j = true) : IntMulOk i j := by
  simp only [mulOk, Bool.or_eq_true, Bool.and_eq_true, decide_eq_true_eq] at h
  rcases h with (h | h) | h
  · exact .of_left h
  · exact .of_right h
  · exact .of_bits h.1 h.2
theorem op_mulG : OpR X (binaryOp .Mult) (rI (fun i j => mulOk i j = true) fun i j => .int (i * j)) := opI fun _ _ _ _ _ _ _ hc q => mul_int q (mulOk_ok hc)
theorem op_fdivG : OpR X (binaryOp .FloorDiv) (rI (fun i j => divOk i j = true) fun i j => .int (i.fdiv j)) := opI fun _ _ _ _ _ _ _ hc q => by
  simp only [divOk, Bool.and_eq_true, decide_eq_true_eq] at hc
  exact floordiv_int hc.1 q (.inl (PyProof.noPylong_of_log2 hc.2))
theorem pd_sub (ha : PD X ct a f) (hb : PD X ct b g) : PD X ct (.BinOp a .Sub b pos) (dOp subI f g) := pd_op (opR_c op_sub) (op2_int (fun _ _ _ => trivial) fun _ _ _ _ _ => by simp [Tl]) ha hb
theorem wd_sub (ha : WD X ct a f) (hb : WD X ct b g) : WD X ct (.BinOp a .Sub b pos) (dOp subI f g) := ⟨pd_sub (ha := ha.out) (hb := hb.out)⟩
theorem pd_mul (ha : PD X ct a f) (hb : PD X ct b g) : PD X ct (.BinOp a .Mult b pos) (dOp mulI f g) := pd_op op_mulG (op2_int (fun _ _ h => h) fun _ _ _ _ _ => by simp [Tl]) ha hb
theorem wd_mul (ha : WD X ct a f) (hb : WD X ct b g) : WD X ct (.BinOp a .Mult b pos) (dOp mulI f g) := ⟨pd_mul (ha := ha.out) (hb := hb.out)⟩
theorem pd_fdiv (ha : PD X ct a f) (hb : PD X ct b g) : PD X ct (.BinOp a .FloorDiv b pos) (dOp fdivI f g) := pd_op op_fdivG (op2_int (fun _ _ h => h) fun _ _ _ _ _ => by simp [Tl]) ha hb
theorem wd_fdiv (ha : WD X ct a f) (hb : WD X ct b g) : WD X ct (.BinOp a .FloorDiv b pos) (dOp fdivI f g) := ⟨pd_fdiv (ha := ha.out) (hb := hb.out)⟩
theorem pd_mod (ha : PD X ct a f) (hb : PD X ct b g) : PD X ct (.BinOp a .Mod b pos) (dOp modI f g) := pd_op op_modN (op2_int (fun _ _ h => of_decide_eq_true h) fun _ _ _ _ _ => by simp [Tl]) ha hb
theorem wd_mod (ha : WD X ct a f) (hb : WD X ct b g) : WD X ct (.BinOp a .Mod b pos) (dOp modI f g) := ⟨pd_mod (ha := ha.out) (hb := hb.out)⟩
theorem pd_pow (ha : PD X ct a f) (hb : PD X ct b g) : PD X ct (.BinOp a .Pow b pos) (dOp powI f g) := pd_op op_pow (op2_int (fun _ _ h => by
  simp only [powOk, Bool.and_eq_true, decide_eq_true_eq] at h
  exact ⟨h.1.1, h.1.2, h.2⟩) fun _ _ _ _ _ => by simp [Tl]) ha hb
theorem wd_pow (ha : WD X ct a f) (hb : WD X ct b g) : WD X ct (.BinOp a .Pow b pos) (dOp powI f g) := ⟨pd_pow (ha := ha.out) (hb := hb.out)⟩
theorem pd_xor (ha : PD X ct a f) (hb : PD X ct b g) : PD X ct (.BinOp a .BitXor b pos) (dOp xorI f g) := pd_op (opR_c op_xor) (op2_int (fun _ _ _ => trivial) fun _ _ _ _ _ => by simp [Tl]) ha hb
theorem wd_xor (ha : WD X ct a f) (hb : WD X ct b g) : WD X ct (.BinOp a .BitXor b pos) (dOp xorI f g) := ⟨pd_xor (ha := ha.out) (hb := hb.out)⟩
theorem pd_lt (ha : PD X ct a f) (hb : PD X ct b g) : PD X ct (.Compare a [.Lt] [b] pos) (dOp ltI f g) := pd_cmp (opR_c op_lt) (op2_int (fun _ _ _ => trivial) fun _ _ _ _ _ => by simp [Tl]) ha hb (nomark _)
theorem wd_lt (ha : WD X ct a f) (hb : WD X ct b g) : WD X ct (.Compare a [.Lt] [b] pos) (dOp ltI f g) := ⟨pd_lt (ha := ha.out) (hb := hb.out)⟩
theorem pdt_lt (ha : PD X ct a f) (hb : PD X ct b g) : PDT X ct (.Compare a [.Lt] [b] pos) (dT (dOp ltI f g)) := pdt_cmp (opR_c op_lt) (op2_int (fun _ _ _ => trivial) fun _ _ _ _ _ => by simp [Tl]) ha hb (nomark _)
theorem wdt_lt (ha : WD X ct a f) (hb : WD X ct b g) : WDT X ct (.Compare a [.Lt] [b] pos) (dT (dOp ltI f g)) := ⟨pdt_lt (ha := ha.out) (hb := hb.out)⟩
theorem pd_neg (ha : PD X ct a f) : PD X ct (.UnaryOp .USub a pos) (dUn negI f) := by
  refine PE.imp (pe_un un_neg ha) fun σ H Q ⟨Γ, j, h⟩ => ?_
  refine eOf.bnd j h fun d v H' s t j' h' => ?_
  cases d with
  | int i => simp only [Tl] at t; exact ⟨i, t, h' _ H' s (by simp [Tl])⟩
  | _ => exact h'.elim
theorem wd_neg (ha : WD X ct a f) : WD X ct (.UnaryOp .USub a pos) (dUn negI f) := ⟨pd_neg (ha := ha.out)⟩
theorem cb_of {r2 : List V → Hp → VK → Prop} {r : List D → Res D} {fa : Sg → Res (List D)} (k : ∀ (σ : St) (H : Hp) (vs : List V) (ds : List D) (Q : VK), Same ct.f.L H → Same ct.B H → Tls X.K ct H ds vs → Ok X ct σ H (r ds) (Wd X ct H Q) → r2 vs H Q) :
    ∀ σ H Q, eOf X ct (dCB r fa) σ H Q → tCB r2 (aOf X ct fa) σ H Q := by
  rintro σ H Q ⟨Γ, j, h⟩
  exact aOf.bnd j h fun ds vs H' s t j' h' => k σ H' vs ds Q j'.lL j'.lB t (Ok.mono s h' fun d q => q.mono s)
theorem tls1 {K : PySem.W.Frag} {H : Hp} {d : D} {vs : List V} (h : Tls K ct H [d] vs) : ∃ v, vs = [v] ∧ Tl K ct H d v := by
  simp only [Tls] at h
  obtain ⟨v, r, rfl, t, rfl⟩ := h
  exact ⟨v, rfl, t⟩
theorem tls2 {K : PySem.W.Frag} {H : Hp} {d d' : D} {vs : List V} (h : Tls K ct H [d, d'] vs) : ∃ v v', vs = [v, v'] ∧ Tl K ct H d v ∧ Tl K ct H d' v' := by
  simp only [Tls] at h
  obtain ⟨v, r, rfl, t, v', r', rfl, t', rfl⟩ := h
  exact ⟨v, v', rfl, t, t'⟩
theorem pd_abs {p : Pos} {fa : Sg → Res (List D)} {es : List Expr} (hm : X.mg "abs" = none) (ha : PDA X ct (e :: es) fa) (hg : Gl X "abs" := by rfl) (he : starEach (e :: es) X.env = (false, eval e X.env) :: starEach es X.env := by rfl)
    (hpl : (backTo pos (starEach es X.env)).any (·.1) = false := by rfl) : PD X ct (.Call (.Name "abs" p) (e :: es) [] pos) (dCB absD fa) := by
  refine PE.imp (pe_callB call_abs hg hm PyProof.Rows.boot_abs ha (by decide) (by decide) he hpl) (cb_of fun σ H vs ds Q lL lB t h => ?_)
  unfold absD at h
  split at h
  · rename_i i
    obtain ⟨v, rfl, tv⟩ := tls1 t
    simp only [Tl] at tv
    subst tv
    exact ⟨i, rfl, h _ H (Same.refl H) (by simp [Tl])⟩
  · exact h.elim
theorem wd_abs {p : Pos} {fa : Sg → Res (List D)} {es : List Expr} (hm : X.mg "abs" = none) (ha : WDA X ct (e :: es) fa) (hg : Gl X "abs" := by rfl) (he : starEach (e :: es) X.env = (false, eval e X.env) :: starEach es X.env := by rfl) (hpl : (backTo pos (starEach es X.env)).any (·.1) = false := by rfl) : WD X ct (.Call (.Name "abs" p) (e :: es) [] pos) (dCB absD fa) := ⟨pd_abs (hm := hm) (ha := ha.out) (hg := hg) (he := he) (hpl := hpl)⟩
theorem pd_len {p : Pos} {fa : Sg → Res (List D)} {es : List Expr} (hm : X.mg "len" = none) (ha : PDA X ct (e :: es) fa) (hg : Gl X "len" := by rfl) (he : starEach (e :: es) X.env = (false, eval e X.env) :: starEach es X.env := by rfl)
    (hpl : (backTo pos (starEach es X.env)).any (·.1) = false := by rfl) : PD X ct (.Call (.Name "len" p) (e :: es) [] pos) (dCB lenD fa) := by
  refine PE.imp (pe_callB call_len hg hm PySem.boot_len ha (by decide) (by decide) he hpl) (cb_of fun σ H vs ds Q lL lB t h => ?_)
  unfold lenD at h
  split at h
  · rename_i es
    obtain ⟨v, rfl, tv⟩ := tls1 t
    simp only [Tl] at tv
    obtain ⟨a, us, rfl, h1, h2⟩ := tv
    refine ⟨_, us.length, rfl, ?_, h _ H (Same.refl H) (by rw [h2.length]; simp [Tl])⟩
    exact .inl ⟨us, h1.sq, rfl⟩
  · rename_i es
    obtain ⟨v, rfl, tv⟩ := tls1 t
    simp only [Tl] at tv
    obtain ⟨a, us, rfl, h1, h2⟩ := tv
    refine ⟨_, us.length, rfl, ?_, h _ H (Same.refl H) (by rw [h2.length]; simp [Tl])⟩
    exact .inr ⟨us, h1, rfl⟩
  · rename_i tm es
    obtain ⟨v, rfl, tv⟩ := tls1 t
    obtain ⟨a, us, rfl, h1, h2⟩ := tv.seqL lL lB rfl
    refine ⟨_, us.length, rfl, ?_, h _ H (Same.refl H) (by rw [h2.length]; simp [Tl])⟩
    exact .inl ⟨us, h1, rfl⟩
  · rename_i x
    split at h
    · rename_i hx
      obtain ⟨v, rfl, tv⟩ := tls1 t
      simp only [Tl] at tv
      subst tv
      exact ⟨_, x.length, rfl, ⟨hx, rfl⟩, h _ H (Same.refl H) (by simp [Tl])⟩
    · exact h.elim
  · exact h.elim
theorem wd_len {p : Pos} {fa : Sg → Res (List D)} {es : List Expr} (hm : X.mg "len" = none) (ha : WDA X ct (e :: es) fa) (hg : Gl X "len" := by rfl) (he : starEach (e :: es) X.env = (false, eval e X.env) :: starEach es X.env := by rfl) (hpl : (backTo pos (starEach es X.env)).any (·.1) = false := by rfl) : WD X ct (.Call (.Name "len" p) (e :: es) [] pos) (dCB lenD fa) := ⟨pd_len (hm := hm) (ha := ha.out) (hg := hg) (he := he) (hpl := hpl)⟩
end
end L4
end
section
set_option Elab.async false
set_option linter.all false
set_option maxRecDepth 100000
namespace L4
open PySem PySem.Spec PyProof.Rows L2
theorem canLayAll_pys : ∀ (ds : List D), (∀ d ∈ ds, (py d).canLay0 = true) → PyData.canLayAll0 (pys ds) = true
  | [], _ => by simp [pys, PyData.canLayAll0]
  | d :: ds, h => by
    simp only [pys, PyData.canLayAll0, Bool.and_eq_true]
    exact ⟨h d (.head _), canLayAll_pys ds fun x hx => h x (.tail _ hx)⟩
theorem depthAll_pys {n : Nat} : ∀ (ds : List D), (∀ d ∈ ds, (py d).depth ≤ n) → PyData.depthAll (pys ds) ≤ n
  | [], _ => by simp [pys, PyData.depthAll]
  | d :: ds, h => by
    simp only [pys, PyData.depthAll]
    exact Nat.max_le.mpr ⟨h d (.head _), depthAll_pys ds fun x hx => h x (.tail _ hx)⟩
theorem okq_lay : ∀ (n : Nat) (d : D), okq n d = true → (py d).canLay0 = true ∧ (py d).depth ≤ n
  | n, .non, _ => by simp [py, PyData.canLay0, PyData.depth]
  | n, .bl b, _ => by simp [py, PyData.canLay0, PyData.depth]
  | n, .int b, _ => by simp [py, PyData.canLay0, PyData.depth]
  | n, .str b, h => by cases n <;> simp_all [py, PyData.canLay0, PyData.depth, okq]
  | 0, .tup ds, h => by simp [okq] at h
  | 0, .lst ds, h => by simp [okq] at h
  | 0, .bor _ ds, h => by simp [okq] at h
  | n + 1, .bor _ ds, h => by
    simp only [okq, List.all_eq_true] at h
    simp only [py, PyData.canLay0, PyData.depth]
    exact ⟨canLayAll_pys ds fun d hd => (okq_lay n d (h d hd)).1, Nat.succ_le_succ (depthAll_pys ds fun d hd => (okq_lay n d (h d hd)).2)⟩
  | n + 1, .tup ds, h => by
    simp only [okq, List.all_eq_true] at h
    simp only [py, PyData.canLay0, PyData.depth]
    exact ⟨canLayAll_pys ds fun d hd => (okq_lay n d (h d hd)).1, Nat.succ_le_succ (depthAll_pys ds fun d hd => (okq_lay n d (h d hd)).2)⟩
  | n + 1, .lst ds, h => by
    simp only [okq, List.all_eq_true] at h
    simp only [py, PyData.canLay0, PyData.depth]
    exact ⟨canLayAll_pys ds fun d hd => (okq_lay n d (h d hd)).1, Nat.succ_le_succ (depthAll_pys ds fun d hd => (okq_lay n d (h d hd)).2)⟩
  | 0, .obj _ _ _, h => by simp [okq] at h
  | 0, .exc _, h => by simp [okq] at h
  | n + 1, .obj _ _ _, h => by simp [okq] at h
  | n + 1, .exc _, h => by simp [okq] at h
  | 0, .dic _ _, h => by simp [okq] at h
  | 0, .bdc _ _ _, h => by simp [okq] at h
  | n + 1, .dic _ _, h => by simp [okq] at h
  | n + 1, .bdc _ _ _, h => by simp [okq] at h
  | 0, .bob _ _ _ _, h => by simp [okq] at h
  | n + 1, .bob _ _ _ _, h => by simp [okq] at h
theorem okq_shaped {d : D} (h : okq 12 d = true) : SeqAt.shaped (py d) = true := by
  obtain ⟨h1, h2⟩ := okq_lay 12 d h
  unfold SeqAt.shaped
  rw [h1, Bool.true_and]
  exact decide_eq_true (Nat.le_trans h2 (by decide))
section
variable {X : Cx} {ct : Ct} {pins : List (Addr × Obj)} {σ : St} {H : Hp} {s : Shared}
theorem readsAll_of {f : D → Prop} (hf : ∀ d v u, f d → Tl X.K ct H d v → RelV v u → ∃ as, Reads s.heap u (py d) as) : ∀ (ds : List D) (vs : List V) (us : List Value), (∀ d ∈ ds, f d) → Tls X.K ct H ds vs → Vals vs us → ∃ as, ReadsAll s.heap us (pys ds) as
  | [], vs, us, _, h, r => by
    simp only [Tls] at h; subst h
    cases r
    exact ⟨[], .nil⟩
  | d :: ds, vs, us, hd, h, r => by
    simp only [Tls] at h
    obtain ⟨v, w, rfl, t1, t2⟩ := h
    cases r with
    | cons r1 r2 =>
      obtain ⟨as, h1⟩ := hf d v _ (hd d (.head _)) t1 r1
      obtain ⟨bs, h2⟩ := readsAll_of hf ds w _ (fun x hx => hd x (.tail _ hx)) t2 r2
      exact ⟨as ++ bs, .cons h1 h2⟩
theorem reads_of (I : Inv X pins σ H s) (lL : Same ct.f.L H) (lB : Same ct.B H) : ∀ (n : Nat) (d : D) (v : V) (u : Value), okq n d = true → Tl X.K ct H d v → RelV v u → ∃ as, Reads s.heap u (py d) as
  | n, .non, v, u, _, t, r => by simp only [Tl] at t; subst t; cases r; exact ⟨[], .none⟩
  | n, .bl b, v, u, _, t, r => by simp only [Tl] at t; subst t; cases r; exact ⟨[], .bool b⟩
  | n, .int i, v, u, _, t, r => by simp only [Tl] at t; subst t; obtain ⟨k, rfl⟩ := r; exact ⟨[], .int i k⟩
  | n, .str x, v, u, _, t, r => by simp only [Tl] at t; subst t; obtain ⟨k, rfl⟩ := r; exact ⟨[], .str x k⟩
  | 0, .tup ds, v, u, h, _, _ => by simp [okq] at h
  | 0, .lst ds, v, u, h, _, _ => by simp [okq] at h
  | 0, .bor _ ds, v, u, h, _, _ => by simp [okq] at h
  | n + 1, .bor tm ds, v, u, h, t, r => by
    obtain ⟨a, vs, rfl, t1, t2⟩ := t.seqL lL lB rfl
    cases r
    simp only [okq, List.all_eq_true] at h
    obtain ⟨its, rv, ⟨o, m, h1, h2, _, h3⟩, _⟩ := I.list t1
    obtain ⟨as, q⟩ := readsAll_of (f := fun d => okq n d = true) (fun d v u h t r => reads_of I lL lB n d v u h t r) ds vs its h t2 rv
    exact ⟨a :: as, reads_list_at h1 h2 h3 (by simpa using q)⟩
  | n + 1, .tup ds, v, u, h, t, r => by
    simp only [Tl] at t
    obtain ⟨a, vs, rfl, t1, t2⟩ := t
    cases r
    simp only [okq, List.all_eq_true] at h
    obtain ⟨its, rv, ⟨o, h1, h2, m, h3⟩, _⟩ := I.tuple t1
    obtain ⟨as, q⟩ := readsAll_of (f := fun d => okq n d = true) (fun d v u h t r => reads_of I lL lB n d v u h t r) ds vs its h t2 rv
    exact ⟨as, reads_tuple_at h1 h2 h3 (by simpa using q)⟩
  | n + 1, .lst ds, v, u, h, t, r => by
    simp only [Tl] at t
    obtain ⟨a, vs, rfl, t1, t2⟩ := t
    cases r
    simp only [okq, List.all_eq_true] at h
    obtain ⟨its, rv, ⟨o, m, h1, h2, _, h3⟩, _⟩ := I.list t1.sq
    obtain ⟨as, q⟩ := readsAll_of (f := fun d => okq n d = true) (fun d v u h t r => reads_of I lL lB n d v u h t r) ds vs its h t2 rv
    exact ⟨a :: as, reads_list_at h1 h2 h3 (by simpa using q)⟩
  | 0, .obj _ _ _, v, u, h, _, _ => by simp [okq] at h
  | 0, .exc _, v, u, h, _, _ => by simp [okq] at h
  | n + 1, .obj _ _ _, v, u, h, _, _ => by simp [okq] at h
  | n + 1, .exc _, v, u, h, _, _ => by simp [okq] at h
  | 0, .dic _ _, v, u, h, _, _ => by simp [okq] at h
  | 0, .bdc _ _ _, v, u, h, _, _ => by simp [okq] at h
  | n + 1, .dic _ _, v, u, h, _, _ => by simp [okq] at h
  | n + 1, .bdc _ _ _, v, u, h, _, _ => by simp [okq] at h
  | 0, .bob _ _ _ _, v, u, h, _, _ => by simp [okq] at h
  | n + 1, .bob _ _ _ _, v, u, h, _, _ => by simp [okq] at h
end
section
variable {X : Cx} {ct : Ct} {a b e : Expr} {f g : Sg → Res D} {pos : Pos}
def rDeq (K : PySem.W.Frag) (ct : Ct) (neg : Bool) : R2 := fun x y H Q => Same ct.f.L H ∧ Same ct.B H ∧ ∃ d1 d2, Tl K ct H d1 x ∧ Tl K ct H d2 y ∧ okq 12 d1 = true ∧ okq 12 d2 = true ∧ Q (.bl (if neg then !deq d1 d2 else deq d1 d2)) H
theorem op_deq (hu : X.A.units + 64 < cLine) : OpR X (compareOp .Eq) (rDeq X.K ct false) := by
  intro pins s σ H x y v u Q I rx ry ⟨lL, lB, d1, d2, t1, t2, o1, o2, q⟩
  obtain ⟨as, r1⟩ := reads_of I lL lB 12 d1 x v o1 t1 rx
  obtain ⟨bs, r2⟩ := reads_of I lL lB 12 d2 y u o2 t2 ry
  exact eq_dataH r1 r2 (okq_shaped o1) (okq_shaped o2) hu ⟨.bl _, H, I, rfl, q⟩
theorem op_dne (hu : X.A.units + 64 < cLine) : OpR X (compareOp .NotEq) (rDeq X.K ct true) := by
  intro pins s σ H x y v u Q I rx ry ⟨lL, lB, d1, d2, t1, t2, o1, o2, q⟩
  obtain ⟨as, r1⟩ := reads_of I lL lB 12 d1 x v o1 t1 rx
  obtain ⟨bs, r2⟩ := reads_of I lL lB 12 d2 y u o2 t2 ry
  exact ne_dataH r1 r2 (okq_shaped o1) (okq_shaped o2) hu ⟨.bl _, H, I, rfl, q⟩
theorem op2_eq : Op2 X ct (rDeq X.K ct false) eqD := by
  intro σ H x y d1 d2 Q lL lB t1 t2 h
  unfold eqD at h
  split at h
  · rename_i ho
    exact ⟨lL, lB, d1, d2, t1, t2, ho.1, ho.2, h _ H (Same.refl H) (by simp [Tl])⟩
  · exact h.elim
theorem op2_ne : Op2 X ct (rDeq X.K ct true) neD := by
  intro σ H x y d1 d2 Q lL lB t1 t2 h
  unfold neD at h
  split at h
  · rename_i ho
    exact ⟨lL, lB, d1, d2, t1, t2, ho.1, ho.2, h _ H (Same.refl H) (by simp [Tl])⟩
  · exact h.elim
theorem pd_eq (hu : X.A.units + 64 < cLine) (ha : PD X ct a f) (hb : PD X ct b g) : PD X ct (.Compare a [.Eq] [b] pos) (dOp eqD f g) := pd_cmp (op_deq hu) op2_eq ha hb (nomark _)
theorem wd_eq (hu : X.A.units + 64 < cLine) (ha : WD X ct a f) (hb : WD X ct b g) : WD X ct (.Compare a [.Eq] [b] pos) (dOp eqD f g) := ⟨pd_eq (hu := hu) (ha := ha.out) (hb := hb.out)⟩
theorem pdt_eq (hu : X.A.units + 64 < cLine) (ha : PD X ct a f) (hb : PD X ct b g) : PDT X ct (.Compare a [.Eq] [b] pos) (dT (dOp eqD f g)) := pdt_cmp (op_deq hu) op2_eq ha hb (nomark _)
theorem wdt_eq (hu : X.A.units + 64 < cLine) (ha : WD X ct a f) (hb : WD X ct b g) : WDT X ct (.Compare a [.Eq] [b] pos) (dT (dOp eqD f g)) := ⟨pdt_eq (hu := hu) (ha := ha.out) (hb := hb.out)⟩
theorem pdt_ne (hu : X.A.units + 64 < cLine) (ha : PD X ct a f) (hb : PD X ct b g) : PDT X ct (.Compare a [.NotEq] [b] pos) (dT (dOp neD f g)) := pdt_cmp (op_dne hu) op2_ne ha hb (nomark _)
theorem wdt_ne (hu : X.A.units + 64 < cLine) (ha : WD X ct a f) (hb : WD X ct b g) : WDT X ct (.Compare a [.NotEq] [b] pos) (dT (dOp neD f g)) := ⟨pdt_ne (hu := hu) (ha := ha.out) (hb := hb.out)⟩
theorem atI_tls {K : PySem.W.Frag} {H : Hp} {ds : List D} {vs : List V} {i : Int} {d : D} (t : Tls K ct H ds vs) (h : atI ds i = some d) : ∃ v, atI vs i = some v ∧ Tl K ct H d v := by
  unfold atI at h ⊢
  rw [← t.length]
  cases q : ixN ds.length i with
  | none => rw [q] at h; cases h
  | some k => rw [q] at h; exact t.get h
theorem op2_ix : Op2 X ct (rIx X.K) ixD := by
  intro σ H x y d1 d2 Q lL lB t1 t2 h
  unfold ixD at h
  split at h
  · rename_i ds i
    split at h
    · rename_i d hd
      simp only [Tl] at t1 t2
      obtain ⟨a, vs, rfl, h1, h2⟩ := t1
      subst t2
      obtain ⟨v, hv, tv⟩ := atI_tls h2 hd
      exact .inl ⟨a, vs, i, v, rfl, rfl, h1.sq, hv, h v H (Same.refl H) tv⟩
    · exact h.elim
  · rename_i tm ds i
    split at h
    · rename_i d hd
      obtain ⟨a, vs, rfl, h1, h2⟩ := t1.seqL lL lB rfl
      simp only [Tl] at t2
      subst t2
      obtain ⟨v, hv, tv⟩ := atI_tls h2 hd
      exact .inl ⟨a, vs, i, v, rfl, rfl, h1, hv, h v H (Same.refl H) tv⟩
    · exact h.elim
  · rename_i ds i
    split at h
    · rename_i d hd
      simp only [Tl] at t1 t2
      obtain ⟨a, vs, rfl, h1, h2⟩ := t1
      subst t2
      obtain ⟨v, hv, tv⟩ := atI_tls h2 hd
      exact .inr (.inl ⟨a, vs, i, v, rfl, rfl, h1, hv, h v H (Same.refl H) tv⟩)
    · exact h.elim
  · rename_i z i
    split at h
    · rename_i hz
      split at h
      · rename_i c hc
        simp only [Tl] at t1 t2
        subst t1 t2
        exact .inr (.inr ⟨z, i, c, rfl, rfl, hz, hc, h _ H (Same.refl H) (by simp [Tl])⟩)
      · exact h.elim
    · exact h.elim
  · exact h.elim
theorem pd_ix (ha : PD X ct a f) (hb : PD X ct b g) (hs : PlainIx b := by exact fun _ _ => rfl) : PD X ct (.Subscript a b pos) (dOp ixD f g) := PE.imp (pe_ix ix_seq ha hb hs) (op2_of op2_ix)
theorem wd_ix (ha : WD X ct a f) (hb : WD X ct b g) (hs : PlainIx b := by exact fun _ _ => rfl) : WD X ct (.Subscript a b pos) (dOp ixD f g) := ⟨pd_ix (ha := ha.out) (hb := hb.out) (hs := hs)⟩
theorem pd_add (ha : PD X ct a f) (hb : PD X ct b g) : PD X ct (.BinOp a .Add b pos) (dOp addD f g) := by
  refine pd_op (OpR.or op_add op_add_str) (fun σ H x y d1 d2 Q lL lB t1 t2 h => ?_) ha hb
  unfold addD at h
  split at h
  · simp only [Tl] at t1 t2
    subst t1 t2
    exact .inl ⟨_, _, rfl, rfl, h _ H (Same.refl H) (by simp [Tl])⟩
  · split at h
    · rename_i hl
      simp only [Tl] at t1 t2
      subst t1 t2
      exact .inr ⟨_, _, rfl, rfl, hl, h _ H (Same.refl H) (by simp [Tl])⟩
    · exact h.elim
  · exact h.elim
theorem wd_add (ha : WD X ct a f) (hb : WD X ct b g) : WD X ct (.BinOp a .Add b pos) (dOp addD f g) := ⟨pd_add (ha := ha.out) (hb := hb.out)⟩
def rCatF (K : PySem.W.Frag) : R2 := fun x y H Q => ∃ l b xs zs, x = .ref l ∧ y = .ref b ∧ SqL K H l xs ∧ SqL K H b zs ∧ xs.length + zs.length ≤ sizeLine ∧ ∀ p, H p = none → Q (.ref p) (upd H p (.lst (xs ++ zs)))
theorem op_catF : OpR X (binaryOp .Add) (rCatF X.K) := by
  intro pins s σ H x y v u Q I rx ry h
  obtain ⟨l, b, xs, zs, rfl, rfl, hH, hB, hz, q⟩ := h
  cases rx
  cases ry
  obtain ⟨its, r, ⟨⟨oc, od, odt, osl⟩, n, e, hc, _, hd⟩, _⟩ := I.list hH
  obtain ⟨its2, r2, ⟨⟨oc2, od2, odt2, osl2⟩, n2, e2, hc2, _, hd2⟩, _⟩ := I.list hB
  simp only at hc hd hc2 hd2
  subst hc hd hc2 hd2
  have hl := r.length
  have hl2 := r2.length
  have ea : its.toArray ++ its2.toArray = (its ++ its2).toArray := by simp
  refine concat_meets ⟨_, e, rfl⟩ ⟨_, e2, rfl⟩ noFill_list_add seq_list_add PySem.F.slot_list_add PySem.F.entry_list_add
    (PySem.F.args_list_add_2 _ _) (list_addW l b its.toArray its2.toArray n n2 od od2 osl osl2 (by simp only [List.size_toArray]; omega)) ⟨e, e2, ?_⟩
  rw [ea]
  exact ⟨.ref _, _, I.lnew (t' := s.toks) (r.append r2) (by rw [List.length_append]; omega), rfl, q _ I.fresh⟩
theorem pl_cat (ha : PD X ct a f) (hb : PD X ct b g) : PL X ct (.BinOp a .Add b pos) (lOp catD f g) := by
  refine PE.imp (pe_op op_catF ha hb) ?_
  rintro σ H Q ⟨Γ, j, h⟩
  refine eOf.bnd j h fun d1 v H1 s1 t1 j1 h1 => ?_
  refine eOf.bnd (W := Wl X ct H Q) j1 (Ok.mono s1 h1 fun _ z => z) fun d2 u H2 s2 t2 j2 h2 => ?_
  have t1 := t1.keep (Same.keep s2)
  unfold catD at h2
  split at h2
  · rename_i e1 e2
    split at h2
    · rename_i hl
      obtain ⟨a, vs, rfl, q1, q2⟩ := t1.seqL j2.lL j2.lB e1
      obtain ⟨b, us, rfl, q3, q4⟩ := t2.seqL j2.lL j2.lB e2
      refine ⟨a, b, vs, us, rfl, rfl, q1, q3, by rw [← q2.length, ← q4.length]; exact hl, fun p hp => ?_⟩
      have s3 := same_new hp (.lst (vs ++ us))
      exact h2 p _ _ ((s1.trans s2).trans s3) ((s1.trans s2).free hp) upd_same ((q2.append q4).keep (Same.keep s3))
    · exact h2.elim
  · exact h2.elim
theorem wl_cat (ha : WD X ct a f) (hb : WD X ct b g) : WL X ct (.BinOp a .Add b pos) (lOp catD f g) := ⟨pl_cat (ha := ha.out) (hb := hb.out)⟩
def oOf (X : Cx) (ct : Ct) (f : Sg → Res (Option Int)) : TO := fun σ H Q => ∃ Γ, Jx X ct Γ σ H ∧ Ok X ct σ H (f Γ) fun i => ∀ H', Same H H' → Q i H'
abbrev PDO (X : Cx) (ct : Ct) (e : Option Expr) (f : Sg → Res (Option Int)) : Prop := PO X e (oOf X ct f)
structure WO (X : Cx) (e : Option Expr) (t : TO) : Prop where
  out : PO X e t
abbrev WDO (X : Cx) (ct : Ct) (e : Option Expr) (f : Sg → Res (Option Int)) : Prop := WO X e (oOf X ct f)
theorem PO.imp {e : Option Expr} {t u : TO} (h : PO X e t) (k : ∀ σ H Q, u σ H Q → t σ H Q) : PO X e u := fun pins s σ H Q I q => h pins s σ H Q I (k σ H Q q)
theorem pdo_none : PDO X ct none dNoP := PO.imp po_none fun σ H Q ⟨Γ, j, h⟩ => h H (Same.refl H)
theorem wdo_none  : WDO X ct none dNoP := ⟨pdo_none⟩
theorem pdo_some (he : PD X ct e f) : PDO X ct (some e) (dP f) := by
  refine PO.imp (po_some he) fun σ H Q ⟨Γ, j, h⟩ => ?_
  refine eOf.bnd j h fun d v H' s t j' h' => ?_
  cases d with
  | int i => simp only [Tl] at t; exact ⟨i, t, h' H' s⟩
  | _ => exact h'.elim
theorem wdo_some (he : WD X ct e f) : WDO X ct (some e) (dP f) := ⟨pdo_some (he := he.out)⟩
theorem cutL_tls {K : PySem.W.Frag} {H : Hp} {ds : List D} {vs : List V} (t : Tls K ct H ds vs) (lo hi : Option Int) : Tls K ct H (cutL ds lo hi) (cutV vs lo hi) := by
  unfold cutL cutV
  rw [t.length]
  exact (t.drop _).take _
theorem pl_cut {lo hi : Option Expr} {l u : Sg → Res (Option Int)} {p2 : Pos} (he : PD X ct e f) (hl : PDO X ct lo l) (hu : PDO X ct hi u) : PL X ct (.Subscript e (.Slice lo hi none p2) pos) (lCut f l u) := by
  refine PE.imp (pe_slice sl_list he hl hu) fun σ H Q ⟨Γ, j, h⟩ => ?_
  refine eOf.bnd j h fun d v H1 s1 t1 j1 h1 => ?_
  refine ⟨Γ, j1, (Ok.mono s1 h1 fun _ z => z).bnd (W := Wl X ct H Q) fun lo _ h2 H2 s2 => ?_⟩
  refine ⟨Γ, j1.mono s2, (Ok.mono s2 h2 fun _ z => z).bnd (W := Wl X ct H Q) fun hi _ h3 H3 s3 => ?_⟩
  have t3 := t1.keep (Same.keep (s2.trans s3))
  cases q : asL d with
  | some xs =>
    rw [q] at h3
    have j3 := j1.mono (s2.trans s3)
    obtain ⟨a, vs, rfl, fz, tl⟩ := t3.seqL j3.lL j3.lB q
    refine ⟨a, vs, rfl, fz, fun p hp => ?_⟩
    have s4 := same_new hp (.lst (cutV vs lo hi))
    exact h3 p _ _ (((s1.trans s2).trans s3).trans s4) (((s1.trans s2).trans s3).free hp) upd_same ((cutL_tls tl lo hi).keep (Same.keep s4))
  | none => rw [q] at h3; exact h3.elim
theorem wl_cut {lo hi : Option Expr} {l u : Sg → Res (Option Int)} {p2 : Pos} (he : WD X ct e f) (hl : WDO X ct lo l) (hu : WDO X ct hi u) : WL X ct (.Subscript e (.Slice lo hi none p2) pos) (lCut f l u) := ⟨pl_cut (he := he.out) (hl := hl.out) (hu := hu.out)⟩
end
end L4
end
section
set_option Elab.async false
set_option linter.all false
set_option maxRecDepth 100000
namespace L4
open PySem PySem.Spec PyProof.Rows L2
section
variable {K : PySem.W.Frag} {ct : Ct} {H H' : Hp}
def Walk (H : Hp) : M → V → List Nat → V → Prop
  | _, v, [], v' => v' = v
  | .n ms, v, k :: ks, v' => ∃ a vs v1 m1, v = .ref a ∧ H a = some (.lst vs) ∧ vs[k]? = some v1 ∧ ms[k]? = some m1 ∧ Walk H m1 v1 ks v'
  | .t ms, v, k :: ks, v' => ∃ a vs v1 m1, v = .ref a ∧ H a = some (.tup vs) ∧ vs[k]? = some v1 ∧ ms[k]? = some m1 ∧ Walk H m1 v1 ks v'
  | _, _, _ :: _, _ => False
theorem Walk.same (e : Same H H') : ∀ {ks : List Nat} {m : M} {v v' : V}, Walk H m v ks v' → Walk H' m v ks v'
  | [], m, v, v', h => by cases m <;> simpa only [Walk] using h
  | k :: ks, .n ms, v, v', h => by
    simp only [Walk] at h ⊢
    obtain ⟨a, vs, v1, m1, h1, h2, h3, h4, h5⟩ := h
    exact ⟨a, vs, v1, m1, h1, e _ _ h2, h3, h4, Walk.same e h5⟩
  | k :: ks, .t ms, v, v', h => by
    simp only [Walk] at h ⊢
    obtain ⟨a, vs, v1, m1, h1, h2, h3, h4, h5⟩ := h
    exact ⟨a, vs, v1, m1, h1, e _ _ h2, h3, h4, Walk.same e h5⟩
  | k :: ks, .d x, v, v', h => by simp only [Walk] at h
  | k :: ks, .l x, v, v', h => by simp only [Walk] at h
  | k :: ks, .k x y, v, v', h => by simp only [Walk] at h
  | k :: ks, .o x y z, v, v', h => by simp only [Walk] at h
theorem Ows.length : ∀ {ms : List M} {vs : List V} {S : Fp}, Ows K ct H ms vs S → ms.length = vs.length
  | [], vs, S, h => by simp only [Ows] at h; subst h; rfl
  | m :: ms, vs, S, h => by
    simp only [Ows] at h
    obtain ⟨v, r, S1, S2, rfl, _, _, _, _, h6⟩ := h
    simp [Ows.length h6]
theorem Ows.foc : ∀ {ms : List M} {vs : List V} {S : Fp} {k : Nat} {m1 : M}, Ows K ct H ms vs S → ms[k]? = some m1 → ∃ v1 S1, vs[k]? = some v1 ∧ Ow K ct H m1 v1 S1 ∧ (∀ b, S1 b → S b) ∧
    ∀ H' m'' S'', Keep ct.f.cb H H' → (∀ b o, S b → ¬ S1 b → H b = some o → H' b = some o) → Ow K ct H' m'' v1 S'' → (∀ b, S'' b → S b → S1 b) → Ows K ct H' (ms.set k m'') vs (fun b => (S b ∧ ¬ S1 b) ∨ S'' b)
  | [], vs, S, k, m1, h, e => by simp at e
  | m :: ms, vs, S, 0, m1, h, e => by
    simp only [Ows] at h
    obtain ⟨v, r, S1, S2, rfl, h2, h3, h4, h5, h6⟩ := h
    simp only [List.getElem?_cons_zero, Option.some.injEq] at e
    subst e
    refine ⟨v, S1, rfl, h5, h2, fun H' m'' S'' kp un o fr => ?_⟩
    simp only [List.set_cons_zero, Ows]
    refine ⟨v, r, S'', S2, rfl, fun b z => .inr z, fun b z => .inl ⟨h3 b z, fun w => h4 b w z⟩, fun b z w => h4 b (fr b z (h3 b w)) w, o, h6.frame kp fun b o z => un b o (h3 b z) fun w => h4 b w z⟩
  | m :: ms, vs, S, k + 1, m1, h, e => by
    simp only [Ows] at h
    obtain ⟨v, r, S1, S2, rfl, h2, h3, h4, h5, h6⟩ := h
    simp only [List.getElem?_cons_succ] at e
    obtain ⟨v1, T1, g1, g2, g3, g4⟩ := Ows.foc h6 e
    refine ⟨v1, T1, by simpa using g1, g2, fun b z => h3 b (g3 b z), fun H' m'' S'' kp un o fr => ?_⟩
    have q := g4 H' m'' S'' kp (fun b o z w => un b o (h3 b z) w) o fun b z w => fr b z (h3 b w)
    simp only [List.set_cons_succ, Ows]
    refine ⟨v, r, S1, fun b => (S2 b ∧ ¬ T1 b) ∨ S'' b, rfl, fun b z => .inl ⟨h2 b z, fun w => h4 b z (g3 b w)⟩, fun b z => ?_, fun b z w => ?_, h5.frame kp fun b o z => un b o (h2 b z) fun w => h4 b z (g3 b w), q⟩
    · rcases z with z | z
      · exact .inl ⟨h3 b z.1, z.2⟩
      · exact .inr z
    · rcases w with w | w
      · exact h4 b z w.1
      · exact h4 b z (g3 b (fr b w (h2 b z)))
theorem Ow.foc : ∀ {ks : List Nat} {m m' : M} {v v' : V} {S : Fp}, Ow K ct H m v S → Walk H m v ks v' → atM m ks = some m' → ∃ S', Ow K ct H m' v' S' ∧ (∀ b, S' b → S b) ∧
    ∀ H' m'' S'', Keep ct.f.cb H H' → (∀ b o, S b → ¬ S' b → H b = some o → H' b = some o) → Ow K ct H' m'' v' S'' → (∀ b, S'' b → S b → S' b) → Ow K ct H' (putM m ks m'') v (fun b => (S b ∧ ¬ S' b) ∨ S'' b)
  | [], m, m', v, v', S, o, w, e => by
    simp only [Walk] at w
    simp only [atM, Option.some.injEq] at e
    subst w e
    refine ⟨S, o, fun _ z => z, fun H' m'' S'' kp un o' fr => ?_⟩
    have : putM m [] m'' = m'' := by cases m <;> rfl
    rw [this]
    exact o'.wide fun b z => .inr z
  | k :: ks, .n ms, m', v, v', S, o, w, e => by
    simp only [Walk] at w
    obtain ⟨a, vs, v1, m1, rfl, w2, w3, w4, w5⟩ := w
    simp only [atM, w4, Option.bind_some] at e
    simp only [Ow] at o
    obtain ⟨a', us, e1, o2, o3, o4⟩ := o
    cases e1
    rw [w2] at o3; cases o3
    obtain ⟨u1, T1, g1, g2, g3, g4⟩ := Ows.foc o4 w4
    rw [w3] at g1; cases g1
    obtain ⟨S', q1, q2, q3⟩ := Ow.foc g2 w5 e
    refine ⟨S', q1, fun b z => (g3 b (q2 b z)).1, fun H' m'' S'' kp un o' fr => ?_⟩
    have na : ¬ S' a := fun z => (g3 a (q2 a z)).2 rfl
    have r1 := q3 H' m'' S'' kp (fun b o z => un b o (g3 b z).1) o' fun b z z' => fr b z (g3 b z').1
    have r2 := g4 H' (putM m1 ks m'') _ kp (fun b o z z' => un b o z.1 fun y => z' (q2 b y)) r1 fun b z z' => by
      rcases z with z | z
      · exact z.1
      · exact q2 b (fr b z z'.1)
    simp only [putM, w4, Ow]
    refine ⟨a, vs, rfl, .inl ⟨o2, na⟩, un a _ o2 na w2, r2.wide fun b z => ?_⟩
    rcases z with z | z | z
    · exact ⟨.inl ⟨z.1.1, fun y => z.2 (q2 b y)⟩, z.1.2⟩
    · exact ⟨.inl ⟨(g3 b z.1).1, z.2⟩, (g3 b z.1).2⟩
    · refine ⟨.inr z, ?_⟩
      rintro rfl
      exact na (fr b z o2)
  | k :: ks, .t ms, m', v, v', S, o, w, e => by
    simp only [Walk] at w
    obtain ⟨a, vs, v1, m1, rfl, w2, w3, w4, w5⟩ := w
    simp only [atM, w4, Option.bind_some] at e
    simp only [Ow] at o
    obtain ⟨a', us, e1, o3, o4⟩ := o
    cases e1
    rw [w2] at o3; cases o3
    obtain ⟨u1, T1, g1, g2, g3, g4⟩ := Ows.foc o4 w4
    rw [w3] at g1; cases g1
    obtain ⟨S', q1, q2, q3⟩ := Ow.foc g2 w5 e
    refine ⟨S', q1, fun b z => g3 b (q2 b z), fun H' m'' S'' kp un o' fr => ?_⟩
    have r1 := q3 H' m'' S'' kp (fun b o z => un b o (g3 b z)) o' fun b z z' => fr b z (g3 b z')
    have r2 := g4 H' (putM m1 ks m'') _ kp (fun b o z z' => un b o z fun y => z' (q2 b y)) r1 fun b z z' => by
      rcases z with z | z
      · exact z.1
      · exact q2 b (fr b z z')
    simp only [putM, w4, Ow]
    refine ⟨a, vs, rfl, kp _ _ w2 trivial, r2.wide fun b z => ?_⟩
    rcases z with z | z | z
    · exact .inl ⟨z.1, fun y => z.2 (q2 b y)⟩
    · exact .inl ⟨g3 b z.1, z.2⟩
    · exact .inr z
  | k :: ks, .d x, m', v, v', S, o, w, e => by simp only [Walk] at w
  | k :: ks, .l x, m', v, v', S, o, w, e => by simp only [Walk] at w
  | k :: ks, .k x y, m', v, v', S, o, w, e => by simp only [Walk] at w
  | k :: ks, .o x y z, m', v, v', S, o, w, e => by simp only [Walk] at w
theorem J.up {c : Cf} {H₀ : Hp} {Γ : Sg} {σ : St} {i : Nat} {s : Slot} {m m' m'' : M} {v0 : V} {a : Addr} {ks : List Nat} {o' : HO} (j : J K c.z H₀ Γ σ H) (hi : Γ[i]? = some s) (hm : slM s = some m) (hσ : σ[i]? = some (some v0)) (w : Walk H m v0 ks (.ref a)) (e : atM m ks = some m')
    (kp : Keep c.cb H (upd H a o')) (new : ∀ S', Ow K c.z H m' (.ref a) S' → S' a ∧ Ow K c.z (upd H a o') m'' (.ref a) S') : J K c.z H₀ (Γ.set i (reS s (putM m ks m''))) σ (upd H a o') := by
  obtain ⟨S, h1, h2⟩ := j.chg i
  have sl := h1 s _ hi hσ
  have key : ∀ (v : V) (o : Ow K c.z H m v S) (hv : v = v0), ∃ S2 : Fp, Ow K c.z (upd H a o') (putM m ks m'') v0 S2 ∧ (∀ b, S2 b → S b) ∧ S a := fun v o hv => by
    subst hv
    obtain ⟨S', q1, q2, q3⟩ := o.foc w e
    obtain ⟨n1, n2⟩ := new S' q1
    refine ⟨_, q3 _ m'' S' kp (fun b u z z' q => by rw [upd_ne (by rintro rfl; exact z' n1)]; exact q) n2 fun b z _ => z, fun b z => ?_, q2 a n1⟩
    rcases z with z | z
    · exact z.1
    · exact q2 b z
  have fin : ∀ (sl' : Slot) (S2 : Fp), S a → (∀ b, S2 b → S b) → SlotOk K c.z H₀ (upd H a o') i S2 sl' (some v0) → J K c.z H₀ (Γ.set i sl') σ (upd H a o') := fun sl' S2 sa sub ok => by
    have q := h2 (upd H a o') sl' (some v0) S2 kp (fun b u z z' => by rw [upd_ne (by rintro rfl; exact z' sa)]; exact z) (fun b z => by
      by_cases eb : b = a
      · subst eb; rw [upd_same] at z; cases z
      · rwa [upd_ne eb] at z) (fun b u z => nomatch z) ok fun b z => .inl (sub b z)
    have hil : i < σ.length := (List.getElem?_eq_some_iff.mp hσ).1
    have : σ.set i (some v0) = σ := by
      have e2 := (List.getElem?_eq_some_iff.mp hσ).2
      rw [← e2, List.set_getElem_self]
    rwa [this] at q
  have sok : ∀ S2 : Fp, (∀ b, S2 b → S b) → SOk c.z H₀ H S → SOk c.z H₀ (upd H a o') S2 := fun S2 sub so => ⟨fun b z => so.new b (sub b z), fun b z q => so.here b (sub b z) (by
      by_cases eb : b = a
      · subst eb; rw [upd_same] at q; cases q
      · rwa [upd_ne eb] at q), fun b z => so.notL b (sub b z), fun b z t => nomatch t⟩
  cases s with
  | no => cases hm
  | val d => cases hm
  | own m0 =>
    cases hm
    obtain ⟨v, e1, o, so, n⟩ := sl
    obtain ⟨S2, o2, sub, sa⟩ := key v o (by cases e1; rfl)
    exact fin (.own (putM m ks m'')) S2 sa sub ⟨v0, rfl, o2, sok S2 sub so, fun b z => n b (sub b z)⟩
  | par m0 =>
    cases hm
    obtain ⟨v, e1, o, so, n⟩ := sl
    obtain ⟨S2, o2, sub, sa⟩ := key v o (by cases e1; rfl)
    exact fin (.par (putM m ks m'')) S2 sa sub ⟨v0, rfl, o2, sok S2 sub so, by cases e1; exact n⟩
end
end L4
end
section
set_option Elab.async false
set_option linter.all false
set_option maxRecDepth 100000
namespace L4
open PySem PySem.Spec PyProof.Rows L2
section
variable {X : Cx} {ct : Ct} {c : Cf} {r ix e : Expr} {i : Nat} {g : Sg → Res (List Nat)} {f fk : Sg → Res D} {pos : Pos} {Γ : Sg} {σ : St} {H : Hp}
def PathAt (Γ : Sg) (σ : St) (H : Hp) (i : Nat) (ks : List Nat) (v : V) : Prop := ∃ s m v0 m', Γ[i]? = some s ∧ slM s = some m ∧ σ[i]? = some (some v0) ∧ Walk H m v0 ks v ∧ atM m ks = some m'
theorem PathAt.same {H' : Hp} {ks : List Nat} {v : V} (e : Same H H') (h : PathAt Γ σ H i ks v) : PathAt Γ σ H' i ks v := by
  obtain ⟨s, m, v0, m', h1, h2, h3, h4, h5⟩ := h
  exact ⟨s, m, v0, m', h1, h2, h3, h4.same e, h5⟩
def pOf (X : Cx) (ct : Ct) (i : Nat) (g : Sg → Res (List Nat)) : TE := fun σ H Q => ∃ Γ, Jx X ct Γ σ H ∧ Ok X ct σ H (g Γ) fun ks => ∀ v H', Same H H' → PathAt Γ σ H' i ks v → Q v H'
abbrev PP (X : Cx) (ct : Ct) (e : Expr) (i : Nat) (g : Sg → Res (List Nat)) : Prop := PE X e (pOf X ct i g)
theorem J.ofM {K : PySem.W.Frag} {H₀ : Hp} {s : Slot} {m : M} (j : J K ct H₀ Γ σ H) (h : Γ[i]? = some s) (hm : slM s = some m) : ∃ v S, σ[i]? = some (some v) ∧ Ow K ct H m v S := by
  cases s with
  | no => cases hm
  | val d => cases hm
  | own m' => cases hm; obtain ⟨v, S, h1, h2, _⟩ := j.own h; exact ⟨v, S, h1, h2⟩
  | par m' => cases hm; obtain ⟨v, S, h1, h2, _⟩ := j.par h; exact ⟨v, S, h1, h2⟩
theorem pp_name (i : Nat) {x : Str} {pos : Pos} (hN : X.N[i]? = some x := by rfl) (hv : Vis X.env.scope x := by first | exact Or.inl rfl | exact Or.inr (Or.inl rfl) | exact Or.inr (Or.inr rfl)) (hd : (x == ("__debug__" : Str)) = false := by decide)
    (hcd : (x == ("__classdict__" : Str)) = false := by decide) : PP X ct (.Name x pos) i (pVar i) := by
  refine PE.imp (pe_var hN hv hd hcd) fun σ H Q ⟨Γ, j, h⟩ => ?_
  unfold pVar at h
  split at h
  · rename_i m hm
    obtain ⟨s, h1, h2⟩ := Option.bind_eq_some_iff.mp hm
    obtain ⟨v, S, h3, h4⟩ := j.ofM h1 h2
    refine ⟨v, h3, h v H (Same.refl H) ⟨s, m, v, m, h1, h2, h3, ?_, ?_⟩⟩
    · cases m <;> rfl
    · cases m <;> rfl
  · exact h.elim
end
section
variable {X : Cx} {c : Cf} {r ix e : Expr} {i : Nat} {g : Sg → Res (List Nat)} {f fk : Sg → Res D} {pos : Pos} {Γ : Sg} {σ : St} {H : Hp}
theorem sizeLine_big : 1000000 < sizeLine := by rw [sizeLine_eq]; decide
end
end L4
end
section
set_option Elab.async false
set_option linter.all false
set_option maxRecDepth 100000
namespace L4
open PySem PySem.Spec PyProof.Rows L2
def ItD (K : PySem.W.Frag) (ct : Ct) (J : It) (xs : List D) (H : Hp) : Prop :=
  ∃ P : Hp → Prop, P H ∧ (∀ H1 H2, P H1 → Keep ct.f.cb H1 H2 → Same ct.f.L H2 → Same ct.B H2 → P H2) ∧ (∀ i d H1, P H1 → xs[i]? = some d → J.go i H1 ∧ ∀ x H2, J.yld i H1 x H2 → Same H1 H2 ∧ Tl K ct H2 d x) ∧ ∀ i H1, P H1 → xs.length ≤ i → J.stop i H1
def Itsg (x : Str) : It := ⟨fun i _ => i < x.cps.size, fun i H v H' => H' = H ∧ ∃ c, x.cps[i]? = some c ∧ v = .str ⟨#[c]⟩, fun i _ => x.cps.size ≤ i⟩
theorem turn_str {P : Program} {w : World} {K : PySem.W.Frag} {tg : Expr} (it : Addr) (x : Str) (u : Tok) {T : String} (hT : T = "str_ascii_iterator" ∨ T = "str_iterator") : Turn P w K tg (Itsg x) [it] it (fun i h => h.IsStrIter it T x u i) where
  mem := by simp
  obj := fun i h st b hb => by
    have e : b = it := by simpa using hb
    subst e
    obtain ⟨o, e, c, d⟩ := st
    exact ⟨o, e, fun v z => by rw [d] at z; cases z⟩
  keep := fun i h h' st k => let ⟨o, e, r⟩ := st; ⟨o, k it (by simp) o e, r⟩
  item := by
    intro X hP hw hK hc i pins s σ H E I hf st hg
    subst hP hw hK
    obtain ⟨f0, f1, f2, f3, f4, f5⟩ := hf it (by simp)
    rcases hT with rfl | rfl
    · refine (Walks.strAscii (prog := X.prog) (w := X.w) (I.ok.hd hc) it x u).item i s _ _ hg st fun v h' tk hv st' kk => ?_
      obtain ⟨c, t, hx, rfl⟩ := hv
      have I1 : Inv X pins σ H { s with heap := h', toks := tk } := I.turned (fun b o hb e => kk b o (by simpa using hb) e) f0 f1 f3 f4 f5
      obtain ⟨o, e, c1, d⟩ := id st'
      exact ⟨_, rfl, go_of (s := { s with heap := h', toks := tk }) e c1 d (by decide) ⟨.str ⟨#[c]⟩, H, I1, ⟨t, rfl⟩, ⟨rfl, c, hx, rfl⟩, st', fun b hb => (hf b hb).1⟩⟩
    · refine (Walks.strWide (prog := X.prog) (w := X.w) (I.ok.hd hc) it x u).item i s _ _ hg st fun v h' tk hv st' kk => ?_
      obtain ⟨c, t, hx, rfl⟩ := hv
      have I1 : Inv X pins σ H { s with heap := h', toks := tk } := I.turned (fun b o hb e => kk b o (by simpa using hb) e) f0 f1 f3 f4 f5
      obtain ⟨o, e, c1, d⟩ := id st'
      exact ⟨_, rfl, go_of (s := { s with heap := h', toks := tk }) e c1 d (by decide) ⟨.str ⟨#[c]⟩, H, I1, ⟨t, rfl⟩, ⟨rfl, c, hx, rfl⟩, st', fun b hb => (hf b hb).1⟩⟩
  done := by
    intro X hP hw hK hc i pins s σ H E I hf st hg
    subst hP hw hK
    obtain ⟨f0, f1, f2, f3, f4, f5⟩ := hf it (by simp)
    have hx : x.cps[i]? = none := by
      have : x.cps.size ≤ i := hg
      simp [this]
    rcases hT with rfl | rfl
    · exact wpAny_pyNext_ascii_end (I.ok.hd hc) st hx fun h' eb => ⟨rfl, I.turned (t' := s.toks) (fun b o hb e => eb b o hb e) f0 f1 f3 f4 f5⟩
    · exact wpAny_pyNext_wide_end (I.ok.hd hc) st hx fun h' eb => ⟨rfl, I.turned (t' := s.toks) (fun b o hb e => eb b o hb e) f0 f1 f3 f4 f5⟩
  self := fun _ _ _ _ _ st h => by
    rcases hT with rfl | rfl
    · exact wpAny_pyIter_striter_ascii st h
    · exact wpAny_pyIter_striter_wide st h
theorem pi_str {X : Cx} {tg l : Expr} {tl : TE} (hl : PE X l tl) : PI X tg l (fun σ H R => tl σ H fun x H1 => ∃ z, x = .str z ∧ R (Itsg z) H1) := by
  intro pins s σ H R I h
  refine thn (hl pins s σ H _ I h) fun v s1 ⟨x, H1, I1, r1, z, e, q⟩ => ?_
  subst e
  obtain ⟨u, rfl⟩ := r1
  have fp : ∀ b ∈ [s1.heap.objs.size], FpOk X pins H1 b := fun b hb => by
    have e : b = s1.heap.objs.size := by simpa using hb
    subst e
    exact I1.fpOk (Nat.le_refl _) (I1.hok.fresh (Nat.le_refl _))
  cases ha : z.cps.all (· < 128)
  · exact wpAny_pyIter_wide ha ⟨s1.heap.objs.size, [s1.heap.objs.size], _, _, H1, rfl, I1.kept (t' := s1.toks) fun b o e => Heap.get?_push_of_some _ e, turn_str _ z u (.inr rfl), ⟨_, Heap.get?_push_size _ rfl, rfl, rfl⟩, fp, q⟩
  · exact wpAny_pyIter_ascii ha ⟨s1.heap.objs.size, [s1.heap.objs.size], _, _, H1, rfl, I1.kept (t' := s1.toks) fun b o e => Heap.get?_push_of_some _ e, turn_str _ z u (.inl rfl), ⟨_, Heap.get?_push_size _ rfl, rfl, rfl⟩, fp, q⟩
section
variable {X : Cx} {ct : Ct} {tg iter e : Expr} {f : Sg → Res D} {pos : Pos}
theorem signs_len (x : Str) : (signs x).length = x.cps.size := by simp [signs]
theorem itD_str {K : PySem.W.Frag} {H : Hp} {x : Str} : ItD K ct (Itsg x) (signs x) H := by
  refine ⟨fun _ => True, trivial, fun _ _ _ _ _ _ => trivial, fun i d H1 _ hd => ?_, fun i H1 _ hi => by rw [signs_len] at hi; exact hi⟩
  have hi : i < x.cps.size := by
    have := (List.getElem?_eq_some_iff.mp hd).1
    rwa [signs_len] at this
  simp only [signs, List.getElem?_map, Array.getElem?_toList] at hd
  refine ⟨hi, fun v H2 ⟨e, c, hc, y⟩ => ⟨by rw [e]; exact Same.refl _, ?_⟩⟩
  rw [hc] at hd
  cases hd
  simp [Tl, y]
theorem itD_list {K : PySem.W.Frag} {H : Hp} {a : Addr} {vs : List V} {xs : List D} (fz : FzL K H a vs) (t : Tls K ct H xs vs) : ItD K ct (Itl K a) xs H := by
  refine ⟨fun H1 => Keep ct.f.cb H H1, Keep.refl H, fun H1 H2 k1 k2 _ _ => k1.trans k2, fun i d H1 k1 hd => ?_, fun i H1 k1 hi => ⟨vs, (k1.fzL fz).sq, by rw [← t.length]; exact hi⟩⟩
  obtain ⟨v, hv, tv⟩ := t.get hd
  refine ⟨⟨vs, v, (k1.fzL fz).sq, hv⟩, fun x H2 ⟨e, y⟩ => ⟨by rw [e]; exact Same.refl _, ?_⟩⟩
  subst e
  have := y vs (k1.fzL fz).sq
  rw [hv] at this; cases this
  exact tv.keep k1
theorem itD_bor {K : PySem.W.Frag} {H : Hp} {tm : Bool} {v : V} {xs : List D} (l : Same ct.f.L H) (b : Same ct.B H) (t : Tl K ct H (.bor tm xs) v) : ∃ a, v = .ref a ∧ (∃ vs, SqL K H a vs) ∧ ItD K ct (Itl K a) xs H := by
  simp only [Tl] at t
  obtain ⟨a, vs, rfl, h2, t⟩ := t
  have sq : ∀ H1, Same ct.f.L H1 → Same ct.B H1 → SqL K H1 a vs := fun H1 l b => by
    cases tm with
    | true => exact .inl (.inl (b a _ h2))
    | false => exact .inl (.inl (l a _ h2))
  refine ⟨a, rfl, ⟨vs, sq H l b⟩, fun H1 => Keep ct.f.cb H H1 ∧ Same ct.f.L H1 ∧ Same ct.B H1, ⟨Keep.refl H, l, b⟩, fun H1 H2 k1 k2 l2 b2 => ⟨k1.1.trans k2, l2, b2⟩, fun i d H1 k1 hd => ?_, fun i H1 k1 hi => ⟨vs, sq H1 k1.2.1 k1.2.2, by rw [← t.length]; exact hi⟩⟩
  obtain ⟨v, hv, tv⟩ := t.get hd
  refine ⟨⟨vs, v, sq H1 k1.2.1 k1.2.2, hv⟩, fun x H2 ⟨e, y⟩ => ⟨by rw [e]; exact Same.refl _, ?_⟩⟩
  subst e
  have := y vs (sq _ k1.2.1 k1.2.2)
  rw [hv] at this; cases this
  exact tv.keep k1.1
theorem itD_tup {K : PySem.W.Frag} {H : Hp} {a : Addr} {vs : List V} {xs : List D} (fz : SqT K H a vs) (t : Tls K ct H xs vs) : ItD K ct (Itt K a) xs H := by
  refine ⟨fun H1 => Keep ct.f.cb H H1, Keep.refl H, fun H1 H2 k1 k2 _ _ => k1.trans k2, fun i d H1 k1 hd => ?_, fun i H1 k1 hi => ⟨vs, k1.sqT fz, by rw [← t.length]; exact hi⟩⟩
  obtain ⟨v, hv, tv⟩ := t.get hd
  refine ⟨⟨vs, v, k1.sqT fz, hv⟩, fun x H2 ⟨e, y⟩ => ⟨by rw [e]; exact Same.refl _, ?_⟩⟩
  subst e
  have := y vs (k1.sqT fz)
  rw [hv] at this; cases this
  exact tv.keep k1
theorem itD_rng {K : PySem.W.Frag} {H : Hp} {lo : Int} {n : Nat} : ItD K ct (Itr lo n) (intsD lo n) H := by
  refine ⟨fun _ => True, trivial, fun _ _ _ _ _ _ => trivial, fun i d H1 _ hd => ?_, fun i H1 _ hi => by rw [intsD_len] at hi; exact hi⟩
  have hi : i < n := by
    have := (List.getElem?_eq_some_iff.mp hd).1
    rwa [intsD_len] at this
  rw [intsD_get hi] at hd
  cases hd
  exact ⟨hi, fun x H2 ⟨e, y⟩ => ⟨by rw [e]; exact Same.refl _, by simp [Tl, y]⟩⟩
def iOf (X : Cx) (ct : Ct) (f : Sg → Res (List D)) : TI := fun σ H R => ∃ Γ, Jx X ct Γ σ H ∧ Ok X ct σ H (f Γ) fun xs => ∀ J H', Same H H' → ItD X.K ct J xs H' → R J H'
abbrev PID (X : Cx) (ct : Ct) (tg iter : Expr) (f : Sg → Res (List D)) : Prop := PI X tg iter (iOf X ct f)
structure WI (X : Cx) (tg iter : Expr) (wi : TI) : Prop where
  out : PI X tg iter wi
abbrev WID (X : Cx) (ct : Ct) (tg iter : Expr) (f : Sg → Res (List D)) : Prop := WI X tg iter (iOf X ct f)
theorem pid_seq (he : PD X ct iter f) : PID X ct tg iter (iSeq f) := by
  intro pins s σ H R I ⟨Γ, j, h⟩
  cases q : f Γ with
  | bad => simp only [iSeq, q, Res.bnd_bad] at h; exact h.elim
  | err c =>
    simp only [iSeq, q, Res.bnd_err] at h
    exact pi_list he pins s σ H R I ⟨Γ, j, by rw [q]; exact h⟩
  | ok d =>
    simp only [iSeq, q, Res.bnd_ok] at h
    cases d with
    | lst xs =>
      replace h : ∀ J H', Same H H' → ItD X.K ct J xs H' → R J H' := h
      refine pi_list he pins s σ H R I ⟨Γ, j, ?_⟩
      rw [q]
      intro v H' sm tl
      simp only [Tl] at tl
      obtain ⟨a, vs, rfl, fz, tl⟩ := tl
      exact ⟨a, rfl, ⟨vs, fz.sq⟩, h _ H' sm (itD_list fz tl)⟩
    | bor tm xs =>
      replace h : ∀ J H', Same H H' → ItD X.K ct J xs H' → R J H' := h
      refine pi_list he pins s σ H R I ⟨Γ, j, ?_⟩
      rw [q]
      intro v H' sm tl
      have j' := j.mono sm
      obtain ⟨a, rfl, sq, it⟩ := itD_bor j'.lL j'.lB tl
      exact ⟨a, rfl, sq, h _ H' sm it⟩
    | tup xs =>
      replace h : ∀ J H', Same H H' → ItD X.K ct J xs H' → R J H' := h
      refine pi_tup he pins s σ H R I ⟨Γ, j, ?_⟩
      rw [q]
      intro v H' sm tl
      simp only [Tl] at tl
      obtain ⟨a, vs, rfl, fz, tl⟩ := tl
      exact ⟨a, rfl, ⟨vs, fz⟩, h _ H' sm (itD_tup fz tl)⟩
    | str x =>
      replace h : ∀ J H', Same H H' → ItD X.K ct J (signs x) H' → R J H' := h
      refine pi_str he pins s σ H R I ⟨Γ, j, ?_⟩
      rw [q]
      intro v H' sm tl
      simp only [Tl] at tl
      exact ⟨x, tl, h _ H' sm itD_str⟩
    | _ => exact h.elim
theorem wid_seq (he : WD X ct iter f) : WID X ct tg iter (iSeq f) := ⟨pid_seq (he := he.out)⟩
theorem pid_rng1 {a : Expr} {r : Sg → Res (List D)} {p pos' : Pos} (hm : X.mg "range" = none) (ha : PDA X ct [a] r) (hgl : Gl X "range" := by rfl) (hs : starEach [a] X.env = [(false, eval a X.env)] := by rfl) :
    PID X ct tg (.Call (.Name "range" p) [a] [] pos') (iRng1 r) := by
  intro pins s σ H R I ⟨Γ, j, h⟩
  refine pi_range1 hgl hm ha hs pins s σ H R I ⟨Γ, j, h.bnd fun ds _ q vs H' s tl => ?_⟩
  cases ex : rng1 ds with
  | bad => rw [ex] at q; exact q.elim
  | err c => exact (rng1_ne ds c ex).elim
  | ok xs =>
    rw [ex] at q
    obtain ⟨i, rfl, h1, h2, rfl⟩ := rng1_ok ex
    simp only [Tls, Tl] at tl
    obtain ⟨v, r, rfl, rfl, rfl⟩ := tl
    exact ⟨i, rfl, h1, h2, q _ H' s itD_rng⟩
theorem wid_rng1 {a : Expr} {r : Sg → Res (List D)} {p pos' : Pos} (hm : X.mg "range" = none) (ha : WDA X ct [a] r) (hgl : Gl X "range" := by rfl) (hs : starEach [a] X.env = [(false, eval a X.env)] := by rfl) : WID X ct tg (.Call (.Name "range" p) [a] [] pos') (iRng1 r) := ⟨pid_rng1 (hm := hm) (ha := ha.out) (hgl := hgl) (hs := hs)⟩
end
def clOf (cells : List (Str × Addr)) : List (Str × NameKind) → List (Str × Addr) → Option (List (Str × Addr))
  | [], acc => some acc
  | (n, k) :: r, acc => if k == .free then (match cells.lookup n with
      | some c => clOf cells r ((n, c) :: acc)
      | none => none) else clOf cells r acc
theorem clOf_sub {cells : List (Str × Addr)} : ∀ {names : List (Str × NameKind)} {acc cl : List (Str × Addr)}, clOf cells names acc = some cl → (∀ y c, acc.lookup y = some c → cells.lookup y = some c) → ∀ y c, cl.lookup y = some c → cells.lookup y = some c
  | [], acc, cl, h, ha => by cases h; exact ha
  | (n, k) :: r, acc, cl, h, ha => by
    unfold clOf at h
    split at h
    · split at h
      · rename_i c hc
        refine clOf_sub h fun y c' hy => ?_
        rw [List.lookup_cons] at hy
        split at hy
        · rename_i e
          cases hy
          rw [eq_of_beq e]; exact hc
        · exact ha y c' hy
      · cases h
    · exact clOf_sub h ha
theorem closure_of {env : Env} {scope : Scope} {cl : List (Str × Addr)} (h : clOf env.cells scope.names [] = some cl) : closureFor scope env = pure cl := by
  unfold closureFor
  generalize scope.names = names at h ⊢
  generalize ([] : List (Str × Addr)) = acc at h ⊢
  dsimp only
  induction names generalizing acc with
  | nil => cases h; rfl
  | cons p r ih =>
    obtain ⟨n, k⟩ := p
    unfold clOf at h
    rw [List.forIn_cons]
    by_cases hk : (k == NameKind.free) = true
    · rw [if_pos hk] at h
      split at h
      · rename_i c hc
        have e : cellOf env n = pure c := by unfold cellOf; rw [hc]
        simp only [hk, if_true, e, pure_bind]
        exact ih _ h
      · cases h
    · rw [if_neg hk] at h
      simp only [hk, Bool.false_eq_true, if_false, pure_bind]
      exact ih _ h
def cxB (X : Cx) (scope : Scope) (cl : List (Str × Addr)) (C : Addr) (s₀ : Shared) (H₀ : Hp) (ex : List Addr) (N' : List Str) : Cx where
  prog := X.prog
  w := X.w
  K := X.K
  mg := X.mg
  base := X.base
  A := X.A
  N := N'
  s₀ := s₀
  H₀ := H₀
  env := compEnvC scope cl C X.env
  outer := X.stack
  stack := X.stack
  ex := ex
  fn := fun _ => false
  calm := X.calm
  pn := []
  xe := fun _ _ => False
def blkV (k : Nat) (caps : List Nat) (σ : St) : St := List.replicate k none ++ caps.map fun i => (σ[i]?).join
theorem j_blk {X : Cx} {ct : Ct} {tm : Bool} {k : Nat} {caps : List Nat} {Γ : Sg} {σ : St} {H : Hp} (j : Jx X ct Γ σ H) (ht : tm = true → ct.tm = true) : J X.K ct H (blk tm k caps Γ) (blkV k caps σ) H := by
  refine ⟨fun _ _ q _ => q, fun _ q => q, j.lL, j.lB, by simp [blk, blkV], fun _ _ => False, fun i sl ov h1 h2 => ?_, fun _ _ _ _ z => z.elim, fun _ _ z => z.elim⟩
  rcases blk_get h1 with rfl | ⟨c, sc, hc, hk, hd, rfl⟩
  · exact fun _ z => z
  · have at2 : ∀ v, σ[c]? = some (some v) → ov = some v := fun v g1 => by
      unfold blkV at h2
      rw [List.getElem?_append_right (by simpa using hk), List.length_replicate, List.getElem?_map, hc] at h2
      simp only [Option.map_some, Option.some.injEq] at h2
      rw [g1] at h2
      exact h2.symm
    cases sc with
    | no => exact fun _ z => z
    | val d =>
      obtain ⟨v, g1, g2⟩ := j.val hd
      exact ⟨⟨v, at2 v g1, g2⟩, fun _ z => z⟩
    | own m =>
      cases tm with
      | false => exact fun _ z => z
      | true =>
        obtain ⟨v, S, g1, g2, g3, _⟩ := j.own hd
        exact ⟨⟨v, at2 v g1, g2.lend fun b z => g3.lent b z (ht rfl)⟩, fun _ z => z⟩
    | par m =>
      cases tm with
      | false => exact fun _ z => z
      | true =>
        obtain ⟨v, S, g1, g2, g3, _⟩ := j.par hd
        exact ⟨⟨v, at2 v g1, g2.lend fun b z => g3.lent b z (ht rfl)⟩, fun _ z => z⟩
end L4
end
section
set_option Elab.async false
set_option linter.all false
set_option maxRecDepth 100000
namespace L4
open PySem PySem.Spec PyProof.Rows L2
theorem clOf_mono {cells : List (Str × Addr)} : ∀ {names : List (Str × NameKind)} {acc cl : List (Str × Addr)}, clOf cells names acc = some cl → ∀ y, (acc.lookup y).isSome = true → (cl.lookup y).isSome = true
  | [], acc, cl, h => by cases h; exact fun _ z => z
  | (n, k) :: r, acc, cl, h => by
    unfold clOf at h
    split at h
    · split at h
      · rename_i c hc
        intro y hy
        refine clOf_mono h y ?_
        rw [List.lookup_cons]
        split
        · rfl
        · exact hy
      · cases h
    · exact clOf_mono h
theorem clOf_has {cells : List (Str × Addr)} : ∀ {names : List (Str × NameKind)} {acc cl : List (Str × Addr)}, clOf cells names acc = some cl → ∀ y, (y, NameKind.free) ∈ names → (cl.lookup y).isSome = true
  | [], acc, cl, h => fun y hy => by cases hy
  | (n, k) :: r, acc, cl, h => by
    unfold clOf at h
    intro y hy
    split at h
    · split at h
      · rename_i c hc
        rcases List.mem_cons.mp hy with e | hy
        · cases e
          exact clOf_mono h _ (by simp [List.lookup_cons])
        · exact clOf_has h y hy
      · cases h
    · rename_i hk
      rcases List.mem_cons.mp hy with e | hy
      · cases e; exact absurd rfl hk
      · exact clOf_has h y hy
theorem relabel_kind {env : Env} : ∀ {names : List (Str × NameKind)} {y : Str}, (∀ z ∈ names, z.2 ≠ .cell) →
    ((names.map fun (n, k) => if (k == NameKind.free && env.scope.kind == .function && env.kindOf n == some .cell) then (n, NameKind.cell) else (n, k)).lookup y = some .cell ∨
     (names.map fun (n, k) => if (k == NameKind.free && env.scope.kind == .function && env.kindOf n == some .cell) then (n, NameKind.cell) else (n, k)).lookup y = some .free) → (y, NameKind.free) ∈ names
  | [], y, _, h => by simp at h
  | (n, k) :: r, y, hc, h => by
    have ih := @relabel_kind env r y fun z hz => hc z (.tail _ hz)
    have hk : k ≠ .cell := hc (n, k) (.head _)
    have e1 : (((n, k) :: r).map fun (n, k) => if (k == NameKind.free && env.scope.kind == .function && env.kindOf n == some .cell) then (n, NameKind.cell) else (n, k)) =
      (if (k == NameKind.free && env.scope.kind == .function && env.kindOf n == some .cell) = true then (n, NameKind.cell) else (n, k)) :: (r.map fun (n, k) => if (k == NameKind.free && env.scope.kind == .function && env.kindOf n == some .cell) then (n, NameKind.cell) else (n, k)) := rfl
    rw [e1] at h
    by_cases hcnd : (k == NameKind.free && env.scope.kind == .function && env.kindOf n == some .cell) = true
    · rw [if_pos hcnd] at h
      have hkf : k = .free := by
        have := (Bool.and_eq_true_iff.mp (Bool.and_eq_true_iff.mp hcnd).1).1
        exact eq_of_beq this
      simp only [List.lookup_cons] at h
      split at h
      · rename_i e
        rw [eq_of_beq e, hkf]; exact .head _
      · exact .tail _ (ih h)
    · rw [if_neg hcnd] at h
      simp only [List.lookup_cons] at h
      split at h
      · rename_i e
        rcases h with h | h
        · exact absurd (Option.some.inj h) hk
        · rw [eq_of_beq e, Option.some.inj h]; exact .head _
      · exact .tail _ (ih h)
theorem compLoop_any {prog : Program} {w : World} {A : Around} {R : Result → Shared → Prop} {s : Shared} {elt target iter : Expr} {ifs : List Expr} {scope : Scope} {pos : Pos} {it acc : Value} {env : Env} (I : Nat → Shared → Prop)
    (turn : ∀ n s, I n s → wpAny (model prog w) A (pyNext it) (fun r s₁ => match r with
      | none => R (.ok .next) s₁
      | some v => wpAny (model prog w) A (letOwnedTupleGo target it v) (fun _ s₁' => wpAny (model prog w) A (assign target env v) (fun _ s₂ =>
          wpAny (model prog w) A (forIn ifs true fun c r => if r = true then do let ok ← isTrue c env (eval c env); pure (ForInStep.yield ok) else pure (ForInStep.yield r)) (fun ok s₃ =>
            if ok = true then wpAny (model prog w) A (eval elt env) (fun x s₄ =>
              wpAny (model prog w) A (call (.builtin "list.append") [acc, x]) (fun _ s₅ => ∃ m, m < n ∧ I m s₅) (fun _ _ => False) s₄) (fun _ _ => False) s₃
            else ∃ m, m < n ∧ I m s₃) (fun _ _ => False) s₂) (fun _ _ => False) s₁') (fun _ _ => False) s₁) (fun _ _ => False) s)
    (n : Nat) (h : I n s) :
    codeAny (model prog w) A (.compLoop (.ListComp elt [⟨target, iter, ifs, 0⟩] scope pos) 0 it acc env) R s := by
  refine codeAny_loop rfl I (fun n s hI => ?_) n h
  show wpAny _ A ((compTurn (.ListComp elt [⟨target, iter, ifs, 0⟩] scope pos) 0 it acc env).onRaise (fun x => do noteFrame x env; theTreesLotGoes x)) _ _ s
  refine wpAny_noted ?_
  rw [compTurn_list]
  refine wpAny_bind (wpAny_standAt (wpAny_bind (wpAny_mono (turn n s hI) (fun r s₁ h₁ => ?_) fun _ _ h' => h'.elim)))
  cases r with
  | none => exact wpAny_pure h₁
  | some v =>
    refine wpAny_bind (wpAny_mono h₁ (fun _ s₁' h₁' => ?_) fun _ _ h' => h'.elim)
    refine wpAny_bind (wpAny_mono h₁' (fun _ s₂ h₂ => wpAny_bind (wpAny_mono h₂ (fun ok s₃ h₃ => ?_) fun _ _ h' => h'.elim)) fun _ _ h' => h'.elim)
    cases ok with
    | false => exact wpAny_pure ⟨rfl, h₃⟩
    | true =>
      exact wpAny_bind (wpAny_bind (wpAny_mono h₃ (fun x s₄ h₄ => wpAny_bind (wpAny_mono h₄ (fun _ s₅ h₅ => wpAny_pure (wpAny_pure ⟨rfl, h₅⟩)) fun _ _ h' => h'.elim)) fun _ _ h' => h'.elim))
def PTs (X : Cx) (ct : Ct) (ifs : List Expr) (p : Sg → Res Bool) : Prop :=
  ∀ (pins : List (Addr × Obj)) (s : Shared) (σ : St) (H : Hp) (Q : Bool → Hp → Prop), Inv X pins σ H s → cOf X ct p σ H Q →
    wpAny (model X.prog X.w) X.A (forIn ifs true fun c r => if r = true then do let ok ← isTrue c X.env (eval c X.env); pure (ForInStep.yield ok) else pure (ForInStep.yield r)) (TP X pins σ Q) X.xe s
structure WTs (X : Cx) (ct : Ct) (ifs : List Expr) (p : Sg → Res Bool) : Prop where
  out : PTs X ct ifs p
theorem pts_nil {X : Cx} {ct : Ct} : PTs X ct [] cYes := fun pins s σ H Q I ⟨Γ, j, h⟩ => wpAny_tests_nil ⟨H, I, h H (Same.refl H)⟩
theorem wts_nil {X : Cx} {ct : Ct} : WTs X ct [] cYes := ⟨pts_nil⟩
theorem blk_noML {tm : Bool} {k : Nat} {caps : List Nat} {Γ : Sg} : noML (blk tm k caps Γ) := fun i m => by
  refine ⟨fun h => ?_, fun h => ?_⟩ <;>
  · rcases blk_get h with e | ⟨c, sc, _, _, _, e⟩
    · cases e
    · cases sc <;> cases tm <;> cases e
theorem Ows.snocM {K : PySem.W.Frag} {ct : Ct} {H : Hp} {m : M} {y : V} {T : Fp} : ∀ {ms : List M} {vs : List V} {S : Fp}, Ows K ct H ms vs S → Ow K ct H m y T → (∀ b, S b → ¬ T b) → Ows K ct H (ms ++ [m]) (vs ++ [y]) (fun b => S b ∨ T b)
  | [], vs, S, h, t, _ => by
    simp only [Ows] at h; subst h
    simp only [List.nil_append, Ows]
    exact ⟨y, [], T, fun _ => False, rfl, fun _ z => .inr z, fun _ z => z.elim, fun _ _ z => z, t, rfl⟩
  | m' :: ms, vs, S, h, t, n => by
    simp only [Ows] at h
    obtain ⟨v, r, S1, S2, rfl, h2, h3, h4, h5, h6⟩ := h
    simp only [List.cons_append, Ows]
    refine ⟨v, r ++ [y], S1, fun b => S2 b ∨ T b, rfl, fun b z => .inl (h2 b z), fun b z => z.elim (fun z => .inl (h3 b z)) .inr, fun b z w => ?_, h5, Ows.snocM h6 t fun b z => n b (h3 b z)⟩
    rcases w with w | w
    · exact h4 b z w
    · exact n b (h2 b z) w
theorem Ows.datas {K : PySem.W.Frag} {ct : Ct} {H : Hp} : ∀ {ds : List D} {vs : List V} {S : Fp}, Ows K ct H (ds.map M.d) vs S → Tls K ct H ds vs
  | [], vs, S, h => by simpa [Ows, Tls] using h
  | d :: ds, vs, S, h => by
    simp only [List.map_cons, Ows, Ow] at h
    obtain ⟨v, r, S1, S2, rfl, _, _, _, h5, h6⟩ := h
    exact Tls.cons h5 (Ows.datas h6)
end L4
end
section
set_option Elab.async false
set_option linter.all false
set_option maxRecDepth 100000
namespace L4
open PySem PySem.Spec PyProof.Rows L2
structure CompOk (X : Cx) (scope : Scope) (cl : List (Str × Addr)) (k : Nat) (caps : List Nat) (N' : List Str) : Prop where
  clos : clOf X.env.cells scope.names [] = some cl
  cell : ∀ y ∈ scope.names, y.2 ≠ .cell
  kind : scope.kind = .function
  names : ∀ y ∈ scope.names, y.2 = .local → scope.names.lookup y.1 = some .local
  len : N'.length = k + caps.length
  cap : ∀ (i c : Nat) (y : Str), caps[i]? = some c → N'[k + i]? = some y → X.N[c]? = some y ∧ Vis X.env.scope y ∧ X.env.kindOf y ≠ some .local ∧ (y, NameKind.free) ∈ scope.names
theorem relabel_free {env : Env} : ∀ {names : List (Str × NameKind)} {y : Str}, (∀ z ∈ names, z.1 = y → z.2 = .free) → (y, NameKind.free) ∈ names →
    ((names.map fun (n, k) => if (k == NameKind.free && env.scope.kind == .function && env.kindOf n == some .cell) then (n, NameKind.cell) else (n, k)).lookup y = some .cell ∨
     (names.map fun (n, k) => if (k == NameKind.free && env.scope.kind == .function && env.kindOf n == some .cell) then (n, NameKind.cell) else (n, k)).lookup y = some .free)
  | [], y, _, h => by cases h
  | (n, k) :: r, y, hu, h => by
    have e1 : (((n, k) :: r).map fun (n, k) => if (k == NameKind.free && env.scope.kind == .function && env.kindOf n == some .cell) then (n, NameKind.cell) else (n, k)) =
      (if (k == NameKind.free && env.scope.kind == .function && env.kindOf n == some .cell) = true then (n, NameKind.cell) else (n, k)) :: (r.map fun (n, k) => if (k == NameKind.free && env.scope.kind == .function && env.kindOf n == some .cell) then (n, NameKind.cell) else (n, k)) := rfl
    rw [e1]
    by_cases hy : y = n
    · subst hy
      have hk : k = .free := hu (y, k) (.head _) rfl
      subst hk
      by_cases hcnd : (NameKind.free == NameKind.free && env.scope.kind == .function && env.kindOf y == some .cell) = true
      · rw [if_pos hcnd]; left; simp [List.lookup_cons]
      · rw [if_neg hcnd]; right; simp [List.lookup_cons]
    · have hb : (y == n) = false := by simpa using hy
      have hm : (y, NameKind.free) ∈ r := by
        rcases List.mem_cons.mp h with e | h
        · cases e; exact absurd rfl hy
        · exact h
      have ih := @relabel_free env r y (fun z hz => hu z (.tail _ hz)) hm
      by_cases hcnd : (k == NameKind.free && env.scope.kind == .function && env.kindOf n == some .cell) = true
      · rw [if_pos hcnd]; simp only [List.lookup_cons, hb]; exact ih
      · rw [if_neg hcnd]; simp only [List.lookup_cons, hb]; exact ih
section
variable {X : Cx} {ct : Ct} {elt iter tg : Expr} {ifs : List Expr} {scope : Scope} {cl : List (Str × Addr)} {pos : Pos} {k : Nat} {caps : List Nat} {N' : List Str} {fi : Sg → Res (List D)} {t : Tg} {p : Sg → Res Bool} {fe : Sg → Res M} {tm : Bool}
theorem inv_blk {pins : List (Addr × Obj)} {σ : St} {H : Hp} {s : Shared} {fp : List Addr} {h₁ : Heap} {tk : Nat} (I : Inv X pins σ H s) (co : CompOk X scope cl k caps N') (hfr : ∀ z ∈ scope.names, ∀ y, (y, NameKind.free) ∈ scope.names → z.1 = y → z.2 = .free)
    (hfp : ∀ b ∈ fp, FpOk X pins H b) (hfo : ∀ b ∈ fp, ∃ o, s.heap.get? b = some o)
    (hns : h₁.Ns (s.heap.objs.size + 1) (fun x => (([] : List (Str × Value)).reverse).lookup x))
    (hk : ∀ b o, s.heap.get? b = some o → h₁.get? b = some o) (hD : h₁.get? s.heap.objs.size = some { cls := .type "list", data := .seq #[] }) :
    Inv (cxB X scope cl (s.heap.objs.size + 1) s H fp N') [] (blkV k caps σ) (upd H s.heap.objs.size (.lst [])) { s with heap := h₁, toks := tk } := by
  have hsub := clOf_sub co.clos (by simp)
  have hfree : H s.heap.objs.size = none := I.hok.fresh (Nat.le_refl _)
  have cless : ∀ x c, cl.lookup x = some c → c < s.heap.objs.size := fun x c e => by
    obtain ⟨v, o, ho, _⟩ := I.cell x c (hsub x c e)
    exact Heap.lt_size ho
  refine ⟨⟨I.ok.mod, co.kind, I.ok.glob, I.ok.blt, Nat.le_succ _, fun x y c e1 e2 => I.ok.inj x y c (hsub x c e1) (hsub y c e2), fun x hx => ?_, fun x c hf => absurd hf (by exact Bool.false_ne_true), I.ok.hd, I.ok.frames, .inl rfl, fun b hb => ?_, I.bs, Nat.le_trans I.ok.bsz I.sz, fun b o e hb => ?_, fun b hb hs => ?_, I.stack, I.stkFree⟩,
    rfl, I.bare, Un.laid hk (Nat.le_refl _) hfree, ⟨_, hns, fun i y v h1 h2 h3 => ?_⟩, fun x c e => ?_, ?_, fun x c e => ?_, fun p hp => absurd (show p ∈ ([] : List (Addr × Obj)) ++ [] from hp) (by simp), I.hok.laid hk (Nat.le_refl _) ⟨Nat.zero_le _, [], 0, .nil, hD⟩, ?_⟩
  · exact Option.isSome_iff_exists.mp (clOf_has co.clos x (relabel_kind co.cell hx))
  · obtain ⟨o, ho⟩ := hfo b hb
    refine ⟨Nat.ne_of_lt (Nat.lt_succ_of_lt (Heap.lt_size ho)), fun x c e => (hfp b hb).2.2.2.2.1 x c (hsub x c e)⟩
  · rcases (hfp b hb).2.2.2.1 with z | z
    · exact I.ok.noex b o e z
    · exact absurd (Heap.lt_size (I.ok.bs b o e).1) (Nat.not_lt.mpr z)
  · rcases List.mem_cons.mp (I.stkSub b hs) with z | z
    · exact (hfp b hb).2.1 z
    · exact (hfp b hb).2.2.1 z
  · -- what it sees
    by_cases hi : i < k
    · unfold blkV at h2
      rw [List.getElem?_append_left (by simpa using hi), List.getElem?_replicate, if_pos hi] at h2
      cases h2
    · unfold blkV at h2
      rw [List.getElem?_append_right (by simpa using hi), List.length_replicate, List.getElem?_map] at h2
      cases q : caps[i - k]? with
      | none => rw [q] at h2; cases h2
      | some c =>
        rw [q] at h2
        simp only [Option.map_some, Option.some.injEq] at h2
        obtain ⟨g1, g2, g3, g4⟩ := co.cap (i - k) c y q (by rw [Nat.add_sub_cancel' (Nat.le_of_not_lt hi)]; exact h1)
        obtain ⟨m, hn, hl⟩ := I.loc
        have hσ : σ[c]? = some (some v) := by
          cases z : σ[c]? with
          | none => rw [z] at h2; cases h2
          | some w => rw [z] at h2; simp only [Option.join_some] at h2; rw [h2]
        obtain ⟨u, r, lk⟩ := hl c y v g1 hσ g2
        refine ⟨u, r, .inr ⟨relabel_free (fun z hz e => hfr z hz y g4 e) g4, ?_⟩⟩
        rcases lk with ⟨z, _⟩ | ⟨_, c', e, hc⟩
        · exact absurd z g3
        · obtain ⟨c2, e2⟩ := Option.isSome_iff_exists.mp (clOf_has co.clos y g4)
          have : c2 = c' := by
            have := hsub y c2 e2
            rw [e] at this; exact (Option.some.inj this).symm
          subst this
          obtain ⟨o, ho, hd⟩ := hc
          exact ⟨c2, e2, o, hk _ _ ho, hd⟩
  · obtain ⟨v, o, ho, hd⟩ := I.cell x c (hsub x c e)
    exact ⟨v, o, hk _ _ ho, hd⟩
  · show upd H s.heap.objs.size (.lst []) (s.heap.objs.size + 1) = none
    rw [upd_ne (Nat.succ_ne_self _)]
    exact I.hok.fresh (Nat.le_succ _)
  · rw [upd_ne (Nat.ne_of_lt (cless x c e))]
    exact I.freeC x c (hsub x c e)
  · simp [blkV, cxB, co.len]
theorem comp_core {pins : List (Addr × Obj)} {σ : St} {H : Hp} {s : Shared} {Γ : Sg} {cp : Pos} {use : Option (Value → Sem Unit)} {Q' : Value → Shared → Prop} {Wk : List M → Prop} (ht : tm = true → ct.tm = true) (hc : X.calm = true) (hi : PID X ct tg iter fi) (co : CompOk X scope cl k caps N') (hfr : ∀ z ∈ scope.names, ∀ y, (y, NameKind.free) ∈ scope.names → z.1 = y → z.2 = .free)
    (hg : ∀ C s₀ H₀ ex, PGD (cxB X scope cl C s₀ H₀ ex N') ct tg t) (hp : ∀ C s₀ H₀ ex, PTs (cxB X scope cl C s₀ H₀ ex N') ct ifs p) (he : ∀ C s₀ H₀ ex, PM (cxB X scope cl C s₀ H₀ ex N') ct elt fe)
    (hf : ∀ Γ x Γ1 σ H H₀, t x (blk tm k caps Γ) = some Γ1 → J X.K ct H₀ Γ1 σ H → J X.K ct H₀ (blk tm k caps Γ) σ H) (hs : ∀ x, foldedSetIterable iter X.env x = pure x)
    (I : Inv X pins σ H s) (j : Jx X ct Γ σ H) (h : Ok X ct σ H (mComp tm fi k caps t p fe Γ) Wk)
    (fin : ∀ (acc C : Addr) (av : List V) (ys : List M) (T : Fp) (H1 : Hp) (s4 : Shared) (m : Str → Option Value), Inv X pins σ H1 s4 → Same H H1 → H acc = none → H1 acc = some (.lst av) → Ows X.K ct H1 ys av T → (∀ b, T b → H b = none ∧ b ≠ acc ∧ H1 b ≠ none) → Wk ys → s4.heap.Ns C m → H1 C = none → C ≠ X.env.locals → X.s₀.heap.objs.size ≤ C →
      (∀ x c, X.env.cells.lookup x = some c → c ≠ C) → (∀ p ∈ X.pn ++ pins, p.1 ≠ C) → compPost (model X.prog X.w) X.A X.xe use Q' (.ref acc) C (.ok .next) s4) :
    wpAny (model X.prog X.w) X.A (comprehension (.ListComp elt [⟨tg, iter, ifs, 0⟩] scope pos) scope X.env cp (newList []) false (eval iter X.env) use) Q' X.xe s := by
  refine wpAny_comprehension_free (use := use) rfl hs (closure_of co.clos) co.kind co.names ?_
  have hw : iOf X ct fi σ H (fun J H2 => ∃ xs ys, Same H H2 ∧ ItD X.K ct J xs H2 ∧ xs.length < 1000000 ∧ compM (elM t p fe (blk tm k caps Γ)) xs = .ok ys ∧ Wk ys) := by
    refine ⟨Γ, j, h.bnd fun xs _ q J H2 s2 it => ?_⟩
    split at q
    · rename_i hl
      cases z : compM (elM t p fe (blk tm k caps Γ)) xs with
      | ok ys => rw [z] at q; exact ⟨xs, ys, s2, it, hl, z, q⟩
      | err c => exact (compM_ne (fun _ _ => elM_ne) xs c z).elim
      | bad => rw [z] at q; exact q.elim
    · exact q.elim
  refine wpAny_mono (hi pins s σ H _ I hw) (fun v s1 h1 => wpAny_mono h1 (fun itv s2 h2 => ?_) fun _ _ e => e) fun _ _ e => e
  obtain ⟨it, fp, tn, J, H2, rfl, I2, T, st, fok, xs, ys, sm, ⟨Pd, pd0, pdk, pdgo, pdst⟩, hlx, hys, W⟩ := h2
  refine wpAny_newObj_type (wpAny_newFunctionEnv co.cell (by intro y hy; simp at hy) (fun h₁ hns₁ hsb₁ => ?_) co.kind)
  dsimp only at hns₁ hsb₁ ⊢
  have hC : (s2.heap.push { cls := .type "list", dict := none, data := .seq ([] : List Value).toArray }).objs.size = s2.heap.objs.size + 1 := Heap.size_push ..
  rw [hC] at hns₁ hsb₁ ⊢
  have hk : ∀ b o, s2.heap.get? b = some o → h₁.get? b = some o := fun b o e =>
    hsb₁.extBut b o (Nat.ne_of_lt (Nat.lt_succ_of_lt (Heap.lt_size e))) (Heap.get?_push_of_some _ (Heap.get?_push_of_some _ e))
  have hD : h₁.get? s2.heap.objs.size = some { cls := .type "list", data := .seq #[] } :=
    hsb₁.extBut _ _ (Nat.ne_of_lt (Nat.lt_succ_self _)) (Heap.get?_push_of_some _ (Heap.get?_push_size _ rfl))
  have hfo : ∀ b ∈ fp, ∃ o, s2.heap.get? b = some o := fun b hb => let ⟨o, ho, _⟩ := T.obj 0 _ st b hb; ⟨o, ho⟩
  have I4 := inv_blk (tk := s2.toks + ([] : List (Str × Value)).length) I2 co hfr fok hfo hns₁ hk hD
  have j2 := j.mono sm
  let Xb := cxB X scope cl (s2.heap.objs.size + 1) s2 H2 fp N'
  have fresh2 : H2 s2.heap.objs.size = none := I2.hok.fresh (Nat.le_refl _)
  have keep4 : Same H2 (upd H2 s2.heap.objs.size (.lst [])) := same_new fresh2 _
  have tch : ∀ {σ1 : St} {Ha Hb : Hp}, L4.J X.K ct H2 (blk tm k caps Γ) σ1 Ha → Keep ct.f.cb Ha Hb → Same H2 Hb → L4.J X.K ct H2 (blk tm k caps Γ) σ1 Hb := fun j kp sm => j.touch blk_noML kp (fun b o q _ => sm b o q) (fun b q => sm.free q) (j2.lL.trans sm) (j2.lB.trans sm)
  have st4 : tn 0 h₁ := T.keep 0 _ _ st fun b hb o e => hk b o e
  have fpne : ∀ b ∈ fp, b ≠ s2.heap.objs.size := fun b hb => let ⟨o, ho⟩ := hfo b hb; Nat.ne_of_lt (Heap.lt_size ho)
  have fpb : ∀ {H' : Hp}, (∀ b ∈ fp, H' b = none) → ∀ b ∈ fp, FpOk Xb [] H' b := fun hn b hb => by
    obtain ⟨o, ho⟩ := hfo b hb
    refine ⟨hn b hb, Nat.ne_of_lt (Nat.lt_succ_of_lt (Heap.lt_size ho)), I4.ok.exfs b hb, .inl hb, fun x c e => (I4.ok.exf b hb).2 x c e, fun p hp => absurd (show p ∈ ([] : List (Addr × Obj)) ++ [] from hp) (by simp)⟩
  have loop : codeAny (model X.prog X.w) X.A (.compLoop (.ListComp elt [⟨tg, iter, ifs, 0⟩] scope pos) 0 (.ref it) (.ref s2.heap.objs.size) (compEnvC scope cl (s2.heap.objs.size + 1) X.env))
      (compPost (model X.prog X.w) X.A X.xe use Q' (.ref s2.heap.objs.size) (s2.heap.objs.size + 1)) { s2 with heap := h₁, toks := s2.toks + ([] : List (Str × Value)).length } := by
    refine compLoop_any (fun n s' => ∃ (i : Nat) (σ1 : St) (H1 : Hp) (av : List V) (ad rest : List M) (T : Fp), n = xs.length - i ∧ i ≤ xs.length ∧ Inv Xb [] σ1 H1 s' ∧ L4.J X.K ct H2 (blk tm k caps Γ) σ1 H1 ∧ tn i s'.heap ∧ (∀ b ∈ fp, H1 b = none) ∧ Same H2 H1 ∧
      H1 s2.heap.objs.size = some (.lst av) ∧ Ows X.K ct H1 ad av T ∧ (∀ b, T b → H2 b = none ∧ b ≠ s2.heap.objs.size ∧ H1 b ≠ none) ∧ av.length ≤ i ∧ compM (elM t p fe (blk tm k caps Γ)) (xs.drop i) = .ok rest ∧ ad ++ rest = ys) ?_ xs.length
      ⟨0, _, _, [], [], ys, fun _ => False, rfl, Nat.zero_le _, I4, tch (j_blk j2 ht) (Same.keep keep4) keep4, st4, fun b hb => by rw [upd_ne (fpne b hb)]; exact (fok b hb).1, keep4, upd_same, by simp only [Ows], fun _ z => z.elim, Nat.le_refl _, hys, rfl⟩
    rintro n s3 ⟨i, σ1, H1, av, ad, rest, Tf, hn, hil, I3, j3, st3, fr3, k3, hacc, tacc, hT, hal, hrest, hall⟩
    have pd1 := pdk _ _ pd0 (Same.keep k3) j3.lL j3.lB
    by_cases hlt : i < xs.length
    · -- one more item
      have hd : xs[i]? = some xs[i] := List.getElem?_eq_getElem hlt
      obtain ⟨go, yld⟩ := pdgo i _ H1 pd1 hd
      rw [drop_one hd] at hrest
      obtain ⟨o, rest', ho, hr', hro⟩ := compM_cons hrest
      refine wpAny_mono (T.item Xb rfl rfl rfl hc i [] s3 σ1 H1 (fun _ _ => False) I3 (fpb fr3) st3 go) (fun r s4 ⟨u, hr, h4⟩ => ?_) fun _ _ e => e
      subst hr
      refine wpAny_mono h4 (fun _ s5 ⟨x, H5, I5, r5, y5, st5, fr5⟩ => ?_) fun _ _ e => e
      obtain ⟨sm5, tx⟩ := yld x H5 y5
      replace j3 := j3.mono sm5
      replace hacc := sm5 _ _ hacc
      replace tacc := tacc.frame (Same.keep sm5) (fun b o _ q => sm5 b o q)
      replace hT : ∀ b, Tf b → H2 b = none ∧ b ≠ s2.heap.objs.size ∧ H5 b ≠ none := fun b z => ⟨(hT b z).1, (hT b z).2.1, fun q => (hT b z).2.2 (sm5.free q)⟩
      replace k3 := k3.trans sm5
      have I5' := I5.pinned (fpb fr5) (T.obj _ _ st5)
      unfold elM at ho
      cases e1 : t xs[i] (blk tm k caps Γ) with
      | none => rw [e1] at ho; cases ho
      | some Γ1 =>
        rw [e1] at ho
        dsimp only at ho
        refine wpAny_mono (hg _ s2 H2 fp _ s5 σ1 H5 x u (fun σ2 H' => H' = H5 ∧ L4.J X.K ct H2 Γ1 σ2 H5) I5' r5 ⟨_, _, Γ1, j3, tx, e1, fun σ2 j6 => ⟨rfl, j6⟩⟩) (fun _ s6 ⟨σ2, H6, I6, e6, j6⟩ => ?_) fun _ _ e => e
        subst e6
        have tnk : ∀ {σ7 : St} {H7 : Hp} {s7 : Shared}, Inv Xb ([] ++ pinsAt fp s5.heap) σ7 H7 s7 → tn (i + 1) s7.heap ∧ ∀ b ∈ fp, H7 b = none := fun {σ7 H7 s7} I7 => by
          refine ⟨T.keep _ _ _ st5 fun b hb o e => (I7.pin (b, o) (List.mem_append_right _ (List.mem_append_right _ (mem_pinsAt hb e)))).1, fun b hb => ?_⟩
          obtain ⟨o, e, d⟩ := T.obj _ _ st5 b hb
          exact (I7.pin (b, o) (List.mem_append_right _ (List.mem_append_right _ (mem_pinsAt hb e)))).2.1
        cases ep : p Γ1 with
        | bad => rw [ep] at ho; cases ho
        | err c => rw [ep] at ho; cases ho
        | ok c =>
          refine wpAny_mono (hp _ s2 H2 fp _ s6 σ2 H6 (fun b H' => b = c ∧ Same H6 H') I6 ⟨Γ1, j6, by rw [ep]; exact fun H' s => ⟨rfl, s⟩⟩) (fun b s7 ⟨H7, I7, eb, s7'⟩ => ?_) fun _ _ e => e
          subst eb
          have j7 := j6.mono s7'
          cases b with
          | false =>
            rw [ep] at ho
            dsimp only at ho
            cases ho
            have hro' : rest = rest' := hro
            rw [hro'] at hall
            obtain ⟨tn7, fr7⟩ := tnk I7
            rw [if_neg Bool.false_ne_true]
            exact ⟨xs.length - (i + 1), by omega, i + 1, σ2, H7, av, ad, rest', Tf, rfl, hlt, I7.unpinned, hf Γ _ Γ1 σ2 H7 H2 e1 j7, tn7, fr7, k3.trans s7', s7' _ _ hacc, tacc.frame (Same.keep s7') (fun b o _ q => s7' b o q), fun b z => ⟨(hT b z).1, (hT b z).2.1, fun q => (hT b z).2.2 (s7'.free q)⟩, Nat.le_succ_of_le hal, hr', hall⟩
          | true =>
            rw [ep] at ho
            dsimp only at ho
            rw [if_pos rfl]
            cases ee : fe Γ1 with
            | bad => rw [ee] at ho; cases ho
            | err c => rw [ee] at ho; cases ho
            | ok d =>
              rw [ee] at ho
              dsimp only at ho
              cases ho
              subst hro
              refine wpAny_mono (he _ s2 H2 fp _ s7 σ2 H7 (fun v H' => ∃ S, Same H7 H' ∧ Ow X.K ct H' d v S ∧ (∀ b, S b → H7 b = none) ∧ ∀ b, S b → H' b ≠ none) I7 ⟨Γ1, j7, by rw [ee]; exact fun v H' S s t n k => ⟨S, s, t, n, k⟩⟩) (fun yv s8 ⟨y, H8, I8, r8, S8, s8', t8, n8, h8⟩ => ?_) fun _ _ e => e
              have hacc8 : H8 s2.heap.objs.size = some (.lst av) := s8' _ _ (s7' _ _ hacc)
              refine wpAny_mono (mt_append (X := Xb) _ s8 σ2 H8 (.ref s2.heap.objs.size) [y] (.ref s2.heap.objs.size) [yv] (fun _ H' => H' = upd H8 s2.heap.objs.size (.lst (av ++ [y]))) I8 rfl (.cons r8 .nil) ⟨_, av, y, rfl, rfl, hacc8, Nat.lt_trans (by omega) sizeLine_big, rfl⟩) (fun _ s9 ⟨_, H9, I9, _, e9⟩ => ?_) fun _ _ e => e
              subst e9
              obtain ⟨tn9, fr9⟩ := tnk I9
              have kp : Keep ct.f.cb H8 (upd H8 s2.heap.objs.size (.lst (av ++ [y]))) := Keep.lst hacc8
              have k8 : Same H2 H8 := (k3.trans s7').trans s8'
              have j8 := hf Γ _ Γ1 σ2 H8 H2 e1 (j7.mono s8')
              have sm9 : Same H2 (upd H8 s2.heap.objs.size (.lst (av ++ [y]))) := fun b o hb => by
                have : b ≠ s2.heap.objs.size := ne_of_none hb fresh2
                rw [upd_ne this]; exact k8 b o hb
              have sne : ∀ b, S8 b → b ≠ s2.heap.objs.size := fun b z => by
                rintro rfl
                have := n8 _ z
                rw [s7' _ _ hacc] at this; cases this
              have T8 : ∀ b, Tf b → H8 b ≠ none := fun b z q => (hT b z).2.2 (s7'.free (s8'.free q))
              have dis : ∀ b, Tf b → ¬ S8 b := fun b z w => (hT b z).2.2 (s7'.free (n8 b w))
              have up8 : ∀ b, b ≠ s2.heap.objs.size → upd H8 s2.heap.objs.size (.lst (av ++ [y])) b = H8 b := fun b z => upd_ne z
              refine ⟨xs.length - (i + 1), by omega, i + 1, σ2, _, av ++ [y], ad ++ [d], rest', fun b => Tf b ∨ S8 b, rfl, hlt, I9.unpinned, tch j8 kp sm9, tn9, fr9, sm9, upd_same, ?_, fun b z => ?_, ?_, hr', ?_⟩
              · have o1 := tacc.frame (Same.keep (s7'.trans s8')) (fun b o _ q => (s7'.trans s8') b o q)
                exact (o1.snocM t8 dis).frame kp fun b o z q => by
                  rw [up8 b (z.elim (fun z => (hT b z).2.1) (sne b))]; exact q
              · rcases z with z | z
                · exact ⟨(hT b z).1, (hT b z).2.1, by rw [up8 b (hT b z).2.1]; exact T8 b z⟩
                · exact ⟨k3.free (s7'.free (n8 b z)), sne b z, by rw [up8 b (sne b z)]; exact h8 b z⟩
              · rw [List.length_append, List.length_singleton]; omega
              · rw [← hall]; simp
    · -- through
      have hie : xs.length ≤ i := Nat.le_of_not_lt hlt
      refine wpAny_mono (T.done Xb rfl rfl rfl hc i [] s3 σ1 H1 (fun _ _ => False) I3 (fpb fr3) st3 (pdst i H1 pd1 hie)) (fun r s4 ⟨hr, I4'⟩ => ?_) fun _ _ e => e
      subst hr
      rw [List.drop_eq_nil_of_le hie] at hrest
      cases hrest
      rw [List.append_nil] at hall
      subst hall
      obtain ⟨m, hm, _⟩ := I4'.loc
      have nC : H1 (s2.heap.objs.size + 1) = none := I4'.free
      have un : Un (frs X.stack) fp H2 H1 s2.heap s4.heap := by
        have u := I4'.base
        exact ⟨u.keep, u.slot, u.free, u.there, u.tups, u.frzs, u.tbls⟩
      have IE : Inv X pins σ H1 s4 := I2.call' (s' := s4) (ch := fp) I4'.os un I4'.hok I4'.bare fun b hb => ⟨(fok b hb).2.2.2.1, (fok b hb).2.1, (fok b hb).2.2.2.2.1, (fok b hb).2.2.2.2.2⟩
      have old : ∀ {b : Addr} {o : Obj}, s2.heap.get? b = some o → b ≠ s2.heap.objs.size + 1 := fun e => Nat.ne_of_lt (Nat.lt_succ_of_lt (Heap.lt_size e))
      refine fin _ _ av _ Tf H1 s4 m IE (sm.trans k3) (sm.free fresh2) hacc tacc (fun b z => ⟨sm.free (hT b z).1, (hT b z).2.1, (hT b z).2.2⟩) W hm nC (Ne.symm (Nat.ne_of_lt (Nat.lt_succ_of_lt I2.lt))) (Nat.le_succ_of_le I2.sz) (fun x c e => ?_) fun p hp => old (I2.pin p hp).1
      obtain ⟨v, o, ho, _⟩ := I2.cell x c e
      exact old ho
  exact codeAny_compStart_list loop (T.self _ 0 _ _ _ st4 loop)
variable {fd : Sg → Res D}
theorem lComp_m (Γ : Sg) : mComp tm fi k caps t p (mD fd) Γ = (lComp tm fi k caps t p fd Γ).bnd fun ds => .ok (ds.map M.d) := by
  unfold mComp lComp
  cases fi Γ with
  | ok xs =>
    simp only [Res.bnd_ok]
    split
    · exact compM_compD xs
    · rfl
  | err x => rfl
  | bad => rfl
theorem pl_comp (ht : tm = true → ct.tm = true) (hc : X.calm = true) (hi : PID X ct tg iter fi) (co : CompOk X scope cl k caps N') (hfr : ∀ z ∈ scope.names, ∀ y, (y, NameKind.free) ∈ scope.names → z.1 = y → z.2 = .free)
    (hg : ∀ C s₀ H₀ ex, PGD (cxB X scope cl C s₀ H₀ ex N') ct tg t) (hp : ∀ C s₀ H₀ ex, PTs (cxB X scope cl C s₀ H₀ ex N') ct ifs p) (he : ∀ C s₀ H₀ ex, PD (cxB X scope cl C s₀ H₀ ex N') ct elt fd)
    (hf : ∀ Γ x Γ1 σ H H₀, t x (blk tm k caps Γ) = some Γ1 → J X.K ct H₀ Γ1 σ H → J X.K ct H₀ (blk tm k caps Γ) σ H)
    (hs : ∀ x, foldedSetIterable iter X.env x = pure x := by intro _; rfl) : PL X ct (.ListComp elt [⟨tg, iter, ifs, 0⟩] scope pos) (lComp tm fi k caps t p fd) := by
  intro pins s σ H Q I ⟨Γ, j, h⟩
  rw [eval_ListComp]
  have h' : Ok X ct σ H (mComp tm fi k caps t p (mD fd) Γ) fun ms => ∃ ds : List D, ms = ds.map M.d ∧ Wl X ct H Q ds := by
    rw [lComp_m]
    cases z : lComp tm fi k caps t p fd Γ with
    | ok ms => rw [z] at h; exact ⟨ms, rfl, h⟩
    | err x => rw [z] at h; exact h
    | bad => rw [z] at h; exact h
  refine comp_core ht hc hi co hfr hg hp (fun C s₀ H₀ ex => pm_of_pd (he C s₀ H₀ ex)) hf hs I j h' fun acc C av ys T H1 s4 m IE sm na ha ta hT W hm nC nl hz ncl npn => ?_
  obtain ⟨ds, rfl, W⟩ := W
  refine ⟨m, hm, fun h' hsb => ?_⟩
  have I5 : Inv X pins σ H1 { s4 with heap := h', toks := s4.toks } := IE.turned (h' := h') (t' := s4.toks) (it := C) (fun b o hb e => (hsb.2 b hb).trans e) nC nl (.inr hz) ncl npn
  exact ⟨.ref acc, H1, I5, rfl, W acc av H1 sm na ha ta.datas⟩
end
end L4
end
section
set_option Elab.async false
set_option linter.all false
set_option maxRecDepth 100000
namespace L4
open PySem PySem.Spec PyProof.Rows L2
section
variable {X : Cx} {ct : Ct} {c : Cf} {elt iter tg : Expr} {ifs : List Expr} {scope : Scope} {cl : List (Str × Addr)} {pos : Pos} {k : Nat} {caps : List Nat} {N' : List Str} {fi : Sg → Res (List D)} {t : Tg} {p : Sg → Res Bool} {fe : Sg → Res M} {fd : Sg → Res D} {tm : Bool}
def TgK (k : Nat) (t : Tg) : Prop := ∀ x Γ Γ1, t x Γ = some Γ1 → Γ1.length = Γ.length ∧ ∀ i, k ≤ i → Γ1[i]? = Γ[i]?
def TgsK (k : Nat) (t : Tgs) : Prop := ∀ x Γ Γ1, t x Γ = some Γ1 → Γ1.length = Γ.length ∧ ∀ i, k ≤ i → Γ1[i]? = Γ[i]?
theorem tk_name {k i : Nat} (h : i < k) : TgK k (tgName i) := fun x Γ Γ1 e => by
  cases e
  exact ⟨by simp, fun j hj => by rw [List.getElem?_set_ne (by omega)]⟩
theorem tk_nil {k : Nat} : TgsK k tgNil := fun x Γ Γ1 e => by
  cases x with
  | nil => cases e; exact ⟨rfl, fun _ _ => rfl⟩
  | cons a r => cases e
theorem tk_cons {k : Nat} {t : Tg} {u : Tgs} (h1 : TgK k t) (h2 : TgsK k u) : TgsK k (tgCons t u) := fun x Γ Γ1 e => by
  cases x with
  | nil => cases e
  | cons d r =>
    simp only [tgCons, Option.bind_eq_some_iff] at e
    obtain ⟨Γ2, e1, e2⟩ := e
    obtain ⟨a1, a2⟩ := h1 _ _ _ e1
    obtain ⟨b1, b2⟩ := h2 _ _ _ e2
    exact ⟨b1.trans a1, fun i hi => (b2 i hi).trans (a2 i hi)⟩
theorem tk_tup {k n : Nat} {t : Tgs} (h : TgsK k t) : TgK k (tgTup n t) := fun x Γ Γ1 e => by
  cases x with
  | tup ds =>
    simp only [tgTup] at e
    split at e
    · exact h _ _ _ e
    · cases e
  | _ => cases e
theorem tk_forget {K : PySem.W.Frag} (hk : TgK k t) : ∀ Γ x Γ1 σ H H₀, t x (blk tm k caps Γ) = some Γ1 → J K ct H₀ Γ1 σ H → J K ct H₀ (blk tm k caps Γ) σ H := fun Γ x Γ1 σ H H₀ e j => by
  obtain ⟨h1, h2⟩ := hk _ _ _ e
  refine j.weak h1 fun i => ?_
  by_cases hik : i < k
  · left
    unfold blk
    rw [List.getElem?_append_left (by simpa using hik), List.getElem?_replicate, if_pos hik]
  · exact .inr (h2 i (Nat.le_of_not_lt hik)).symm
theorem free_of (hfb : (scope.names.all fun z => scope.names.all fun y => !(y.2 == .free && z.1 == y.1) || z.2 == .free) = true) : ∀ z ∈ scope.names, ∀ y, (y, NameKind.free) ∈ scope.names → z.1 = y → z.2 = .free := fun z hz y hy e => by
  have q := List.all_eq_true.mp (List.all_eq_true.mp hfb z hz) _ hy
  simp only [e, BEq.rfl, Bool.and_self, Bool.not_true, Bool.false_or] at q
  exact eq_of_beq q
theorem pl_compD (ht : tm = true → ct.tm = true) (hc : X.calm = true) (hi : PID X ct tg iter fi) (co : CompOk X scope cl k caps N') (hfb : (scope.names.all fun z => scope.names.all fun y => !(y.2 == .free && z.1 == y.1) || z.2 == .free) = true)
    (hg : ∀ C s₀ H₀ ex, PGD (cxB X scope cl C s₀ H₀ ex N') ct tg t) (hp : ∀ C s₀ H₀ ex, PTs (cxB X scope cl C s₀ H₀ ex N') ct ifs p) (he : ∀ C s₀ H₀ ex, PD (cxB X scope cl C s₀ H₀ ex N') ct elt fd)
    (hk : TgK k t) (hs : ∀ x, foldedSetIterable iter X.env x = pure x := by intro _; rfl) : PL X ct (.ListComp elt [⟨tg, iter, ifs, 0⟩] scope pos) (lComp tm fi k caps t p fd) :=
  pl_comp ht hc hi co (free_of hfb) hg hp he (tk_forget hk) hs
theorem wl_compD (ht : tm = true → ct.tm = true) (hc : X.calm = true) (hi : WID X ct tg iter fi) (co : CompOk X scope cl k caps N') (hfb : (scope.names.all fun z => scope.names.all fun y => !(y.2 == .free && z.1 == y.1) || z.2 == .free) = true) (hg : ∀ C s₀ H₀ ex, WGD (cxB X scope cl C s₀ H₀ ex N') ct tg t) (hp : ∀ C s₀ H₀ ex, WTs (cxB X scope cl C s₀ H₀ ex N') ct ifs p) (he : ∀ C s₀ H₀ ex, WD (cxB X scope cl C s₀ H₀ ex N') ct elt fd) (hk : TgK k t) (hs : ∀ x, foldedSetIterable iter X.env x = pure x := by intro _; rfl) : WL X ct (.ListComp elt [⟨tg, iter, ifs, 0⟩] scope pos) (lComp tm fi k caps t p fd) := ⟨pl_compD (ht := ht) (hc := hc) (hi := hi.out) (co := co) (hfb := hfb) (hg := (fun C s₀ H₀ ex => (hg C s₀ H₀ ex).out)) (hp := (fun C s₀ H₀ ex => (hp C s₀ H₀ ex).out)) (he := (fun C s₀ H₀ ex => (he C s₀ H₀ ex).out)) (hk := hk) (hs := hs)⟩
end
end L4
end
section
set_option Elab.async false
set_option linter.all false
set_option maxRecDepth 100000
namespace L4
open PySem PySem.Spec PyProof.Rows L2
abbrev bmVE : List Value := [.type "ValueError", .type "Exception", .type "BaseException", .type "object"]
structure XC (K : PySem.W.Frag) (mg : Str → Option Value) (cb : Cb) (x : Str) (n : String) (C : Addr) : Prop where
  bnd : mg x = some (.ref C)
  exc : PySem.W.excIn K C bmVE "ValueError.__new__" = true
  at' : cb.exc n = some C
theorem excObj {K : PySem.W.Frag} {h : Heap} {C : Addr} {newId : String} (X : K.In h) (q : PySem.W.excIn K C bmVE newId = true) :
    ∃ bm N nm qn bs hdct sn sub ab col dd k0 k1 k2 k3 k5 mN, h.get? C = some (excClassObj nm qn C N bs bm hdct sn sub ab col dd k0 k1 k2 k3 k5 newId) ∧ h.Ns N mN ∧ mN "__init__" = none ∧ OwnTail h bmVE bm := by
  unfold PySem.W.excIn at q
  split at q
  case h_2 => cases q
  case h_1 dd cd sl lk =>
    split at q
    case h_2 => cases q
    case h_1 C' bm k0 k1 k2 k3 n k5 em es =>
      simp only [Bool.and_eq_true, beq_iff_eq, Bool.not_eq_true'] at q
      obtain ⟨⟨⟨⟨⟨e1, e2⟩, e3⟩, e4⟩, e5⟩, e6⟩ := q
      subst e1 e2
      obtain ⟨nm, bs, mr, ns, qn, hd, sn, sub, ab, col, dl⟩ := cd
      simp only at em e3 e5 e6
      subst em e3
      obtain ⟨sl⟩ := sl
      simp only at es
      subst es
      exact ⟨bm, ns, nm, qn, bs, hd, sn, sub, ab, col, dd, k0, k1, k2, k3, k5, _, X _ _ lk, .of_isNs (PySem.W.isNs_of_in X e5), PySem.W.nsMap_none_of_in X e5 e6, PySem.W.tail_of_in X e4⟩
section
variable {X : Cx} {cf : Cf} {e₀ : Expr} {rest : List Expr} {fa : Sg → Res (List D)} {x : Str} {c : String} {C : Addr} {np cpos pos : Pos}
theorem pds_raise (g : Good X) (M : XC X.K X.mg cf.cb x c C) (ha : PDA X cf.z (e₀ :: rest) fa) (hg : Gl X x := by rfl) (hd : (x == ("__debug__" : Str)) = false := by decide)
    (he : starEach (e₀ :: rest) X.env = (false, eval e₀ X.env) :: starEach rest X.env := by rfl) (hpl : (backTo cpos (starEach rest X.env)).any (·.1) = false := by rfl) :
    PDS X cf (.Raise (some (.Call (.Name x np) (e₀ :: rest) [] cpos)) none pos) (sRaise c fa) := by
  intro pins s σ H E I ⟨Γ, j, h⟩
  obtain ⟨tl, N, nm, q, bs, hdct, sn, sub, ab, col, dd, k0, k1, k2, k3, k5, mN, hC, hN, hni, T⟩ := excObj I.ok.mod.kin M.exc
  refine wpAny_Raise_call_subT (C := C) (nm := nm) (q := q) (N := N) (bs := bs) (bm := tl) (hdct := hdct) (sn := sn) (sub := sub) (ab := ab) (col := col) (dd := dd) (k0 := k0) (k1 := k1) (k2 := k2) (k3 := k3) (k5 := k5)
    PySem.F.excBase_ValueError (mN := mN) (T.hasType PySem.F.excBase_ValueError.hasBase) (I.ok.hd g.calm) (by rw [he]; show (false || (backTo cpos (starEach rest X.env)).any (·.1)) = false; rw [hpl]; rfl) hni (ld_glob I hg M.bnd ⟨rfl, ?_⟩ hd)
  have h' : aOf X cf.z fa σ H (fun vs H1 => Same H H1 ∧ vs.length ≤ 1000 ∧ Fn X cf H (.err c Γ) E) :=
    ⟨Γ, j, Fn.ok j h fun ds _ q vs H1 s1 t1 => by
      split at q
      · rename_i hl; exact ⟨s1, by rw [← t1.length]; exact hl, q⟩
      · exact q.elim⟩
  have hp := ha cpos pins s σ H _ I h'
  rw [he] at hp ⊢
  refine Calls.evalArgs_plain (wpAny_mono hp (fun us s1 ⟨vs, H1, I1, r, sm, hl, q⟩ => ⟨rfl, ?_, I1.bk _ _ hC, hN.keeps I1.bk, T.keeps I1.bk, fun h2 e hm => ?_⟩) fun _ _ y => y)
  · show us.length ≤ sizeLine
    rw [← r.length]; exact Nat.le_of_lt (small1000 hl)
  · exact q σ H1 _ _ (Same.keep sm) (j.mono sm) ⟨pins, H1, s1, C, I1, Same.refl H1, M.at', .inl ⟨e, us, h2, rfl, rfl, hm⟩⟩
theorem wds_raise (g : Good X) (M : XC X.K X.mg cf.cb x c C) (ha : WDA X cf.z (e₀ :: rest) fa) (hg : Gl X x := by rfl) (hd : (x == ("__debug__" : Str)) = false := by decide) (he : starEach (e₀ :: rest) X.env = (false, eval e₀ X.env) :: starEach rest X.env := by rfl) (hpl : (backTo cpos (starEach rest X.env)).any (·.1) = false := by rfl) : WDS X cf (.Raise (some (.Call (.Name x np) (e₀ :: rest) [] cpos)) none pos) (sRaise c fa) := ⟨pds_raise (g := g) (M := M) (ha := ha.out) (hg := hg) (hd := hd) (he := he) (hpl := hpl)⟩
end
section
variable {X : Cx} {ct : Ct} {pins : List (Addr × Obj)} {σ : St} {H : Hp} {s : Shared}
theorem gone_ok {M : Model} {A : Around} {E : Value → Shared → Prop} {i : Nat} {n : Str} {pos : Pos} {Q : Unit → Shared → Prop} (I : Inv X pins σ H s) (hN : X.N.Nodup) (hi : X.N[i]? = some n) (hl : X.env.kindOf n = some .local)
    (h : ∀ s', Inv X pins (σ.set i none) H s' → Q () s') : wpAny M A (do bindName X.env n .none; unbindBehindTheSuite X.env n pos) Q E s := by
  obtain ⟨m, hn, hlk⟩ := id I.loc
  have hcls : (X.env.scope.kind == .class || (X.env.scope.kind == .module && X.env.locals != X.env.globals)) = false := by rw [I.ok.kind]; rfl
  refine wpAny_nameGoes_keeps hl hn hcls fun h' v hn' hs => h _ ?_
  obtain ⟨oL, _, _, hoL, _⟩ := id hn
  have old : ∀ {b : Addr} {o : Obj}, X.s₀.heap.get? b = some o → b ≠ X.env.locals := fun e => Nat.ne_of_lt (Nat.lt_of_lt_of_le (Heap.lt_size e) I.ok.above)
  have cne := I.cne
  refine ⟨I.ok, I.os, I.bare, ⟨fun b o e n hb hx => (hs.2 b (old e)).trans (I.base.keep b o e n hb hx), fun b o e n hb hx => ?_, I.base.free, fun b o e hx => ?_, I.base.tups, I.base.frzs, I.base.tbls⟩,
    ⟨_, hn', fun k y v' e1 e2 e3 => ?_⟩, fun y c e => ?_, I.free, I.freeC, fun p hp => ?_, fun b ob e => ?_, by simpa using I.len⟩
  · obtain ⟨sl, e1⟩ := I.base.slot b o e n hb hx
    exact ⟨sl, (hs.2 b (old e)).trans e1⟩
  · obtain ⟨o', e1⟩ := I.base.there b o e hx
    exact ⟨o', (hs.2 b (old e)).trans e1⟩
  · by_cases hk : k = i
    · subst hk
      by_cases hlen : k < σ.length
      · rw [List.getElem?_set_self hlen] at e2; cases e2
      · rw [List.getElem?_eq_none (by rw [List.length_set]; omega)] at e2; cases e2
    · rw [List.getElem?_set_ne (Ne.symm hk)] at e2
      obtain ⟨u', r', q⟩ := hlk k y v' e1 e2 e3
      refine ⟨u', r', ?_⟩
      rcases q with ⟨kk, e⟩ | ⟨kk, c, e, z⟩
      · have : y ≠ n := fun e => hk (nodup_ix hN e1 (e ▸ hi))
        exact .inl ⟨kk, by simp [this, e]⟩
      · exact .inr ⟨kk, c, e, z.sameBut hs (cne y c e)⟩
  · obtain ⟨w', z⟩ := I.cell y c e
    exact ⟨w', z.sameBut hs (cne y c e)⟩
  · obtain ⟨e, n, ne, nf, d⟩ := I.pin p hp
    exact ⟨(hs.2 p.1 ne).trans e, n, ne, nf, d⟩
  · refine (I.hok b ob e).stay (fun c w' hc q => (hs.2 c ?_).trans q) (fun _ q => q) fun _ _ q => q
    rintro rfl
    rcases hc with rfl | hc
    · rw [I.free] at e; cases e
    · rw [I.free] at hc; cases hc
theorem Inv.track {a : Addr} {φ : Heap → Prop} {s1 : Shared} (I : Inv X pins σ H s) (ha : H a = none) (old : Inv X pins σ H1 s1) (nw : s1.heap.get? a = none) (new : ObjOk X.prog X.w (upd H a (.ext φ)) s.heap a (.ext φ)) :
    Inv X pins σ (upd H a (.ext φ)) s := by
  have there : ∀ b o, X.s₀.heap.get? b = some o → b ∉ X.ex → b ≠ a := fun b o e hx z => by
    subst z
    obtain ⟨o', q⟩ := old.base.there b o e hx
    rw [nw] at q; cases q
  have nl : X.env.locals ≠ a := fun z => by
    obtain ⟨m, ⟨o, _, _, ho, _⟩, _⟩ := old.loc
    rw [z, nw] at ho; cases ho
  have nc : ∀ x c, X.env.cells.lookup x = some c → c ≠ a := fun x c e z => by
    obtain ⟨v, o, ho, _⟩ := old.cell x c e
    rw [z, nw] at ho; cases ho
  have np : ∀ p ∈ X.pn ++ pins, p.1 ≠ a := fun p hp z => by
    have := (old.pin p hp).1
    rw [z, nw] at this; cases this
  have ne : ∀ b u, H b = some u → b ≠ a := fun b u e => ne_of_none e ha
  refine ⟨I.ok, I.os, I.bare, ⟨I.base.keep, I.base.slot, fun b o e n hx => ?_, I.base.there, fun b xs e => ?_, fun b o u e => ?_, fun b ps e => ?_⟩, I.loc, I.cell, ?_, fun x c e => ?_, fun p hp => ?_, fun b u e => ?_, I.len⟩
  · rw [upd_ne (there b o e hx)]; exact I.base.free b o e n hx
  · have q := I.base.tups b xs e
    rw [upd_ne (ne _ _ q)]; exact q
  · have q := I.base.frzs b o u e
    rw [upd_ne (ne _ _ q)]; exact q
  · obtain ⟨more, q⟩ := I.base.tbls b ps e
    exact ⟨more, by rw [upd_ne (ne _ _ q)]; exact q⟩
  · rw [upd_ne nl]; exact I.free
  · rw [upd_ne (nc x c e)]; exact I.freeC x c e
  · obtain ⟨h1, h2, h3⟩ := I.pin p hp
    exact ⟨h1, by rw [upd_ne (np p hp)]; exact h2, h3⟩
  · by_cases hb : b = a
    · subst hb; rw [upd_same] at e; cases e; exact new
    · rw [upd_ne hb] at e
      exact (I.hok b u e).stay (fun _ _ _ q => q) (fun c q => by rw [upd_ne (ne _ _ q)]; exact q) fun c xs q => by rw [upd_ne (ne _ _ q)]; exact q
end
end L4
end
section
set_option Elab.async false
set_option linter.all false
set_option maxRecDepth 100000
namespace L4
open PySem PySem.Spec PyProof.Rows L2
section
variable {X : Cx} {cf : Cf}
abbrev cxT (X : Cx) (pn : List (Addr × Obj)) (xe : Value → Shared → Prop) : Cx := { X with pn := pn, xe := xe }
abbrev cxE (X : Cx) (ev : Value) (pn : List (Addr × Obj)) : Cx := { X with A := X.A.mark (some ev), calm := false, pn := pn, xe := fun _ _ => False }
theorem ok_T (ok : X.Ok) (pn : List (Addr × Obj)) (xe : Value → Shared → Prop) : (cxT X pn xe).Ok :=
  ⟨ok.mod, ok.kind, ok.glob, ok.blt, ok.above, ok.inj, ok.has, ok.cab, ok.hd, ok.frames, ok.stk, ok.exf, ok.bs, ok.bsz, ok.noex, ok.exfs, ok.funs, ok.frf⟩
theorem ok_E (ok : X.Ok) (ev : Value) (pn : List (Addr × Obj)) : (cxE X ev pn).Ok :=
  ⟨ok.mod, ok.kind, ok.glob, ok.blt, ok.above, ok.inj, ok.has, ok.cab, fun z => absurd z (by exact Bool.false_ne_true), ok.frames, ok.stk, ok.exf, ok.bs, ok.bsz, ok.noex, ok.exfs, ok.funs, ok.frf⟩
variable {pins : List (Addr × Obj)} {σ : St} {H : Hp} {s : Shared}
theorem Inv.toT (I : Inv X pins σ H s) (xe : Value → Shared → Prop) : Inv (cxT X (X.pn ++ pins) xe) [] σ H s :=
  ⟨ok_T I.ok _ _, I.os, I.bare, I.base, I.loc, I.cell, I.free, I.freeC, fun p hp => I.pin p (by simpa using hp), I.hok, I.len⟩
theorem Inv.ofT {pins' : List (Addr × Obj)} {xe : Value → Shared → Prop} (ok : X.Ok) (I : Inv (cxT X (X.pn ++ pins) xe) pins' σ H s) : Inv X pins σ H s :=
  ⟨ok, I.os, I.bare, I.base, I.loc, I.cell, I.free, I.freeC, fun p hp => I.pin p (List.mem_append_left _ hp), I.hok, I.len⟩
theorem Inv.toE (I : Inv X pins σ H s) (ev : Value) : Inv (cxE X ev (X.pn ++ pins)) [] σ H s :=
  ⟨ok_E I.ok _ _, I.os, I.bare, I.base, I.loc, I.cell, I.free, I.freeC, fun p hp => I.pin p (by simpa using hp), I.hok, I.len⟩
theorem Inv.ofE {ev : Value} (ok : X.Ok) (I : Inv (cxE X ev (X.pn ++ pins)) [] σ H s) : Inv X pins σ H s :=
  ⟨ok, I.os, I.bare, I.base, I.loc, I.cell, I.free, I.freeC, fun p hp => I.pin p (by simpa using hp), I.hok, I.len⟩
theorem ld_globA {A : Around} {E : Value → Shared → Prop} {x : Str} {u : Value} {pos : Pos} {Q : Value → Shared → Prop} (I : Inv X pins σ H s) (hg : Gl X x) (hm : X.mg x = some u) (h : Q u s)
    (hd : (x == ("__debug__" : Str)) = false := by decide) : wpAny (model X.prog X.w) A (eval (.Name x pos) X.env) Q E s :=
  Calls.Name_function_global I.ok.kind hg (Calls.loadGlobal_global (by rw [I.ok.glob]; exact I.mod.glob.keeps I.bk) hm h) hd
theorem looks_made {M : Model} {A : Around} {E : Value → Shared → Prop} {base h : Heap} {env : Env} {outer : List Env} {L e : Addr} {cls : Value} {args : List Value} {s : Shared} {Q : Unit → Shared → Prop} (hfr : A.frames = some (env :: outer)) (hf : env.frame = some L)
    (hkb : base.StaysIn h) (hl : h.FunFrames base (env :: outer)) (hx : Heap.MadeExcOf h s.heap e cls args)
    (hQ : ∀ h' t, Heap.HeldW base (env :: outer) e cls (.ref t) L h' → s.heap.UpToSlots h' → Q () { s with heap := h' }) : wpAny M A (noteFrame (.ref e) env) Q E s := by
  obtain ⟨t, he, htn, ht⟩ := hx.there
  have nb : base.get? e = none := by
    cases q : base.get? e with
    | none => rfl
    | some o => have := hkb e o q; rw [hx.new] at this; cases this
  unfold noteFrame
  simp only [hf]
  refine wpAny_bind (wpAny_field he rfl (x := .none) rfl ?_)
  rw [if_neg (by simp)]
  refine wpAny_entryW (a0 := .ref t) hfr (hl.of_keeps fun b o q _ => ⟨o, hx.keeps b o q, rfl⟩) hf he (fun b o q => hx.keeps b o (hkb b o q)) nb rfl (by simp) rfl fun h' hN => ?_
  obtain ⟨k1, k2, k3, k4⟩ := hN
  exact hQ h' t ⟨k1, nb, k2, k3⟩ k4
theorem lands_ok {σ' : St} {H' : Hp} {c : String} {e : Value} {s' : Shared} {E : Value → Shared → Prop} {Q : Unit → Shared → Prop} {xe : Value → Shared → Prop} (g : Good X) (ok : X.Ok) (r : RaisedAt (cxT X (X.pn ++ pins) xe) cf.cb σ' H' c e s')
    (k : ∀ (a C : Addr) (B : Heap) (a0 : Value) (H1 H2 : Hp) (s1 : Shared) (h5 : Heap), e = .ref a → cf.cb.exc c = some C → Same H' H1 → Same H1 H2 → Inv X pins σ' H1 s1 → s1.heap.get? a = none → H2 a = none → s'.os = s1.os → AllBare s'.gens →
      Heap.FlyingW B (X.env :: X.outer) a (.ref C) a0 h5 → (∀ h : Heap, B.StaysIn h → h5.UpToSlots h → Un (frs X.stack) [] H1 H2 s1.heap h ∧ HOk X.prog X.w H2 h) → Q () { s' with heap := h5 }) :
    wpAny (model X.prog X.w) X.A (noteFrame e X.env) (fun _ s₂ => wpAny (model X.prog X.w) X.A (setFlight e none) Q E s₂) E s' := by
  obtain ⟨pins1, H1, s1, C, I1, sm, hc, r⟩ := r
  have I1 : Inv X pins σ' H1 s1 := Inv.ofT ok I1
  obtain ⟨own, hf⟩ := g.own
  have hfr : X.A.frames = some (X.env :: X.outer) := by rw [← own]; exact ok.frames
  rcases r with ⟨a, args, h', rfl, rfl, hx⟩ | ⟨a, C', H2, B, a0, rfl, ⟨q1, q2, q3⟩, q4, q5, fl, na, nw, cl⟩
  · have hst : s1.heap.FunFrames X.base X.stack := I1.stack
    have hin : ∀ env ∈ X.stack, ∀ b, env.frame = some b → b ∈ frs X.stack := fun env he b hb => List.mem_filterMap.mpr ⟨env, he, hb⟩
    have hkb : (PySem.W.hideAll s1.heap (frs X.stack)).StaysIn s1.heap := fun b o q => PySem.W.of_hideAll _ q
    have na : H1 a = none := by
      cases z : H1 a with
      | none => rfl
      | some o =>
        obtain ⟨ob, hb⟩ := objOk_there (I1.hok a o z)
        rw [hx.new] at hb; cases hb
    have hff : s1.heap.FunFrames (PySem.W.hideAll s1.heap (frs X.stack)) (X.env :: X.outer) := by
      have z := PySem.W.funFrames_hide hst hin
      generalize PySem.W.hideAll s1.heap (frs X.stack) = B at z ⊢
      rw [own] at z
      exact z
    refine looks_made (s := { s1 with heap := h' }) hfr hf hkb hff hx fun h4 t held up4 => ?_
    refine wpAny_landsW held fun h5 fl5 up5 => ?_
    refine k a C _ _ H1 H1 s1 h5 rfl hc sm (Same.refl H1) I1 hx.new na rfl I1.bare fl5 fun h3 st3 up3 => ?_
    have keep : ∀ b o, s1.heap.get? b = some o → b ∉ frs X.stack → h3.get? b = some o := fun b o q nb => st3 b o (PySem.W.hideAll_get _ q nb)
    have slot : ∀ b o, s1.heap.get? b = some o → b ∈ frs X.stack → ∃ sl, h3.get? b = some { o with slots := sl } := fun b o q hb => by
      obtain ⟨_, o', ho', hd⟩ := hst.mem hb
      rw [q] at ho'; cases ho'
      exact ((up4.trans up5).trans up3) b o (hx.keeps b o q) hd
    have un : Un (frs X.stack) [] H1 H1 s1.heap h3 := ⟨fun b o q n nb _ => keep b o q nb, fun b o q n hb _ => slot b o q hb, fun b o q n _ => n, fun b o q _ => by
      by_cases hb : b ∈ frs X.stack
      · obtain ⟨sl, z⟩ := slot b o q hb; exact ⟨_, z⟩
      · exact ⟨o, keep b o q hb⟩, fun b xs q => q, fun b o u q => q, fun b ps q => ⟨#[], by rw [q]; simp⟩⟩
    refine ⟨un, fun b o q => (I1.hok b o q).stay (fun b' u hb' e' => ?_) (fun _ q => q) fun _ _ q => q⟩
    have tr : H1 b' ≠ none := by
      rcases hb' with rfl | hb'
      · rw [q]; exact fun z => nomatch z
      · rw [hb']; exact fun z => nomatch z
    exact keep b' u e' fun z => tr (I1.stkFree b' z)
  · cases q1
    have fl : Heap.FlyingW B X.stack a (.ref C) a0 s'.heap := fl
    rw [own] at fl
    refine wpAny_looks_onW hfr hf fl fun h4 held up4 => ?_
    refine wpAny_landsW held fun h5 fl5 up5 => ?_
    exact k a C B a0 H1 H2 s1 h5 rfl hc sm q3 I1 nw na q4 q5 fl5 fun h3 st3 up3 => cl h3 st3 ((up4.trans up5).trans up3)
end
section
variable {X : Cx} {cf : Cf} {body suite : List Stmt} {b₀ : Stmt} {F G : Sg → Out} {t n : Str} {hit : String → Option Bool} {T : Value} {np hpos pos : Pos}
def Hits (K : PySem.W.Frag) (cb : Cb) (T : Value) (hit : String → Option Bool) : Prop := ∀ c C b, cb.exc c = some C → hit c = some b → PySem.W.exmOne K (.ref C) T = some b
theorem excOk {P : Program} {w : World} {H : Hp} {h : Heap} {a C : Addr} (q : ∃ o, h.get? a = some o ∧ o.cls = .ref C) : ObjOk P w (upd H a (.ext (IsExc a C))) h a (.ext (IsExc a C)) := by
  obtain ⟨o, h1, h2⟩ := q
  exact ⟨⟨o, h1, h2⟩, ⟨o, h1⟩, fun hA hB ⟨o', e1, e2⟩ k => ⟨o', k o' e1, e2⟩⟩
theorem pds_tryAs (i : Nat) (g : Good X) (hT : X.mg t = some T) (hh : Hits X.K cf.cb T hit) (hb : ∀ pn xe, Good (cxT X pn xe) → PDSs (cxT X pn xe) cf body F) (hs : ∀ ev pn, PDSs (cxE X ev pn) cf (b₀ :: suite) G)
    (hg : Gl X t := by rfl) (hd : (t == ("__debug__" : Str)) = false := by decide) (hi : X.N[i]? = some n := by rfl) (hl : X.env.scope.names.lookup n = some .local := by rfl) (hkl : X.env.kindOf n = some .local := by rfl) :
    PDS X cf (.Try body [.ExceptHandler (some (.Name t np)) (some n) (b₀ :: suite) hpos] [] [] pos) (sTryAs i hit F G) := by
  intro pins s σ H E I ⟨Γ, j, h⟩
  let E1 : Value → Shared → Prop := fun e s' => wpAny (model X.prog X.w) X.A (noteFrame e X.env) (fun _ s₂ => wpAny (model X.prog X.w) X.A (setFlight e none) (fun _ s₃ =>
    wpAny (model X.prog X.w) X.A (handleBy e X.env [.ExceptHandler (some (.Name t np)) (some n) (b₀ :: suite) hpos]) (SP X pins E) X.xe s₃) X.xe s₂) X.xe s'
  have g1 : Good (cxT X (X.pn ++ pins) E1) := ⟨PassesOwn.looking, g.calm, g.nd, g.own⟩
  have hF : Fn (cxT X (X.pn ++ pins) E1) cf H (F Γ) E := by
    simp only [sTryAs, tryD] at h
    cases q : F Γ with
    | nx Γ' => rw [q] at h; exact h
    | bk Γ' => rw [q] at h; exact h
    | ct Γ' => rw [q] at h; exact h
    | rt d => rw [q] at h; exact fun v H' b t => h v H' ⟨b.same, b.free⟩ t
    | rtm ds => rw [q] at h; exact fun v H' S b => h v H' S ⟨b.same, b.free⟩
    | rtG ds Γ9 => rw [q] at h; exact h
    | rtmG ds Γ9 => rw [q] at h; exact h
    | bad => rw [q] at h; exact h
    | err c Γ1 =>
      rw [q] at h
      intro σ' H' e s' kp j1 r
      dsimp only at h
      split at h
      · rename_i hc'
        refine lands_ok g I.ok r fun a C B a0 H1 H2 s1 h5 ea hc sm1 sm2 I1 nw na os' bare fl cl => ?_
        subst ea
        have inv : ∀ h : Heap, B.StaysIn h → h5.UpToSlots h → Inv X pins σ' H2 { s' with heap := h } := fun h st up =>
          I1.call' (s' := { s' with heap := h }) (ch := []) os' (cl h st up).1 (cl h st up).2 bare (fun b z => absurd z (by simp))
        have I5 := inv h5 fl.1 (Heap.UpToSlots.refl h5)
        refine wpAny_handleBy_cons (codeAny_handlers_test (ld_globA I5 hg hT ?_ hd)) (by intro z; cases z)
        have LT : PySem.W.Looks (model X.prog X.w) h5 (typeOf (.ref a)) (.ref C) := by
          obtain ⟨ob, hob, hcl⟩ := fl.there
          rw [← hcl]
          exact (PySem.W.Looks.ld hob).andThen .now
        refine (PySem.W.exm_one I5.kIn LT (hh c C true hc hc')).here ?_
        refine codeAny_handlers_suite_as ?_
        refine lands_againW fl fun h6 fl6 up6 => ?_
        have I6 := inv h6 fl6.1 up6
        have I7 : Inv X pins σ' (upd H2 a (.ext (IsExc a C))) { s' with heap := h6 } := Inv.track I6 na (I1.kept (h' := s1.heap) (t' := s1.toks) fun _ _ z => z) nw (excOk fl6.there)
        have k7 : Keep cf.cb H (upd H2 a (.ext (IsExc a C))) := ((kp.trans (Same.keep sm1)).trans (Same.keep sm2)).trans (Same.keep (same_new na _))
        refine store_ok (A := X.A.mark (some (.ref a))) (i := i) (v := .ref a) I7 g.nd hi (Or.inl hl) rfl (fun s8 I8 => ?_) (.inr hl)
        have j7 : Jx X cf.z (Γ1.set i (.val (.exc c))) (σ'.set i (some (.ref a))) (upd H2 a (.ext (IsExc a C))) := by
          refine ((j1.mono (sm1.trans sm2)).mono (same_new na _)).set ?_
          simp only [Tl]
          exact ⟨a, C, rfl, hc, upd_same⟩
        refine wpAny_mono (hs (.ref a) (X.pn ++ pins) [] s8 _ _ { nx := fun σ9 H9 => E.nx (σ9.set i none) H9, bk := fun σ9 H9 => E.bk (σ9.set i none) H9, ct := fun σ9 H9 => E.ct (σ9.set i none) H9, rt := E.rt } (Inv.toE I8 (.ref a)) ⟨_, j7, ?_⟩) (fun f s9 q9 => ?_) fun _ _ z => z.elim
        · cases qG : G (Γ1.set i (.val (.exc c))) with
          | nx Γ9 => rw [qG] at h; exact fun σ9 H9 k9 j9 => h _ H9 (k7.trans k9) j9.unset
          | bk Γ9 => rw [qG] at h; exact fun σ9 H9 k9 j9 => h _ H9 (k7.trans k9) j9.unset
          | ct Γ9 => rw [qG] at h; exact fun σ9 H9 k9 j9 => h _ H9 (k7.trans k9) j9.unset
          | rt d => rw [qG] at h; exact fun v H' b t => h v H' ⟨b.same, b.free⟩ t
          | rtm ds => rw [qG] at h; exact fun v H' S b => h v H' S ⟨b.same, b.free⟩
          | rtG ds Γ9 => rw [qG] at h; exact h
          | rtmG ds Γ9 => rw [qG] at h; exact h.elim
          | err c' Γ9 => rw [qG] at h; exact h.elim
          | bad => rw [qG] at h; exact h.elim
        · cases f with
          | next => obtain ⟨σ9, H9, I9, q⟩ := q9; exact gone_ok (Inv.ofE I.ok I9) g.nd hi hkl fun s' I' => ⟨_, H9, I', q⟩
          | brk => obtain ⟨σ9, H9, I9, q⟩ := q9; exact gone_ok (Inv.ofE I.ok I9) g.nd hi hkl fun s' I' => ⟨_, H9, I', q⟩
          | cont => obtain ⟨σ9, H9, I9, q⟩ := q9; exact gone_ok (Inv.ofE I.ok I9) g.nd hi hkl fun s' I' => ⟨_, H9, I', q⟩
          | ret u => obtain ⟨v, σ9, H9, I9, rv, q⟩ := q9; exact gone_ok (Inv.ofE I.ok I9) g.nd hi hkl fun s' I' => ⟨v, _, H9, I', rv, q⟩
      · exact h.elim
  refine wpAny_Try_except (wpAny_mono (hb (X.pn ++ pins) E1 g1 [] s σ H E (Inv.toT I E1) ⟨Γ, j, hF⟩) (fun f s1 q => ?_) fun e s1 q => q)
  cases f with
  | next =>
    obtain ⟨σ', H', I', q⟩ := q
    exact wpAny_execs_nil ⟨σ', H', Inv.ofT I.ok I', q⟩
  | brk => obtain ⟨σ', H', I', q⟩ := q; exact ⟨σ', H', Inv.ofT I.ok I', q⟩
  | cont => obtain ⟨σ', H', I', q⟩ := q; exact ⟨σ', H', Inv.ofT I.ok I', q⟩
  | ret u => obtain ⟨v, σ', H', I', r, q⟩ := q; exact ⟨v, σ', H', Inv.ofT I.ok I', r, q⟩
theorem wds_tryAs (i : Nat) (g : Good X) (hT : X.mg t = some T) (hh : Hits X.K cf.cb T hit) (hb : ∀ pn xe, Good (cxT X pn xe) → WDSs (cxT X pn xe) cf body F) (hs : ∀ ev pn, WDSs (cxE X ev pn) cf (b₀ :: suite) G) (hg : Gl X t := by rfl) (hd : (t == ("__debug__" : Str)) = false := by decide) (hi : X.N[i]? = some n := by rfl) (hl : X.env.scope.names.lookup n = some .local := by rfl) (hkl : X.env.kindOf n = some .local := by rfl) : WDS X cf (.Try body [.ExceptHandler (some (.Name t np)) (some n) (b₀ :: suite) hpos] [] [] pos) (sTryAs i hit F G) := ⟨pds_tryAs (i := i) (g := g) (hT := hT) (hh := hh) (hb := (fun pn xe h_1 => (hb pn xe h_1).out)) (hs := (fun ev pn => (hs ev pn).out)) (hg := hg) (hd := hd) (hi := hi) (hl := hl) (hkl := hkl)⟩
end
end L4
end
section
set_option Elab.async false
set_option linter.all false
set_option maxRecDepth 100000
namespace L4
open PySem PySem.Spec PyProof.Rows L2
structure XT (K : PySem.W.Frag) (C : Addr) : Prop where
  ga : PySem.W.findIn K (.ref C) "__getattribute__" = some (some (.builtin "BaseException.__getattribute__"))
  gt : PySem.W.findIn K (.ref C) "__getattr__" = some none
  ca : PySem.W.findIn K (.ref C) "__class__" = some (some (.builtin "object.__class__"))
  mo : PySem.W.mroIn K C (.type "object") = some true
  mb : PySem.W.subIn K (.ref C) (.type "BaseException") = some true
  cl : (PySem.W.clsIn K C).isSome = true
section
open PySem.W Builtin Builtin.ObjectAttr Builtin.Getset_descriptor
variable {prog : Program} {w : World} {A : Around} {E : Value → Shared → Prop} {h : Heap} {g : Array GenState} {d : Drawn} {t : Nat} {os : OsState} {a C : Addr} {K : Frag}
theorem xt_ty {M : Model} (p : IsExc a C h) : Looks M h (typeOf (.ref a)) (.ref C) := by
  obtain ⟨o, h1, h2⟩ := p
  exact h2 ▸ (Looks.ld h1).andThen .now
theorem xt_get {R : Result → Shared → Prop} (X : K.In h) (T : XT K C) (p : IsExc a C h) (hq : R (.ok (.ret (.ref C))) ⟨h, g, d, t, os⟩) :
    codeAny (model prog w) A (.call (.builtin "getset_descriptor.__get__") ⟨[.builtin "object.__class__", .ref a, .ref C], []⟩) R ⟨h, g, d, t, os⟩ := by
  have la := xt_ty (M := model prog w) p
  have lb := looks_mroIn (M := model prog w) X T.mo
  refine codeAny_call_builtin KF.slot_gs.plain KF.entry_gs
    (KF.slot_gs.check _ _ _ _ _ _ _ _ KF.type_class (KF.args_gs _ _ _) ?_)
  unfold Builtin.«getset_descriptor.__get__» descrGet
  rw [dga_obj]
  refine wpAny_bind (wpAny_pure ?_)
  unfold descrGetter descrCheckInstance descrNameAndClass isInstance
  simp only [KF.owner_class]
  repeat lk
  refine ⟨Code.quiet_builtin _ (by decide +kernel),
    codeAny_builtin KF.entry_class ?_⟩
  unfold Builtin.«object.__class__» shownTypeOf
  repeat lk
  exact hq
theorem xt_entry {tk : Tok} {Q : Fin → Shared → Prop} (X : K.In h) (T : XT K C) (p : IsExc a C h) (hq : Q (.done (.ret (.ref C))) ⟨h, g, d, t, os⟩) :
    wpAny (model prog w) A (Builtin.«object.__getattribute__» ⟨[.ref a, .str "__class__" tk], []⟩) Q E ⟨h, g, d, t, os⟩ := by
  have hT5 : (⟨h, g, d, t, os⟩ : Shared).TypeIs (.builtin "object.__class__") "getset_descriptor" :=
    F.typeOf_object_class
  have f5 := F.typeOf_object_class
  have f6 := F.slot_gs_get.lookup
  have f7 := F.slot_gs_set.lookup
  have la := xt_ty (M := model prog w) p
  have lb := looks_findIn (M := model prog w) X T.ca
  obtain ⟨o, h1, h2⟩ := p
  repeat (any_goals (first | assumption | (with_reducible refine wpAny_loadPart_at h1 ?_; rw [h2]) | with_reducible refine Looks.at lb ?_ | wp_step))
  refine xt_get X T ⟨o, h1, h2⟩ ?_
  repeat (any_goals (first | assumption | wp_step))
theorem xt_check {nameV : Value} {Q : Unit → Shared → Prop} (X : K.In h) (T : XT K C) (p : IsExc a C h) (hq : Q () ⟨h, g, d, t, os⟩) :
    wpAny (model prog w) A (checkBuiltinCall "BaseException.__getattribute__" ⟨[.ref a, nameV], []⟩) Q E ⟨h, g, d, t, os⟩ := by
  have hk : builtinKind "BaseException.__getattribute__" = some .slot := by decide +kernel
  have hsp : splitId "BaseException.__getattribute__" = some ("BaseException", "__getattribute__") := by decide +kernel
  have hargs := F.args_bexc_ga (.ref a) nameV
  have la := xt_ty (M := model prog w) p
  have lb := looks_subIn (M := model prog w) X T.mb
  simp only [checkBuiltinCall, hk, hsp]
  refine wpAny_bind ?_
  unfold isInstance
  obtain ⟨o, h1, h2⟩ := p
  repeat (first | (with_reducible refine wpAny_loadPart_at h1 ?_; rw [h2]) | with_reducible refine Looks.at lb ?_ | wp_step)
  exact hq
theorem xt_call {tk : Tok} {R : Result → Shared → Prop} (X : K.In h) (T : XT K C) (p : IsExc a C h) (hq : R (.ok (.ret (.ref C))) ⟨h, g, d, t, os⟩) :
    codeAny (model prog w) A (.call (.builtin "BaseException.__getattribute__") ⟨[.ref a, .str "__class__" tk], []⟩) R ⟨h, g, d, t, os⟩ :=
  codeAny_call_builtin F.attr_ValueError.ga.plain F.entry_bexc_ga (xt_check X T p (xt_entry X T p hq))
theorem xt_by {tk : Tok} {Q : Value → Shared → Prop} (X : K.In h) (T : XT K C) (p : IsExc a C h) (hq : Q (.ref C) ⟨h, g, d, t, os⟩) :
    wpAny (model prog w) A (getAttrBy (.ref a) (.str "__class__" tk) false) Q E ⟨h, g, d, t, os⟩ := by
  have f3 := F.attr_ValueError.ga.bind (.ref a)
  have hx2 : (Value.builtin "BaseException.__getattribute__" == Value.builtin "object.__getattribute__") = false := by decide +kernel
  have hx1 : (onTheHeap (Value.ref C) && Value.builtin "BaseException.__getattribute__" == Value.builtin "object.__getattribute__") = false := by rw [hx2]; rfl
  have lb := looks_findIn (M := model prog w) X T.ga
  have lc := looks_findIn (M := model prog w) X T.gt
  obtain ⟨o, h1, h2⟩ := p
  repeat (any_goals (first | assumption | (with_reducible refine wpAny_loadPart_at h1 ?_; rw [h2]) | with_reducible refine Looks.at lb ?_ | with_reducible refine Looks.at lc ?_ | wp_step))
  refine xt_call X T ⟨o, h1, h2⟩ ?_
  repeat (any_goals (first | assumption | wp_step))
theorem kitx_exc (T : XT K C) : KitX K (.ref a) (.ref C) (IsExc a C) where
  ty := fun _ _ _ p => xt_ty p
  it := fun _ _ X _ => by
    have z := T.cl
    unfold clsIn at z
    split at z
    · rename_i c' d' cd' sl' ho
      intro A' Q' E' s' k q
      unfold isType loadHead
      exact wpAny_bind (wpAny_loadPart (k _ _ (X _ _ ho))
        (wpAny_pure q))
    · cases z
  ne := fun h tp dd its n sl X htp => by
    have z := T.cl
    refine Bool.eq_false_iff.mpr fun q => ?_
    have e : C = tp := Value.ref.inj (beq_iff_eq.mp q)
    subst e
    unfold clsIn at z
    split at z
    · rename_i ho
      have z := (X _ _ ho).symm.trans htp
      cases z
    · cases z
  ca := fun {_ _ _ _ _ s} X p k => by
    obtain ⟨h, g, d, t, os⟩ := s
    unfold getAttr? getAttrBy?
    repeat (any_goals (first | assumption | with_reducible apply xt_by X T p | wp_step))
end
end L4
end
section
set_option Elab.async false
set_option linter.all false
set_option maxRecDepth 100000
namespace L4
open PySem PySem.Spec PyProof.Rows L2
structure IC (K : PySem.W.Frag) (C : Addr) : Prop where
  cl : Cls K C
  ha : PySem.W.findIn K (.ref C) "__class__" = some (some (.builtin "object.__class__"))
  hn : PySem.W.specialIn K (.builtin "object.__class__") "__get__" = some (some (.builtin "getset_descriptor.__get__"))
  tk : PySem.W.takesIn K (.builtin "object.__class__") = some true
  hm : PySem.W.mroIn K C (.type "object") = some true
structure XTs (K : PySem.W.Frag) (cb : Cb) (mt : List (String × List String)) : Prop where
  xt : ∀ c C, cb.exc c = some C → (mt.lookup c).isSome = true → XT K C
  ic : ∀ c C ns, cb.cls c = some (C, ns) → IC K C
structure IsK (K : PySem.W.Frag) (cb : Cb) (mt : List (String × List String)) (cv : Value) (n : String) : Prop where
  nn : PySem.W.kitOne K (.type "NoneType") cv = some (["NoneType"].contains n)
  bb : PySem.W.kitOne K (.type "bool") cv = some (["bool", "int"].contains n)
  ii : PySem.W.kitOne K (.type "int") cv = some (["int"].contains n)
  ss : PySem.W.kitOne K (.type "str") cv = some (["str"].contains n)
  tt : PySem.W.kitOne K (.type "tuple") cv = some (["tuple"].contains n)
  ll : PySem.W.kitOne K (.type "list") cv = some (["list"].contains n)
  dd : PySem.W.kitOne K (.type "dict") cv = some (["dict"].contains n)
  own : ∀ c C ks, cb.exc c = some C → mt.lookup c = some ks → PySem.W.kitOne K (.ref C) cv = some (ks.contains n)
  ins : ∀ c C ns ks, cb.cls c = some (C, ns) → mt.lookup c = some ks → PySem.W.kitOne K (.ref C) cv = some (ks.contains n)
theorem kitx_data {X : Cx} {ct : Ct} {mt : List (String × List String)} {pins : List (Addr × Obj)} {σ : St} {H : Hp} {s : Shared} {d : D} {v : V} {u : Value} {ks : List String} (I : Inv X pins σ H s) (lL : Same ct.f.L H) (lB : Same ct.B H) (t : Tl X.K ct H d v) (r : RelV v u) (hk : kinds mt d = some ks)
    (hx : XTs X.K ct.f.cb mt) :
    u ≠ .builtin "__main__.__loader__#opaque" ∧ ∃ (ty : Value) (P : Heap → Prop), PySem.W.KitX X.K u ty P ∧ P s.heap ∧ ∀ cv n, IsK X.K ct.f.cb mt cv n → PySem.W.kitOne X.K ty cv = some (ks.contains n) := by
  cases d with
  | non => simp only [Tl] at t; subst t; cases r; cases hk; exact ⟨(fun z => nomatch z), _, _, PySem.W.kitx_none, trivial, fun cv n k => k.nn⟩
  | bl b => simp only [Tl] at t; subst t; cases r; cases hk; exact ⟨(fun z => nomatch z), _, _, PySem.W.kitx_bool, trivial, fun cv n k => k.bb⟩
  | int i => simp only [Tl] at t; subst t; obtain ⟨tk, rfl⟩ := r; cases hk; exact ⟨(fun z => nomatch z), _, _, PySem.W.kitx_int, trivial, fun cv n k => k.ii⟩
  | str x => simp only [Tl] at t; subst t; obtain ⟨tk, rfl⟩ := r; cases hk; exact ⟨(fun z => nomatch z), _, _, PySem.W.kitx_str, trivial, fun cv n k => k.ss⟩
  | tup ds =>
    simp only [Tl] at t
    obtain ⟨a, vs, rfl, t1, _⟩ := t
    cases r; cases hk
    obtain ⟨its, _, ⟨o, h1, h2, _⟩, _⟩ := I.tuple t1
    exact ⟨(fun z => nomatch z), _, _, PySem.W.kitx_tuple, ⟨o, h1, h2⟩, fun cv n k => k.tt⟩
  | lst ds =>
    simp only [Tl] at t
    obtain ⟨a, vs, rfl, t1, _⟩ := t
    cases r; cases hk
    obtain ⟨its, _, ⟨o, _, h1, h2, _⟩, _⟩ := I.list t1.sq
    exact ⟨(fun z => nomatch z), _, _, PySem.W.kitx_list, ⟨o, h1, h2⟩, fun cv n k => k.ll⟩
  | bor tm ds =>
    obtain ⟨a, vs, rfl, t1, _⟩ := t.seqL lL lB rfl
    cases r; cases hk
    obtain ⟨its, _, ⟨o, _, h1, h2, _⟩, _⟩ := I.list t1
    exact ⟨(fun z => nomatch z), _, _, PySem.W.kitx_list, ⟨o, h1, h2⟩, fun cv n k => k.ll⟩
  | dic ks' xs =>
    simp only [Tl] at t
    obtain ⟨a, vs, rfl, ⟨o, t1⟩, _⟩ := t
    cases r; cases hk
    obtain ⟨_, _, _, vs', _, o', es, ep, h1, h2, _⟩ := I.hok a _ t1
    exact ⟨(fun z => nomatch z), _, _, PySem.W.kitx_dict, ⟨o', h1, h2.1⟩, fun cv n k => k.dd⟩
  | bdc tm ks' xs =>
    simp only [Tl] at t
    obtain ⟨a, vs, rfl, t1, _⟩ := t
    cases r; cases hk
    have t2 : H a = some (.dK (ks'.zip vs)) := by
      cases tm with
      | true => exact lB a _ t1
      | false => exact lL a _ t1
    obtain ⟨_, _, vs', _, o', es, ep, h1, h2, _⟩ := I.hok a _ t2
    exact ⟨(fun z => nomatch z), _, _, PySem.W.kitx_dict, ⟨o', h1, h2.1⟩, fun cv n k => k.dd⟩
  | bob tm c ns xs => cases hk
  | obj c ns xs =>
    simp only [Tl] at t
    obtain ⟨a, C, dx, vs, rfl, hc, ha, _⟩ := t
    cases r
    have hk : mt.lookup c = some ks := hk
    obtain ⟨mA, O, _⟩ := ins_get I.hok ha
    obtain ⟨od, J, _⟩ := O.look
    have ic := hx.ic c C ns hc
    exact ⟨(fun z => nomatch z), _, _, PySem.W.kitx_own (ic.cl.get _) ic.cl.hd ic.ha ic.hn ic.tk ic.hm, J, fun cv n k => k.ins c C ns ks hc hk⟩
  | exc c =>
    simp only [Tl] at t
    obtain ⟨a, C, rfl, hc, ha⟩ := t
    cases r
    obtain ⟨p, _⟩ := I.hok a _ ha
    have hk : mt.lookup c = some ks := hk
    exact ⟨(fun z => nomatch z), _, _, kitx_exc (hx.xt c C hc (by rw [hk]; rfl)), p, fun cv n k => k.own c C ks hc hk⟩
section
variable {X : Cx} {ct : Ct} {mt : List (String × List String)} {a b e : Expr} {f g : Sg → Res D} {c : Str} {n : String} {cv : Value} {p p2 pos : Pos}
structure ClsV (X : Cx) (c : Str) (v : V) (u : Value) : Prop where
  rel : RelV v u
  one : ∀ u', RelV v u' → u' = u
  ld : (X.mg c = some u) ∨ (X.mg c = none ∧ bootBuiltins c = some u ∧ c ≠ "__name__")
theorem clsV_ref {C : Addr} (h : X.mg c = some (.ref C)) : ClsV X c (.ref C) (.ref C) := ⟨rfl, fun _ z => z, .inl h⟩
theorem clsV_ty {T : String} (h : X.mg c = none) (hv : bootBuiltins c = some (.type T)) (hn : c ≠ "__name__") : ClsV X c (.ty T) (.type T) := ⟨rfl, fun _ z => z, .inr ⟨h, hv, hn⟩⟩
theorem pe_cls {v : V} {u : Value} {pos : Pos} (h : ClsV X c v u) (hg : Gl X c := by rfl) (hd : (c == ("__debug__" : Str)) = false := by decide) : PE X (.Name c pos) (tC v) := by
  rcases h.ld with q | ⟨q1, q2, q3⟩
  · exact pe_glob hg q h.rel hd
  · exact pe_bltn hg q1 q2 h.rel q3 hd
theorem we_cls {v : V} {u : Value} {pos : Pos} (h : ClsV X c v u) (hg : Gl X c := by rfl) (hd : (c == ("__debug__" : Str)) = false := by decide) : WE X (.Name c pos) (tC v) := ⟨pe_cls (h := h) (hg := hg) (hd := hd)⟩
theorem call_isi {y : V} (hx : XTs X.K ct.f.cb mt) (hk : IsK X.K ct.f.cb mt cv n) (hy : ∀ u, RelV y u → u = cv) : CallR X (.builtin "isinstance") (fun xs H Q => Same ct.f.L H ∧ Same ct.B H ∧ ∃ d v ks, xs = [v, y] ∧ Tl X.K ct H d v ∧ kinds mt d = some ks ∧ Q (.bl (ks.contains n)) H) := by
  intro pins s σ H xs us Q I r ⟨lL, lB, d, v, ks, ex, t, hd, q⟩
  subst ex
  cases r with
  | cons r1 r2 =>
    cases r2 with
    | cons r2 r3 =>
      cases r3
      obtain ⟨nb, ty, P, Z, pp, k⟩ := kitx_data I lL lB t r1 hd hx
      rw [hy _ r2]
      exact PySem.W.kia_one Z I.kIn pp (k cv n hk) nb fun tk => ⟨.bl _, H, I.tok tk, rfl, q⟩
theorem isiD_ok {cs : List String} {d x : D} (h : isiD mt cs d = .ok x) : ∃ ks, kinds mt d = some ks ∧ x = .bl (cs.any fun c => ks.contains c) := by
  unfold isiD at h
  split at h
  · rename_i ks hk; cases h; exact ⟨ks, hk, rfl⟩
  · cases h
theorem isiD_ne {cs : List String} {d : D} {c : String} : isiD mt cs d ≠ .err c := by
  unfold isiD
  split <;> exact fun z => nomatch z
theorem pd_isi {y : V} (hm : X.mg "isinstance" = none) (hx : XTs X.K ct.f.cb mt) (hk : IsK X.K ct.f.cb mt cv n) (hc : ClsV X c y cv) (he : PD X ct e f) (hg : Gl X "isinstance" := by rfl) (hgc : Gl X c := by rfl) (hdc : (c == ("__debug__" : Str)) = false := by decide)
    (hs : starEach [e, .Name c p2] X.env = (false, eval e X.env) :: starEach [.Name c p2] X.env := by rfl) (hs2 : starEach [.Name c p2] X.env = (false, eval (.Name c p2) X.env) :: starEach [] X.env := by rfl)
    (hpl : (backTo pos (starEach [.Name c p2] X.env)).any (·.1) = false := by rfl) : PD X ct (.Call (.Name "isinstance" p) [e, .Name c p2] [] pos) (dIsi mt [n] f) := by
  refine PE.imp (pe_callB (call_isi hx hk hc.one) hg hm PyProof.Rows.boot_isinstance (pa_cons he (pa_cons (pe_cls hc hgc hdc) pa_nil hs2) hs) (by decide) (by decide) hs hpl) fun σ H Q ⟨Γ, j, h⟩ => ?_
  refine eOf.bnd j h fun d v H' s t j' h' => ?_
  cases q : isiD mt [n] d with
  | bad => rw [q] at h'; exact h'.elim
  | err c => exact (isiD_ne q).elim
  | ok x =>
    rw [q] at h'
    obtain ⟨ks, hks, rfl⟩ := isiD_ok q
    exact ⟨j'.lL, j'.lB, d, v, ks, rfl, t, hks, by simpa using h' (.bl _) H' s (by simp [Tl])⟩
theorem wd_isi {y : V} (hm : X.mg "isinstance" = none) (hx : XTs X.K ct.f.cb mt) (hk : IsK X.K ct.f.cb mt cv n) (hc : ClsV X c y cv) (he : WD X ct e f) (hg : Gl X "isinstance" := by rfl) (hgc : Gl X c := by rfl) (hdc : (c == ("__debug__" : Str)) = false := by decide) (hs : starEach [e, .Name c p2] X.env = (false, eval e X.env) :: starEach [.Name c p2] X.env := by rfl) (hs2 : starEach [.Name c p2] X.env = (false, eval (.Name c p2) X.env) :: starEach [] X.env := by rfl) (hpl : (backTo pos (starEach [.Name c p2] X.env)).any (·.1) = false := by rfl) : WD X ct (.Call (.Name "isinstance" p) [e, .Name c p2] [] pos) (dIsi mt [n] f) := ⟨pd_isi (hm := hm) (hx := hx) (hk := hk) (hc := hc) (he := he.out) (hg := hg) (hgc := hgc) (hdc := hdc) (hs := hs) (hs2 := hs2) (hpl := hpl)⟩
theorem kitAny_all {K : PySem.W.Frag} {ty : Value} {ks : List String} : ∀ {cvs : List Value} {ns : List String}, Paired (fun cv n => PySem.W.kitOne K ty cv = some (ks.contains n)) cvs ns → PySem.W.kitAny K ty cvs = some (ns.any fun c => ks.contains c)
  | _, _, .nil => rfl
  | _, _, .cons r t => by
    unfold PySem.W.kitAny
    rw [r, List.any_cons]
    cases ks.contains _ with
    | true => rfl
    | false => simpa using kitAny_all t
theorem call_isiT {ys : List V} {cvs : List Value} {ns : List String} (hx : XTs X.K ct.f.cb mt) (hk : Paired (IsK X.K ct.f.cb mt) cvs ns) (hy : ∀ us, Vals ys us → us = cvs) :
    CallR X (.builtin "isinstance") (fun xs H Q => Same ct.f.L H ∧ Same ct.B H ∧ ∃ d v ks a, xs = [v, .ref a] ∧ H a = some (.tup ys) ∧ Tl X.K ct H d v ∧ kinds mt d = some ks ∧ Q (.bl (ns.any fun c => ks.contains c)) H) := by
  intro pins s σ H xs us Q I r ⟨lL, lB, d, v, ks, a, ex, ha, t, hd, q⟩
  subst ex
  cases r with
  | cons r1 r2 =>
    cases r2 with
    | cons r2 r3 =>
      cases r3
      cases r2
      obtain ⟨nb, ty, P, Z, pp, k⟩ := kitx_data I lL lB t r1 hd hx
      obtain ⟨_, its, ri, o, h1, h2, m, h3⟩ := I.hok a _ ha
      have e := hy _ ri
      subst e
      obtain ⟨oc, od, odt, osl⟩ := o
      simp only at h2 h3
      subst h2 h3
      exact PySem.W.kia_tup Z I.kIn pp h1 (kitAny_all (Paired.mapP hk fun cv n z => k cv n z)) nb fun tk => ⟨.bl _, H, I.tok tk, rfl, q⟩
theorem pd_isiT {ys : List V} {cvs : List Value} {ns : List String} {cs : List Expr} {t : TA} {x1} (hm : X.mg "isinstance" = none) (hx : XTs X.K ct.f.cb mt) (hk : Paired (IsK X.K ct.f.cb mt) cvs ns) (hy : ∀ us, Vals ys us → us = cvs) (he : PD X ct e f)
    (hc : PA X cs t) (ht : ∀ σ H Q, Q ys H → t σ H Q) (hl : ys.length ≤ 100) (hg : Gl X "isinstance" := by rfl)
    (hs : starEach [e, .Tuple cs x1 p2] X.env = (false, eval e X.env) :: starEach [.Tuple cs x1 p2] X.env := by rfl) (hs2 : starEach [.Tuple cs x1 p2] X.env = (false, eval (.Tuple cs x1 p2) X.env) :: starEach [] X.env := by rfl)
    (hpl : (backTo pos (starEach [.Tuple cs x1 p2] X.env)).any (·.1) = false := by rfl) : PD X ct (.Call (.Name "isinstance" p) [e, .Tuple cs x1 p2] [] pos) (dIsi mt ns f) := by
  refine PE.imp (pe_callB (call_isiT hx hk hy) hg hm PyProof.Rows.boot_isinstance (pa_cons he (pa_cons (pe_tup hc) pa_nil hs2) hs) (by decide) (by decide) hs hpl) fun σ H Q ⟨Γ, j, h⟩ => ?_
  refine eOf.bnd j h fun d v H' s t' j' h' => ?_
  cases q : isiD mt ns d with
  | bad => rw [q] at h'; exact h'.elim
  | err c => exact (isiD_ne q).elim
  | ok x =>
    rw [q] at h'
    obtain ⟨ks, hks, rfl⟩ := isiD_ok q
    refine ht σ H' _ ⟨Nat.le_of_lt (small1000 (by omega)), fun a ha => ?_⟩
    have s2 := same_new ha (.tup ys)
    exact ⟨j'.lL.trans s2, j'.lB.trans s2, d, v, ks, a, rfl, upd_same, t'.keep (Same.keep s2), hks, h' (.bl _) _ (s.trans s2) (by simp [Tl])⟩
theorem wd_isiT {ys : List V} {cvs : List Value} {ns : List String} {cs : List Expr} {t : TA} {x1} (hm : X.mg "isinstance" = none) (hx : XTs X.K ct.f.cb mt) (hk : Paired (IsK X.K ct.f.cb mt) cvs ns) (hy : ∀ us, Vals ys us → us = cvs) (he : WD X ct e f) (hc : WA X cs t) (ht : ∀ σ H Q, Q ys H → t σ H Q) (hl : ys.length ≤ 100) (hg : Gl X "isinstance" := by rfl) (hs : starEach [e, .Tuple cs x1 p2] X.env = (false, eval e X.env) :: starEach [.Tuple cs x1 p2] X.env := by rfl) (hs2 : starEach [.Tuple cs x1 p2] X.env = (false, eval (.Tuple cs x1 p2) X.env) :: starEach [] X.env := by rfl) (hpl : (backTo pos (starEach [.Tuple cs x1 p2] X.env)).any (·.1) = false := by rfl) : WD X ct (.Call (.Name "isinstance" p) [e, .Tuple cs x1 p2] [] pos) (dIsi mt ns f) := ⟨pd_isiT (hm := hm) (hx := hx) (hk := hk) (hy := hy) (he := he.out) (hc := hc.out) (ht := ht) (hl := hl) (hg := hg) (hs := hs) (hs2 := hs2) (hpl := hpl)⟩
theorem bools_tls {K : PySem.W.Frag} {H : Hp} : ∀ {ds : List D} {bs : List Bool} {vs : List V}, bools ds = some bs → Tls K ct H ds vs → vs = bs.map V.bl
  | [], _, vs, h, t => by cases h; simpa [Tls] using t
  | .bl b :: r, bs, vs, h, t => by
    simp only [bools, Option.map_eq_some_iff] at h
    obtain ⟨rs, h1, rfl⟩ := h
    simp only [Tls, Tl] at t
    obtain ⟨v, vr, rfl, rfl, t2⟩ := t
    rw [bools_tls h1 t2]; rfl
  | .non :: _, _, _, h, _ => by cases h
  | .int _ :: _, _, _, h, _ => by cases h
  | .str _ :: _, _, _, h, _ => by cases h
  | .tup _ :: _, _, _, h, _ => by cases h
  | .lst _ :: _, _, _, h, _ => by cases h
  | .obj _ _ _ :: _, _, _, h, _ => by cases h
  | .exc _ :: _, _, _, h, _ => by cases h
  | .bor _ _ :: _, _, _, h, _ => by cases h
  | .dic _ _ :: _, _, _, h, _ => by cases h
  | .bdc _ _ _ :: _, _, _, h, _ => by cases h
  | .bob _ _ _ _ :: _, _, _, h, _ => by cases h
theorem range_all (bs : List Bool) : (List.range bs.length).all (fun i => bs.getD i false) = bs.all id := by
  rw [Bool.eq_iff_iff, List.all_eq_true, List.all_eq_true]
  constructor
  · intro h b hb
    obtain ⟨i, hi, rfl⟩ := List.getElem_of_mem hb
    have := h i (List.mem_range.mpr hi)
    simpa [List.getD_eq_getElem?_getD, hi] using this
  · intro h i hi
    have hi := List.mem_range.mp hi
    simpa [List.getD_eq_getElem?_getD, hi] using h bs[i] (List.getElem_mem hi)
theorem walk_bools {pins : List (Addr × Obj)} {σ : St} {H : Hp} {s : Shared} {A : Around} {l : Addr} {bs : List Bool} {R : Value → Shared → Prop} {E : Value → Shared → Prop} (I : Inv X pins σ H s) (hA : A.handled = none) (hs : SqL X.K H l (bs.map V.bl))
    (k : ∀ I' fp wr n P St tr it s₂, it = .ref I' → Walks X.prog X.w A I' fp wr n P St → St 0 s₂.heap → TruthOf X.prog X.w A P tr → n = bs.length → tr = (fun i => bs.getD i false) →
      (∀ h' tk, (∀ b o, b ∉ wr → s₂.heap.get? b = some o → h'.get? b = some o) → Inv X pins σ H { s₂ with heap := h', toks := tk }) → R it s₂) : wpAny (model X.prog X.w) A (pyIter (.ref l)) R E s := by
  obtain ⟨its, ri, ⟨o, n, h1, h2, h2', h3⟩, _⟩ := I.list hs
  have hl : s.heap.IsList l its.toArray := ⟨o, h1, h2, n, h3⟩
  have hlen : its.length = bs.length := by rw [← ri.length, List.length_map]
  refine wpAny_pyIter_list hl ?_
  have hne : l ≠ s.heap.objs.size := Nat.ne_of_lt (Heap.lt_size h1)
  refine k _ _ _ _ _ _ (fun i => bs.getD i false) _ _ rfl (Walks.list hA s.heap.objs.size l hne its.toArray) ⟨⟨_, Heap.get?_push_size _ rfl, rfl, rfl⟩, ⟨o, Heap.get?_push_of_some _ h1, h2, n, h3⟩⟩ ?_ (by simpa using hlen) rfl fun h' tk kp => ?_
  · intro i v s' Q' E' hP hq
    have hP : its.toArray[i]? = some v := hP
    rw [List.getElem?_toArray] at hP
    have hi : i < bs.length := by rw [← hlen]; exact (List.getElem?_eq_some_iff.mp hP).1
    obtain ⟨u, e1, e2⟩ := ri.get (i := i) (x := .bl bs[i]) (by rw [List.getElem?_map, List.getElem?_eq_getElem hi]; rfl)
    rw [hP] at e1
    cases e1
    cases e2
    have : bs.getD i false = bs[i] := by simp [List.getD_eq_getElem?_getD, hi]
    have hq : Q' (bs.getD i false) s' := hq
    rw [this] at hq
    exact wpAny_pure hq
  · refine I.kept (h' := h') (t' := tk) fun b ob e => kp b ob ?_ (Heap.get?_push_of_some _ e)
    simp only [List.mem_singleton]
    exact Nat.ne_of_lt (Heap.lt_size e)
theorem call_all (hc : X.calm = true) : CallR X (.builtin "all") (fun xs H Q => ∃ (l : Addr) (bs : List Bool), xs = [.ref l] ∧ SqL X.K H l (bs.map V.bl) ∧ Q (.bl (bs.all id)) H) := by
  intro pins s σ H xs us Q I r ⟨l, bs, ex, hs, q⟩
  subst ex
  obtain ⟨u, rfl, ru⟩ := vals1 r
  cases ru
  refine call_all_walk (walk_bools I (I.ok.hd hc) hs fun I' fp wr n P St tr it s₂ e W st tt en et kp => ?_)
  subst en et
  exact ⟨I', fp, wr, _, P, St, _, e, W, st, tt, fun h' tk k => by rw [range_all]; exact ⟨.bl _, H, kp h' tk k, rfl, q⟩⟩
theorem pd_all {fa : Sg → Res (List D)} (hc : X.calm = true) (hm : X.mg "all" = none) (ha : PDA X ct [e] fa) (hg : Gl X "all" := by rfl) (he : starEach [e] X.env = (false, eval e X.env) :: starEach [] X.env := by rfl) :
    PD X ct (.Call (.Name "all" p) [e] [] pos) (dCB allD fa) := by
  refine PE.imp (pe_callB (call_all hc) hg hm PyProof.Rows.boot_all ha (by decide) (by decide) he rfl) (cb_of fun σ H vs ds Q lL lB t h => ?_)
  unfold allD at h
  split at h
  · split at h
    · rename_i es he'
      split at h
      · rename_i bs hb
        obtain ⟨v, rfl, tv⟩ := tls1 t
        obtain ⟨l, us, rfl, h1, h2⟩ := tv.seqL lL lB he'
        rw [bools_tls hb h2] at h1
        exact ⟨l, bs, rfl, h1, h _ H (Same.refl H) (by simp [Tl])⟩
      · exact h.elim
    · exact h.elim
  · exact h.elim
theorem wd_all {fa : Sg → Res (List D)} (hc : X.calm = true) (hm : X.mg "all" = none) (ha : WDA X ct [e] fa) (hg : Gl X "all" := by rfl) (he : starEach [e] X.env = (false, eval e X.env) :: starEach [] X.env := by rfl) : WD X ct (.Call (.Name "all" p) [e] [] pos) (dCB allD fa) := ⟨pd_all (hc := hc) (hm := hm) (ha := ha.out) (hg := hg) (he := he)⟩
end
end L4
end
section
set_option Elab.async false
set_option linter.all false
set_option maxRecDepth 100000
namespace L4
open PySem PySem.Spec PyProof.Rows L2
theorem bt_ValueError : bootBuiltins "ValueError" = some (.type "ValueError") := by decide +kernel
theorem vu_nil : ∀ us, Vals [] us → us = [] := fun us h => by cases h; rfl
theorem vu_ref {C : Addr} {ys : List V} {cvs : List Value} (t : ∀ us, Vals ys us → us = cvs) : ∀ us, Vals (.ref C :: ys) us → us = .ref C :: cvs := fun us r => by
  cases r with
  | cons r1 r2 => cases r1; rw [t _ r2]
section
variable {X : Cx} {ct : Ct} {c : Cf} {k n : Nat} {f : Addr} {fd : FuncData} {ps : List Str} {F : List Slot → Ans} {x : Str} {p pos : Pos} {e : Expr} {es : List Expr} {fa : Sg → Res (List D)}
theorem pd_fn (G : FnD X.prog X.w X.K X.mg X.base c.z.f.cb k f fd ps F) (hr : Room k X.A) (hm : X.mg x = some (.ref f)) (hk : PySem.W.keepIn X.K (.ref f) = true) (hb : Binds X.K fd ps []) (ha : PDA X c.z (e :: es) fa) (hn : ps.length = n := by rfl) (hg : Gl X x := by rfl)
    (hdb : (x == ("__debug__" : Str)) = false := by decide) (he : starEach (e :: es) X.env = (false, eval e X.env) :: starEach es X.env := by rfl) (hpl : (backTo pos (starEach es X.env)).any (·.1) = false := by rfl) :
    PD X c.z (.Call (.Name x p) (e :: es) [] pos) (dCall n F fa) := by
  subst hn
  exact pd_callP (pe_callD (lends_plain c) G hr hm hk hb ha hg hdb he hpl)
theorem wd_fn (G : FnD X.prog X.w X.K X.mg X.base c.z.f.cb k f fd ps F) (hr : Room k X.A) (hm : X.mg x = some (.ref f)) (hk : PySem.W.keepIn X.K (.ref f) = true) (hb : Binds X.K fd ps []) (ha : WDA X c.z (e :: es) fa) (hn : ps.length = n := by rfl) (hg : Gl X x := by rfl) (hdb : (x == ("__debug__" : Str)) = false := by decide) (he : starEach (e :: es) X.env = (false, eval e X.env) :: starEach es X.env := by rfl) (hpl : (backTo pos (starEach es X.env)).any (·.1) = false := by rfl) : WD X c.z (.Call (.Name x p) (e :: es) [] pos) (dCall n F fa) := ⟨pd_fn (G := G) (hr := hr) (hm := hm) (hk := hk) (hb := hb) (ha := ha.out) (hn := hn) (hg := hg) (hdb := hdb) (he := he) (hpl := hpl)⟩
end
def spL (K : PySem.W.Frag) : Sp := fun vs H Q _ => ∃ (a : Addr) (ns : List Int), vs = [.ref a] ∧ FzL K H a (ns.map V.int) ∧ ns.length ≤ 63 ∧ ∀ H', Q (.bl true) H'
theorem tls_ints {K : PySem.W.Frag} {ct : Ct} {H : Hp} : ∀ ns : List Int, Tls K ct H (ns.map D.int) (ns.map V.int)
  | [] => by simp [Tls]
  | n :: ns => Tls.cons (by simp [Tl]) (tls_ints ns)
theorem walkD {l : PySem.W.OpenLaw} {q : Program} {loose : List Str} {XP : (Str → Option Value) → Heap → Prop} {YP : World → Heap → Prop} {d : DefRec} {K : Params → PySem.W.Frag} {k : Nat} {F : List Slot → Ans} (hn : l.most = some 63) (hdf : d.params.defaults = [])
    (h1 : callerA.depth + 3 * k + 5 < recursionLimit) (h2 : callerA.units + 16 * k + 200 < cLine) (hY : ∀ (w : World) (h : Heap), YP w h → (K w.params).In h)
    (hF : ∀ (w : World) (mg : Str → Option Value) (fa : Addr) (h : Heap), (K w.params).In h → h.Ns mainGlobals mg → mg d.name = some (.ref fa) →
      ∃ (cb : Cb) (fd : FuncData), (∀ (s : Shared) (u : Value), BindsTo s fd ⟨[u], []⟩ [("_law_script", u)]) ∧ ∀ base : Heap, FnD l.prog w (K w.params) mg base cb k fa fd ["_law_script"] F)
    (ht : ∀ ns : List Int, ns.length ≤ 63 → F [.val (.lst (ns.map D.int))] = .ok (.bl true)) : PySem.W.WalkO q loose XP YP l.row.toRowW d [] (fun f vs => PySem.call f vs) := by
  refine L2.walk_of (n := 63) (k := k) (x := "_law_script") (K := K) (CX := fun w => CX1 l.prog w) (sp := fun w => spL (K w.params)) hn (by decide) hdf ⟨rfl, h1, h2⟩ hY (fun w mg fa h X G hm => ?_) (fun w H a ns hl hO hS => ⟨a, ns, rfl, ?_, hl, fun _ => rfl⟩) (fun w H s e s' z => ?_)
  · obtain ⟨cb, fd, hb, hf⟩ := hF w mg fa h X G hm
    refine ⟨fd, hb, fun base _ _ => (hf base).imp fun vs H Q E ⟨a, ns, e1, fz, hl, hq⟩ => ?_⟩
    subst e1
    refine ⟨rfl, cfOf cb (fun _ => none) [.ref a], [.val (.lst (ns.map D.int))], rfl, rfl, j_args (ds := [.lst (ns.map D.int)]) (fun _ _ q => nomatch q) (Tls.cons ?_ Tls.nil), ?_⟩
    · simp only [Tl]; exact ⟨a, _, rfl, fz, tls_ints ns⟩
    · rw [ht ns hl]
      intro v H' _ _ tv
      simp only [Tl] at tv
      subst tv
      exact hq H'
  · rcases hS with (h | ⟨o, h⟩) | h
    · rcases hO a with z | ⟨o, xs, z⟩
      · rw [z] at h; cases h
      · rw [z] at h; cases h
    · exact .inl ⟨o, h⟩
    · exact .inr h
  · obtain ⟨_, _, _, _, _, _, z, _⟩ := z
    exact z.elim
theorem walkZ {l : PySem.W.OpenLaw} {q : Program} {loose : List Str} {XP : (Str → Option Value) → Heap → Prop} {d : DefRec} {K : Params → PySem.W.Frag} {as : List Addr} {nz tz : Nat} {k : Nat} {F : List Slot → Ans} (hn : l.most = some 63) (hdf : d.params.defaults = [])
    (h1 : callerA.depth + 3 * k + 5 < recursionLimit) (h2 : callerA.units + 16 * k + 200 < cLine) (hK : ∀ P, as = (K P).map (·.1))
    (hF : ∀ (w : World) (mg : Str → Option Value) (fa : Addr) (h : Heap), (K w.params).In h → h.Ns mainGlobals mg → mg d.name = some (.ref fa) →
      ∃ (cb : Cb) (fd : FuncData), (∀ (s : Shared) (u : Value), BindsTo s fd ⟨[u], []⟩ [("_law_script", u)]) ∧ ∀ base : Heap, FnD l.prog w (K w.params) mg base cb k fa fd ["_law_script"] F)
    (ht : ∀ ns : List Int, ns.length ≤ 63 → F [.val (.lst (ns.map D.int))] = .ok (.bl true)) : PySem.W.WalkX q loose XP (PySem.W.X.obsZ as) (PySem.W.X.valZ K nz tz) l.row.toRowW d [] (fun f vs => PySem.call f vs) :=
  fun w s₀ s₁ mg mb G y a o pm cd doc dV kV ho hd hcd hD hmg hg args vals as' L hpre hlay hrd hwl hlo =>
    walkD (YP := fun w h => (K w.params).In h) hn hdf h1 h2 (fun _ _ Y => Y) hF ht w s₀ s₁ mg mb G (PySem.W.InK.keeps w s₀.heap s₁.heap (PySem.W.X.z_facts hK y).2.1 (PySem.W.Laid.keeps L)) a o pm cd doc dV kV ho hd hcd hD hmg hg args vals as' hpre hlay hrd hwl hlo
end L4
end
section
set_option Elab.async false
set_option linter.all false
set_option maxRecDepth 100000
namespace L4
open PySem PySem.Spec PyProof.Rows L2
section
variable {X : Cx} {ct : Ct} {c : Cf} {o e : Expr} {es : List Expr} {f m : Str} {fo g : Sg → Res D} {fa : Sg → Res (List D)} {pos apos : Pos}
def FA (K : PySem.W.Frag) (cb : Cb) (f : Str) : Prop := ∀ C, ((∃ c, cb.ins c = some C) ∨ ∃ c ns, cb.cls c = some (C, ns)) → Cls K C ∧ NoAttr K C f
theorem zip_look {K : PySem.W.Frag} {H : Hp} : ∀ {ns : List Str} {xs : List D} {vs : List V} {d : D}, Tls K ct H xs vs → (ns.zip xs).lookup f = some d → ∃ v, (ns.zip vs).lookup f = some v ∧ Tl K ct H d v
  | [], xs, vs, d, t, h => by simp at h
  | n :: ns, [], vs, d, t, h => by simp at h
  | n :: ns, x :: xs, vs, d, t, h => by
    simp only [Tls] at t
    obtain ⟨v, r, rfl, t1, t2⟩ := t
    simp only [List.zip_cons_cons, List.lookup_cons] at h ⊢
    split at h
    · cases h; exact ⟨v, rfl, t1⟩
    · exact zip_look t2 h
theorem pd_fld (hf : FA X.K ct.f.cb f) (ho : PD X ct o fo) (hb : attributeBase o f X.env (eval o X.env) = eval o X.env := by rfl) : PD X ct (.Attribute o f pos) (dFld f fo) := by
  refine PE.imp (pe_fld ho hb) fun σ H Q ⟨Γ, j, h⟩ => ?_
  refine eOf.bnd j h fun d v H' s t j' h' => ?_
  cases d with
  | obj c ns xs =>
    simp only [Tl] at t
    obtain ⟨a, C, dx, vs, rfl, h1, h2, h3, h4⟩ := t
    simp only [fldD] at h'
    split at h'
    · rename_i d hd
      obtain ⟨v, q1, q2⟩ := zip_look h4 hd
      obtain ⟨z1, z2⟩ := hf C (.inr ⟨c, ns, h1⟩)
      exact ⟨a, C, dx, _, v, rfl, h2, z1, z2, q1, h' v H' s q2⟩
    · exact h'.elim
  | bob tm c ns xs =>
    simp only [Tl] at t
    obtain ⟨a, C, dx, vs, rfl, h1, h2, h3, h4⟩ := t
    have h2' : H' a = some (.ins C dx (ns.zip vs)) := by
      cases tm with
      | true => exact j'.lB a _ h2
      | false => exact j'.lL a _ h2
    simp only [fldD] at h'
    split at h'
    · rename_i d hd
      obtain ⟨v, q1, q2⟩ := zip_look h4 hd
      obtain ⟨z1, z2⟩ := hf C (.inl ⟨c, h1⟩)
      exact ⟨a, C, dx, _, v, rfl, h2', z1, z2, q1, h' v H' s q2⟩
    · exact h'.elim
  | _ => exact h'.elim
theorem wd_fld (hf : FA X.K ct.f.cb f) (ho : WD X ct o fo) (hb : attributeBase o f X.env (eval o X.env) = eval o X.env := by rfl) : WD X ct (.Attribute o f pos) (dFld f fo) := ⟨pd_fld (hf := hf) (ho := ho.out) (hb := hb)⟩
def MtOk (X : Cx) (cb : Cb) (m : Str) (n : Nat) (tbl : List (String × (List Slot → Ans))) : Prop := ∀ c C ns F, cb.cls c = some (C, ns) → tbl.lookup c = some F →
  ∃ (k : Nat) (f : Addr) (fd : FuncData) (ps : List Str), Cls X.K C ∧ Meth X.K C m f ∧ FnD X.prog X.w X.K X.mg X.base cb k f fd ps F ∧ Room k X.A ∧ Binds X.K fd ps [] ∧ ps.length = n + 1 ∧ m ∉ ns
theorem look_none {α : Type} : ∀ {ns : List Str} {vs : List α}, m ∉ ns → (ns.zip vs).lookup m = none
  | [], vs, _ => by simp
  | n :: ns, [], _ => by simp
  | n :: ns, v :: vs, h => by
    simp only [List.zip_cons_cons, List.lookup_cons]
    have : (m == n) = false := by
      simp only [List.mem_cons, not_or] at h
      simpa using h.1
    rw [this]
    exact look_none fun z => h (.tail _ z)
variable {md : List D → Option (List D)} {bk : D → Bool} {bkM : M → Bool} {tbl : List (String × (List Slot → Ans))} {n : Nat}
def mkOf (X : Cx) (ct : Ct) (md : List D → Option (List D)) (bk : D → Bool) (bkM : M → Bool) (n : Nat) (tbl : List (String × (List Slot → Ans))) (fo : Sg → Res D) (fa : Sg → Res (List D)) : TE := fun σ H Q =>
  ∃ Γ, Jx X ct Γ σ H ∧ Ok X ct σ H (fo Γ) fun d => ∃ F, methF tbl d = some F ∧ Ok X ct σ H (fa Γ) fun ds => ds.length = n ∧ ∃ ds', md (d :: ds) = some ds' ∧ ∀ H', Same H H' → AnsB X ct bk bkM σ H' (F (ds'.map .val)) Q
theorem pe_methD {pl : Sem Bool} (Z : Lends ct md bk bkM) (hm : MtOk X ct.f.cb m n tbl) (ho : PD X ct o fo) (ha : PDA X ct (e :: es) fa)
    (hst : starEach (e :: es) X.env = (false, eval e X.env) :: starEach es X.env := by rfl) (hpl : (backTo pos (starEach es X.env)).any (·.1) = false := by rfl)
    (ht : eval (.Call (.Attribute o m apos) (e :: es) [] pos) X.env = (do
      let ov ← eval o X.env
      standAt apos.atName
      let (f, first) ← holding [ov] (getMethod ov m pl)
      callWith pos f first (backTo pos (starEach (e :: es) X.env)) (backToKw pos (keywordEach [] X.env))) := by rfl) :
    PE X (.Call (.Attribute o m apos) (e :: es) [] pos) (mkOf X ct md bk bkM n tbl fo fa) := by
  intro pins s σ H Q I ⟨Γ, j, h⟩
  have h1 : eOf X ct fo σ H (fun x H1 => ∃ d F, Same H H1 ∧ Tl X.K ct H1 d x ∧ methF tbl d = some F ∧ Ok X ct σ H (fa Γ) fun ds => ds.length = n ∧ ∃ ds', md (d :: ds) = some ds' ∧ ∀ H', Same H H' → AnsB X ct bk bkM σ H' (F (ds'.map .val)) Q) :=
    ⟨Γ, j, Ok.mono (Same.refl H) h fun d ⟨F, hF, q⟩ v H1 s1 t1 => ⟨d, F, s1, t1, hF, q⟩⟩
  refine PySem.W.methodCall_KW (pl := pl) (thn (ho pins s σ H _ I h1) fun u s1 ⟨x, H1, I1, rx, d, F, sm, t, hF, q⟩ => ?_) ht
  cases d with
  | obj c ns xs =>
    have t0 := t
    simp only [Tl] at t
    obtain ⟨a, C, dx, vs0, rfl, g1, g2, g3, g4⟩ := t
    cases rx
    obtain ⟨kk, f, fd, ps, c1, c2, c3, c4, c5, c6, c7⟩ := hm c C ns F g1 hF
    refine getmeth_ok I1 g2 c1 c2 (look_none c7) ?_
    have h2 : aOf X ct fa σ H1 (fun vs H2 => ∃ ds ds', Same H1 H2 ∧ Tls X.K ct H2 ds vs ∧ ds.length = n ∧ md (.obj c ns xs :: ds) = some ds' ∧ AnsB X ct bk bkM σ H2 (F (ds'.map .val)) Q) :=
      ⟨Γ, j.mono sm, Ok.mono sm q fun ds ⟨q1, ds', q2, q3⟩ vs H2 s2 t2 => ⟨ds, ds', s2, t2, q1, q2, q3 H2 (sm.trans s2)⟩⟩
    refine PySem.W.callWith_K (first := [.ref a]) (h₀ := X.base) I.ok.mod.kin c2.kp (thn (ha pos pins s1 σ H1 _ I1 h2) fun us s2 ⟨vs, H2, I2, r, ds, ds', s12, tl, hl, hd, q⟩ => ⟨I2.kIn, ?_⟩) hst hpl
    have j2 := j.mono (sm.trans s12)
    obtain ⟨L, l, t2, q1, q2⟩ := Z.go X.K H2 (.obj c ns xs :: ds) (.ref a :: vs) ds' j2.lL j2.lB (Tls.cons (t0.keep (Same.keep s12)) tl) hd
    exact run_fnD (us := .ref a :: us) (vs := .ref a :: vs) c3 c4 c5 I2 (.cons rfl r) l t2 (by simp [← tl.length, hl, c6]) (ansB_ok q q1 q2)
  | _ => cases hF
theorem we_methD {pl : Sem Bool} (Z : Lends ct md bk bkM) (hm : MtOk X ct.f.cb m n tbl) (ho : WD X ct o fo) (ha : WDA X ct (e :: es) fa) (hst : starEach (e :: es) X.env = (false, eval e X.env) :: starEach es X.env := by rfl) (hpl : (backTo pos (starEach es X.env)).any (·.1) = false := by rfl) (ht : eval (.Call (.Attribute o m apos) (e :: es) [] pos) X.env = (do
      let ov ← eval o X.env
      standAt apos.atName
      let (f, first) ← holding [ov] (getMethod ov m pl)
      callWith pos f first (backTo pos (starEach (e :: es) X.env)) (backToKw pos (keywordEach [] X.env))) := by rfl) : WE X (.Call (.Attribute o m apos) (e :: es) [] pos) (mkOf X ct md bk bkM n tbl fo fa) := ⟨pe_methD (Z := Z) (hm := hm) (ho := ho.out) (ha := ha.out) (hst := hst) (hpl := hpl) (ht := ht)⟩
theorem pe_methD0 {pl : Sem Bool} (Z : Lends ct md bk bkM) (hm : MtOk X ct.f.cb m n tbl) (ho : PD X ct o fo)
    (ht : eval (.Call (.Attribute o m apos) [] [] pos) X.env = (do
      let ov ← eval o X.env
      standAt apos.atName
      let (f, first) ← holding [ov] (getMethod ov m pl)
      callWith pos f first (backTo pos (starEach [] X.env)) (backToKw pos (keywordEach [] X.env))) := by rfl) :
    PE X (.Call (.Attribute o m apos) [] [] pos) (mkOf X ct md bk bkM n tbl fo dNil) := by
  intro pins s σ H Q I ⟨Γ, j, h⟩
  have h1 : eOf X ct fo σ H (fun x H1 => ∃ d F, Same H H1 ∧ Tl X.K ct H1 d x ∧ methF tbl d = some F ∧ 0 = n ∧ ∃ ds', md [d] = some ds' ∧ ∀ H', Same H H' → AnsB X ct bk bkM σ H' (F (ds'.map .val)) Q) :=
    ⟨Γ, j, Ok.mono (Same.refl H) h fun d ⟨F, hF, q⟩ v H1 s1 t1 => ⟨d, F, s1, t1, hF, q⟩⟩
  refine PySem.W.methodCall_KW (pl := pl) (thn (ho pins s σ H _ I h1) fun u s1 ⟨x, H1, I1, rx, d, F, sm, t, hF, hl, ds', hd, q⟩ => ?_) ht
  cases d with
  | obj c ns xs =>
    have t0 := t
    simp only [Tl] at t
    obtain ⟨a, C, dx, vs0, rfl, g1, g2, g3, g4⟩ := t
    cases rx
    obtain ⟨kk, f, fd, ps, c1, c2, c3, c4, c5, c6, c7⟩ := hm c C ns F g1 hF
    refine getmeth_ok I1 g2 c1 c2 (look_none c7) ?_
    have j2 := j.mono sm
    obtain ⟨L, l, t2, q1, q2⟩ := Z.go X.K H1 [.obj c ns xs] [.ref a] ds' j2.lL j2.lB (Tls.cons t0 Tls.nil) hd
    exact PySem.W.callWith_K0 (first := [.ref a]) I1.kIn c2.kp (run_fnD (us := [.ref a]) (vs := [.ref a]) c3 c4 c5 I1 (.cons rfl .nil) l t2 (by simp [c6, ← hl]) (ansB_ok (q H1 sm) q1 q2))
  | _ => cases hF
theorem we_methD0 {pl : Sem Bool} (Z : Lends ct md bk bkM) (hm : MtOk X ct.f.cb m n tbl) (ho : WD X ct o fo) (ht : eval (.Call (.Attribute o m apos) [] [] pos) X.env = (do
      let ov ← eval o X.env
      standAt apos.atName
      let (f, first) ← holding [ov] (getMethod ov m pl)
      callWith pos f first (backTo pos (starEach [] X.env)) (backToKw pos (keywordEach [] X.env))) := by rfl) : WE X (.Call (.Attribute o m apos) [] [] pos) (mkOf X ct md bk bkM n tbl fo dNil) := ⟨pe_methD0 (Z := Z) (hm := hm) (ho := ho.out) (ht := ht)⟩
theorem pm_meth {gm : Sg → Res M} (h : PE X e (mkOf X ct md bk bkM n tbl fo fa)) (hg : ∀ Γ, gm Γ = (fo Γ).bnd fun o => match methF tbl o with
    | some F => (fa Γ).bnd fun ds => if ds.length = n then (match md (o :: ds) with
      | some ds' => (match F (ds'.map .val) with
        | .ok d => if bk d = true then .ok (.d d) else .bad
        | .new m => if bkM m = true then .ok m else .bad
        | .err x => .err x
        | _ => .bad)
      | none => .bad) else .bad
    | none => .bad) : PM X ct e gm := by
  refine PE.imp h fun σ H Q ⟨Γ, j, q⟩ => ⟨Γ, j, ?_⟩
  rw [hg] at q
  refine q.bnd fun o _ q => ?_
  split at q
  · rename_i F hF
    refine ⟨F, hF, q.bnd fun ds _ q => ?_⟩
    split at q
    · rename_i hl
      split at q
      · rename_i ds' hd
        refine ⟨hl, ds', hd, fun H' s => ?_⟩
        cases z : F (ds'.map .val) with
        | ok d =>
          rw [z] at q; dsimp only at q
          split at q
          · rename_i hb; exact ⟨hb, (Wm.data q).mono s⟩
          · exact q.elim
        | new m =>
          rw [z] at q; dsimp only at q
          split at q
          · rename_i hb; exact ⟨hb, Wm.mono s q⟩
          · exact q.elim
        | err x => rw [z] at q; exact fun e s' r => q e s' (r.mono s)
        | okG d os => rw [z] at q; exact q.elim
        | newG d os => rw [z] at q; exact q.elim
        | bad => rw [z] at q; exact q.elim
      · exact q.elim
    · exact q.elim
  · exact q.elim
theorem mAns_all (a : Ans) : mAns a = (match a with
        | .ok d => if true = true then .ok (.d d) else .bad
        | .new m => if true = true then .ok m else .bad
        | .err x => .err x
        | _ => .bad) := by cases a <;> simp [mAns]
theorem pm_methP (h : PE X e (mkOf X c.z some (fun _ => true) (fun _ => true) n tbl fo fa)) : PM X c.z e (mMeth n tbl fo fa) := pm_meth h fun Γ => by
  unfold mMeth
  cases fo Γ with
  | ok o =>
    simp only [Res.bnd_ok]
    cases methF tbl o with
    | none => rfl
    | some F =>
      simp only
      cases fa Γ with
      | ok ds =>
        simp only [Res.bnd_ok]
        by_cases hl : ds.length = n
        · simp only [hl, if_true]
          exact mAns_all _
        · simp [hl]
      | err x => rfl
      | bad => rfl
  | err x => rfl
  | bad => rfl
theorem wm_methP (h : WE X e (mkOf X c.z some (fun _ => true) (fun _ => true) n tbl fo fa)) : WM X c.z e (mMeth n tbl fo fa) := ⟨pm_methP (h := h.out)⟩
theorem putF_new {α : Type} {y : V} : ∀ {ns : List Str} {vs : List V}, ns.length = vs.length → f ∉ ns → putF f y (ns.zip vs) = (ns ++ [f]).zip (vs ++ [y])
  | [], [], _, _ => rfl
  | [], _ :: _, h, _ => by simp at h
  | n :: ns, [], h, _ => by simp at h
  | n :: ns, v :: vs, h, hn => by
    simp only [List.mem_cons, not_or] at hn
    have : ¬ n = f := fun z => hn.1 z.symm
    simp only [List.zip_cons_cons, putF, this, if_false, List.cons_append]
    rw [putF_new (α := α) (by simpa using h) hn.2]
def FtOk (cb : Cb) (ft : List (String × List Str)) : Prop := ∀ c C full, cb.ins c = some C → ft.lookup c = some full → ∀ c' ns', cb.cls c' = some (C, ns') → ns' = full
theorem pds_setF (i : Nat) {x : Str} {px pa : Pos} {ft : List (String × List Str)} (hf : FA X.K c.cb f) (ht : FtOk c.cb ft) (he : ∀ B, PD X (c.at' B) e g) (hN : X.N[i]? = some x := by rfl) (hv : Vis X.env.scope x := by first | exact Or.inl rfl | exact Or.inr (Or.inl rfl) | exact Or.inr (Or.inr rfl)) (hd : (x == ("__debug__" : Str)) = false := by decide)
    (hcd : (x == ("__classdict__" : Str)) = false := by decide) (hs : swapsWith e (some (.Attribute (.Name x px) f pa)) pos.line X.env = pure false := by rfl) :
    PDS X c (.Assign [.Attribute (.Name x px) f pa] e pos) (sSetF i ft f g) := by
  intro pins s σ H E I ⟨Γ, j, h⟩
  refine ps_fld (pp_name (ct := c.at' H) i hN hv hd hcd) (he H) hs pins s σ H E I ?_
  refine ⟨Γ, j.lift, Fn.ok j h fun d _ q y H1 s1 t => ?_⟩
  refine ⟨Γ, j.lift.mono s1, Ok.mono (H := H) s1 (Fn.ok (tm := true) (B := H) j q fun ks _ q v H2 s2 pa => ?_) fun _ z => z⟩
  have sm := s1.trans s2
  have j2 := j.mono sm
  have ty := t.keep (Same.keep s2)
  obtain ⟨sl, m, v0, m', p1, p2, p3, p4, p5⟩ := pa
  have e1 : upM i ks (putO ft f d) Γ = (putO ft f d m').map fun m'' => Γ.set i (reS sl (putM m ks m'')) := by unfold upM; rw [p1, Option.bind_some, p2, Option.bind_some, p5, Option.bind_some]
  rw [e1] at q
  cases z : putO ft f d m' with
  | none => rw [z] at q; exact q.elim
  | some m'' =>
    rw [z] at q
    cases m' with
    | o cn ns xs =>
      simp only [putO, Option.bind_eq_some_iff] at z
      obtain ⟨full, zf, z⟩ := z
      split at z
      · rename_i hc
        cases z
        obtain ⟨vv, S, g1, o1⟩ := j2.ofM p1 p2
        rw [p3] at g1; cases g1
        obtain ⟨S', o', _⟩ := o1.foc p4 p5
        simp only [Ow] at o'
        obtain ⟨a, C, dx, vs, rfl, q2, q3, q4, q5, q6⟩ := o'
        obtain ⟨c1, c2⟩ := hf C (.inl ⟨cn, q3⟩)
        have kp : Keep c.cb H2 (upd H2 a (.ins C dx (putF f y (ns.zip vs)))) := fun b o hb st => by
          have : b ≠ a := by
            rintro rfl
            rw [q4] at hb; cases hb
            obtain ⟨c', ns', w1, w2⟩ := st
            have w3 := ht cn C full q3 zf c' ns' w1
            rw [zip_keys q5] at w2
            rw [w2, w3] at hc
            omega
          rw [upd_ne this]; exact hb
        refine ⟨a, C, dx, _, rfl, q4, c1, c2, by rw [List.length_zip]; omega, ?_⟩
        refine q σ _ ((Same.keep sm).trans kp) (j2.up p1 p2 p3 p4 p5 kp fun S' o => ?_)
        simp only [Ow] at o ⊢
        obtain ⟨a', C', dx', us, w1, w2, w3, w4, w5, w6⟩ := o
        cases w1
        rw [q4] at w4
        simp only [Option.some.injEq, HO.ins.injEq] at w4
        obtain ⟨rfl, rfl, w4⟩ := w4
        have euv : us = vs := by
          have := congrArg (List.map Prod.snd) w4
          rw [List.map_snd_zip (by omega), List.map_snd_zip (by omega)] at this
          exact this.symm
        subst euv
        refine ⟨w2, a, C, dx, us ++ [y], rfl, w2, w3, ?_, by simp [q5], (w6.append (Tls.cons (Tl.down (B := H) (tm := true) ty hc.1) Tls.nil)).keep kp⟩
        rw [upd_same, putF_new (α := V) q5 hc.2.2.2]
      · cases z
    | _ => cases z
theorem wds_setF (i : Nat) {x : Str} {px pa : Pos} {ft : List (String × List Str)} (hf : FA X.K c.cb f) (ht : FtOk c.cb ft) (he : ∀ B, WD X (c.at' B) e g) (hN : X.N[i]? = some x := by rfl) (hv : Vis X.env.scope x := by first | exact Or.inl rfl | exact Or.inr (Or.inl rfl) | exact Or.inr (Or.inr rfl)) (hd : (x == ("__debug__" : Str)) = false := by decide) (hcd : (x == ("__classdict__" : Str)) = false := by decide) (hs : swapsWith e (some (.Attribute (.Name x px) f pa)) pos.line X.env = pure false := by rfl) : WDS X c (.Assign [.Attribute (.Name x px) f pa] e pos) (sSetF i ft f g) := ⟨pds_setF (i := i) (hf := hf) (ht := ht) (he := (fun B => (he B).out)) (hN := hN) (hv := hv) (hd := hd) (hcd := hcd) (hs := hs)⟩
end
end L4
end
section
set_option Elab.async false
set_option linter.all false
set_option maxRecDepth 100000
namespace L4
open PySem PySem.Spec PyProof.Rows L2
section
variable {X : Cx} {ct : Ct} {c : Cf} {o e : Expr} {es : List Expr} {x : Str} {fa : Sg → Res (List D)} {p pos : Pos} {md : List D → Option (List D)} {bk : D → Bool} {bkM : M → Bool} {n k : Nat} {F : List Slot → Ans} {cn : String} {ns : List Str} {C f : Addr} {fd : FuncData} {ps : List Str}
def MkOk (X : Cx) (ct : Ct) (bk : D → Bool) (cn : String) (ns : List Str) (σ : St) (H : Hp) (a : Ans) (Q : VK) : Prop := match mkAns cn ns a with
  | .ok d => bk d = true ∧ Wd X ct H Q d
  | .err x => ∀ e s', RaisedAt X ct.f.cb σ H x e s' → X.xe e s'
  | .bad => False
theorem outs_zero {m : M} : ∀ {Γ : Sg}, outsAt 0 Γ = [(0, m)] → Γ[0]? = some (.par m)
  | [], h => by cases h
  | .par m' :: r, h => by
    simp only [outsAt, List.cons.injEq, Prod.mk.injEq] at h
    obtain ⟨⟨_, rfl⟩, _⟩ := h
    rfl
  | .no :: r, h => by
    simp only [outsAt] at h
    exact absurd h (outs_pos r 0)
  | .val d :: r, h => by
    simp only [outsAt] at h
    exact absurd h (outs_pos r 0)
  | .own d :: r, h => by
    simp only [outsAt] at h
    exact absurd h (outs_pos r 0)
where outs_pos {m : M} : ∀ (Γ : Sg) (i : Nat), outsAt (i + 1) Γ ≠ [(0, m)]
  | [], i, h => by cases h
  | .par m' :: r, i, h => by
    simp only [outsAt, List.cons.injEq, Prod.mk.injEq] at h
    omega
  | .no :: r, i, h => by simp only [outsAt] at h; exact outs_pos r (i + 1) h
  | .val _ :: r, i, h => by simp only [outsAt] at h; exact outs_pos r (i + 1) h
  | .own _ :: r, i, h => by simp only [outsAt] at h; exact outs_pos r (i + 1) h
theorem j_make {K : PySem.W.Frag} {cb : Cb} {L H : Hp} {ds : List D} {vs : List V} {a dx : Addr} (l : Same L H) (t : Tls K (cfOf cb L vs).z H ds vs) (ha : H a = none) (hd : H dx = none) (ne : dx ≠ a) (hc : cb.ins cn = some C) :
    J K (Cf.z ⟨cb, L, fun b => b = a, .ref a :: vs⟩) (upd (upd H dx (.own a)) a (.ins C dx [])) (.par (.o cn [] []) :: ds.map .val) ((V.ref a :: vs).map some) (upd (upd H dx (.own a)) a (.ins C dx [])) := by
  have sm : Same H (upd (upd H dx (.own a)) a (.ins C dx [])) := (same_new hd _).trans (same_new (by rw [upd_ne (Ne.symm ne)]; exact ha) _)
  refine ⟨fun _ _ q _ => q, fun _ q => q, l.trans sm, fun _ _ q => (nomatch q), by simp [t.length], fun i b => i = 0 ∧ b = a, fun i sl ov h1 h2 => ?_, fun i j b hij z z' => hij (z.1.trans z'.1.symm), fun i b z q => ?_⟩
  · cases i with
    | zero =>
      cases h1; cases h2
      refine ⟨.ref a, rfl, ?_, ⟨fun b z => .inr z.2, fun b z q => ?_, fun b z => ?_, fun b z t => nomatch t⟩, rfl⟩
      · simp only [Ow]
        exact ⟨a, C, dx, [], rfl, by simp, hc, upd_same, rfl, Tls.nil⟩
      · rw [z.2, upd_same] at q; cases q
      · cases w : L b with
        | none => exact w
        | some o => have := l b o w; rw [z.2, ha] at this; cases this
    | succ i =>
      simp only [List.getElem?_cons_succ, List.getElem?_map, List.map_cons] at h1 h2
      cases q : ds[i]? with
      | none => rw [q] at h1; cases h1
      | some d =>
        obtain ⟨v, e1, e2⟩ := t.get q
        rw [q] at h1; rw [e1] at h2
        cases h1; cases h2
        refine ⟨⟨v, rfl, tl_cong (ct := (cfOf cb L vs).z) (ct' := Cf.z ⟨cb, L, fun b => b = a, .ref a :: vs⟩) rfl (fun t a o z => by cases t <;> exact z) (e2.keep (Same.keep sm))⟩, fun b z => absurd z.1 (by simp)⟩
  · rw [z.2, upd_same] at q; cases q
theorem run_makeD {pins : List (Addr × Obj)} {σ : St} {H L : Hp} {s : Shared} {Q : VK} {us : List Value} {vs : List V} {ds : List D} (Mc : Mk X.K C f) (G : FnD X.prog X.w X.K X.mg X.base ct.f.cb k f fd ps F) (hr : Room (k + 1) X.A) (hb : Binds X.K fd ps []) (hci : ct.f.cb.ins cn = some C) (hcc : ct.f.cb.cls cn = some (C, ns))
    (I : Inv X pins σ H s) (r : Vals vs us) (l : Same L H) (t : Tls X.K (cfOf ct.f.cb L vs).z H ds vs) (hn : vs.length + 1 = ps.length) (q1 : ∀ H' d v, bk d = true → Tl X.K (cfOf ct.f.cb L vs).z H' d v → Tl X.K ct H' d v)
    (h : MkOk X ct bk cn ns σ H (F (.par (.o cn [] []) :: ds.map .val)) Q) : wpAny (model X.prog X.w) X.A (call (.ref C) us) (EP X pins σ Q) X.xe s := by
  have hx0 : H (s.heap.objs.size + 1) = none := I.hok.fresh (Nat.le_succ _)
  have hd0 : H s.heap.objs.size = none := I.hok.fresh (Nat.le_refl _)
  have hne : s.heap.objs.size ≠ s.heap.objs.size + 1 := Nat.ne_of_lt (Nat.lt_succ_self _)
  have I2 := Inv.made (C := C) I
  have smm : Same H (upd (upd H s.heap.objs.size (.own (s.heap.objs.size + 1))) (s.heap.objs.size + 1) (.ins C s.heap.objs.size [])) := (same_new hd0 _).trans (same_new (by rw [upd_ne (Ne.symm hne)]; exact hx0) _)
  have r2 : Vals (V.ref (s.heap.objs.size + 1) :: vs) (Value.ref (s.heap.objs.size + 1) :: us) := .cons rfl r
  have hl : (Value.ref (s.heap.objs.size + 1) :: us).length = ps.length := by rw [← r2.length]; exact hn
  have hb' := hb { s with heap := (s.heap.push PySem.W.emptyDict).push (PySem.W.instObj C s.heap.objs.size) } (Value.ref (s.heap.objs.size + 1) :: us) I2.kIn (by rw [List.append_nil]; exact hl)
  rw [List.append_nil] at hb'
  let E : XK := fun cls od H' => ∃ x C', F (.par (.o cn [] []) :: ds.map .val) = .err x ∧ ct.f.cb.exc x = some C' ∧ cls = .ref C' ∧ od = none ∧ Same H H'
  have hsp : spD X.K ct.f.cb ps.length F (V.ref (s.heap.objs.size + 1) :: vs) (upd (upd H s.heap.objs.size (.own (s.heap.objs.size + 1))) (s.heap.objs.size + 1) (.ins C s.heap.objs.size [])) (fun v H2 => v = .non ∧ Q (.ref (s.heap.objs.size + 1)) H2) E := by
    refine ⟨hn, ⟨ct.f.cb, L, fun b => b = s.heap.objs.size + 1, _⟩, _, rfl, rfl, j_make l t hx0 hd0 hne hci, ?_⟩
    unfold MkOk at h
    cases z : F (.par (.o cn [] []) :: ds.map .val) with
    | ok d => rw [z] at h; exact h.elim
    | new d => rw [z] at h; exact h.elim
    | newG d os => rw [z] at h; exact h.elim
    | bad => rw [z] at h; exact h.elim
    | err x =>
      refine fun C' H' e sm => ⟨x, C', z, e, rfl, rfl, fun b o w => sm b o (smm b o w) ?_⟩
      intro w2
      have w2 : b = s.heap.objs.size + 1 := w2
      rw [w2, hx0] at w; cases w
    | okG d os =>
      rw [z] at h
      unfold mkAns at h
      split at h
      · rename_i d' hm
        split at hm
        · rename_i c' ns' xs e1
          split at hm
          · rename_i hc
            obtain ⟨rfl, rfl⟩ := hc
            cases hm
            cases e1
            intro v Γ' σ' H' j' ho tv
            simp only [Tl] at tv
            refine ⟨tv, ?_⟩
            have hz := outs_zero ho
            obtain ⟨v', S, g1, g2, g3, g4⟩ := j'.par hz
            simp only [Ow] at g2
            obtain ⟨a, C', dx, us', e1, w2, w3, w4, w5, w6⟩ := g2
            subst e1
            have : a = s.heap.objs.size + 1 := by
              have := g4
              simp only [Cf.z, List.getElem?_cons_zero, Option.some.injEq, V.ref.injEq] at this
              exact this.symm
            subst this
            have hCC : C' = C := by
              have w3 : ct.f.cb.ins c' = some C' := w3
              rw [hci] at w3; exact (Option.some.inj w3).symm
            subst hCC
            refine h.2 _ H' (fun b o w => j'.same b o (smm b o w) ?_) (q1 H' _ _ h.1 ?_)
            · intro w2'
              have w2' : b = s.heap.objs.size + 1 := w2'
              rw [w2', hx0] at w; cases w
            · simp only [Tl]
              refine ⟨_, C', dx, us', rfl, hcc, w4, w5, ?_⟩
              exact tls_cong (ct := Cf.z ⟨ct.f.cb, L, fun b => b = s.heap.objs.size + 1, .ref (s.heap.objs.size + 1) :: vs⟩) (ct' := (cfOf ct.f.cb L vs).z) rfl (fun t a o z => by cases t <;> exact z) w6
          · cases hm
        · cases hm
        · cases hm
      · rename_i x hm
        split at hm
        · split at hm <;> cases hm
        · rename_i y e1; cases e1
        · cases hm
      · exact h.elim
  refine wpAny_call (make_map (f := f) I.kIn Mc.makes Mc.init (beq_iff_eq.mp Mc.fn) (codeAny_mono (G.run _ X.stack _ _ ⟨Value.ref (s.heap.objs.size + 1) :: us, []⟩ (Value.ref (s.heap.objs.size + 1) :: us) _ _ E (hr.make C us [])
    (I2.env0.make C us []) hb' r2 hsp) fun r s' hq => ?_))
  cases r with
  | error e =>
    obtain ⟨a, C', H', B, a0, h1, ⟨x, C2, w1, w2, w3, w4, w5⟩, h3, h4, h5, h6, h6', h7⟩ := hq
    unfold MkOk at h
    rw [w1] at h
    cases w3
    have nw : s.heap.get? a = none := by
      cases z : s.heap.get? a with
      | none => rfl
      | some ob =>
        have : ((s.heap.push PySem.W.emptyDict).push (PySem.W.instObj C s.heap.objs.size)).get? a = some ob := Heap.get?_push_of_some _ (Heap.get?_push_of_some _ z)
        rw [this] at h6'; cases h6'
    refine h e s' ⟨pins, H, s, C', I, Same.refl H, w2, .inr ⟨a, C', H', B, a0, h1, ⟨rfl, rfl, w5⟩, h3, h4, h5, h6, nw, fun h' st up => ?_⟩⟩
    obtain ⟨un, hok⟩ := h7 h' st up
    have push : ∀ b o, s.heap.get? b = some o → ((s.heap.push PySem.W.emptyDict).push (PySem.W.instObj C s.heap.objs.size)).get? b = some o := fun b o q => Heap.get?_push_of_some _ (Heap.get?_push_of_some _ q)
    have nn : ∀ b o, s.heap.get? b = some o → H b = none → upd (upd H s.heap.objs.size (.own (s.heap.objs.size + 1))) (s.heap.objs.size + 1) (.ins C s.heap.objs.size []) b = none := fun b o q n => by
      have lt := Heap.lt_size q
      rw [upd_ne (Nat.ne_of_lt (Nat.lt_succ_of_lt lt)), upd_ne (Nat.ne_of_lt lt)]; exact n
    exact ⟨⟨fun b o q n hb hx => un.keep b o (push b o q) (nn b o q n) hb hx, fun b o q n hb hx => un.slot b o (push b o q) (nn b o q n) hb hx, fun b o q n hx => un.free b o (push b o q) (nn b o q n) hx,
      fun b o q hx => un.there b o (push b o q) hx, fun b xs q => un.tups b xs (smm b _ q), fun b o u q => un.frzs b o u (smm b _ q), fun b ps q => un.tbls b ps (smm b _ q)⟩, hok⟩
  | ok fl =>
    cases fl with
    | ret u =>
      obtain ⟨v, H', I3, rv, ev, q3⟩ := I2.after hq
      subst ev
      exact ⟨rv, ⟨V.ref (s.heap.objs.size + 1), H', I3, rfl, q3⟩⟩
    | next => exact False.elim hq
    | brk => exact False.elim hq
    | cont => exact False.elim hq
def nkOf (X : Cx) (ct : Ct) (md : List D → Option (List D)) (bk : D → Bool) (cn : String) (ns : List Str) (n : Nat) (F : List Slot → Ans) (fa : Sg → Res (List D)) : TE := fun σ H Q =>
  ∃ Γ, Jx X ct Γ σ H ∧ Ok X ct σ H (fa Γ) fun ds => ds.length = n ∧ ∃ ds', md ds = some ds' ∧ ∀ H', Same H H' → MkOk X ct bk cn ns σ H' (F (.par (.o cn [] []) :: ds'.map .val)) Q
theorem pe_makeD (Z : Lends ct md bk bkM) (Mc : Mk X.K C f) (G : FnD X.prog X.w X.K X.mg X.base ct.f.cb k f fd ps F) (hr : Room (k + 1) X.A) (hb : Binds X.K fd ps []) (hci : ct.f.cb.ins cn = some C) (hcc : ct.f.cb.cls cn = some (C, ns)) (hm : X.mg x = some (.ref C)) (ha : PDA X ct (e :: es) fa) (hn : ps.length = n + 1) (hg : Gl X x := by rfl)
    (hdb : (x == ("__debug__" : Str)) = false := by decide) (he : starEach (e :: es) X.env = (false, eval e X.env) :: starEach es X.env := by rfl) (hpl : (backTo pos (starEach es X.env)).any (·.1) = false := by rfl) :
    PE X (.Call (.Name x p) (e :: es) [] pos) (nkOf X ct md bk cn ns n F fa) := by
  intro pins s σ H Q I ⟨Γ, j, h⟩
  refine wpAny_Call_Name_kw (ld_glob I hg hm ?_ hdb)
  have h' : aOf X ct fa σ H (fun vs H1 => ∃ ds ds', Same H H1 ∧ Tls X.K ct H1 ds vs ∧ ds.length = n ∧ md ds = some ds' ∧ MkOk X ct bk cn ns σ H1 (F (.par (.o cn [] []) :: ds'.map .val)) Q) :=
    ⟨Γ, j, Ok.mono (Same.refl H) h fun ds ⟨q1, ds', q2, q3⟩ vs H1 s1 t1 => ⟨ds, ds', s1, t1, q1, q2, q3 H1 s1⟩⟩
  refine PySem.W.callWith_K (h₀ := X.base) I.ok.mod.kin Mc.kp (thn (ha pos pins s σ H _ I h') fun us s1 ⟨vs, H1, I1, r, ds, ds', sm, t1, hl, hd, q⟩ => ⟨I1.kIn, ?_⟩) he hpl
  have j1 := j.mono sm
  obtain ⟨L, l, t2, q1, _⟩ := Z.go X.K H1 ds vs ds' j1.lL j1.lB t1 hd
  exact run_makeD Mc G hr hb hci hcc I1 r l t2 (by rw [← t1.length, hl, hn]) q1 q
theorem we_makeD (Z : Lends ct md bk bkM) (Mc : Mk X.K C f) (G : FnD X.prog X.w X.K X.mg X.base ct.f.cb k f fd ps F) (hr : Room (k + 1) X.A) (hb : Binds X.K fd ps []) (hci : ct.f.cb.ins cn = some C) (hcc : ct.f.cb.cls cn = some (C, ns)) (hm : X.mg x = some (.ref C)) (ha : WDA X ct (e :: es) fa) (hn : ps.length = n + 1) (hg : Gl X x := by rfl) (hdb : (x == ("__debug__" : Str)) = false := by decide) (he : starEach (e :: es) X.env = (false, eval e X.env) :: starEach es X.env := by rfl) (hpl : (backTo pos (starEach es X.env)).any (·.1) = false := by rfl) : WE X (.Call (.Name x p) (e :: es) [] pos) (nkOf X ct md bk cn ns n F fa) := ⟨pe_makeD (Z := Z) (Mc := Mc) (G := G) (hr := hr) (hb := hb) (hci := hci) (hcc := hcc) (hm := hm) (ha := ha.out) (hn := hn) (hg := hg) (hdb := hdb) (he := he) (hpl := hpl)⟩
theorem pd_make {gd : Sg → Res D} (h : PE X e (nkOf X ct md bk cn ns n F fa)) (hg : ∀ Γ, gd Γ = (fa Γ).bnd fun ds => if ds.length = n then (match md ds with
      | some ds' => (match mkAns cn ns (F (.par (.o cn [] []) :: ds'.map .val)) with
        | .ok d => if bk d = true then .ok d else .bad
        | .err x => .err x
        | .bad => .bad)
      | none => .bad) else .bad) : PD X ct e gd := by
  refine PE.imp h fun σ H Q ⟨Γ, j, q⟩ => ⟨Γ, j, ?_⟩
  rw [hg] at q
  refine q.bnd fun ds _ q => ?_
  split at q
  · rename_i hl
    split at q
    · rename_i ds' hd
      refine ⟨hl, ds', hd, fun H' s => ?_⟩
      unfold MkOk
      cases z : mkAns cn ns (F (.par (.o cn [] []) :: ds'.map .val)) with
      | ok d =>
        rw [z] at q; dsimp only at q ⊢
        split at q
        · rename_i hb; exact ⟨hb, Wd.mono s q⟩
        · exact q.elim
      | err x => rw [z] at q; exact fun e s' r => q e s' (r.mono s)
      | bad => rw [z] at q; exact q.elim
    · exact q.elim
  · exact q.elim
theorem res_all (r : Res D) : r = (match r with
        | .ok d => if true = true then .ok d else .bad
        | .err x => .err x
        | .bad => .bad) := by cases r <;> simp
theorem pd_makeP (h : PE X e (nkOf X c.z some (fun _ => true) cn ns n F fa)) : PD X c.z e (dMake n cn ns F fa) := pd_make h fun Γ => by
  unfold dMake
  cases fa Γ with
  | ok ds =>
    simp only [Res.bnd_ok]
    by_cases hl : ds.length = n
    · simp only [hl, if_true]; exact res_all _
    · simp [hl]
  | err x => rfl
  | bad => rfl
theorem wd_makeP (h : WE X e (nkOf X c.z some (fun _ => true) cn ns n F fa)) : WD X c.z e (dMake n cn ns F fa) := ⟨pd_makeP (h := h.out)⟩
end
section
variable {P : Program} {w : World} {K : PySem.W.Frag} {mg : Str → Option Value} {base : Heap} {cb : Cb}
theorem fn_okG {x qual : Str} {st : Stmt} {f : Addr} {fd : FuncData} {N ps : List Str} {k : Nat} {F : List Slot → Ans} {B : Nat → Sg → Out} (Fn' : Fun K x qual st f fd) (S : FnScope N ps (defScope st))
    (hbody : ∀ (c : Cf) (cdv : Value) (A : Around) (outer : List Env) (s : Shared) (H : Hp) (E : XK), c.cb = cb → Room k (A.deeper (envOfC qual (defScope st) s.heap.objs.size f cdv)) →
      Good (cxOf (CX1 P w) P w K mg base N qual (defScope st) f cdv A outer s H E) → ∀ n, PDSs (cxOf (CX1 P w) P w K mg base N qual (defScope st) f cdv A outer s H E) c (defBody st) (B n))
    (hF : ∀ as, as.length = ps.length → F as ≠ .bad → ∃ n, ansG (B n (st0 N as)) = F as) : FnD P w K mg base cb (k + 1) f fd ps F := by
  obtain ⟨oc, od, kV, doc, pm, an, cdv, ct', osl, rfl, lk, hcd⟩ := Fn'.ex
  refine fn_of lk hcd S (fun vs H Q E h => h.1) fun A outer s H vs Q E hr hsp => ?_
  obtain ⟨hn, c, as, ecb, eargs, j, h⟩ := hsp
  have hl : as.length = vs.length := by have := j.len; simpa using this
  have hb : F as ≠ .bad := fun z => by rw [z] at h; exact h
  obtain ⟨n, hF⟩ := hF as (by rw [hl]; exact hn) hb
  refine ⟨_, hbody c cdv A outer s H E ecb hr ⟨PassesOwn.leaving, rfl, S.nd, rfl, rfl⟩ n, st0 N as, j_start j, ?_⟩
  rw [← hF] at h
  cases q : B n (st0 N as) with
  | nx Γ => rw [q] at h; exact fun σ' H' _ j => h .non Γ σ' H' j rfl (by simp [Tl])
  | bk Γ => rw [q] at h; exact h.elim
  | ct Γ => rw [q] at h; exact h.elim
  | rt d => rw [q] at h; exact fun v H' b t => h v H' b.same b.free t
  | rtm m => rw [q] at h; exact fun v H' S b o n k => h v H' S b.same b.free o n k
  | rtG d Γ => rw [q] at h; exact fun v σ' H' j t => h v Γ σ' H' j rfl t
  | rtmG d Γ => rw [q] at h; exact h.elim
  | err x Γ =>
    rw [q] at h
    exact fun σ' H' e s' _ j r => leave_ok (ecb ▸ r) fun C H2 hc s => h C H2 hc fun b o z n => s b o (j.same b o z n)
  | bad => rw [q] at h; exact h.elim
theorem wfn_okG {x qual : Str} {st : Stmt} {f : Addr} {fd : FuncData} {N ps : List Str} {k : Nat} {F : List Slot → Ans} {B : Nat → Sg → Out} (Fn' : Fun K x qual st f fd) (S : FnScope N ps (defScope st)) (hbody : ∀ (c : Cf) (cdv : Value) (A : Around) (outer : List Env) (s : Shared) (H : Hp) (E : XK), c.cb = cb → Room k (A.deeper (envOfC qual (defScope st) s.heap.objs.size f cdv)) →
      Good (cxOf (CX1 P w) P w K mg base N qual (defScope st) f cdv A outer s H E) → ∀ n, WDSs (cxOf (CX1 P w) P w K mg base N qual (defScope st) f cdv A outer s H E) c (defBody st) (B n)) (hF : ∀ as, as.length = ps.length → F as ≠ .bad → ∃ n, ansG (B n (st0 N as)) = F as) : FnD P w K mg base cb (k + 1) f fd ps F := fn_okG (Fn' := Fn') (S := S) (hbody := (fun c cdv A outer s H E h_1 h_2 h_3 n => (hbody c cdv A outer s H E h_1 h_2 h_3 n).out)) (hF := hF)
end
end L4
end
section
set_option Elab.async false
set_option linter.all false
set_option maxRecDepth 100000
namespace L4
open PySem PySem.Spec PyProof.Rows L2
section
variable {K : PySem.W.Frag} {ct : Ct} {H : Hp}
end
section
variable {X : Cx} {c : Cf} {x : Str} {e : Expr} {es : List Expr} {i q n k : Nat} {f : Sg → Res D} {r fa : Sg → Res (List D)} {p pos : Pos} {F : List Slot → Ans} {fn : Addr} {fd : FuncData} {ps : List Str}
variable {g : Sg → Res (D × Sg)} {Γ : Sg} {σ : St} {H : Hp}
end
end L4
end
section
set_option Elab.async false
set_option linter.all false
set_option maxRecDepth 100000
namespace L4
open PySem PySem.Spec PyProof.Rows L2
section
variable {X : Cx} {ct : Ct} {a b e : Expr} {f g : Sg → Res D} {fa : Sg → Res (List D)} {p pos : Pos}
theorem Tl.seqO {K : PySem.W.Frag} {H : Hp} {d : D} {v : V} {ds : List D} (l : Same ct.f.L H) (b : Same ct.B H) (h : Tl K ct H d v) (e : L4.seqO d = some ds) : ∃ a vs, v = .ref a ∧ (SqL K H a vs ∨ SqT K H a vs) ∧ Tls K ct H ds vs := by
  cases d with
  | lst xs => cases e; obtain ⟨a, vs, h1, h2, h3⟩ := h.seqL l b rfl; exact ⟨a, vs, h1, .inl h2, h3⟩
  | bor t xs => cases e; obtain ⟨a, vs, h1, h2, h3⟩ := h.seqL l b rfl; exact ⟨a, vs, h1, .inl h2, h3⟩
  | tup xs => cases e; simp only [Tl] at h; obtain ⟨a, vs, h1, h2, h3⟩ := h; exact ⟨a, vs, h1, .inr h2, h3⟩
  | _ => cases e
theorem flat_tl {K : PySem.W.Frag} {H : Hp} {d : D} {v : V} (h : Tl K ct H d v) (e : flatD d = true) : flatV v = true := by
  cases d <;> first | (simp only [Tl] at h; subst h; rfl) | cases e
theorem eqF_tl {K : PySem.W.Frag} {H : Hp} {d d' : D} {v v' : V} (h : Tl K ct H d v) (h' : Tl K ct H d' v') (e : flatD d = true) (e' : flatD d' = true) : eqF d d' = eqV v v' := by
  cases d <;> cases d' <;> first | cases e; done | cases e'; done | (simp only [Tl] at h h'; subst h h'; rfl)
theorem flats_tl {K : PySem.W.Frag} {H : Hp} : ∀ {ds : List D} {vs : List V}, Tls K ct H ds vs → ds.all flatD = true → vs.all flatV = true
  | [], vs, h, _ => by simp only [Tls] at h; subst h; rfl
  | d :: ds, vs, h, e => by
    simp only [Tls] at h
    obtain ⟨v, r, rfl, t1, t2⟩ := h
    simp only [List.all_cons, Bool.and_eq_true] at e ⊢
    exact ⟨flat_tl t1 e.1, flats_tl t2 e.2⟩
theorem inF_tl {K : PySem.W.Frag} {H : Hp} {x : D} {y : V} (h : Tl K ct H x y) (e : flatD x = true) : ∀ {ds : List D} {vs : List V}, Tls K ct H ds vs → ds.all flatD = true → inF x ds = inV y vs
  | [], vs, t, _ => by simp only [Tls] at t; subst t; rfl
  | d :: ds, vs, t, q => by
    simp only [Tls] at t
    obtain ⟨v, r, rfl, t1, t2⟩ := t
    simp only [List.all_cons, Bool.and_eq_true] at q
    have ih := inF_tl h e t2 q.2
    simp only [inF, inV, List.any_cons] at ih ⊢
    rw [ih, eqF_tl t1 h q.1 e]
theorem op2_in : Op2 X ct (rIn X.K false) inD := by
  intro σ H x y d1 d2 Q lL lB t1 t2 h
  unfold inD at h
  split at h
  · rename_i xs hs
    split at h
    · rename_i hc
      obtain ⟨a, vs, rfl, q1, q2⟩ := t2.seqO lL lB hs
      refine ⟨a, vs, rfl, q1, flat_tl t1 hc.1, flats_tl q2 hc.2, ?_⟩
      have := h (.bl (inF d1 xs)) H (Same.refl H) (by simp [Tl])
      rw [inF_tl t1 hc.1 q2 hc.2] at this
      simpa using this
    · exact h.elim
  · exact h.elim
theorem op2_notin : Op2 X ct (rIn X.K true) notInD := by
  intro σ H x y d1 d2 Q lL lB t1 t2 h
  unfold notInD at h
  split at h
  · rename_i xs hs
    split at h
    · rename_i hc
      obtain ⟨a, vs, rfl, q1, q2⟩ := t2.seqO lL lB hs
      refine ⟨a, vs, rfl, q1, flat_tl t1 hc.1, flats_tl q2 hc.2, ?_⟩
      have := h (.bl (!inF d1 xs)) H (Same.refl H) (by simp [Tl])
      rw [inF_tl t1 hc.1 q2 hc.2] at this
      simpa using this
    · exact h.elim
  · exact h.elim
variable {cc : Expr} {h : Sg → Res D}
theorem chain_of {r2 r2' : R2} {r r' : D → D → Res D} (ho : Op2 X ct r2 r) (ho' : Op2 X ct r2' r') : ∀ σ H Q, eOf X ct (dChain r r' f g h) σ H Q → tChain r2 r2' (eOf X ct f) (eOf X ct g) (eOf X ct h) σ H Q := by
  rintro σ H Q ⟨Γ, j, q⟩
  refine eOf.bnd j q fun x v H1 s1 t1 j1 q1 => ?_
  refine eOf.bnd (W := Wd X ct H Q) j1 (Ok.mono s1 q1 fun _ z => z) fun y u H2 s2 t2 j2 q2 => ?_
  have t1' := t1.keep (Same.keep s2)
  refine ho σ H2 v u x y _ j2.lL j2.lB t1' t2 ?_
  have q3 : Ok X ct σ H2 ((r x y).bnd fun z => match z with
    | .bl true => (h Γ).bnd fun w => r' y w
    | .bl false => .ok (.bl false)
    | _ => .bad) (Wd X ct H Q) := Ok.mono s2 q2 fun _ z => z
  refine q3.bnd fun z _ q4 zv H3 s3 tz => ?_
  cases z with
  | bl k =>
    simp only [Tl] at tz
    refine ⟨k, tz, ?_⟩
    have j3 := j2.mono s3
    cases k with
    | false => exact iteF (q4 (.bl false) H3 ((s1.trans s2).trans s3) (by simp [Tl]))
    | true =>
      refine iteT ?_
      refine eOf.bnd (f := h) (r := fun w => r' y w) (W := Wd X ct H Q) j3 (Ok.mono s3 q4 fun _ z => z) fun w wv H4 s4 t4 j4 q5 => ?_
      exact ho' σ H4 u wv y w Q j4.lL j4.lB (t2.keep (Same.keep (s3.trans s4))) t4 (Ok.mono s4 q5 fun d z => z.mono (((s1.trans s2).trans s3).trans s4))
  | _ => exact q4.elim
theorem pdt_chain {op op' : CmpOp} {r2 r2' : R2} {r r' : D → D → Res D} (hr : OpR X (compareOp op) r2) (hr' : OpR X (compareOp op') r2') (ho : Op2 X ct r2 r) (ho' : Op2 X ct r2' r') (ha : PD X ct a f) (hb : PD X ct b g) (hc : PD X ct cc h)
    (hm : lastMarks [op, op'] [b, cc] = false := by with_unfolding_all rfl) : PDT X ct (.Compare a [op, op'] [b, cc] pos) (dT (dChain r r' f g h)) := PT.imp (pt_chain hr hr' ha hb hc hm) (tst_of (chain_of ho ho'))
theorem wdt_chain {op op' : CmpOp} {r2 r2' : R2} {r r' : D → D → Res D} (hr : OpR X (compareOp op) r2) (hr' : OpR X (compareOp op') r2') (ho : Op2 X ct r2 r) (ho' : Op2 X ct r2' r') (ha : WD X ct a f) (hb : WD X ct b g) (hc : WD X ct cc h) (hm : lastMarks [op, op'] [b, cc] = false := by with_unfolding_all rfl) : WDT X ct (.Compare a [op, op'] [b, cc] pos) (dT (dChain r r' f g h)) := ⟨pdt_chain (hr := hr) (hr' := hr') (ho := ho) (ho' := ho') (ha := ha.out) (hb := hb.out) (hc := hc.out) (hm := hm)⟩
variable {es : List Expr}
end
end L4
end
section
set_option Elab.async false
set_option linter.all false
set_option maxRecDepth 100000
namespace L4
open PySem PySem.Spec PyProof.Rows L2
section
variable {X : Cx} {ct : Ct} {a b e : Expr} {f g : Sg → Res D} {pos : Pos}
theorem Tl.dict {K : PySem.W.Frag} {H : Hp} {d : D} {v : V} {ks : List Key} {xs : List D} (l : Same ct.f.L H) (b : Same ct.B H) (h : Tl K ct H d v) (e : dcO d = some (ks, xs)) : ∃ a vs, v = .ref a ∧ Rd H a (.dK (ks.zip vs)) ∧ ks.length = vs.length ∧ Tls K ct H xs vs := by
  cases d with
  | dic ks' xs' =>
    cases e
    simp only [Tl] at h
    obtain ⟨a, vs, h1, ⟨o, h2⟩, h3, h4⟩ := h
    exact ⟨a, vs, h1, .inr ⟨o, h2⟩, h3, h4⟩
  | bdc t ks' xs' =>
    cases e
    simp only [Tl] at h
    obtain ⟨a, vs, h1, h2, h3, h4⟩ := h
    refine ⟨a, vs, h1, .inl ?_, h3, h4⟩
    cases t with
    | true => exact b a _ h2
    | false => exact l a _ h2
  | _ => cases e
end
section
variable {X : Cx} {c : Cf} {r ix e : Expr} {i : Nat} {g : Sg → Res (List Nat)} {f fk : Sg → Res D} {pos : Pos} {Γ : Sg} {σ : St} {H : Hp}
end
section
variable {X : Cx} {ct : Ct} {pos : Pos} {e : Expr} {f : Sg → Res D} {fa : Sg → Res (List D)} {keys : List (Option Expr)} {values : List Expr} {ks : List Key}
end
end L4
end
section
set_option Elab.async false
set_option linter.all false
set_option maxRecDepth 100000
namespace L4
open PySem PySem.Spec PyProof.Rows L2
section
variable {X : Cx} {c : Cf} {tg iter : Expr} {fi : Sg → Res (List D)} {t : Tg} {B : Sg → Out} {body : List Stmt} {pos : Pos}
theorem pds_forI (g : Good X) (hi : PID X c.z tg iter fi) (hg : PGD X c.z tg t) (hb : PDSs X c body B) (hs : ∀ x, foldedSetIterable iter X.env x = pure x := by intro _; rfl) : PDS X c (.For tg iter body [] pos) (sForI fi t B) := by
  refine PS.imp (ps_for g.po g.calm hi hg hb hs) fun E σ H ⟨Γ, j, h⟩ => ⟨Γ, j, Fn.ok j h fun xs _ q J H' s it => ?_⟩
  obtain ⟨P, p0, pk, pg, pst⟩ := it
  have h' : Fn X c H' (forD t B xs Γ) E := q.mono (Same.keep s)
  refine ⟨fun i m σ1 H1 => i + m = xs.length ∧ P H1 ∧ ∃ Γ1, Jx X c.z Γ1 σ1 H1 ∧ Keep c.cb H' H1 ∧ forD t B (xs.drop i) Γ1 = forD t B xs Γ, ⟨xs.length, by simp, p0, Γ, j.mono s, Keep.refl H', rfl⟩, ?_⟩
  rintro i m σ1 H1 ⟨hm, p1, Γ1, j1, k1, e1⟩
  cases hd : xs[i]? with
  | none =>
    have hl : xs.length ≤ i := by simpa using hd
    refine .inl ⟨pst i H1 p1 hl, ?_⟩
    rw [List.drop_eq_nil_of_le hl] at e1
    rw [← e1] at h'
    exact h' σ1 H1 k1 j1
  | some d =>
    obtain ⟨g1, g2⟩ := pg i d H1 p1 hd
    have hl : i < xs.length := (List.getElem?_eq_some_iff.mp hd).1
    refine .inr ⟨g1, fun σ3 H3 => P H3 ∧ ∃ Γ3, Jx X c.z Γ3 σ3 H3 ∧ Keep c.cb H' H3 ∧ forD t B (xs.drop (i + 1)) Γ3 = forD t B xs Γ, fun σ3 H3 ⟨p3, z⟩ => ⟨m - 1, by omega, by omega, p3, z⟩, fun x H2 y => ?_⟩
    obtain ⟨sm2, td⟩ := g2 x H2 y
    have k2 : Keep c.cb H' H2 := k1.trans (Same.keep sm2)
    rw [drop_one hd] at e1
    cases e2 : t d Γ1 with
    | none => exact (no_turn e2 e1 h').elim
    | some Γ2 => exact ⟨Γ1, d, Γ2, j1.mono sm2, td, e2, fun σ2 j2 => ⟨Γ2, j2, turn_ok k2 e2 e1 h' fun Γ3 σ3 H3 k3 j3 e3 => ⟨pk H' H3 p0 k3 j3.lL j3.lB, Γ3, j3, k3, e3⟩⟩⟩
theorem wds_forI (g : Good X) (hi : WID X c.z tg iter fi) (hg : WGD X c.z tg t) (hb : WDSs X c body B) (hs : ∀ x, foldedSetIterable iter X.env x = pure x := by intro _; rfl) : WDS X c (.For tg iter body [] pos) (sForI fi t B) := ⟨pds_forI (g := g) (hi := hi.out) (hg := hg.out) (hb := hb.out) (hs := hs)⟩
end
section
variable {X : Cx} {ct : Ct} {a b e : Expr} {f g : Sg → Res D} {fa : Sg → Res (List D)} {p pos : Pos}
theorem inA_of (x y : D) : (∃ i j, x = .str i ∧ y = .str j) ∨ inA x y = .bad ∨ inA x y = inD x y := by
  cases y with
  | str j => cases x <;> first | exact .inl ⟨_, _, rfl, rfl⟩ | exact .inr (.inl rfl)
  | _ => exact .inr (.inr rfl)
theorem notInA_of (x y : D) : (∃ i j, x = .str i ∧ y = .str j) ∨ notInA x y = .bad ∨ notInA x y = notInD x y := by
  cases y with
  | str j => cases x <;> first | exact .inl ⟨_, _, rfl, rfl⟩ | exact .inr (.inl rfl)
  | _ => exact .inr (.inr rfl)
theorem op2_inA : Op2 X ct (fun x y H Q => (∃ i j, x = .str i ∧ y = .str j ∧ Q (.bl (!(Builtin.Str.occurrences j i 0 j.length 1).isEmpty)) H) ∨ rIn X.K false x y H Q) inA := by
  intro σ H x y d1 d2 Q l b t1 t2 h
  rcases inA_of d1 d2 with ⟨i, j, rfl, rfl⟩ | e | e
  · simp only [Tl] at t1 t2
    exact .inl ⟨i, j, t1, t2, h _ H (Same.refl H) (by simp [Tl, inStr])⟩
  · rw [e] at h; exact h.elim
  · rw [e] at h; exact .inr (op2_in σ H x y d1 d2 Q l b t1 t2 h)
theorem op2_notinA : Op2 X ct (fun x y H Q => (∃ i j, x = .str i ∧ y = .str j ∧ Q (.bl (!(!(Builtin.Str.occurrences j i 0 j.length 1).isEmpty))) H) ∨ rIn X.K true x y H Q) notInA := by
  intro σ H x y d1 d2 Q l b t1 t2 h
  rcases notInA_of d1 d2 with ⟨i, j, rfl, rfl⟩ | e | e
  · simp only [Tl] at t1 t2
    exact .inl ⟨i, j, t1, t2, h _ H (Same.refl H) (by simp [Tl, inStr])⟩
  · rw [e] at h; exact h.elim
  · rw [e] at h; exact .inr (op2_notin σ H x y d1 d2 Q l b t1 t2 h)
theorem pd_inA (ha : PD X ct a f) (hb : PD X ct b g) (hm : behindInMarks .In b = false := by rfl) : PD X ct (.Compare a [.In] [b] pos) (dOp inA f g) := pd_cmp (op_in_str.or op_in_seq) op2_inA ha hb hm
theorem wd_inA (ha : WD X ct a f) (hb : WD X ct b g) (hm : behindInMarks .In b = false := by rfl) : WD X ct (.Compare a [.In] [b] pos) (dOp inA f g) := ⟨pd_inA (ha := ha.out) (hb := hb.out) (hm := hm)⟩
theorem pdt_notinA (ha : PD X ct a f) (hb : PD X ct b g) (hm : behindInMarks .NotIn b = false := by rfl) : PDT X ct (.Compare a [.NotIn] [b] pos) (dT (dOp notInA f g)) := pdt_cmp (op_notin_str.or op_notIn_seq) op2_notinA ha hb hm
theorem wdt_notinA (ha : WD X ct a f) (hb : WD X ct b g) (hm : behindInMarks .NotIn b = false := by rfl) : WDT X ct (.Compare a [.NotIn] [b] pos) (dT (dOp notInA f g)) := ⟨pdt_notinA (ha := ha.out) (hb := hb.out) (hm := hm)⟩
def rSlS : V → Option Int → Option Int → Hp → VK → Prop := fun x lo hi H Q => ∃ z, x = .str z ∧ z.length ≤ sizeLine ∧ Q (.str (Txt.slice z lo hi)) H
theorem sl_str : SlR X rSlS := by
  intro pins s σ H x v vl vu lo hi sl Q I rx hs pl pu h
  obtain ⟨z, rfl, hz, q⟩ := h
  obtain ⟨t, rfl⟩ := rx
  cases pl with
  | none =>
    cases pu with
    | none => exact ⟨"str", _, F.slot_str_getitem.lookup, typeIs_str _ _ _, wpAny_getItem_str_slice (l := none) (u := none) (st := none) hs rfl (post_val_or_str ⟨Nat.le_trans (Txt.slice_le z _ _) hz, fun t' k => ⟨.str _, H, I.tok _, ⟨t', rfl⟩, q⟩⟩)⟩
    | int j uj => exact ⟨"str", _, F.slot_str_getitem.lookup, typeIs_str _ _ _, wpAny_getItem_str_slice (l := none) (u := some (j, uj)) (st := none) hs rfl (post_val_or_str ⟨Nat.le_trans (Txt.slice_le z _ _) hz, fun t' k => ⟨.str _, H, I.tok _, ⟨t', rfl⟩, q⟩⟩)⟩
  | int i ui =>
    cases pu with
    | none => exact ⟨"str", _, F.slot_str_getitem.lookup, typeIs_str _ _ _, wpAny_getItem_str_slice (l := some (i, ui)) (u := none) (st := none) hs rfl (post_val_or_str ⟨Nat.le_trans (Txt.slice_le z _ _) hz, fun t' k => ⟨.str _, H, I.tok _, ⟨t', rfl⟩, q⟩⟩)⟩
    | int j uj => exact ⟨"str", _, F.slot_str_getitem.lookup, typeIs_str _ _ _, wpAny_getItem_str_slice (l := some (i, ui)) (u := some (j, uj)) (st := none) hs rfl (post_val_or_str ⟨Nat.le_trans (Txt.slice_le z _ _) hz, fun t' k => ⟨.str _, H, I.tok _, ⟨t', rfl⟩, q⟩⟩)⟩
theorem pd_cutS {lo hi : Option Expr} {l u : Sg → Res (Option Int)} {p2 : Pos} (he : PD X ct e f) (hl : PDO X ct lo l) (hu : PDO X ct hi u) : PD X ct (.Subscript e (.Slice lo hi none p2) pos) (dCutS f l u) := by
  refine PE.imp (pe_slice sl_str he hl hu) fun σ H Q ⟨Γ, j, h⟩ => ?_
  refine eOf.bnd j h fun d v H1 s1 t1 j1 h1 => ?_
  refine ⟨Γ, j1, (Ok.mono s1 h1 fun _ z => z).bnd (W := Wd X ct H Q) fun lo _ h2 H2 s2 => ?_⟩
  refine ⟨Γ, j1.mono s2, (Ok.mono s2 h2 fun _ z => z).bnd (W := Wd X ct H Q) fun hi _ h3 H3 s3 => ?_⟩
  cases d with
  | str x =>
    simp only [Tl] at t1
    by_cases hx : x.length ≤ sizeLine
    · simp only [hx, if_true] at h3
      exact ⟨x, t1, hx, h3 _ H3 ((s1.trans s2).trans s3) (by simp [Tl])⟩
    · simp only [hx, if_false] at h3; exact h3.elim
  | _ => exact h3.elim
theorem wd_cutS {lo hi : Option Expr} {l u : Sg → Res (Option Int)} {p2 : Pos} (he : WD X ct e f) (hl : WDO X ct lo l) (hu : WDO X ct hi u) : WD X ct (.Subscript e (.Slice lo hi none p2) pos) (dCutS f l u) := ⟨pd_cutS (he := he.out) (hl := hl.out) (hu := hu.out)⟩
end
section
variable {X : Cx} {ct : Ct} {x : Str} {p pos : Pos} {C a : Addr} {cn : String}
theorem tl_const {K : PySem.W.Frag} {H : Hp} {ds : List D} {vs : List V} {o : Obj} {its : Array Value} {n : Nat} (hl : K.lookup a = some o) (hc : o.cls = .type "tuple") (hd : o.data = .seq its n) (hz : its.size ≤ sizeLine) (r : Vals vs its.toList) (t : Tls K ct H ds vs) : Tl K ct H (.tup ds) (.ref a) := by
  simp only [Tl]
  exact ⟨a, vs, rfl, .inr ⟨o, its, n, hl, hc, hd, hz, r⟩, t⟩
def GlT (K : PySem.W.Frag) (u : Value) (d : D) : Prop := ∃ v : V, RelV v u ∧ ∀ (ct : Ct) (H : Hp), Tl K ct H d v
theorem pd_globD {u : Value} {d : D} (hm : X.mg x = some u) (ht : GlT X.K u d) (hg : Gl X x := by rfl) (hd : (x == ("__debug__" : Str)) = false := by decide) : PD X ct (.Name x pos) (dC d) := by
  obtain ⟨v, r, t⟩ := ht
  exact pd_glob (v := v) hg hm r (fun H => t ct H) hd
theorem wd_globD {u : Value} {d : D} (hm : X.mg x = some u) (ht : GlT X.K u d) (hg : Gl X x := by rfl) (hd : (x == ("__debug__" : Str)) = false := by decide) : WD X ct (.Name x pos) (dC d) := ⟨pd_globD (hm := hm) (ht := ht) (hg := hg) (hd := hd)⟩
theorem glt_int {K : PySem.W.Frag} {i : Int} {t : Tok} : GlT K (.int i t) (.int i) := ⟨.int i, ⟨t, rfl⟩, fun _ _ => by simp [Tl]⟩
theorem glt_str {K : PySem.W.Frag} {i : Str} {t : Tok} : GlT K (.str i t) (.str i) := ⟨.str i, ⟨t, rfl⟩, fun _ _ => by simp [Tl]⟩
def GlTs (K : PySem.W.Frag) (us : List Value) (ds : List D) : Prop := ∃ vs : List V, Vals vs us ∧ ∀ (ct : Ct) (H : Hp), Tls K ct H ds vs
theorem glts_nil {K : PySem.W.Frag} : GlTs K [] [] := ⟨[], .nil, fun _ _ => Tls.nil⟩
theorem glts_cons {K : PySem.W.Frag} {u : Value} {us : List Value} {d : D} {ds : List D} (h : GlT K u d) (t : GlTs K us ds) : GlTs K (u :: us) (d :: ds) := by
  obtain ⟨v, r, q⟩ := h
  obtain ⟨vs, rs, qs⟩ := t
  exact ⟨v :: vs, .cons r rs, fun ct H => Tls.cons (q ct H) (qs ct H)⟩
theorem glt_tup {K : PySem.W.Frag} {us : List Value} {ds : List D} {od : Option Addr} {sl : Array (Option Value)} {n : Nat} (hl : K.lookup a = some ⟨.type "tuple", od, .seq us.toArray n, sl⟩) (hz : us.length ≤ 1000) (h : GlTs K us ds) : GlT K (.ref a) (.tup ds) := by
  obtain ⟨vs, rs, qs⟩ := h
  exact ⟨.ref a, rfl, fun ct H => tl_const hl rfl rfl (by rw [sizeLine_eq]; simp; omega) (by simpa using rs) (qs ct H)⟩
structure Mk0 (K : PySem.W.Frag) (C : Addr) : Prop where
  makes : PySem.W.makesIn K C = true
  init : PySem.W.findIn K (.ref C) "__init__" = some (some (.builtin "object.__init__"))
  kp : PySem.W.keepIn K (.ref C) = true
theorem pd_make0 (Mc : Mk0 X.K C) (hcc : ct.f.cb.cls cn = some (C, [])) (hm : X.mg x = some (.ref C)) (hg : Gl X x := by rfl) (hdb : (x == ("__debug__" : Str)) = false := by decide) : PD X ct (.Call (.Name x p) [] [] pos) (dC (.obj cn [] [])) := by
  intro pins s σ H Q I ⟨Γ, j, h⟩
  refine wpAny_Call_Name_kw (ld_glob I hg hm ?_ hdb)
  refine PySem.W.callWith_K0 I.kIn Mc.kp (wpAny_call ?_)
  have hx0 : H (s.heap.objs.size + 1) = none := I.hok.fresh (Nat.le_succ _)
  have hd0 : H s.heap.objs.size = none := I.hok.fresh (Nat.le_refl _)
  have hne : s.heap.objs.size ≠ s.heap.objs.size + 1 := Nat.ne_of_lt (Nat.lt_succ_self _)
  have I2 := Inv.made (C := C) I
  have smm : Same H (upd (upd H s.heap.objs.size (.own (s.heap.objs.size + 1))) (s.heap.objs.size + 1) (.ins C s.heap.objs.size [])) := (same_new hd0 _).trans (same_new (by rw [upd_ne (Ne.symm hne)]; exact hx0) _)
  have z : EP X pins σ Q (.ref (s.heap.objs.size + 1)) { s with heap := (s.heap.push PySem.W.emptyDict).push (PySem.W.instObj C s.heap.objs.size) } := by
    refine ⟨.ref (s.heap.objs.size + 1), _, I2, rfl, h _ _ smm ?_⟩
    simp only [Tl]
    exact ⟨_, C, s.heap.objs.size, [], rfl, hcc, upd_same, rfl, Tls.nil⟩
  obtain ⟨hh, gs, dd, t, os⟩ := s
  have Y := PySem.W.makes_of (M := model X.prog X.w) I.kIn Mc.makes
  refine PySem.W.make_core Y (PySem.W.looks_findIn I.kIn Mc.init) (fun self => PySem.W.Looks.of_pure (PySem.W.oi_bind self)) (.inr ⟨rfl, rfl⟩) ?_
  have e1 : ((hh.push PySem.W.emptyDict).push (PySem.W.instObj C hh.objs.size)).get? (hh.objs.size + 1) = some (PySem.W.instObj C hh.objs.size) := by
    have := Heap.get?_push_size (hh.push PySem.W.emptyDict) (o := PySem.W.instObj C hh.objs.size) rfl
    rwa [Heap.size_push] at this
  have t1 : PySem.W.Looks (model X.prog X.w) ((hh.push PySem.W.emptyDict).push (PySem.W.instObj C hh.objs.size)) (typeOf (.ref (hh.objs.size + 1))) (.ref C) := (PySem.W.Looks.ld e1).andThen .now
  have t2 : PySem.W.Looks (model X.prog X.w) ((hh.push PySem.W.emptyDict).push (PySem.W.instObj C hh.objs.size)) (isInstance (.ref (hh.objs.size + 1)) (.type "object")) true := t1.andThen (Y.top.keeps fun b o e => Heap.get?_push_of_some _ (Heap.get?_push_of_some _ e))
  refine codeAny_call_builtin PySem.W.oi_plain PySem.W.entry_oi (@PySem.W.check_slot (model X.prog X.w) _ _ _ "object.__init__" "object" "__init__" (.ref (hh.objs.size + 1)) [] [] _ PySem.W.oi_kind PySem.W.oi_split t2 (PySem.W.oi_args (.ref (hh.objs.size + 1))) ?_)
  exact wpAny_of_eq (PySem.W.oi_run _) (And.intro rfl z)
theorem wd_make0 (Mc : Mk0 X.K C) (hcc : ct.f.cb.cls cn = some (C, [])) (hm : X.mg x = some (.ref C)) (hg : Gl X x := by rfl) (hdb : (x == ("__debug__" : Str)) = false := by decide) : WD X ct (.Call (.Name x p) [] [] pos) (dC (.obj cn [] [])) := ⟨pd_make0 (Mc := Mc) (hcc := hcc) (hm := hm) (hg := hg) (hdb := hdb)⟩
end
section
variable {X : Cx} {c : Cf} {e : Expr} {f : Sg → Res D} {p : Sg → Res Bool} {F G B : Sg → Out} {pos : Pos} {body : List Stmt}
theorem pds_exprZ (he : PD X c.z e f) (hs : swapsWith e none pos.line X.env = pure false := by rfl) : PDS X c (.Expr e pos) (sDrop f) := by
  intro pins s σ H E I ⟨Γ, j, h⟩
  exact ps_expr he hs pins s σ H E I ⟨Γ, j, Fn.ok j h fun d _ q v H' s t => q σ H' (Same.keep s) (j.mono s)⟩
theorem wds_exprZ (he : WD X c.z e f) (hs : swapsWith e none pos.line X.env = pure false := by rfl) : WDS X c (.Expr e pos) (sDrop f) := ⟨pds_exprZ (he := he.out) (hs := hs)⟩
theorem pds_ifZ {ce : Expr} {a b : List Stmt} (hc : PDT X c.z ce p) (ha : PDSs X c a F) (hb : PDSs X c b G) : PDS X c (.If ce a b pos) (sIf p F G) := by
  intro pins s σ H E I ⟨Γ, j, h⟩
  refine ps_if hc ha hb pins s σ H E I ⟨Γ, j, Fn.ok j h fun x _ q H' s => ?_⟩
  cases x with
  | true => exact iteT ⟨Γ, j.mono s, Fn.mono (Same.keep s) q⟩
  | false => exact iteF ⟨Γ, j.mono s, Fn.mono (Same.keep s) q⟩
theorem wds_ifZ {ce : Expr} {a b : List Stmt} (hc : WDT X c.z ce p) (ha : WDSs X c a F) (hb : WDSs X c b G) : WDS X c (.If ce a b pos) (sIf p F G) := ⟨pds_ifZ (hc := hc.out) (ha := ha.out) (hb := hb.out)⟩
theorem pds_whileZ (n : Nat) {ce : Expr} (g : Good X) (hc : PDT X c.z ce p) (hb : PDSs X c body B) : PDS X c (.While ce body [] pos) (whileD p B n) := by
  refine PS.imp (ps_while g.po hc hb) fun E σ H ⟨Γ, j, h⟩ => ?_
  refine ⟨fun m σ1 H1 => ∃ Γ1, Jx X c.z Γ1 σ1 H1 ∧ Keep c.cb H H1 ∧ whileD p B m Γ1 = whileD p B n Γ, ⟨n, Γ, j, Keep.refl H, rfl⟩, ?_⟩
  rintro m σ1 H1 ⟨Γ1, j1, k1, e1⟩
  cases m with
  | zero => rw [← e1] at h; exact h.elim
  | succ m =>
    refine ⟨Γ1, j1, ?_⟩
    rw [← e1] at h
    have h2 := h.mono k1
    simp only [whileD] at h2
    refine Fn.ok j1 h2 fun x ec q H2 s2 => ?_
    cases x with
    | false => exact iteF (q σ1 H2 (Same.keep s2) (j1.mono s2))
    | true =>
      refine iteT ⟨fun σ3 H3 => ∃ Γ3, Jx X c.z Γ3 σ3 H3 ∧ Keep c.cb H H3 ∧ whileD p B m Γ3 = whileD p B n Γ, fun σ3 H3 z => ⟨m, Nat.lt_succ_self m, z⟩, Γ1, j1.mono s2, ?_⟩
      simp only [if_true] at q
      simp only [whileD, ec, oE_ok, if_true] at e1
      have k2 : Keep c.cb H H2 := k1.trans (Same.keep s2)
      cases eb : B Γ1 with
      | nx Γ3 => rw [eb] at e1; exact fun σ3 H3 k3 j3 => ⟨Γ3, j3, k2.trans k3, e1⟩
      | ct Γ3 => rw [eb] at e1; exact fun σ3 H3 k3 j3 => ⟨Γ3, j3, k2.trans k3, e1⟩
      | bk Γ3 => rw [eb] at q; exact fun σ3 H3 k3 j3 => q σ3 H3 ((Same.keep s2).trans k3) j3
      | rt d => rw [eb] at q; exact q
      | rtm d => rw [eb] at q; exact q
      | rtG d Γ3 => rw [eb] at q; exact q
      | rtmG d Γ3 => rw [eb] at q; exact q
      | err x Γ3 => rw [eb] at q; exact fun σ3 H3 e s' k3 j3 r => q σ3 H3 e s' ((Same.keep s2).trans k3) j3 r
      | bad => rw [eb] at q; exact q
theorem wds_whileZ (n : Nat) {ce : Expr} (g : Good X) (hc : WDT X c.z ce p) (hb : WDSs X c body B) : WDS X c (.While ce body [] pos) (whileD p B n) := ⟨pds_whileZ (n := n) (g := g) (hc := hc.out) (hb := hb.out)⟩
end
section
variable {X : Cx} {ct : Ct}
theorem o2_le : Op2 X ct (rI (fun _ _ => True) fun i j => .bl (decide (i ≤ j))) leI := op2_int (fun _ _ _ => trivial) fun _ _ _ _ _ => by simp [Tl]
end
theorem tlook_cons {α : Type} {a c : String} {A C : α} {r : List (String × α)} (h : ((a, A) :: r).lookup c = some C) : (c = a ∧ C = A) ∨ r.lookup c = some C := by
  rw [List.lookup_cons] at h
  by_cases q : (c == a) = true
  · rw [q] at h
    exact .inl ⟨by simpa using q, (Option.some.inj h).symm⟩
  · rw [Bool.not_eq_true] at q
    rw [q] at h
    exact .inr h
theorem tlook_mem {α : Type} {c : String} {C : α} : ∀ {r : List (String × α)}, r.lookup c = some C → (c, C) ∈ r
  | [], h => by cases h
  | (a, A) :: r, h => by
    rcases tlook_cons h with ⟨rfl, rfl⟩ | h
    · exact List.mem_cons_self ..
    · exact List.mem_cons_of_mem _ (tlook_mem h)
abbrev ClsTb := List (String × (Addr × List Str))
abbrev cbOf (E : List (String × Addr)) (T : ClsTb) : Cb := ⟨fun c => E.lookup c, fun c => T.lookup c, fun c => (T.lookup c).map (·.1)⟩
theorem ins_of {T : ClsTb} {c : String} {C : Addr} (h : (T.lookup c).map (·.1) = some C) : ∃ ns, T.lookup c = some (C, ns) := by
  cases q : T.lookup c with
  | none => rw [q] at h; cases h
  | some x => rw [q] at h; cases h; exact ⟨x.2, rfl⟩
theorem nodup_one {T : ClsTb} (hn : (T.map (·.2.1)).Nodup) {a b : String × (Addr × List Str)} (ha : a ∈ T) (hb : b ∈ T) (e : a.2.1 = b.2.1) : a = b := by
  induction T with
  | nil => cases ha
  | cons x r ih =>
    simp only [List.map_cons, List.nodup_cons, List.mem_map, not_exists, not_and] at hn
    rcases List.mem_cons.mp ha with ea | ha'
    · rcases List.mem_cons.mp hb with eb | hb'
      · rw [ea, eb]
      · rw [ea] at e; exact absurd e.symm (hn.1 b hb')
    · rcases List.mem_cons.mp hb with eb | hb'
      · rw [eb] at e; exact absurd e (hn.1 a ha')
      · exact ih hn.2 ha' hb'
theorem look_map {T : ClsTb} {c : String} {full : List Str} : ((T.map fun e => (e.1, e.2.2)).lookup c = some full) → ∃ C, T.lookup c = some (C, full) := by
  induction T with
  | nil => intro h; cases h
  | cons x r ih =>
    intro h
    obtain ⟨a, A, ns⟩ := x
    by_cases q : (c == a) = true
    · rw [List.map_cons, List.lookup_cons] at h
      simp only [q] at h
      cases h
      exact ⟨A, by rw [List.lookup_cons, q]⟩
    · rw [Bool.not_eq_true] at q
      rw [List.map_cons, List.lookup_cons] at h
      simp only [q] at h
      obtain ⟨C, e⟩ := ih h
      exact ⟨C, by rw [List.lookup_cons, q]; exact e⟩
theorem ftOk_of {E : List (String × Addr)} {T : ClsTb} (hn : (T.map (·.2.1)).Nodup) : FtOk (cbOf E T) (T.map fun e => (e.1, e.2.2)) := by
  intro c C full hi hf c' ns' hc
  obtain ⟨ns, h1⟩ := ins_of hi
  obtain ⟨C2, h2⟩ := look_map hf
  rw [h1] at h2
  cases h2
  have m1 := tlook_mem h1
  have m2 := tlook_mem (show T.lookup c' = some (C, ns') from hc)
  have := nodup_one hn m1 m2 rfl
  cases this; rfl
theorem fa_of {K : PySem.W.Frag} {f : Str} {E : List (String × Addr)} {T : ClsTb} (h : ∀ e ∈ T, Cls K e.2.1 ∧ NoAttr K e.2.1 f) : FA K (cbOf E T) f := by
  intro C hc
  rcases hc with ⟨c, hc⟩ | ⟨c, ns, hc⟩
  · obtain ⟨ns, h1⟩ := ins_of hc
    exact h _ (tlook_mem h1)
  · exact h _ (tlook_mem (show T.lookup c = some (C, ns) from hc))
theorem al_nil {α : Type} {p : α → Prop} : ∀ e ∈ ([] : List α), p e := fun e h => nomatch h
theorem al_cons {α : Type} {p : α → Prop} {a : α} {r : List α} (h : p a) (t : ∀ e ∈ r, p e) : ∀ e ∈ a :: r, p e := fun e he => by
  rcases List.mem_cons.mp he with rfl | he
  · exact h
  · exact t e he
theorem ex_all {E : List (String × Addr)} {P : String → Addr → Prop} (h : ∀ e ∈ E, P e.1 e.2) {c : String} {C : Addr} (hc : E.lookup c = some C) : P c C := h _ (tlook_mem hc)
theorem in_all {T : ClsTb} {P : String → Addr → Prop} (h : ∀ e ∈ T, P e.1 e.2.1) {c : String} {C : Addr} {ns : List Str} (hc : T.lookup c = some (C, ns)) : P c C := h _ (tlook_mem hc)
theorem lk1 {mt : List (String × List String)} {c : String} {l : List String} (e : mt.lookup c = some l) {P : List String → Prop} (h : P l) : ∀ ks, mt.lookup c = some ks → P ks := fun ks q => by
  rw [e] at q; cases q; exact h
theorem hb1 {f : String → Option Bool} {c : String} {b : Bool} (e : f c = some b) {P : Bool → Prop} (h : P b) : ∀ b', f c = some b' → P b' := fun b' q => by
  rw [e] at q; cases q; exact h
theorem mt1 {cb : Cb} {c : String} {C0 : Addr} {ns0 : List Str} (q : cb.cls c = some (C0, ns0)) {P : Addr → List Str → Prop} (h : P C0 ns0) : ∀ C ns, cb.cls c = some (C, ns) → P C ns := fun C ns z => by
  rw [q] at z; cases z; exact h
theorem mt_all {X : Cx} {cb : Cb} {m : Str} {n : Nat} {tbl : List (String × (List Slot → Ans))} (h : ∀ e ∈ tbl, ∀ C ns, cb.cls e.1 = some (C, ns) →
    ∃ (k : Nat) (f : Addr) (fd : FuncData) (ps : List Str), Cls X.K C ∧ Meth X.K C m f ∧ FnD X.prog X.w X.K X.mg X.base cb k f fd ps e.2 ∧ Room k X.A ∧ Binds X.K fd ps [] ∧ ps.length = n + 1 ∧ m ∉ ns) : MtOk X cb m n tbl :=
  fun c C ns F hc hF => h _ (tlook_mem hF) C ns hc
theorem len0 {us : List Value} (h : us.length = 0) : us = [] := List.eq_nil_of_length_eq_zero h
theorem len1 {us : List Value} (h : us.length = 1) : ∃ u0, us = [u0] := by
  cases us with
  | nil => cases h
  | cons a r => obtain rfl := len0 (us := r) (Nat.succ.inj h); exact ⟨a, rfl⟩
theorem len2 {us : List Value} (h : us.length = 2) : ∃ u0 u1, us = [u0, u1] := by
  cases us with
  | nil => cases h
  | cons a r => obtain ⟨v0, rfl⟩ := len1 (us := r) (Nat.succ.inj h); exact ⟨a, v0, rfl⟩
theorem len3 {us : List Value} (h : us.length = 3) : ∃ u0 u1 u2, us = [u0, u1, u2] := by
  cases us with
  | nil => cases h
  | cons a r => obtain ⟨v0, v1, rfl⟩ := len2 (us := r) (Nat.succ.inj h); exact ⟨a, v0, v1, rfl⟩
theorem len4 {us : List Value} (h : us.length = 4) : ∃ u0 u1 u2 u3, us = [u0, u1, u2, u3] := by
  cases us with
  | nil => cases h
  | cons a r => obtain ⟨v0, v1, v2, rfl⟩ := len3 (us := r) (Nat.succ.inj h); exact ⟨a, v0, v1, v2, rfl⟩
end L4
end
section
set_option Elab.async false
set_option linter.all false
set_option maxRecDepth 100000
namespace L4
open PySem PySem.Spec PyProof.Rows L2 PySem.W
def kRun {α : Type} (lt : Nat → Nat → Bool) : KasT α → α
  | .ret a => a
  | .ask i j k => kRun lt (k (lt i j))
def kIn {α : Type} (n : Nat) : KasT α → Prop
  | .ret _ => True
  | .ask i j k => i < n ∧ j < n ∧ i ≠ j ∧ ∀ b, kIn n (k b)
theorem kas_of_run {α : Type} {n : Nat} {lt : Nat → Nat → Bool} {cmp : Nat → Nat → (Bool → Shared → Prop) → Shared → Prop} {s : Shared} {Q : α → Shared → Prop} (hc : ∀ i j C, i < n → j < n → i ≠ j → C (lt i j) s → cmp i j C s) :
    ∀ (t : KasT α), kIn n t → Q (kRun lt t) s → t.kasWp cmp Q s
  | .ret a, _, h => h
  | .ask i j k, hi, h => hc i j _ hi.1 hi.2.1 hi.2.2.1 (kas_of_run hc (k (lt i j)) (hi.2.2.2 _) h)
def sortIx (lt : Nat → Nat → Bool) (n : Nat) : List Nat := if n < 2 then List.range n else (kRun lt (kas_sort n)).toList
theorem kas_sort2 : kas_sort 2 = .ask 1 0 (fun c => if c = true then .ret #[1, 0] else .ret #[0, 1]) := by
  show KasT.ask 1 0 _ = KasT.ask 1 0 _
  congr 1; funext c; cases c <;> rfl
theorem kIn_two : kIn 2 (kas_sort 2) := by
  rw [kas_sort2]
  exact ⟨by decide, by decide, by decide, fun b => by cases b <;> exact trivial⟩
section
variable {prog : Program} {w : World} {A : Around} {E : Value → Shared → Prop} {s : Shared}
theorem range_getD (vs : List Value) : ((List.range vs.length).map fun i => vs.getD i Value.none) = vs := by
  apply List.ext_getElem
  · simp
  · intro i h1 h2
    simp at h1
    simp [h1]
theorem list_sort_pure {a : Addr} {vs : List Value} {n : Nat} {lt : Nat → Nat → Bool} {κ : SortKind} {P : PySem.Fin → Shared → Prop} (ho : s.heap.get? a = some (seqObj "list" vs.toArray n)) (h64 : vs.length < 64) (hw : 2 ≤ vs.length → kIn vs.length (kas_sort vs.length))
    (hk : 2 ≤ vs.length → ∀ (h' : Heap) (Q : SortKind → Shared → Prop), (∀ b o, b ≠ a → s.heap.get? b = some o → h'.get? b = some o) → Q κ { s with heap := h' } → wpAny (model prog w) A (keyKind' vs.toArray) Q E { s with heap := h' })
    (hc : ∀ (h' : Heap) (i j : Nat) (Q : Bool → Shared → Prop), (∀ b o, b ≠ a → s.heap.get? b = some o → h'.get? b = some o) → 2 ≤ vs.length → i < vs.length → j < vs.length → i ≠ j → Q (lt i j) { s with heap := h' } → wpAny (model prog w) A (keyLt' κ (vs.getD i .none) (vs.getD j .none)) Q (fun _ _ => False) { s with heap := h' })
    (h : ∀ h' e, (∀ b o, b ≠ a → s.heap.get? b = some o → h'.get? b = some o) → h'.get? a = some (seqObj "list" ((sortIx lt vs.length).map fun i => vs.getD i Value.none).toArray e) → (sortIx lt vs.length).length = vs.length → P (.done (.ret .none)) { s with heap := h' }) :
    wpAny (model prog w) A (Builtin.«list.sort» ⟨[.ref a], []⟩) P E s := by
  rw [list_sort_plain]
  have ha : a < s.heap.objs.size := Heap.lt_size ho
  refine wpAny_bind (listItems_at ho rfl ?_)
  refine wpAny_bind (listUpdate_at ho rfl ?_ (by rw [List.size_toArray, sizeLine_eq]; omega) (Nat.zero_le _))
  obtain ⟨e1, ho1⟩ : ∃ e1, (s.heap.update a (Obj.mapSeq fun _ => #[])).get? a = some (seqObj "list" #[] e1) := ⟨_, get?_update_seq ho (fun _ => #[])⟩
  refine wpAny_bind (seqEpoch_at ho1 rfl ?_)
  refine wpAny_bind (wpAny_newTuple ?_ (by show vs.length ≤ _; rw [sizeLine_eq]; omega))
  refine wpAny_bind (wpAny_newList ?_ (Nat.zero_le _))
  refine wpAny_holding ?_
  have s1 := Heap.SameBut.update s.heap a (Obj.mapSeq fun _ => (#[] : Array Value))
  have ho6 : (((s.heap.update a (Obj.mapSeq fun _ => #[])).push (seqObj "tuple" vs.toArray 0)).push (seqObj "list" #[] 0)).get? a = some (seqObj "list" #[] e1) := Heap.get?_push_of_some _ (Heap.get?_push_of_some _ ho1)
  have kp : ∀ b o, b ≠ a → s.heap.get? b = some o → (((s.heap.update a (Obj.mapSeq fun _ => (#[] : Array Value))).push (seqObj "tuple" vs.toArray 0)).push (seqObj "list" #[] 0)).get? b = some o := fun b o hb q =>
    Heap.get?_push_of_some _ (Heap.get?_push_of_some _ ((s1.2 b hb).trans q))
  show wpAny (model prog w) A _ P E { s with heap := ((s.heap.update a (Obj.mapSeq fun _ => #[])).push (seqObj "tuple" vs.toArray 0)).push (seqObj "list" #[] 0) }
  dsimp only
  generalize hh : ((s.heap.update a (Obj.mapSeq fun _ => (#[] : Array Value))).push (seqObj "tuple" vs.toArray 0)).push (seqObj "list" #[] 0) = h1 at *
  have fin : ∀ (st : SortSt) (out : List Value), (arrOf st).map (·.2) = out.toArray → failedOf st = none → out = ((sortIx lt vs.length).map fun i => vs.getD i Value.none) → out.length = vs.length → (sortIx lt vs.length).length = vs.length → wpAny (model prog w) A (do
      let touched := (← seqEpoch a) != e1
      Builtin.List.listUpdate (.ref a) fun _ => (arrOf st).map (·.2)
      if let some e := failedOf st then rule "list.sort.comparison-raised"; throw e
      if touched then rule "list.sort.modified"; raiseError "ValueError" "list modified during sort"
      ret .none) P E { s with heap := h1 } := by
    intro st out har hf eo hl hl2
    refine wpAny_bind (seqEpoch_at ho6 rfl ?_)
    rw [har, hf]
    refine wpAny_bind (listUpdate_at ho6 rfl ?_ (Nat.zero_le _) (by rw [List.size_toArray, sizeLine_eq]; omega))
    simp only [bne_self_eq_false, Bool.false_eq_true, if_false]
    have s2 := Heap.SameBut.update h1 a (Obj.mapSeq fun _ => out.toArray)
    refine wpAny_pure (h _ _ (fun b o hb q => (s2.2 b hb).trans (kp b o hb q)) (by rw [← eo]; exact get?_update_seq ho6 fun _ => out.toArray) hl2)
  by_cases h2 : vs.toArray.size < 2
  · rw [if_pos h2, if_pos h2]
    have h2' : vs.length < 2 := by simpa using h2
    refine wpAny_bind (wpAny_pure ?_)
    rw [StateT.run_pure]
    refine wpAny_bind (wpAny_pure ?_)
    have es : sortIx lt vs.length = List.range vs.length := by simp [sortIx, h2']
    exact fin (SortSt.mk' general' (vs.toArray.zip vs.toArray) #[] 7 none) vs (by
      show (vs.toArray.zip vs.toArray).map (·.2) = vs.toArray
      apply Array.toList_inj.mp
      simp [List.map_snd_zip]) rfl (by rw [es, range_getD]) rfl (by rw [es]; simp)
  · rw [if_neg h2, if_neg h2]
    have h2' : 2 ≤ vs.length := by simp at h2; omega
    have hn2 : ¬ vs.length < 2 := by omega
    refine wpAny_bind (hk h2' h1 _ kp ?_)
    refine wpAny_bind (wpAny_mono (kat_run (E := E) (Q := fun st' s' => s' = { s with heap := h1 } ∧ (kRun lt (kas_sort vs.length)).size = vs.length ∧ arrOf st' = (kRun lt (kas_sort vs.length)).map (kas_item (vs.toArray.zip vs.toArray)) ∧ failedOf st' = none) (G := fun p s' => p = kRun lt (kas_sort vs.length) ∧ s' = { s with heap := h1 })
      rfl h2' h64 (fun p' st' s' a1 a2 a3 a4 => ⟨a4.2, by rw [← a4.1]; exact a1, by rw [← a4.1]; exact a2, a3⟩) (kas_of_run (n := vs.length) (lt := lt) (fun i j C hi hj hij hq => hc h1 i j C kp h2' hi hj hij hq) _ (hw h2') ⟨rfl, rfl⟩)) ?_ fun _ _ e => e)
    rintro ⟨⟨⟩, st'⟩ s' ⟨es, hp, har, hf⟩
    subst es
    have es : sortIx lt vs.length = (kRun lt (kas_sort vs.length)).toList := by simp [sortIx, hn2]
    exact fin st' _ (kat_snds rfl har) hf (by rw [es]) (by simp [hp]) (by rw [es]; simp [hp])
theorem sorted_pure {l : Addr} {vs : List Value} {lt : Nat → Nat → Bool} {κ : SortKind} {Q : Value → Shared → Prop} (hl : s.heap.IsList l vs.toArray) (h64 : vs.length < 64) (hw : 2 ≤ vs.length → kIn vs.length (kas_sort vs.length))
    (hk : 2 ≤ vs.length → ∀ (A' : Around) (h' : Heap) (E' : Value → Shared → Prop) (Q : SortKind → Shared → Prop), (∀ b o, s.heap.get? b = some o → h'.get? b = some o) → Q κ { s with heap := h' } → wpAny (model prog w) A' (keyKind' vs.toArray) Q E' { s with heap := h' })
    (hc : ∀ (A' : Around) (h' : Heap) (i j : Nat) (Q : Bool → Shared → Prop), (∀ b o, s.heap.get? b = some o → h'.get? b = some o) → 2 ≤ vs.length → i < vs.length → j < vs.length → i ≠ j → Q (lt i j) { s with heap := h' } → wpAny (model prog w) A' (keyLt' κ (vs.getD i .none) (vs.getD j .none)) Q (fun _ _ => False) { s with heap := h' })
    (h : ∀ h' e, (∀ b o, s.heap.get? b = some o → h'.get? b = some o) → h'.get? (s.heap.objs.size + 1) = some (seqObj "list" ((sortIx lt vs.length).map fun i => vs.getD i Value.none).toArray e) → (sortIx lt vs.length).length = vs.length → Q (.ref (s.heap.objs.size + 1)) { s with heap := h' }) :
    wpAny (model prog w) A (call (.builtin "sorted") [.ref l]) Q E s := by
  refine Calls.call_function_entry kind_sorted plain_sorted entry_sorted (args_sorted1 _) ?_
  unfold Builtin.«sorted»
  refine wpAny_bind (m := checkCount "sorted" 1 1 _) (wpAny_pure ?_)
  refine wpAny_bind (collect_list hl ?_ (by rw [sizeLine_eq]; omega))
  refine wpAny_bind (wpAny_newList ?_ (by rw [sizeLine_eq]; omega))
  have hsz : ((s.heap.push (seqObj "list" #[] 0)).update s.heap.objs.size (Obj.mapSeq (· ++ vs.toArray))).objs.size = s.heap.objs.size + 1 := by
    rw [Heap.size_update, size_push']
  have hoL : (((s.heap.push (seqObj "list" #[] 0)).update s.heap.objs.size (Obj.mapSeq (· ++ vs.toArray))).push (seqObj "list" vs.toArray 0)).get? (s.heap.objs.size + 1) = some (seqObj "list" vs.toArray 0) := by
    rw [← hsz]; exact Heap.get?_push_size _ rfl
  have keep : ∀ b o, s.heap.get? b = some o → (((s.heap.push (seqObj "list" #[] 0)).update s.heap.objs.size (Obj.mapSeq (· ++ vs.toArray))).push (seqObj "list" vs.toArray 0)).get? b = some o := fun b o q => by
    have hlt : b < s.heap.objs.size := Heap.lt_size q
    rw [Heap.get?_push_ne _ _ _ (by rw [hsz]; exact Nat.ne_of_lt (Nat.lt_succ_of_lt hlt)), Heap.get?_update_ne _ _ _ _ (Nat.ne_of_lt hlt), Heap.get?_push_ne _ _ _ (Nat.ne_of_lt hlt)]
    exact q
  have nb : ∀ b o, s.heap.get? b = some o → b ≠ s.heap.objs.size + 1 := fun b o q => Nat.ne_of_lt (Nat.lt_succ_of_lt (Heap.lt_size q))
  show wpAny _ _ _ _ _ { s with heap := ((s.heap.push (seqObj "list" #[] 0)).update s.heap.objs.size (Obj.mapSeq (· ++ vs.toArray))).push (seqObj "list" vs.toArray 0) }
  rw [hsz]
  refine wpAny_bind (wpAny_holding (wpAny_call_entry slot_list_sort ⟨_, hoL, rfl⟩ entry_list_sort ?body (args_list_sort _)))
  case body =>
    refine list_sort_pure (s := { s with heap := ((s.heap.push (seqObj "list" #[] 0)).update s.heap.objs.size (Obj.mapSeq (· ++ vs.toArray))).push (seqObj "list" vs.toArray 0) }) (lt := lt) (κ := κ) hoL h64 hw
      (fun h2 h' Q' k q => hk h2 _ h' _ Q' (fun b o z => k b o (nb b o z) (keep b o z)) q) (fun h' i j Q' k h2 hi hj hij q => hc _ h' i j Q' (fun b o z => k b o (nb b o z) (keep b o z)) h2 hi hj hij q) fun h' e k ea el => ⟨_, rfl, ?_⟩
    exact wpAny_pure ⟨_, rfl, h h' e (fun b o z => k b o (nb b o z) (keep b o z)) ea el⟩
end
section
variable {X : Cx} {ct : Ct} {e : Expr} {es : List Expr} {fa : Sg → Res (List D)} {p pos : Pos}
theorem looks_int {M : Model} {h : Heap} {i : Int} {t : Tok} : Looks M h (typeOf (.int i t)) (.type "int") := Looks.of_pure rfl
theorem kas_two (lt : Nat → Nat → Bool) : sortIx lt 2 = if lt 1 0 = true then [1, 0] else [0, 1] := by
  simp only [sortIx, kas_sort2, kRun]
  cases lt 1 0 <;> simp [kRun]
theorem call_sorted2 : CallR X (.builtin "sorted") (fun xs H Q => ∃ (l : Addr) (vs : List V), xs = [.ref l] ∧ SqL X.K H l vs ∧ ((vs.length < 2 ∧ ∀ p, H p = none → Q (.ref p) (upd H p (.lst vs))) ∨
    ∃ p q x y m n, vs = [.ref p, .ref q] ∧ SqT X.K H p (.int m :: x) ∧ SqT X.K H q (.int n :: y) ∧ m ≠ n ∧ ∀ r, H r = none → Q (.ref r) (upd H r (.lst (if n < m then [.ref q, .ref p] else [.ref p, .ref q]))))) := by
  intro pins s σ H xs us Q I r ⟨l, vs, ex, hs, h⟩
  subst ex
  obtain ⟨u, rfl, ru⟩ := vals1 r
  cases ru
  obtain ⟨its, rv, pl, hz⟩ := I.list hs
  have hlen := rv.length
  have fin : ∀ (ys : List V) (out : List Value) (h' : Heap) (e : Nat), Vals ys out → ys.length < 64 → (∀ b o, s.heap.get? b = some o → h'.get? b = some o) → h'.get? (s.heap.objs.size + 1) = some (seqObj "list" out.toArray e) → (∀ p, H p = none → Q (.ref p) (upd H p (.lst ys))) →
      EP X pins σ Q (.ref (s.heap.objs.size + 1)) { s with heap := h' } := fun ys out h' e r' hz' kp ea q =>
    ⟨.ref (s.heap.objs.size + 1), _, I.laid (t' := s.toks) kp (Nat.le_succ _) (show ObjOk X.prog X.w _ h' _ (.lst ys) from ⟨by rw [sizeLine_eq]; omega, out, e, r', ea⟩), rfl, q _ (I.hok.fresh (Nat.le_succ _))⟩
  rcases h with ⟨h2, q⟩ | ⟨p, q, x, y, m, n, rfl, hp, hq, hmn, qq⟩
  · refine sorted_pure (lt := fun _ _ => false) (κ := general') pl.isList (by omega) (fun z => by omega) (fun z => by omega) (fun A' h' i j Q' k z => by omega) fun h' e k ea el => ?_
    have es : sortIx (fun _ _ => false) its.length = List.range its.length := by
      have : its.length < 2 := by omega
      simp [sortIx, this]
    rw [es, range_getD] at ea
    exact fin vs its h' e rv (by omega) k ea q
  · obtain ⟨ip, rp, pp, hzp⟩ := I.tuple hp
    obtain ⟨iq, rq, pq, hzq⟩ := I.tuple hq
    cases rv with
    | cons r1 rv =>
    cases rv with
    | cons r2 rv =>
    cases rv
    obtain rfl := r1
    obtain rfl := r2
    cases rp with
    | cons m1 rp =>
    cases rq with
    | cons n1 rq =>
    obtain ⟨tm, rfl⟩ := m1
    obtain ⟨tn, rfl⟩ := n1
    rename_i zp zq
    obtain ⟨op, hop, hcp, np, hdp⟩ := id pp
    obtain ⟨oq, hoq, hcq, nq, hdq⟩ := id pq
    have ask : ∀ (A' : Around) (h' : Heap) (Q' : Bool → Shared → Prop) (a b : Addr) (oa ob : Obj) (za zb : List Value) (na nb : Nat) (k l : Int) (tk tl : Tok), h'.get? a = some oa → oa.data = .seq (Value.int k tk :: za).toArray na → h'.get? b = some ob → ob.data = .seq (Value.int l tl :: zb).toArray nb → k ≠ l →
        Q' (decide (k < l)) { s with heap := h' } → wpAny (model X.prog X.w) A' (keyLt' (tuples' true) (.ref a) (.ref b)) Q' (fun _ _ => False) { s with heap := h' } := by
      intro A' h' Q' a b oa ob za zb na nb k l tk tl ha hda hb hdb hkl hq'
      refine kat_lt (s := { s with heap := h' }) ha hda hb hdb ?_
      refine kat_cons ?_
      refine wpAny_eqBool_int (kat_go (fun z => ?_) (fun z => kat_no ?_))
      · exact absurd (by simpa using z) hkl
      · exact kat_lt_int hq'
    refine sorted_pure (lt := fun i j => if i = 1 then decide (n < m) else decide (m < n)) (κ := tuples' true) pl.isList (by simp) (fun _ => kIn_two) (fun _ A' h' E' Q' k z => ?_) (fun A' h' i j Q' k _ hi hj hij z => ?_) fun h' e k ea el => ?_
    · exact kat_kind (fs := [.int m tm, .int n tn]) (T := .type "int") (KatTups.cons (k _ _ hop) hcp hdp rfl (KatTups.cons (k _ _ hoq) hcq hdq rfl KatTups.nil)) (by simp) (fun v hv => by
        simp only [List.mem_cons, List.mem_nil_iff, or_false] at hv
        rcases hv with rfl | rfl <;> exact looks_int) rfl z
    · simp only [List.length_cons, List.length_nil] at hi hj
      match i, j, hi, hj, hij with
      | 0, 1, _, _, _ => exact ask A' h' Q' _ _ op oq zp zq np nq m n tm tn (k _ _ hop) hdp (k _ _ hoq) hdq hmn z
      | 1, 0, _, _, _ => exact ask A' h' Q' _ _ oq op zq zp nq np n m tn tm (k _ _ hoq) hdq (k _ _ hop) hdp (Ne.symm hmn) z
      | 0, 0, _, _, h => exact absurd rfl h
      | 1, 1, _, _, h => exact absurd rfl h
    · simp only [List.length_cons, List.length_nil, Nat.zero_add, Nat.reduceAdd] at ea
      rw [kas_two] at ea
      have hnm := qq (s.heap.objs.size + 1)
      by_cases hlt : n < m
      · simp only [if_true, hlt, decide_true] at ea qq
        exact fin [.ref q, .ref p] [.ref q, .ref p] h' e (.cons rfl (.cons rfl .nil)) (by simp) k (by simpa using ea) qq
      · simp only [if_true, hlt, decide_false, Bool.false_eq_true, if_false] at ea qq
        exact fin [.ref p, .ref q] [.ref p, .ref q] h' e (.cons rfl (.cons rfl .nil)) (by simp) k (by simpa using ea) qq
theorem pl_sorted2 (hm : X.mg "sorted" = none) (ha : PDA X ct (e :: es) fa) (hg : Gl X "sorted" := by rfl) (he : starEach (e :: es) X.env = (false, eval e X.env) :: starEach es X.env := by rfl) (hpl : (backTo pos (starEach es X.env)).any (·.1) = false := by rfl) : PL X ct (.Call (.Name "sorted" p) (e :: es) [] pos) (lCB sort2D fa) := by
  refine PE.imp (pe_callB call_sorted2 hg hm (by decide +kernel) ha (by decide) (by decide) he hpl) fun σ H Q ⟨Γ, j, h⟩ => ?_
  refine aOf.bnd j h fun ds vs H' s t j' h' => ?_
  unfold sort2D at h'
  split at h'
  · rename_i x
    obtain ⟨v, rfl, t1⟩ := tls1 t
    split at h'
    · rename_i hs
      obtain ⟨a, us, rfl, q1, q2⟩ := t1.seqL j'.lL j'.lB hs
      have : us = [] := by simpa [Tls] using q2
      subst this
      refine ⟨a, [], rfl, q1, .inl ⟨by simp, fun l hl => ?_⟩⟩
      have s2 := same_new hl (.lst [])
      exact h' l [] _ (s.trans s2) (s.free hl) upd_same (q2.keep (Same.keep s2))
    · rename_i d hs
      obtain ⟨a, us, rfl, q1, q2⟩ := t1.seqL j'.lL j'.lB hs
      refine ⟨a, us, rfl, q1, .inl ⟨by rw [← q2.length]; simp, fun l hl => ?_⟩⟩
      have s2 := same_new hl (.lst us)
      exact h' l us _ (s.trans s2) (s.free hl) upd_same (q2.keep (Same.keep s2))
    · rename_i d1 d2 hs
      obtain ⟨a, us, rfl, q1, q2⟩ := t1.seqL j'.lL j'.lB hs
      obtain ⟨v1, v2, rfl, w1, w2⟩ := tls2 q2
      have key : ∀ b, ltT d2 d1 = some b → ∃ p q x y m n, v1 = .ref p ∧ v2 = .ref q ∧ SqT X.K H' p (.int m :: x) ∧ SqT X.K H' q (.int n :: y) ∧ m ≠ n ∧ b = decide (n < m) := by
        intro b hb
        unfold ltT at hb
        split at hb
        · rename_i i r1 j2 r2
          split at hb
          · cases hb
          · rename_i hne
            cases hb
            simp only [Tl, Tls] at w1 w2
            obtain ⟨p, vs1, rfl, sq1, z1, y1, rfl, rfl, u1⟩ := w1
            obtain ⟨q, vs2, rfl, sq2, z2, y2, rfl, rfl, u2⟩ := w2
            exact ⟨p, q, y1, y2, j2, i, rfl, rfl, sq1, sq2, fun z => hne z.symm, rfl⟩
        · cases hb
      split at h'
      · rename_i hb
        obtain ⟨p, q, x, y, m, n, rfl, rfl, sq1, sq2, hmn, hb2⟩ := key _ hb
        refine ⟨a, _, rfl, q1, .inr ⟨p, q, x, y, m, n, rfl, sq1, sq2, hmn, fun l hl => ?_⟩⟩
        rw [if_pos (of_decide_eq_true hb2.symm)]
        have s2 := same_new hl (.lst [V.ref q, V.ref p])
        exact h' l _ _ (s.trans s2) (s.free hl) upd_same ((Tls.cons w2 (Tls.cons w1 Tls.nil)).keep (Same.keep s2))
      · rename_i hb
        obtain ⟨p, q, x, y, m, n, rfl, rfl, sq1, sq2, hmn, hb2⟩ := key _ hb
        refine ⟨a, _, rfl, q1, .inr ⟨p, q, x, y, m, n, rfl, sq1, sq2, hmn, fun l hl => ?_⟩⟩
        rw [if_neg (of_decide_eq_false hb2.symm)]
        have s2 := same_new hl (.lst [V.ref p, V.ref q])
        exact h' l _ _ (s.trans s2) (s.free hl) upd_same (q2.keep (Same.keep s2))
      · exact h'.elim
    · exact h'.elim
  · exact h'.elim
theorem wl_sorted2 (hm : X.mg "sorted" = none) (ha : WDA X ct (e :: es) fa) (hg : Gl X "sorted" := by rfl) (he : starEach (e :: es) X.env = (false, eval e X.env) :: starEach es X.env := by rfl) (hpl : (backTo pos (starEach es X.env)).any (·.1) = false := by rfl) : WL X ct (.Call (.Name "sorted" p) (e :: es) [] pos) (lCB sort2D fa) := ⟨pl_sorted2 (hm := hm) (ha := ha.out) (hg := hg) (he := he) (hpl := hpl)⟩
end
end L4
end
section
set_option Elab.async false
set_option linter.all false
set_option maxRecDepth 100000
set_option exponentiation.threshold 10000
namespace K07
open PySem L4
def mt : List (String × List String) := [("NoFraction", ["NoFraction", "BeamError", "ValueError"]), ("NoCell", ["NoCell", "BeamError", "ValueError"]), ("Empty", ["Empty", "Cell"]), ("Mirror", ["Mirror", "Cell"]), ("Half", ["Half", "Cell"]), ("Filter", ["Filter", "Cell"]), ("Wall", ["Wall", "Cell"]), ("Fibre", ["Fibre", "Cell"])]
def ftab : List (String × List Str) := [("Empty", []), ("Mirror", ["slant"]), ("Half", ["slant", "share"]), ("Filter", ["share"]), ("Wall", []), ("Fibre", ["name"])]
abbrev n_l_low : List Str := ["_law_top", "_law_bottom", "_law_one", "_law_other"]
abbrev p_l_low : List Str := ["_law_top", "_law_bottom"]
def y_l_low_1 (n : Nat) : Sg → Res Bool :=
    (dT (dOp neD (dVar 3) (dC (.int 0))))
def y_l_low_2 (n : Nat) : Sg → Out :=
    (sPar 2 3 (dCons (dVar 3) (dCons (dOp modI (dVar 2) (dVar 3)) dNil)))
def b_l_low (n : Nat) : Sg → Out :=
    (sSeq (sSet 2 (dVar 0))
    (sSeq (sSet 3 (dVar 1))
    (sSeq (whileD (y_l_low_1 n) (y_l_low_2 n) n)
    (sRet (dTup (dCons (dOp fdivI (dVar 0) (dVar 2)) (dCons (dOp fdivI (dVar 1) (dVar 2)) dNil)))))))
def F_l_low : List Slot → Ans
  | [.val (.int a), .val (.int b)] => if 0 ≤ a ∧ 1 ≤ b ∧ b.natAbs < 2 ^ 9000 then .ok (.tup [.int (a.fdiv (Int.gcd a b)), .int (b.fdiv (Int.gcd a b))]) else .bad
  | _ => .bad
theorem low_loop (a b : Slot) (m : Nat) : ∀ (s l k : Nat), s < k → whileD (y_l_low_1 m) (y_l_low_2 m) k [a, b, .val (.int l), .val (.int s)] = .nx [a, b, .val (.int (Nat.gcd l s : Nat)), .val (.int 0)] := by
  intro s
  induction s using Nat.strongRecOn with
  | _ s ih =>
    intro l k hk
    obtain ⟨k, rfl⟩ : ∃ j, k = j + 1 := ⟨k - 1, by omega⟩
    by_cases h : s = 0
    · subst h
      simp [whileD, y_l_low_1]
    · have e := ih (l % s) (Nat.mod_lt l (by omega)) s k (by have := Nat.mod_lt l (show 0 < s by omega); omega)
      have hs : ((s : Int) = 0) = False := by simp [h]
      have hs' : (s : Int) ≠ 0 := by omega
      rw [gcd_step l s h, ← e]
      simp [whileD, y_l_low_1, y_l_low_2, h, hs, modI_int _ _ hs', fmod_nat]
theorem h_l_low (as : List Slot) (hl : as.length = p_l_low.length) (hb : F_l_low as ≠ .bad) : ∃ n, ans (b_l_low n (st0 n_l_low as)) = F_l_low as := by
  match as, hb with
  | [.val (.int a), .val (.int b)], hb =>
    by_cases hc : 0 ≤ a ∧ 1 ≤ b ∧ b.natAbs < 2 ^ 9000
    · obtain ⟨h1, h2, h3⟩ := id hc
      obtain ⟨l, rfl⟩ := Int.eq_ofNat_of_zero_le h1
      obtain ⟨s, rfl⟩ := Int.eq_ofNat_of_zero_le (show 0 ≤ b by omega)
      refine ⟨s + 1, ?_⟩
      have e := low_loop (.val (.int (l : Int))) (.val (.int (s : Int))) (s + 1) s l (s + 1) (by omega)
      have hg : Int.gcd (l : Int) (s : Int) = Nat.gcd l s := by simp [Int.gcd]
      have hgp : 0 < Nat.gcd l s := Nat.gcd_pos_of_pos_right _ (by omega)
      have hgl : Nat.gcd l s ≤ s := Nat.le_of_dvd (by omega) (Nat.gcd_dvd_right _ _)
      have d : ∀ x : Int, fdivI (.int x) (.int ((Nat.gcd l s : Nat) : Int)) = .ok (.int (x.fdiv ((Nat.gcd l s : Nat) : Int))) := fun x => fdivI_int _ _ (divOk_of (by omega) (Nat.lt_of_le_of_lt (by simpa using hgl) (by simpa using h3)))
      simp only [F_l_low, hc, and_self, if_true, hg]
      simp [b_l_low, st0, e, d]
    · exact absurd (by simp [F_l_low, hc]) hb
abbrev n_l_share : List Str := ["_law_cell", "_law_bottom"]
abbrev p_l_share : List Str := ["_law_cell"]
def b_l_share (n : Nat) : Sg → Out :=
    (sSeq (sSet 1 (dOp addD (dC (.int 2)) (dOp modI (dOp fdivI (dVar 0) (dC (.int 7))) (dC (.int 96)))))
    (sRet (dCall 2 F_l_low (dCons (dOp addD (dC (.int 1)) (dOp modI (dOp mulI (dOp fdivI (dVar 0) (dC (.int 5))) (dC (.int 48271))) (dOp subI (dVar 1) (dC (.int 1))))) (dCons (dVar 1) dNil)))))
def F_l_share (as : List Slot) : Ans := ans (b_l_share 0 (st0 n_l_share as))
abbrev n_l_bad_slant : List Str := ["_law_cell"]
abbrev p_l_bad_slant : List Str := ["_law_cell"]
def b_l_bad_slant (n : Nat) : Sg → Out :=
    (sRet (dOp ixD (dFz (dLst (dCons (dC (.int 0)) (dCons (dC (.int 2)) (dCons (dOp subI (dUn negI (dC (.int 1))) (dOp modI (dOp fdivI (dVar 0) (dC (.int 5))) (dOp powI (dC (.int 10)) (dC (.int 30))))) (dCons (dOp addD (dC (.int 4)) (dOp modI (dOp fdivI (dVar 0) (dC (.int 5))) (dOp powI (dC (.int 10)) (dC (.int 30))))) (dCons (dC (.int 5)) dNil))))))) (dOp modI (dVar 0) (dC (.int 5)))))
def F_l_bad_slant (as : List Slot) : Ans := ans (b_l_bad_slant 0 (st0 n_l_bad_slant as))
abbrev n_l_bad_share : List Str := ["_law_cell", "_law_far", "_law_some"]
abbrev p_l_bad_share : List Str := ["_law_cell"]
def b_l_bad_share (n : Nat) : Sg → Out :=
    (sSeq (sSet 1 (dOp modI (dOp fdivI (dVar 0) (dC (.int 4))) (dOp powI (dC (.int 10)) (dC (.int 30)))))
    (sSeq (sSet 2 (dFz (dLst (dCons (dTup (dCons (dC (.int 0)) (dCons (dC (.int 1)) dNil))) (dCons (dTup (dCons (dC (.int 1)) (dCons (dC (.int 1)) dNil))) (dCons (dCall 2 F_l_low (dCons (dOp addD (dVar 1) (dC (.int 3))) (dCons (dOp addD (dVar 1) (dC (.int 2))) dNil))) (dCons (dTup (dCons (dOp subI (dC (.int 0)) (dC (.int 1))) (dCons (dOp addD (dVar 1) (dC (.int 2))) dNil))) dNil)))))))
    (sRet (dOp ixD (dVar 2) (dOp modI (dVar 0) (dC (.int 4)))))))
def F_l_bad_share (as : List Slot) : Ans := ans (b_l_bad_share 0 (st0 n_l_bad_share as))
abbrev n_check_slant : List Str := ["slant"]
abbrev p_check_slant : List Str := ["slant"]
def b_check_slant (n : Nat) : Sg → Out :=
    (sIf (dT (dOp notInA (dVar 0) (dTup (dCons (dC (.int 1)) (dCons (dC (.int 3)) dNil))))) (sRaise "NoCell" (dCons (dC (.str "a slant is 1 or 3")) dNil)) sNext)
def F_check_slant (as : List Slot) : Ans := ans (b_check_slant 0 (st0 n_check_slant as))
abbrev n_Mirror___init__ : List Str := ["self", "slant"]
abbrev p_Mirror___init__ : List Str := ["self", "slant"]
def b_Mirror___init__ (n : Nat) : Sg → Out :=
    (sSeq (sDrop (dCall 1 F_check_slant (dCons (dVar 1) dNil)))
    (sSetF 0 ftab "slant" (dVar 1)))
def F_Mirror___init__ (as : List Slot) : Ans := ansG (b_Mirror___init__ 0 (st0 n_Mirror___init__ as))
abbrev n_under : List Str := ["one", "other"]
abbrev p_under : List Str := ["one", "other"]
def b_under (n : Nat) : Sg → Out :=
    (sRet (dOp ltI (dOp mulI (dOp ixD (dVar 0) (dC (.int 0))) (dOp ixD (dVar 1) (dC (.int 1)))) (dOp mulI (dOp ixD (dVar 1) (dC (.int 0))) (dOp ixD (dVar 0) (dC (.int 1))))))
def F_under (as : List Slot) : Ans := ans (b_under 0 (st0 n_under as))
abbrev n_check_share : List Str := ["share"]
abbrev p_check_share : List Str := ["share"]
def b_check_share (n : Nat) : Sg → Out :=
    (sIf (cOr (cNot (dT (dCall 2 F_under (dCons (dC (.tup [(.int 0), (.int 1)])) (dCons (dVar 0) dNil))))) (cNot (dT (dCall 2 F_under (dCons (dVar 0) (dCons (dC (.tup [(.int 1), (.int 1)])) dNil)))))) (sRaise "NoCell" (dCons (dC (.str "a share is above 0 and below 1")) dNil)) sNext)
def F_check_share (as : List Slot) : Ans := ans (b_check_share 0 (st0 n_check_share as))
abbrev n_Half___init__ : List Str := ["self", "slant", "share"]
abbrev p_Half___init__ : List Str := ["self", "slant", "share"]
def b_Half___init__ (n : Nat) : Sg → Out :=
    (sSeq (sDrop (dCall 1 F_check_slant (dCons (dVar 1) dNil)))
    (sSeq (sDrop (dCall 1 F_check_share (dCons (dVar 2) dNil)))
    (sSeq (sSetF 0 ftab "slant" (dVar 1))
    (sSetF 0 ftab "share" (dVar 2)))))
def F_Half___init__ (as : List Slot) : Ans := ansG (b_Half___init__ 0 (st0 n_Half___init__ as))
abbrev n_Filter___init__ : List Str := ["self", "share"]
abbrev p_Filter___init__ : List Str := ["self", "share"]
def b_Filter___init__ (n : Nat) : Sg → Out :=
    (sSeq (sDrop (dCall 1 F_check_share (dCons (dVar 1) dNil)))
    (sSetF 0 ftab "share" (dVar 1)))
def F_Filter___init__ (as : List Slot) : Ans := ansG (b_Filter___init__ 0 (st0 n_Filter___init__ as))
abbrev n_check_name : List Str := ["name"]
abbrev p_check_name : List Str := ["name"]
def b_check_name (n : Nat) : Sg → Out :=
    (sIf (cOr (cNot (dT (dChain leI leI (dC (.int 1)) (dCB lenD (dCons (dVar 0) dNil)) (dC (.int 8))))) (cNot (dT (dCB allD (dCons (dFz (lComp false (iSeq (dVar 0)) 1 [] (tgName 0) cYes (dOp inA (dVar 0) (dC (.str "abcdefghijklmnopqrstuvwxyz"))))) dNil))))) (sRaise "NoCell" (dCons (dC (.str "a name has one to eight letters from a to z")) dNil)) sNext)
def F_check_name (as : List Slot) : Ans := ans (b_check_name 0 (st0 n_check_name as))
abbrev n_Fibre___init__ : List Str := ["self", "name"]
abbrev p_Fibre___init__ : List Str := ["self", "name"]
def b_Fibre___init__ (n : Nat) : Sg → Out :=
    (sSeq (sDrop (dCall 1 F_check_name (dCons (dVar 1) dNil)))
    (sSetF 0 ftab "name" (dVar 1)))
def F_Fibre___init__ (as : List Slot) : Ans := ansG (b_Fibre___init__ 0 (st0 n_Fibre___init__ as))
abbrev n_l_refused : List Str := ["_law_way", "_law_slant", "_law_share_here", "_law_name", "_law_refused_here", "e"]
abbrev p_l_refused : List Str := ["_law_way", "_law_slant", "_law_share_here", "_law_name"]
def b_l_refused (n : Nat) : Sg → Out :=
    (sSeq (sSet 4 (dC (.bl false)))
    (sSeq (sTryAs 5 (hitOf mt "BeamError") (sIf (dT (dOp eqD (dVar 0) (dC (.int 0)))) (sDrop (dMake 1 "Mirror" ["slant"] F_Mirror___init__ (dCons (dVar 1) dNil))) (sIf (dT (dOp eqD (dVar 0) (dC (.int 1)))) (sDrop (dMake 2 "Half" ["slant", "share"] F_Half___init__ (dCons (dVar 1) (dCons (dVar 2) dNil)))) (sIf (dT (dOp eqD (dVar 0) (dC (.int 2)))) (sDrop (dMake 1 "Filter" ["share"] F_Filter___init__ (dCons (dVar 2) dNil))) (sDrop (dMake 1 "Fibre" ["name"] F_Fibre___init__ (dCons (dVar 3) dNil)))))) (sSet 4 (dAnd (dIsi mt ["NoCell"] (dVar 5)) (dAnd (dIsi mt ["ValueError"] (dVar 5)) (dNot (dIsi mt ["NoPlace", "NoTable"] (dVar 5)))))))
    (sRet (dVar 4))))
def F_l_refused (as : List Slot) : Ans := ans (b_l_refused 0 (st0 n_l_refused as))
abbrev n_l_bad_name : List Str := ["_law_cell", "_law_good", "_law_at", "_law_sign"]
abbrev p_l_bad_name : List Str := ["_law_cell"]
def b_l_bad_name (n : Nat) : Sg → Out :=
    (sSeq (sSet 1 (dCutS (dC (.str "abcdefgh")) dNoP (dP (dOp addD (dC (.int 1)) (dOp modI (dVar 0) (dC (.int 8)))))))
    (sSeq (sSet 2 (dOp modI (dOp fdivI (dVar 0) (dC (.int 8))) (dCB lenD (dCons (dVar 1) dNil))))
    (sSeq (sSet 3 (dOp ixD (dFz (dLst (dCons (dC (.str "A")) (dCons (dC (.str "1")) (dCons (dC (.str " ")) (dCons (dC (.str "-")) (dCons (dC (.str "_")) (dCons (dC (.str ".")) dNil)))))))) (dOp modI (dOp fdivI (dVar 0) (dC (.int 64))) (dC (.int 6)))))
    (sRet (dOp ixD (dFz (dLst (dCons (dC (.str "")) (dCons (dC (.str "abcdefghi")) (dCons (dOp addD (dOp addD (dCutS (dVar 1) dNoP (dP (dVar 2))) (dVar 3)) (dCutS (dVar 1) (dP (dOp addD (dVar 2) (dC (.int 1)))) dNoP)) (dCons (dOp addD (dOp addD (dCutS (dVar 1) dNoP (dP (dVar 2))) (dVar 3)) (dCutS (dVar 1) (dP (dOp addD (dVar 2) (dC (.int 1)))) dNoP)) dNil)))))) (dOp modI (dOp fdivI (dVar 0) (dC (.int 3))) (dC (.int 4))))))))
def F_l_bad_name (as : List Slot) : Ans := ans (b_l_bad_name 0 (st0 n_l_bad_name as))
abbrev n_Cell_turned : List Str := ["self"]
abbrev p_Cell_turned : List Str := ["self"]
def b_Cell_turned (n : Nat) : Sg → Out :=
    (sRet (dVar 0))
def F_Cell_turned (as : List Slot) : Ans := ans (b_Cell_turned 0 (st0 n_Cell_turned as))
abbrev n_other_slant : List Str := ["slant"]
abbrev p_other_slant : List Str := ["slant"]
def b_other_slant (n : Nat) : Sg → Out :=
    (sRet (dOp subI (dC (.int 4)) (dVar 0)))
def F_other_slant (as : List Slot) : Ans := ans (b_other_slant 0 (st0 n_other_slant as))
abbrev n_Mirror_turned : List Str := ["self"]
abbrev p_Mirror_turned : List Str := ["self"]
def b_Mirror_turned (n : Nat) : Sg → Out :=
    (sRet (dMake 1 "Mirror" ["slant"] F_Mirror___init__ (dCons (dCall 1 F_other_slant (dCons (dFld "slant" (dVar 0)) dNil)) dNil)))
def F_Mirror_turned (as : List Slot) : Ans := ans (b_Mirror_turned 0 (st0 n_Mirror_turned as))
abbrev n_Half_turned : List Str := ["self"]
abbrev p_Half_turned : List Str := ["self"]
def b_Half_turned (n : Nat) : Sg → Out :=
    (sRet (dMake 2 "Half" ["slant", "share"] F_Half___init__ (dCons (dCall 1 F_other_slant (dCons (dFld "slant" (dVar 0)) dNil)) (dCons (dFld "share" (dVar 0)) dNil))))
def F_Half_turned (as : List Slot) : Ans := ans (b_Half_turned 0 (st0 n_Half_turned as))
def t_turned : List (String × (List Slot → Ans)) := [("Empty", F_Cell_turned), ("Mirror", F_Mirror_turned), ("Half", F_Half_turned), ("Filter", F_Cell_turned), ("Wall", F_Cell_turned), ("Fibre", F_Cell_turned)]
abbrev n_Empty_row : List Str := ["self"]
abbrev p_Empty_row : List Str := ["self"]
def b_Empty_row (n : Nat) : Sg → Out :=
    (sRet (dTup (dCons (dC (.str "empty")) dNil)))
def F_Empty_row (as : List Slot) : Ans := ans (b_Empty_row 0 (st0 n_Empty_row as))
abbrev n_Mirror_row : List Str := ["self"]
abbrev p_Mirror_row : List Str := ["self"]
def b_Mirror_row (n : Nat) : Sg → Out :=
    (sRet (dTup (dCons (dC (.str "mirror")) (dCons (dFld "slant" (dVar 0)) dNil))))
def F_Mirror_row (as : List Slot) : Ans := ans (b_Mirror_row 0 (st0 n_Mirror_row as))
abbrev n_Half_row : List Str := ["self"]
abbrev p_Half_row : List Str := ["self"]
def b_Half_row (n : Nat) : Sg → Out :=
    (sRet (dTup (dCons (dC (.str "half")) (dCons (dFld "slant" (dVar 0)) (dCons (dFld "share" (dVar 0)) dNil)))))
def F_Half_row (as : List Slot) : Ans := ans (b_Half_row 0 (st0 n_Half_row as))
abbrev n_Filter_row : List Str := ["self"]
abbrev p_Filter_row : List Str := ["self"]
def b_Filter_row (n : Nat) : Sg → Out :=
    (sRet (dTup (dCons (dC (.str "filter")) (dCons (dFld "share" (dVar 0)) dNil))))
def F_Filter_row (as : List Slot) : Ans := ans (b_Filter_row 0 (st0 n_Filter_row as))
abbrev n_Wall_row : List Str := ["self"]
abbrev p_Wall_row : List Str := ["self"]
def b_Wall_row (n : Nat) : Sg → Out :=
    (sRet (dTup (dCons (dC (.str "wall")) dNil)))
def F_Wall_row (as : List Slot) : Ans := ans (b_Wall_row 0 (st0 n_Wall_row as))
abbrev n_Fibre_row : List Str := ["self"]
abbrev p_Fibre_row : List Str := ["self"]
def b_Fibre_row (n : Nat) : Sg → Out :=
    (sRet (dTup (dCons (dC (.str "fibre")) (dCons (dFld "name" (dVar 0)) dNil))))
def F_Fibre_row (as : List Slot) : Ans := ans (b_Fibre_row 0 (st0 n_Fibre_row as))
def t_row : List (String × (List Slot → Ans)) := [("Empty", F_Empty_row), ("Mirror", F_Mirror_row), ("Half", F_Half_row), ("Filter", F_Filter_row), ("Wall", F_Wall_row), ("Fibre", F_Fibre_row)]
abbrev n_Cell_swallows : List Str := ["self"]
abbrev p_Cell_swallows : List Str := ["self"]
def b_Cell_swallows (n : Nat) : Sg → Out :=
    (sRet (dC (.tup [(.int 0), (.int 1)])))
def F_Cell_swallows (as : List Slot) : Ans := ans (b_Cell_swallows 0 (st0 n_Cell_swallows as))
abbrev n_greatest_divisor : List Str := ["one", "other", "larger", "smaller", "rest"]
abbrev p_greatest_divisor : List Str := ["one", "other"]
def y_greatest_divisor_1 (n : Nat) : Sg → Res Bool :=
    (dT (dOp neD (dVar 3) (dC (.int 0))))
def y_greatest_divisor_2 (n : Nat) : Sg → Out :=
    (sSeq (sSet 4 (dOp modI (dVar 2) (dVar 3)))
    (sSeq (sSet 2 (dVar 3))
    (sSet 3 (dVar 4))))
def b_greatest_divisor (n : Nat) : Sg → Out :=
    (sSeq (sSet 2 (dCB absD (dCons (dVar 0) dNil)))
    (sSeq (sSet 3 (dCB absD (dCons (dVar 1) dNil)))
    (sSeq (whileD (y_greatest_divisor_1 n) (y_greatest_divisor_2 n) n)
    (sRet (dVar 2)))))
def F_greatest_divisor : List Slot → Ans
  | [.val (.int a), .val (.int b)] => .ok (.int (Int.gcd a b))
  | _ => .bad
theorem gd_loop (a b : Slot) (m : Nat) : ∀ (s l k : Nat) (r : Slot), s < k → ∃ r', whileD (y_greatest_divisor_1 m) (y_greatest_divisor_2 m) k [a, b, .val (.int l), .val (.int s), r] = .nx [a, b, .val (.int (Nat.gcd l s : Nat)), .val (.int 0), r'] := by
  intro s
  induction s using Nat.strongRecOn with
  | _ s ih =>
    intro l k r hk
    obtain ⟨k, rfl⟩ : ∃ j, k = j + 1 := ⟨k - 1, by omega⟩
    by_cases h : s = 0
    · subst h
      exact ⟨r, by simp [whileD, y_greatest_divisor_1]⟩
    · obtain ⟨r', e⟩ := ih (l % s) (Nat.mod_lt l (by omega)) s k (.val (.int (l % s : Nat))) (by have := Nat.mod_lt l (show 0 < s by omega); omega)
      refine ⟨r', ?_⟩
      have hs : ((s : Int) = 0) = False := by simp [h]
      have hs' : (s : Int) ≠ 0 := by omega
      rw [gcd_step l s h, ← e]
      simp [whileD, y_greatest_divisor_1, y_greatest_divisor_2, h, hs, modI_int _ _ hs', fmod_nat]
theorem h_greatest_divisor (as : List Slot) (hl : as.length = p_greatest_divisor.length) (hb : F_greatest_divisor as ≠ .bad) : ∃ n, ans (b_greatest_divisor n (st0 n_greatest_divisor as)) = F_greatest_divisor as := by
  match as, hb with
  | [.val (.int a), .val (.int b)], _ =>
    obtain ⟨r', e⟩ := gd_loop (.val (.int a)) (.val (.int b)) (b.natAbs + 1) b.natAbs a.natAbs (b.natAbs + 1) .no (by omega)
    refine ⟨b.natAbs + 1, ?_⟩
    have ha : (if a < 0 then -a else a) = (a.natAbs : Int) := by split <;> omega
    have hb : (if b < 0 then -b else b) = (b.natAbs : Int) := by split <;> omega
    simp [b_greatest_divisor, st0, absD, ha, hb, e, F_greatest_divisor, Int.gcd]
abbrev n_fraction : List Str := ["top", "bottom", "divisor"]
abbrev p_fraction : List Str := ["top", "bottom"]
def b_fraction (n : Nat) : Sg → Out :=
    (sSeq (sIf (dT (dOp eqD (dVar 1) (dC (.int 0)))) (sRaise "NoFraction" (dCons (dC (.str "the bottom of a fraction is never 0")) dNil)) sNext)
    (sSeq (sSet 2 (dCall 2 F_greatest_divisor (dCons (dVar 0) (dCons (dVar 1) dNil))))
    (sSeq (sIf (dT (dOp ltI (dVar 1) (dC (.int 0)))) (sSet 2 (dUn negI (dVar 2))) sNext)
    (sRet (dTup (dCons (dOp fdivI (dVar 0) (dVar 2)) (dCons (dOp fdivI (dVar 1) (dVar 2)) dNil)))))))
def F_fraction (as : List Slot) : Ans := ans (b_fraction 0 (st0 n_fraction as))
theorem fraction_ok (t b : Int) (h : b ≠ 0) (hb : b.natAbs < 2 ^ 9000) : F_fraction [.val (.int t), .val (.int b)] = .ok (.tup [.int (frT t b), .int (frB t b)]) := by
  have d1 : ∀ x, fdivI (.int x) (.int (frD b (Int.gcd t b))) = .ok (.int (x.fdiv (frD b (Int.gcd t b)))) := fun x => fdivI_int _ _ (divOk_of (frD_ne h) (frD_bound h hb))
  by_cases hn : b < 0
  · have e : frD b (Int.gcd t b) = -(Int.gcd t b : Int) := by simp [frD, hn]
    rw [e] at d1
    simp [F_fraction, b_fraction, st0, h, hn, F_greatest_divisor, d1, frT, frB, e]
  · have e : frD b (Int.gcd t b) = (Int.gcd t b : Int) := by simp [frD, hn]
    rw [e] at d1
    simp [F_fraction, b_fraction, st0, h, hn, F_greatest_divisor, d1, frT, frB, e]
def fq (p : Int × Int) : D := .tup [.int p.1, .int p.2]
theorem ix0 (p : Int × Int) : ixD (fq p) (.int 0) = .ok (.int p.1) := rfl
theorem ix1 (p : Int × Int) : ixD (fq p) (.int 1) = .ok (.int p.2) := rfl
structure Low (n : Nat) (p : Int × Int) : Prop where
  pos : 1 ≤ p.2
  gcd : Int.gcd p.1 p.2 = 1
  top : p.1.natAbs < 2 ^ n
  bot : p.2.natAbs < 2 ^ n
theorem mulS {n : Nat} {x y : Int} (hx : x.natAbs < 2 ^ n) (hy : y.natAbs < 2 ^ n) (hn : n ≤ 1000) : mulI (.int x) (.int y) = .ok (.int (x * y)) := mulI_int _ _ (mulOk_both hx hy (Nat.le_trans hn (by decide)) (Nat.le_trans hn (by decide)))
theorem mul_size {n m : Nat} {x y : Int} (hx : x.natAbs < 2 ^ n) (hy : y.natAbs < 2 ^ m) : (x * y).natAbs < 2 ^ (n + m) := by
  rw [Int.natAbs_mul, Nat.pow_add]
  exact Nat.mul_lt_mul'' hx hy
theorem size_mono {n m : Nat} {x : Int} (h : x.natAbs < 2 ^ n) (hnm : n ≤ m) : x.natAbs < 2 ^ m := Nat.lt_of_lt_of_le h (Nat.pow_le_pow_right (by decide) hnm)
theorem bot_ne {a b : Int} (ha : 1 ≤ a) (hb : 1 ≤ b) : a * b ≠ 0 := by
  have : 0 < a * b := Int.mul_pos (by omega) (by omega)
  omega
theorem fraction_fq {n : Nat} (t b : Int) (h : b ≠ 0) (hb : b.natAbs < 2 ^ n) (hn : n ≤ 1000) : F_fraction [.val (.int t), .val (.int b)] = .ok (fq (frT t b, frB t b)) := fraction_ok t b h (size_mono hb (Nat.le_trans hn (by decide)))
abbrev n_minus : List Str := ["one", "other"]
abbrev p_minus : List Str := ["one", "other"]
def b_minus (n : Nat) : Sg → Out :=
    (sRet (dCall 2 F_fraction (dCons (dOp subI (dOp mulI (dOp ixD (dVar 0) (dC (.int 0))) (dOp ixD (dVar 1) (dC (.int 1)))) (dOp mulI (dOp ixD (dVar 1) (dC (.int 0))) (dOp ixD (dVar 0) (dC (.int 1))))) (dCons (dOp mulI (dOp ixD (dVar 0) (dC (.int 1))) (dOp ixD (dVar 1) (dC (.int 1)))) dNil))))
def F_minus (as : List Slot) : Ans := ans (b_minus 0 (st0 n_minus as))
theorem minus_ok {p q : Int × Int} (hp : Low 200 p) (hq : Low 200 q) : F_minus [.val (fq p), .val (fq q)] = .ok (fq (frT (p.1 * q.2 - q.1 * p.2) (p.2 * q.2), frB (p.1 * q.2 - q.1 * p.2) (p.2 * q.2))) := by
  simp [F_minus, b_minus, st0, ix0, ix1, mulS hp.top hq.bot, mulS hq.top hp.bot, mulS hp.bot hq.bot, fraction_fq _ _ (bot_ne hp.pos hq.pos) (mul_size hp.bot hq.bot)]
abbrev n_Filter_swallows : List Str := ["self"]
abbrev p_Filter_swallows : List Str := ["self"]
def b_Filter_swallows (n : Nat) : Sg → Out :=
    (sRet (dCall 2 F_minus (dCons (dC (.tup [(.int 1), (.int 1)])) (dCons (dFld "share" (dVar 0)) dNil))))
def F_Filter_swallows (as : List Slot) : Ans := ans (b_Filter_swallows 0 (st0 n_Filter_swallows as))
abbrev n_Wall_swallows : List Str := ["self"]
abbrev p_Wall_swallows : List Str := ["self"]
def b_Wall_swallows (n : Nat) : Sg → Out :=
    (sRet (dC (.tup [(.int 1), (.int 1)])))
def F_Wall_swallows (as : List Slot) : Ans := ans (b_Wall_swallows 0 (st0 n_Wall_swallows as))
def t_swallows : List (String × (List Slot → Ans)) := [("Empty", F_Cell_swallows), ("Mirror", F_Cell_swallows), ("Half", F_Cell_swallows), ("Filter", F_Filter_swallows), ("Wall", F_Wall_swallows), ("Fibre", F_Cell_swallows)]
abbrev n_Cell_leads : List Str := ["self", "way"]
abbrev p_Cell_leads : List Str := ["self", "way"]
def b_Cell_leads (n : Nat) : Sg → Out :=
    (sRetM (mL (dLst (dCons (dTup (dCons (dVar 1) (dCons (dC (.tup [(.int 1), (.int 1)])) dNil))) dNil))))
def F_Cell_leads (as : List Slot) : Ans := ans (b_Cell_leads 0 (st0 n_Cell_leads as))
abbrev n_Mirror_leads : List Str := ["self", "way"]
abbrev p_Mirror_leads : List Str := ["self", "way"]
def b_Mirror_leads (n : Nat) : Sg → Out :=
    (sRetM (mL (dLst (dCons (dTup (dCons (dOp xorI (dVar 1) (dFld "slant" (dVar 0))) (dCons (dC (.tup [(.int 1), (.int 1)])) dNil))) dNil))))
def F_Mirror_leads (as : List Slot) : Ans := ans (b_Mirror_leads 0 (st0 n_Mirror_leads as))
abbrev n_Half_leads : List Str := ["self", "way", "thrown", "straight"]
abbrev p_Half_leads : List Str := ["self", "way"]
def b_Half_leads (n : Nat) : Sg → Out :=
    (sSeq (sSet 2 (dTup (dCons (dOp xorI (dVar 1) (dFld "slant" (dVar 0))) (dCons (dFld "share" (dVar 0)) dNil))))
    (sSeq (sSet 3 (dTup (dCons (dVar 1) (dCons (dCall 2 F_minus (dCons (dC (.tup [(.int 1), (.int 1)])) (dCons (dFld "share" (dVar 0)) dNil))) dNil))))
    (sRetM (mL (lCB sort2D (dCons (dFz (dLst (dCons (dVar 2) (dCons (dVar 3) dNil)))) dNil))))))
def F_Half_leads (as : List Slot) : Ans := ans (b_Half_leads 0 (st0 n_Half_leads as))
abbrev n_Filter_leads : List Str := ["self", "way"]
abbrev p_Filter_leads : List Str := ["self", "way"]
def b_Filter_leads (n : Nat) : Sg → Out :=
    (sRetM (mL (dLst (dCons (dTup (dCons (dVar 1) (dCons (dFld "share" (dVar 0)) dNil))) dNil))))
def F_Filter_leads (as : List Slot) : Ans := ans (b_Filter_leads 0 (st0 n_Filter_leads as))
abbrev n_Wall_leads : List Str := ["self", "way"]
abbrev p_Wall_leads : List Str := ["self", "way"]
def b_Wall_leads (n : Nat) : Sg → Out :=
    (sRetM (mL (dLst dNil)))
def F_Wall_leads (as : List Slot) : Ans := ans (b_Wall_leads 0 (st0 n_Wall_leads as))
def t_leads : List (String × (List Slot → Ans)) := [("Empty", F_Cell_leads), ("Mirror", F_Mirror_leads), ("Half", F_Half_leads), ("Filter", F_Filter_leads), ("Wall", F_Wall_leads), ("Fibre", F_Cell_leads)]
abbrev n_l_turned : List Str := ["_law_cell", "_law_other", "_law_row", "_law_way", "_law_due", "_law_again"]
abbrev p_l_turned : List Str := ["_law_cell"]
def y_l_turned_1 (n : Nat) : Sg → Out :=
    (sSeq (sSet 4 (dFz (lCB sort2D (dCons (dFz (lComp false (iSeq (dFzM (mMeth 1 t_leads (dVar 0) (dCons (dVar 3) dNil)))) 2 [] (tgTup 2 (tgCons (tgName 0) (tgCons (tgName 1) tgNil))) cYes (dTup (dCons (dOp modI (dOp addD (dVar 0) (dC (.int 1))) (dC (.int 4))) (dCons (dVar 1) dNil))))) dNil))))
    (sIf (dT (dOp neD (dFzM (mMeth 1 t_leads (dVar 1) (dCons (dOp modI (dOp addD (dVar 3) (dC (.int 1))) (dC (.int 4))) dNil))) (dVar 4))) (sRet (dC (.bl false))) sNext))
def b_l_turned (n : Nat) : Sg → Out :=
    (sSeq (sSet 1 (dFzM (mMeth 0 t_turned (dVar 0) dNil)))
    (sSeq (sSet 2 (dFzM (mMeth 0 t_row (dVar 0) dNil)))
    (sSeq (sIf (dT (dOp neD (dFzM (mMeth 0 t_swallows (dVar 1) dNil)) (dFzM (mMeth 0 t_swallows (dVar 0) dNil)))) (sRet (dC (.bl false))) sNext)
    (sSeq (sForI (iRng1 (dCons (dC (.int 4)) dNil)) (tgName 3) (y_l_turned_1 n))
    (sSeq (sSet 5 (dFzM (mMeth 0 t_turned (dFzM (mMeth 0 t_turned (dFzM (mMeth 0 t_turned (dVar 1) dNil)) dNil)) dNil)))
    (sRet (dAnd (dOp eqD (dFzM (mMeth 0 t_row (dVar 5) dNil)) (dVar 2)) (dOp eqD (dFzM (mMeth 0 t_row (dVar 0) dNil)) (dVar 2)))))))))
def F_l_turned (as : List Slot) : Ans := ans (b_l_turned 0 (st0 n_l_turned as))
abbrev n_law : List Str := ["_law_script", "_law_raw", "_law_slant", "_law_share_here", "_law_odd", "_law_none", "_law_cell"]
abbrev p_law : List Str := ["_law_script"]
def y_law_1 (n : Nat) : Sg → Out :=
    (sIf (cNot (dT (dCall 1 F_l_turned (dCons (dVar 6) dNil)))) (sRet (dC (.bl false))) sNext)
def y_law_2 (n : Nat) : Sg → Out :=
    (sSeq (sSet 2 (dOp ixD (dFz (dLst (dCons (dC (.int 1)) (dCons (dC (.int 3)) dNil)))) (dOp modI (dVar 1) (dC (.int 2)))))
    (sSeq (sSet 3 (dCall 1 F_l_share (dCons (dOp fdivI (dVar 1) (dC (.int 2))) dNil)))
    (sSeq (sSet 4 (dCall 1 F_l_bad_slant (dCons (dVar 1) dNil)))
    (sSeq (sSet 5 (dCall 1 F_l_bad_share (dCons (dOp fdivI (dVar 1) (dC (.int 2))) dNil)))
    (sSeq (sIf (cOr (cNot (dT (dCall 4 F_l_refused (dCons (dC (.int 0)) (dCons (dVar 4) (dCons (dVar 3) (dCons (dC (.str "")) dNil))))))) (cNot (dT (dCall 4 F_l_refused (dCons (dC (.int 1)) (dCons (dVar 4) (dCons (dVar 3) (dCons (dC (.str "")) dNil)))))))) (sRet (dC (.bl false))) sNext)
    (sSeq (sIf (cOr (cNot (dT (dCall 4 F_l_refused (dCons (dC (.int 1)) (dCons (dVar 2) (dCons (dVar 5) (dCons (dC (.str "")) dNil))))))) (cNot (dT (dCall 4 F_l_refused (dCons (dC (.int 1)) (dCons (dVar 4) (dCons (dVar 5) (dCons (dC (.str "")) dNil)))))))) (sRet (dC (.bl false))) sNext)
    (sSeq (sIf (cOr (cNot (dT (dCall 4 F_l_refused (dCons (dC (.int 2)) (dCons (dVar 2) (dCons (dVar 5) (dCons (dC (.str "")) dNil))))))) (cNot (dT (dCall 4 F_l_refused (dCons (dC (.int 3)) (dCons (dVar 2) (dCons (dVar 3) (dCons (dCall 1 F_l_bad_name (dCons (dVar 1) dNil)) dNil)))))))) (sRet (dC (.bl false))) sNext)
    (sForI (iSeq (dFz (dLst (dCons (dC (.obj "Empty" [] [])) (dCons (dMake 1 "Mirror" ["slant"] F_Mirror___init__ (dCons (dVar 2) dNil)) (dCons (dMake 2 "Half" ["slant", "share"] F_Half___init__ (dCons (dVar 2) (dCons (dVar 3) dNil))) (dCons (dMake 1 "Filter" ["share"] F_Filter___init__ (dCons (dVar 3) dNil)) (dCons (dC (.obj "Wall" [] [])) (dCons (dMake 1 "Fibre" ["name"] F_Fibre___init__ (dCons (dC (.str "ab")) dNil)) dNil))))))))) (tgName 6) (y_law_1 n)))))))))
def b_law (n : Nat) : Sg → Out :=
    (sSeq (sForI (iSeq (dFz (lOp catD (dFz (dLst (dCons (dC (.int 0)) dNil))) (dFz (lCut (dVar 0) dNoP (dP (dC (.int 63)))))))) (tgName 1) (y_law_2 n))
    (sRet (dC (.bl true))))
def F_law (as : List Slot) : Ans := ans (b_law 0 (st0 n_law as))
structure Sh (t b : Int) : Prop where
  t0 : 0 < t
  tb : t < b
  g : Int.gcd t b = 1
  bb : b.natAbs < 2 ^ 200
theorem Sh.tt {t b : Int} (h : Sh t b) : t.natAbs < 2 ^ 200 := by have := h.bb; have := h.t0; have := h.tb; omega
theorem slant_ok {s : Int} (h : s = 1 ∨ s = 3) : F_check_slant [.val (.int s)] = .ok .non := by
  rcases h with rfl | rfl <;> rfl
theorem slant_bad {s : Int} (h1 : s ≠ 1) (h3 : s ≠ 3) : F_check_slant [.val (.int s)] = .err "NoCell" := by
  have e1 : ((1 : Int) == s) = false := by simp; omega
  have e3 : ((3 : Int) == s) = false := by simp; omega
  simp [F_check_slant, b_check_slant, st0, notInA, notInD, seqO, flatD, inF, eqF, e1, e3]
theorem under_ok {a b c d : Int} (ha : a.natAbs < 2 ^ 200) (hb : b.natAbs < 2 ^ 200) (hc : c.natAbs < 2 ^ 200) (hd : d.natAbs < 2 ^ 200) : F_under [.val (.tup [.int a, .int b]), .val (.tup [.int c, .int d])] = .ok (.bl (decide (a * d < c * b))) := by
  simp [F_under, b_under, st0, ixD, atI, ixN, mulS ha hd (by decide), mulS hc hb (by decide)]
theorem share_any {t b : Int} (ht : t.natAbs < 2 ^ 200) (hb : b.natAbs < 2 ^ 200) : F_check_share [.val (.tup [.int t, .int b])] = if 0 < t ∧ t < b then .ok .non else .err "NoCell" := by
  have e1 := under_ok (a := 0) (b := 1) (c := t) (d := b) (by decide) (by decide) ht hb
  have e2 := under_ok (a := t) (b := b) (c := 1) (d := 1) ht hb (by decide) (by decide)
  by_cases h1 : 0 < t
  · by_cases h2 : t < b
    · simp [F_check_share, b_check_share, st0, e1, e2, h1, h2]
    · simp [F_check_share, b_check_share, st0, e1, e2, h1, h2]
  · simp [F_check_share, b_check_share, st0, e1, e2, h1]
theorem share_ok {t b : Int} (h : Sh t b) : F_check_share [.val (.tup [.int t, .int b])] = .ok .non := by
  rw [share_any h.tt h.bb, if_pos ⟨h.t0, h.tb⟩]
theorem gcd_sub {t b : Int} (h : Int.gcd t b = 1) : Int.gcd (b - t) b = 1 := by
  have e : b - t = -t + b * 1 := by omega
  rw [e, Int.gcd_add_mul_left_left, Int.neg_gcd]; exact h
theorem minus1 {t b : Int} (h : Sh t b) : F_minus [.val (.tup [.int 1, .int 1]), .val (.tup [.int t, .int b])] = .ok (.tup [.int (b - t), .int b]) := by
  have m := minus_ok (p := (1, 1)) (q := (t, b)) ⟨by decide, by decide, by decide, by decide⟩ ⟨by have := h.t0; have := h.tb; show 1 ≤ b; omega, h.g, h.tt, h.bb⟩
  have hb : (1 : Int) * b ≠ 0 := by have := h.t0; have := h.tb; omega
  obtain ⟨e1, e2⟩ := fr_of (t := 1 * b - t * 1) (u := 1 * b) (a := b - t) (b := b) hb (gcd_sub h.g) (by have := h.t0; have := h.tb; omega) (by rw [Int.one_mul, Int.mul_one])
  simp only [fq] at m
  rw [m, e1, e2]
def isLet (c : Nat) : Bool := decide (97 ≤ c) && decide (c ≤ 122)
structure Nm (x : Str) : Prop where
  lo : 1 ≤ x.length
  hi : x.length ≤ 8
  ls : x.cps.toList.all isLet = true
theorem inAlpha : ∀ c : Nat, isLet c = true → inStr ⟨#[c]⟩ "abcdefghijklmnopqrstuvwxyz" = true := by
  intro c h
  simp only [isLet, Bool.and_eq_true, decide_eq_true_eq] at h
  obtain ⟨h1, h2⟩ := h
  have : ∀ k : _root_.Fin 26, inStr ⟨#[97 + k.val]⟩ "abcdefghijklmnopqrstuvwxyz" = true := by decide +kernel
  have q := this ⟨c - 97, by omega⟩
  simp only [show 97 + (c - 97) = c by omega] at q
  exact q
theorem bools_rep : ∀ (n : Nat), bools (List.replicate n (.bl true)) = some (List.replicate n true)
  | 0 => rfl
  | n + 1 => by simp [List.replicate_succ, bools, bools_rep n]
theorem sizeLine_ge : 1000000 < sizeLine := by unfold sizeLine; decide
theorem name_ok {x : Str} (h : Nm x) : F_check_name [.val (.str x)] = .ok .non := by
  have hl : x.length ≤ sizeLine := Nat.le_trans h.hi (Nat.le_of_lt (Nat.lt_trans (by decide) sizeLine_ge))
  have comp : ∀ (cs : List Nat), cs.all isLet = true → compD (elD (tgName 0) cYes (dOp inA (dVar 0) (dC (.str "abcdefghijklmnopqrstuvwxyz"))) [Slot.no]) (cs.map fun c => D.str ⟨#[c]⟩) = .ok (List.replicate cs.length (.bl true)) := by
    intro cs
    induction cs with
    | nil => intro _; rfl
    | cons c cs ih =>
      intro hc
      simp only [List.all_cons, Bool.and_eq_true] at hc
      simp [compD, elD, ih hc.2, inA, inAlpha c hc.1, List.replicate_succ]
  have hlen : x.cps.toList.length < 1000000 := by
    have : x.cps.toList.length = x.length := by simp [Str.length]
    have := h.hi
    omega
  have h1 : (1 : Int) ≤ (x.length : Int) := by have := h.lo; omega
  have h2 : (x.length : Int) ≤ 8 := by have := h.hi; omega
  have hlen2 : x.cps.size < 1000000 := by simpa using hlen
  simp [F_check_name, b_check_name, st0, lenD, hl, h1, h2, seqD, signs, blk, hlen2, comp _ h.ls, allD, bools_rep]
theorem ne_ss : ¬ (Str.ofString "share" = Str.ofString "slant") := by decide
abbrev oEmpty : D := .obj "Empty" [] []
abbrev oMirror (s : Int) : D := .obj "Mirror" ["slant"] [.int s]
abbrev oHalf (s t b : Int) : D := .obj "Half" ["slant", "share"] [.int s, .tup [.int t, .int b]]
abbrev oFilter (t b : Int) : D := .obj "Filter" ["share"] [.tup [.int t, .int b]]
abbrev oWall : D := .obj "Wall" [] []
abbrev oFibre (x : Str) : D := .obj "Fibre" ["name"] [.str x]
theorem mk_mirror {s : Int} (h : s = 1 ∨ s = 3) : F_Mirror___init__ [.par (.o "Mirror" [] []), .val (.int s)] = .okG .non [(0, .o "Mirror" ["slant"] [.int s])] := by
  rcases h with rfl | rfl <;> rfl
theorem mk_half {s t b : Int} (h : s = 1 ∨ s = 3) (hs : Sh t b) : F_Half___init__ [.par (.o "Half" [] []), .val (.int s), .val (.tup [.int t, .int b])] = .okG .non [(0, .o "Half" ["slant", "share"] [.int s, .tup [.int t, .int b]])] := by
  simp [F_Half___init__, b_Half___init__, st0, slant_ok h, share_ok hs, pVar, upM, putO, ftab, List.lookup, outsAt, ne_ss]
theorem mk_filter {t b : Int} (hs : Sh t b) : F_Filter___init__ [.par (.o "Filter" [] []), .val (.tup [.int t, .int b])] = .okG .non [(0, .o "Filter" ["share"] [.tup [.int t, .int b]])] := by
  simp [F_Filter___init__, b_Filter___init__, st0, share_ok hs, pVar, upM, putO, ftab, List.lookup, outsAt]
theorem mk_fibre {x : Str} (h : Nm x) : F_Fibre___init__ [.par (.o "Fibre" [] []), .val (.str x)] = .okG .non [(0, .o "Fibre" ["name"] [.str x])] := by
  simp [F_Fibre___init__, b_Fibre___init__, st0, name_ok h, pVar, upM, putO, ftab, List.lookup, outsAt]
theorem f_slant (s : Int) : fldD "slant" (oMirror s) = .ok (.int s) := rfl
theorem f_slantH (s t b : Int) : fldD "slant" (oHalf s t b) = .ok (.int s) := rfl
theorem f_shareH (s t b : Int) : fldD "share" (oHalf s t b) = .ok (.tup [.int t, .int b]) := rfl
theorem f_shareF (t b : Int) : fldD "share" (oFilter t b) = .ok (.tup [.int t, .int b]) := rfl
theorem xor_lt {w s : Int} (hw : 0 ≤ w ∧ w < 4) (hs : s = 1 ∨ s = 3) : 0 ≤ Builtin.bitXor w s ∧ Builtin.bitXor w s < 4 ∧ Builtin.bitXor w s ≠ w := by
  obtain ⟨h0, h4⟩ := hw
  have : w = 0 ∨ w = 1 ∨ w = 2 ∨ w = 3 := by omega
  rcases this with rfl | rfl | rfl | rfl <;> rcases hs with rfl | rfl <;> decide
def two (a b : D) (i j : Int) : List D := if j < i then [b, a] else [a, b]
theorem row_empty : rMeth 0 t_row oEmpty (.ok []) = .ok (.d (.tup [.str "empty"])) := rfl
theorem row_wall : rMeth 0 t_row oWall (.ok []) = .ok (.d (.tup [.str "wall"])) := rfl
theorem row_mirror (s : Int) : rMeth 0 t_row (oMirror s) (.ok []) = .ok (.d (.tup [.str "mirror", .int s])) := rfl
theorem row_half (s t b : Int) : rMeth 0 t_row (oHalf s t b) (.ok []) = .ok (.d (.tup [.str "half", .int s, .tup [.int t, .int b]])) := rfl
theorem row_filter (t b : Int) : rMeth 0 t_row (oFilter t b) (.ok []) = .ok (.d (.tup [.str "filter", .tup [.int t, .int b]])) := rfl
theorem row_fibre (x : Str) : rMeth 0 t_row (oFibre x) (.ok []) = .ok (.d (.tup [.str "fibre", .str x])) := rfl
theorem sw_empty : rMeth 0 t_swallows oEmpty (.ok []) = .ok (.d (.tup [.int 0, .int 1])) := rfl
theorem sw_mirror (s : Int) : rMeth 0 t_swallows (oMirror s) (.ok []) = .ok (.d (.tup [.int 0, .int 1])) := rfl
theorem sw_half (s t b : Int) : rMeth 0 t_swallows (oHalf s t b) (.ok []) = .ok (.d (.tup [.int 0, .int 1])) := rfl
theorem sw_fibre (x : Str) : rMeth 0 t_swallows (oFibre x) (.ok []) = .ok (.d (.tup [.int 0, .int 1])) := rfl
theorem sw_wall : rMeth 0 t_swallows oWall (.ok []) = .ok (.d (.tup [.int 1, .int 1])) := rfl
theorem sw_filter {t b : Int} (h : Sh t b) : rMeth 0 t_swallows (oFilter t b) (.ok []) = .ok (.d (.tup [.int (b - t), .int b])) := by simp [rMeth, methF, t_swallows, List.lookup, F_Filter_swallows, b_Filter_swallows, st0, f_shareF, minus1 h]
theorem le_cell (w : Int) (o : D) : F_Cell_leads [.val o, .val (.int w)] = .new (.l [.tup [.int w, .tup [.int 1, .int 1]]]) := rfl
theorem le_mirror (s w : Int) : F_Mirror_leads [.val (oMirror s), .val (.int w)] = .new (.l [.tup [.int (Builtin.bitXor w s), .tup [.int 1, .int 1]]]) := rfl
theorem le_filter (t b w : Int) : F_Filter_leads [.val (oFilter t b), .val (.int w)] = .new (.l [.tup [.int w, .tup [.int t, .int b]]]) := rfl
theorem le_wall (w : Int) : F_Wall_leads [.val oWall, .val (.int w)] = .new (.l []) := rfl
theorem sort_two {i j : Int} {r q : List D} (h : i ≠ j) : sort2D [.lst [.tup (.int i :: r), .tup (.int j :: q)]] = .ok (two (.tup (.int i :: r)) (.tup (.int j :: q)) i j) := by
  by_cases hl : j < i
  · simp [sort2D, ltT, Ne.symm h, hl, two]
  · simp [sort2D, ltT, Ne.symm h, hl, two]
theorem le_half {s t b w : Int} (h : Sh t b) (hw : 0 ≤ w ∧ w < 4) (hs : s = 1 ∨ s = 3) : F_Half_leads [.val (oHalf s t b), .val (.int w)] = .new (.l (two (.tup [.int (Builtin.bitXor w s), .tup [.int t, .int b]]) (.tup [.int w, .tup [.int (b - t), .int b]]) (Builtin.bitXor w s) w)) := by
  have hx := (xor_lt hw hs).2.2
  have nt2 : nts (two (.tup [.int (Builtin.bitXor w s), .tup [.int t, .int b]]) (.tup [.int w, .tup [.int (b - t), .int b]]) (Builtin.bitXor w s) w) = true := by unfold two; split <;> simp
  simp [F_Half_leads, b_Half_leads, st0, f_slantH, f_shareH, minus1 h, sort_two hx, nt2]
theorem fm_size (x m : Int) (hm : 0 < m) : 0 ≤ x.fmod m ∧ x.fmod m < m := ⟨Int.fmod_nonneg_of_pos _ hm, Int.fmod_lt_of_pos _ hm⟩
theorem low_eq {a b : Int} (ha : 0 ≤ a) (hb1 : 1 ≤ b) (hb : b.natAbs < 2 ^ 200) : F_l_low [.val (.int a), .val (.int b)] = .ok (.tup [.int (frT a b), .int (frB a b)]) := by
  have hb9 : b.natAbs < 2 ^ 9000 := Nat.lt_of_lt_of_le hb (Nat.pow_le_pow_right (by decide) (by decide))
  have e : frD b (Int.gcd a b) = (Int.gcd a b : Int) := by unfold frD; rw [if_neg (by omega)]
  simp only [F_l_low, frT, frB, e]
  rw [if_pos ⟨ha, hb1, hb9⟩]
theorem low_ok {a b : Int} (ha : 0 < a) (hab : a < b) (hb : b.natAbs < 2 ^ 200) : ∃ t u, F_l_low [.val (.int a), .val (.int b)] = .ok (.tup [.int t, .int u]) ∧ Sh t u := by
  have hne : b ≠ 0 := by omega
  have e : frD b (Int.gcd a b) = (Int.gcd a b : Int) := by unfold frD; rw [if_neg (by omega)]
  refine ⟨frT a b, frB a b, low_eq (by omega) (by omega) hb, ?_⟩
  have gp : 0 < Int.gcd a b := gcd_pos hne
  have m1 := frT_mul a b
  have m2 := frB_mul a b
  rw [e] at m1 m2
  have gz : (0 : Int) < (Int.gcd a b : Int) := by omega
  refine ⟨?_, ?_, fr_gcd hne, Nat.lt_of_le_of_lt (frB_le hne) hb⟩
  · apply Int.pos_of_mul_pos_left (b := (Int.gcd a b : Int)) <;> first | omega | skip
  · apply Int.lt_of_mul_lt_mul_right (a := (Int.gcd a b : Int)) <;> omega
theorem share_drawn (c : Int) : ∃ t b, F_l_share [.val (.int c)] = .ok (.tup [.int t, .int b]) ∧ Sh t b := by
  have s1 := fm_size (c.fdiv 7) 96 (by decide)
  have s2 := fm_size ((c.fdiv 5) * 48271) (2 + (c.fdiv 7).fmod 96 - 1) (by omega)
  obtain ⟨t, b, e, hs⟩ := low_ok (a := 1 + ((c.fdiv 5) * 48271).fmod (2 + (c.fdiv 7).fmod 96 - 1)) (b := 2 + (c.fdiv 7).fmod 96) (by omega) (by omega) (by omega)
  refine ⟨t, b, ?_, hs⟩
  have hz : (2 + (c.fdiv 7).fmod 96 - 1) ≠ 0 := by omega
  simp [F_l_share, b_l_share, st0, modI_int _ _ hz, e]
theorem bad_slant (c : Int) : ∃ s, F_l_bad_slant [.val (.int c)] = .ok (.int s) ∧ s ≠ 1 ∧ s ≠ 3 := by
  have s1 := fm_size (c.fdiv 5) (10 ^ 30) (by decide)
  have s2 := fm_size c 5 (by decide)
  have e : F_l_bad_slant [.val (.int c)] = ans (oE (ixD (.lst [.int 0, .int 2, .int (-1 - (c.fdiv 5).fmod (10 ^ 30)), .int (4 + (c.fdiv 5).fmod (10 ^ 30)), .int 5]) (.int (c.fmod 5))) [.val (.int c)] fun d => .rt d) := by
    simp [F_l_bad_slant, b_l_bad_slant, st0]
  have : c.fmod 5 = 0 ∨ c.fmod 5 = 1 ∨ c.fmod 5 = 2 ∨ c.fmod 5 = 3 ∨ c.fmod 5 = 4 := by omega
  rcases this with h | h | h | h | h <;> rw [h] at e
  · exact ⟨_, e, by decide, by decide⟩
  · exact ⟨_, e, by decide, by decide⟩
  · exact ⟨_, e, by omega, by omega⟩
  · exact ⟨_, e, by omega, by omega⟩
  · exact ⟨_, e, by decide, by decide⟩
theorem bad_share (c : Int) : ∃ t b, F_l_bad_share [.val (.int c)] = .ok (.tup [.int t, .int b]) ∧ ¬ (0 < t ∧ t < b) ∧ t.natAbs < 2 ^ 200 ∧ b.natAbs < 2 ^ 200 := by
  have s1 := fm_size (c.fdiv 4) (10 ^ 30) (by decide)
  have s2 := fm_size c 4 (by decide)
  obtain ⟨far, hf⟩ : ∃ far, far = (c.fdiv 4).fmod (10 ^ 30) := ⟨_, rfl⟩
  rw [← hf] at s1
  have hfs : (c.fdiv 4).fmod 1000000000000000000000000000000 = far := by rw [hf]; rfl
  have hb : (far + 2).natAbs < 2 ^ 200 := by omega
  have hl := low_eq (a := far + 3) (b := far + 2) (by omega) (by omega) hb
  have hne : far + 2 ≠ 0 := by omega
  have e : frD (far + 2) (Int.gcd (far + 3) (far + 2)) = (Int.gcd (far + 3) (far + 2) : Int) := by unfold frD; rw [if_neg (by omega)]
  have gp : 0 < Int.gcd (far + 3) (far + 2) := gcd_pos hne
  have m1 := frT_mul (far + 3) (far + 2)
  have m2 := frB_mul (far + 3) (far + 2)
  rw [e] at m1 m2
  have gt : ¬ frT (far + 3) (far + 2) < frB (far + 3) (far + 2) := by
    intro hlt
    have := Int.mul_lt_mul_of_pos_right hlt (show (0 : Int) < (Int.gcd (far + 3) (far + 2) : Int) by omega)
    omega
  have : c.fmod 4 = 0 ∨ c.fmod 4 = 1 ∨ c.fmod 4 = 2 ∨ c.fmod 4 = 3 := by omega
  rcases this with h | h | h | h
  · exact ⟨0, 1, by simp [F_l_bad_share, b_l_bad_share, st0, hfs, h, hl, ixD, atI, ixN], by decide, by decide, by decide⟩
  · exact ⟨1, 1, by simp [F_l_bad_share, b_l_bad_share, st0, hfs, h, hl, ixD, atI, ixN], by decide, by decide, by decide⟩
  · exact ⟨_, _, by simp [F_l_bad_share, b_l_bad_share, st0, hfs, h, hl, ixD, atI, ixN], fun z => gt z.2, Nat.lt_of_le_of_lt (frT_le hne) (by omega), Nat.lt_of_le_of_lt (frB_le hne) hb⟩
  · exact ⟨-1, far + 2, by simp [F_l_bad_share, b_l_bad_share, st0, hfs, h, hl, ixD, atI, ixN], by omega, by decide, hb⟩
def inL (c : Nat) : Bool := inStr ⟨#[c]⟩ "abcdefghijklmnopqrstuvwxyz"
def nameB (x : Str) : Bool := decide (1 ≤ x.length) && decide (x.length ≤ 8) && x.cps.toList.all inL
theorem bools_map (g : Nat → Bool) : ∀ cs : List Nat, bools (cs.map fun c => .bl (g c)) = some (cs.map g)
  | [] => rfl
  | c :: cs => by simp [bools, bools_map g cs]
theorem name_bad {x : Str} (h : x.length ≤ 100) (hb : nameB x = false) : F_check_name [.val (.str x)] = .err "NoCell" := by
  have hl : x.length ≤ sizeLine := Nat.le_trans h (Nat.le_of_lt (Nat.lt_trans (by decide) sizeLine_ge))
  have comp : ∀ (cs : List Nat), compD (elD (tgName 0) cYes (dOp inA (dVar 0) (dC (.str "abcdefghijklmnopqrstuvwxyz"))) [Slot.no]) (cs.map fun c => D.str ⟨#[c]⟩) = .ok (cs.map fun c => .bl (inL c)) := by
    intro cs
    induction cs with
    | nil => rfl
    | cons c cs ih => simp [compD, elD, ih, inA, inL]
  have hlen : x.cps.size < 1000000 := by
    have : x.cps.size = x.length := rfl
    omega
  have hm : (x.cps.toList.map inL).all id = x.cps.toList.all inL := by simp [List.all_map, Function.comp_def]
  by_cases h1 : (1 : Int) ≤ (x.length : Int)
  · by_cases h2 : (x.length : Int) ≤ 8
    · have h3 : x.cps.toList.all inL = false := by
        simp only [nameB] at hb
        rw [show decide (1 ≤ x.length) = true by simp; omega, show decide (x.length ≤ 8) = true by simp; omega] at hb
        simpa using hb
      have h4 : x.cps.all inL = false := by simpa using h3
      simp [F_check_name, b_check_name, st0, lenD, hl, h1, h2, seqD, signs, blk, hlen, comp, allD, bools_map, h4]
    · simp [F_check_name, b_check_name, st0, lenD, hl, h1, h2]
  · simp [F_check_name, b_check_name, st0, lenD, hl, h1]
def goodN (l : Nat) : Str := Txt.slice "abcdefgh" none (some (1 + (l : Int)))
def sgnN (g : Nat) : Str := match g with
  | 0 => "A"
  | 1 => "1"
  | 2 => " "
  | 3 => "-"
  | 4 => "_"
  | _ => "."
def wordN (l a g : Nat) : Str := Txt.slice (goodN l) none (some (a : Int)) ++ sgnN g ++ Txt.slice (goodN l) (some ((a : Int) + 1)) none
theorem good_len : ∀ l : _root_.Fin 8, (goodN l.val).length = l.val + 1 := by decide +kernel
theorem word_facts : ∀ l : _root_.Fin 8, ∀ a : _root_.Fin 8, ∀ g : _root_.Fin 6, (Txt.slice (goodN l.val) none (some (a.val : Int))).length ≤ 8 ∧ (sgnN g.val).length = 1 ∧ (Txt.slice (goodN l.val) (some ((a.val : Int) + 1)) none).length ≤ 8 ∧ (wordN l.val a.val g.val).length ≤ 17 ∧ nameB (wordN l.val a.val g.val) = false := by decide +kernel
theorem sgn_ix (g : Nat) (h : g < 6) : ixD (.lst [.str "A", .str "1", .str " ", .str "-", .str "_", .str "."]) (.int (g : Int)) = .ok (.str (sgnN g)) := by
  have : g = 0 ∨ g = 1 ∨ g = 2 ∨ g = 3 ∨ g = 4 ∨ g = 5 := by omega
  rcases this with rfl | rfl | rfl | rfl | rfl | rfl <;> rfl
theorem str_len (x y : Str) : (x ++ y).length = x.length + y.length := by
  show (x.cps ++ y.cps).size = x.cps.size + y.cps.size
  simp
theorem addS {x y : Str} (hx : x.length ≤ 100) (hy : y.length ≤ 100) : addD (.str x) (.str y) = .ok (.str (x ++ y)) := by
  have := sizeLine_ge
  have : x.length + y.length ≤ sizeLine := by omega
  simp only [addD, this, if_true]
theorem bad_name (c : Int) : ∃ x, F_l_bad_name [.val (.int c)] = .ok (.str x) ∧ F_check_name [.val (.str x)] = .err "NoCell" := by
  have s1 := fm_size c 8 (by decide)
  obtain ⟨l, hl⟩ := Int.eq_ofNat_of_zero_le s1.1
  have hl8 : l < 8 := by omega
  have gl := good_len ⟨l, hl8⟩
  simp only at gl
  have s2 := fm_size (c.fdiv 8) ((l : Int) + 1) (by omega)
  obtain ⟨a, ha⟩ := Int.eq_ofNat_of_zero_le s2.1
  have ha8 : a < 8 := by omega
  have s3 := fm_size (c.fdiv 64) 6 (by decide)
  obtain ⟨g, hg⟩ := Int.eq_ofNat_of_zero_le s3.1
  have hg6 : g < 6 := by omega
  have s4 := fm_size (c.fdiv 3) 4 (by decide)
  obtain ⟨f1, f2, f3, f4, f5⟩ := word_facts ⟨l, hl8⟩ ⟨a, ha8⟩ ⟨g, hg6⟩
  simp only at f1 f2 f3 f4 f5
  have hz := sizeLine_ge
  have c1 : (Str.ofString "abcdefgh").length ≤ sizeLine := Nat.le_trans (show (Str.ofString "abcdefgh").length ≤ 100 by decide) (by omega)
  have c2 : (goodN l).length ≤ sizeLine := by omega
  have e1 : Txt.slice "abcdefgh" none (some (1 + (l : Int))) = goodN l := rfl
  have hne : ((l : Int) + 1) ≠ 0 := by omega
  have a1 := addS (x := Txt.slice (goodN l) none (some (a : Int))) (y := sgnN g) (by omega) (by omega)
  have a2 := addS (x := Txt.slice (goodN l) none (some (a : Int)) ++ sgnN g) (y := Txt.slice (goodN l) (some ((a : Int) + 1)) none) (by rw [str_len]; omega) (by omega)
  have md : modI (.int (c.fdiv 8)) (.int ((goodN l).length : Int)) = .ok (.int (a : Int)) := by
    rw [gl]
    have := modI_int (c.fdiv 8) ((l : Int) + 1) hne
    rw [ha] at this
    exact this
  have ld : lenD [.str (goodN l)] = .ok (.int ((goodN l).length : Int)) := by simp only [lenD, c2, if_true]
  have hw : Txt.slice (goodN l) none (some (a : Int)) ++ sgnN g ++ Txt.slice (goodN l) (some ((a : Int) + 1)) none = wordN l a g := rfl
  rw [hw] at a2
  have run : ∀ k : Int, (c.fdiv 3).fmod 4 = k → F_l_bad_name [.val (.int c)] = ans (oE (ixD (.lst [.str "", .str "abcdefghi", .str (wordN l a g), .str (wordN l a g)]) (.int k)) [.val (.int c), .val (.str (goodN l)), .val (.int (a : Int)), .val (.str (sgnN g))] fun d => .rt d) := by
    intro k hk
    simp [F_l_bad_name, b_l_bad_name, st0, dCutS, hl, c1, e1, ld, md, hg, sgn_ix g hg6, c2, a1, a2, hk]
  have : (c.fdiv 3).fmod 4 = 0 ∨ (c.fdiv 3).fmod 4 = 1 ∨ (c.fdiv 3).fmod 4 = 2 ∨ (c.fdiv 3).fmod 4 = 3 := by omega
  rcases this with h | h | h | h <;> rw [run _ h]
  · exact ⟨"", rfl, name_bad (by decide) (by decide +kernel)⟩
  · exact ⟨"abcdefghi", rfl, name_bad (by decide) (by decide +kernel)⟩
  · exact ⟨wordN l a g, rfl, name_bad (by omega) f5⟩
  · exact ⟨wordN l a g, rfl, name_bad (by omega) f5⟩
theorem no_mirror {s : Int} (h1 : s ≠ 1) (h3 : s ≠ 3) : F_Mirror___init__ [.par (.o "Mirror" [] []), .val (.int s)] = .err "NoCell" := by
  simp [F_Mirror___init__, b_Mirror___init__, st0, slant_bad h1 h3]
theorem no_halfS {s : Int} {d : D} (h1 : s ≠ 1) (h3 : s ≠ 3) : F_Half___init__ [.par (.o "Half" [] []), .val (.int s), .val d] = .err "NoCell" := by
  simp [F_Half___init__, b_Half___init__, st0, slant_bad h1 h3]
theorem no_halfT {s t b : Int} (hs : s = 1 ∨ s = 3) (h : ¬ (0 < t ∧ t < b)) (ht : t.natAbs < 2 ^ 200) (hb : b.natAbs < 2 ^ 200) : F_Half___init__ [.par (.o "Half" [] []), .val (.int s), .val (.tup [.int t, .int b])] = .err "NoCell" := by
  have e := share_any ht hb
  rw [if_neg h] at e
  simp [F_Half___init__, b_Half___init__, st0, slant_ok hs, e]
theorem no_filter {t b : Int} (h : ¬ (0 < t ∧ t < b)) (ht : t.natAbs < 2 ^ 200) (hb : b.natAbs < 2 ^ 200) : F_Filter___init__ [.par (.o "Filter" [] []), .val (.tup [.int t, .int b])] = .err "NoCell" := by
  have e := share_any ht hb
  rw [if_neg h] at e
  simp [F_Filter___init__, b_Filter___init__, st0, e]
theorem no_fibre {x : Str} (e : F_check_name [.val (.str x)] = .err "NoCell") : F_Fibre___init__ [.par (.o "Fibre" [] []), .val (.str x)] = .err "NoCell" := by
  simp [F_Fibre___init__, b_Fibre___init__, st0, e]
theorem hit : hitOf mt "BeamError" "NoCell" = some true := by decide
theorem mt_no : mt.lookup "NoCell" = some ["NoCell", "BeamError", "ValueError"] := by decide
theorem mk_err {c : String} {ns : List Str} {x : String} : mkAns c ns (.err x) = .err x := rfl
theorem ref0 {s : Int} {d : D} {x : Str} (h1 : s ≠ 1) (h3 : s ≠ 3) : F_l_refused [.val (.int 0), .val (.int s), .val d, .val (.str x)] = .ok (.bl true) := by
  simp [F_l_refused, b_l_refused, st0, no_mirror h1 h3, mk_err, oTry_err _ _ _ _ _ hit, isiD, mt_no]
theorem ref1S {s : Int} {d : D} {x : Str} (h1 : s ≠ 1) (h3 : s ≠ 3) : F_l_refused [.val (.int 1), .val (.int s), .val d, .val (.str x)] = .ok (.bl true) := by
  simp [F_l_refused, b_l_refused, st0, no_halfS h1 h3, mk_err, oTry_err _ _ _ _ _ hit, isiD, mt_no]
theorem ref1T {s t b : Int} {x : Str} (hs : s = 1 ∨ s = 3) (h : ¬ (0 < t ∧ t < b)) (ht : t.natAbs < 2 ^ 200) (hb : b.natAbs < 2 ^ 200) : F_l_refused [.val (.int 1), .val (.int s), .val (.tup [.int t, .int b]), .val (.str x)] = .ok (.bl true) := by
  simp [F_l_refused, b_l_refused, st0, no_halfT hs h ht hb, mk_err, oTry_err _ _ _ _ _ hit, isiD, mt_no]
theorem ref2 {s t b : Int} {x : Str} (h : ¬ (0 < t ∧ t < b)) (ht : t.natAbs < 2 ^ 200) (hb : b.natAbs < 2 ^ 200) : F_l_refused [.val (.int 2), .val (.int s), .val (.tup [.int t, .int b]), .val (.str x)] = .ok (.bl true) := by
  simp [F_l_refused, b_l_refused, st0, no_filter h ht hb, mk_err, oTry_err _ _ _ _ _ hit, isiD, mt_no]
theorem ref3 {s : Int} {d : D} {x : Str} (e : F_check_name [.val (.str x)] = .err "NoCell") : F_l_refused [.val (.int 3), .val (.int s), .val d, .val (.str x)] = .ok (.bl true) := by
  simp [F_l_refused, b_l_refused, st0, no_fibre e, mk_err, oTry_err _ _ _ _ _ hit, isiD, mt_no]
theorem os (s : Int) : F_other_slant [.val (.int s)] = .ok (.int (4 - s)) := by simp [F_other_slant, b_other_slant, st0]
def tcell (k : Nat) (s t b : Int) (x : Str) : D := match k with
  | 0 => oEmpty
  | 1 => oMirror s
  | 2 => oHalf s t b
  | 3 => oFilter t b
  | 4 => oWall
  | _ => oFibre x
def trow (k : Nat) (s t b : Int) (x : Str) : D := match k with
  | 0 => .tup [.str "empty"]
  | 1 => .tup [.str "mirror", .int s]
  | 2 => .tup [.str "half", .int s, .tup [.int t, .int b]]
  | 3 => .tup [.str "filter", .tup [.int t, .int b]]
  | 4 => .tup [.str "wall"]
  | _ => .tup [.str "fibre", .str x]
theorem turned_ok {s t b : Int} {x : Str} (k : Nat) (hk : k < 6) (hs : s = 1 ∨ s = 3) (hh : Sh t b) : rMeth 0 t_turned (tcell k s t b x) (.ok []) = .ok (.d (tcell k (4 - s) t b x)) := by
  have hs' : 4 - s = 1 ∨ 4 - s = 3 := by omega
  have : k = 0 ∨ k = 1 ∨ k = 2 ∨ k = 3 ∨ k = 4 ∨ k = 5 := by omega
  have e0 : t_turned.lookup "Empty" = some F_Cell_turned := rfl
  have e1 : t_turned.lookup "Mirror" = some F_Mirror_turned := rfl
  have e2 : t_turned.lookup "Half" = some F_Half_turned := rfl
  have e3 : t_turned.lookup "Filter" = some F_Cell_turned := rfl
  have e4 : t_turned.lookup "Wall" = some F_Cell_turned := rfl
  have e5 : t_turned.lookup "Fibre" = some F_Cell_turned := rfl
  rcases this with rfl | rfl | rfl | rfl | rfl | rfl <;> simp only [tcell]
  · exact (rMeth_ok (n := 0) (ds := []) e0 rfl).trans (by simp [F_Cell_turned, b_Cell_turned, st0])
  · exact (rMeth_ok (n := 0) (ds := []) e1 rfl).trans (by simp [F_Mirror_turned, b_Mirror_turned, st0, f_slant, os, mk_mirror hs', mkAns])
  · exact (rMeth_ok (n := 0) (ds := []) e2 rfl).trans (by simp [F_Half_turned, b_Half_turned, st0, f_slantH, f_shareH, os, mk_half hs' hh, mkAns])
  · exact (rMeth_ok (n := 0) (ds := []) e3 rfl).trans (by simp [F_Cell_turned, b_Cell_turned, st0])
  · exact (rMeth_ok (n := 0) (ds := []) e4 rfl).trans (by simp [F_Cell_turned, b_Cell_turned, st0])
  · exact (rMeth_ok (n := 0) (ds := []) e5 rfl).trans (by simp [F_Cell_turned, b_Cell_turned, st0])
theorem trow_ok (k : Nat) (hk : k < 6) (s t b : Int) (x : Str) : rMeth 0 t_row (tcell k s t b x) (.ok []) = .ok (.d (trow k s t b x)) := by
  have : k = 0 ∨ k = 1 ∨ k = 2 ∨ k = 3 ∨ k = 4 ∨ k = 5 := by omega
  rcases this with rfl | rfl | rfl | rfl | rfl | rfl
  · exact row_empty
  · exact row_mirror s
  · exact row_half s t b
  · exact row_filter t b
  · exact row_wall
  · exact row_fibre x
theorem trows_same (k : Nat) (hk : k < 6) (s t b : Int) {x : Str} (hn : PyData.strOk x = true) : eqD (trow k s t b x) (trow k s t b x) = .ok (.bl true) := by
  have : k = 0 ∨ k = 1 ∨ k = 2 ∨ k = 3 ∨ k = 4 ∨ k = 5 := by omega
  rcases this with rfl | rfl | rfl | rfl | rfl | rfl <;> simp [eqD, trow, okq, deq, py, pys, PyData.eqv, PyData.eqvAll, hn] <;> decide +kernel
theorem tsw_ok (k : Nat) (hk : k < 6) {t b : Int} (hh : Sh t b) (x : Str) : ∃ p q, ∀ s, rMeth 0 t_swallows (tcell k s t b x) (.ok []) = .ok (.d (.tup [.int p, .int q])) := by
  have : k = 0 ∨ k = 1 ∨ k = 2 ∨ k = 3 ∨ k = 4 ∨ k = 5 := by omega
  rcases this with rfl | rfl | rfl | rfl | rfl | rfl
  · exact ⟨_, _, fun s => sw_empty⟩
  · exact ⟨_, _, fun s => sw_mirror s⟩
  · exact ⟨_, _, fun s => sw_half s t b⟩
  · exact ⟨_, _, fun s => sw_filter hh⟩
  · exact ⟨_, _, fun s => sw_wall⟩
  · exact ⟨_, _, fun s => sw_fibre x⟩
def tdue (k : Nat) (s t b w : Int) : List D := match k with
  | 1 => [.tup [.int (Builtin.bitXor w s), .tup [.int 1, .int 1]]]
  | 2 => two (.tup [.int (Builtin.bitXor w s), .tup [.int t, .int b]]) (.tup [.int w, .tup [.int (b - t), .int b]]) (Builtin.bitXor w s) w
  | 3 => [.tup [.int w, .tup [.int t, .int b]]]
  | 4 => []
  | _ => [.tup [.int w, .tup [.int 1, .int 1]]]
theorem tleads_ok {s t b w : Int} {x : Str} (k : Nat) (hk : k < 6) (hs : s = 1 ∨ s = 3) (hh : Sh t b) (hw : 0 ≤ w ∧ w < 4) : rMeth 1 t_leads (tcell k s t b x) (.ok [.int w]) = .ok (.l (tdue k s t b w)) := by
  have : k = 0 ∨ k = 1 ∨ k = 2 ∨ k = 3 ∨ k = 4 ∨ k = 5 := by omega
  have e0 : t_leads.lookup "Empty" = some F_Cell_leads := rfl
  have e1 : t_leads.lookup "Mirror" = some F_Mirror_leads := rfl
  have e2 : t_leads.lookup "Half" = some F_Half_leads := rfl
  have e3 : t_leads.lookup "Filter" = some F_Filter_leads := rfl
  have e4 : t_leads.lookup "Wall" = some F_Wall_leads := rfl
  have e5 : t_leads.lookup "Fibre" = some F_Cell_leads := rfl
  rcases this with rfl | rfl | rfl | rfl | rfl | rfl <;> simp only [tcell, tdue]
  · exact (rMeth_ok (n := 1) (ds := [.int w]) e0 rfl).trans (by simp [le_cell])
  · exact (rMeth_ok (n := 1) (ds := [.int w]) e1 rfl).trans (by simp [le_mirror])
  · exact (rMeth_ok (n := 1) (ds := [.int w]) e2 rfl).trans (by simp [le_half hh hw hs])
  · exact (rMeth_ok (n := 1) (ds := [.int w]) e3 rfl).trans (by simp [le_filter])
  · exact (rMeth_ok (n := 1) (ds := [.int w]) e4 rfl).trans (by simp [le_wall])
  · exact (rMeth_ok (n := 1) (ds := [.int w]) e5 rfl).trans (by simp [le_cell])
def nxt (w : Int) : Int := (w + 1).fmod 4
theorem turn_comp (k : Nat) (hk : k < 6) {s t b w : Int} (hs : s = 1 ∨ s = 3) (hw : 0 ≤ w ∧ w < 4) : ∃ ys, compD (elD (tgTup 2 (tgCons (tgName 0) (tgCons (tgName 1) tgNil))) cYes (dTup (dCons (dOp modI (dOp addD (dVar 0) (dC (.int 1))) (dC (.int 4))) (dCons (dVar 1) dNil))) [Slot.no, Slot.no]) (tdue k s t b w) = .ok ys ∧ sort2D [.lst ys] = .ok (tdue k (4 - s) t b (nxt w)) := by
  have hk' : k = 0 ∨ k = 1 ∨ k = 2 ∨ k = 3 ∨ k = 4 ∨ k = 5 := by omega
  have hw' : w = 0 ∨ w = 1 ∨ w = 2 ∨ w = 3 := by obtain ⟨h0, h4⟩ := hw; omega
  rcases hw' with rfl | rfl | rfl | rfl <;> rcases hs with rfl | rfl <;> rcases hk' with rfl | rfl | rfl | rfl | rfl | rfl <;> exact ⟨_, rfl, rfl⟩
theorem due_len (k : Nat) (s t b w : Int) : (tdue k s t b w).length ≤ 2 := by
  unfold tdue; split <;> simp [two]
  split <;> simp
def pairL (ps : List (Int × Int × Int)) : List D := ps.map fun p => .tup [.int p.1, .tup [.int p.2.1, .int p.2.2]]
theorem due_pairs (k : Nat) (s t b w : Int) : ∃ ps, tdue k s t b w = pairL ps := by
  unfold tdue
  split
  · exact ⟨[(_, _, _)], rfl⟩
  · unfold two; split
    · exact ⟨[(_, _, _), (_, _, _)], rfl⟩
    · exact ⟨[(_, _, _), (_, _, _)], rfl⟩
  · exact ⟨[(_, _, _)], rfl⟩
  · exact ⟨[], rfl⟩
  · exact ⟨[(_, _, _)], rfl⟩
theorem pairs_same (ps : List (Int × Int × Int)) : neD (.lst (pairL ps)) (.lst (pairL ps)) = .ok (.bl false) := by
  have h1 : ∀ qs : List (Int × Int × Int), (pairL qs).all (okq 11) = true := by
    intro qs; induction qs with
    | nil => rfl
    | cons q qs ih => simp only [pairL, List.map_cons, List.all_cons, Bool.and_eq_true] at ih ⊢; exact ⟨by simp [okq], ih⟩
  have h2 : ∀ qs : List (Int × Int × Int), PyData.eqvAll (pys (pairL qs)) (pys (pairL qs)) = true := by
    intro qs; induction qs with
    | nil => rfl
    | cons q qs ih => simp only [pairL, List.map_cons, pys, PyData.eqvAll, Bool.and_eq_true] at ih ⊢; exact ⟨by simp [py, pys, PyData.eqv, PyData.eqvAll], ih⟩
  simp [neD, okq, h1, deq, py, PyData.eqv, h2]
theorem way_turn {s t b w : Int} {x : Str} (k : Nat) (hk : k < 6) (hs : s = 1 ∨ s = 3) (hh : Sh t b) (hw : 0 ≤ w ∧ w < 4) (s2 s4 s5 : Slot) : ∃ u4, y_l_turned_1 0 [.val (tcell k s t b x), .val (tcell k (4 - s) t b x), s2, .val (.int w), s4, s5] = .nx [.val (tcell k s t b x), .val (tcell k (4 - s) t b x), s2, .val (.int w), u4, s5] := by
  have hs' : 4 - s = 1 ∨ 4 - s = 3 := by omega
  have hn : 0 ≤ nxt w ∧ nxt w < 4 := fm_size (w + 1) 4 (by decide)
  have l1 := tleads_ok (x := x) k hk hs hh hw
  have l2 := tleads_ok (x := x) k hk hs' hh hn
  obtain ⟨ys, c1, c2⟩ := turn_comp k hk (t := t) (b := b) hs hw
  have hl := due_len k s t b w
  have hl2 : (tdue k s t b w).length < 1000000 := by omega
  obtain ⟨ps, ep⟩ := due_pairs k (4 - s) t b (nxt w)
  rw [ep] at l2 c2
  generalize tcell k (4 - s) t b x = c' at *
  generalize tcell k s t b x = c0 at *
  refine ⟨.val (.lst (pairL ps)), ?_⟩
  simp only [nxt] at l2
  simp [y_l_turned_1, l1, hl2, blk, c1, c2, l2, pairs_same]
theorem lturned_ok {s t b : Int} {x : Str} (k : Nat) (hk : k < 6) (hs : s = 1 ∨ s = 3) (hh : Sh t b) (hn : PyData.strOk x = true) : F_l_turned [.val (tcell k s t b x)] = .ok (.bl true) := by
  have hs' : 4 - s = 1 ∨ 4 - s = 3 := by omega
  have t1 := turned_ok (x := x) k hk hs hh
  have t2 := turned_ok (x := x) k hk hs' hh
  rw [show 4 - (4 - s) = s by omega] at t2
  have r1 := trow_ok k hk s t b x
  have rs := trows_same k hk s t b hn
  obtain ⟨p, q, sw⟩ := tsw_ok k hk hh x
  have sw1 := sw s
  have sw2 := sw (4 - s)
  obtain ⟨a4, w0⟩ := way_turn (t := t) (b := b) (x := x) k hk hs hh (w := 0) (by decide) (.val (trow k s t b x)) .no .no
  obtain ⟨b4, w1⟩ := way_turn (t := t) (b := b) (x := x) k hk hs hh (w := 1) (by decide) (.val (trow k s t b x)) a4 .no
  obtain ⟨c4, w2⟩ := way_turn (t := t) (b := b) (x := x) k hk hs hh (w := 2) (by decide) (.val (trow k s t b x)) b4 .no
  obtain ⟨d4, w3⟩ := way_turn (t := t) (b := b) (x := x) k hk hs hh (w := 3) (by decide) (.val (trow k s t b x)) c4 .no
  have rng4 : rng1 [.int 4] = .ok [.int 0, .int 1, .int 2, .int 3] := rfl
  generalize tcell k (4 - s) t b x = c' at *
  generalize tcell k s t b x = c0 at *
  generalize trow k s t b x = r0 at *
  simp [F_l_turned, b_l_turned, st0, t1, r1, sw1, sw2, rng4, forD, w0, w1, w2, w3, t2, rs]
theorem cells_turn {s t b : Int} (hs : s = 1 ∨ s = 3) (hh : Sh t b) (a r s2 s3 s4 s5 : Slot) : ∀ (ks : List Nat) (s6 : Slot), (∀ k ∈ ks, k < 6) → ∃ u6, forD (tgName 6) (y_law_1 0) (ks.map fun k => tcell k s t b "ab") [a, r, s2, s3, s4, s5, s6] = .nx [a, r, s2, s3, s4, s5, u6]
  | [], s6, _ => ⟨s6, rfl⟩
  | k :: ks, s6, h => by
    obtain ⟨u6, e⟩ := cells_turn hs hh a r s2 s3 s4 s5 ks (.val (tcell k s t b "ab")) (fun j hj => h j (.tail _ hj))
    have l := lturned_ok (x := "ab") k (h k (.head _)) hs hh (by decide +kernel)
    have st : y_law_1 0 [a, r, s2, s3, s4, s5, .val (tcell k s t b "ab")] = .nx [a, r, s2, s3, s4, s5, .val (tcell k s t b "ab")] := by
      generalize tcell k s t b "ab" = c0 at *
      simp [y_law_1, l]
    exact ⟨u6, by simp [forD, st, e]⟩
theorem raw_turn (a : Slot) (r : Int) (s2 s3 s4 s5 s6 : Slot) : ∃ u2 u3 u4 u5 u6, y_law_2 0 [a, .val (.int r), s2, s3, s4, s5, s6] = .nx [a, .val (.int r), u2, u3, u4, u5, u6] := by
  obtain ⟨t, b, eh, hh⟩ := share_drawn (r.fdiv 2)
  obtain ⟨o, eo, o1, o3⟩ := bad_slant r
  obtain ⟨nt', nb', en, n1, n2, n3⟩ := bad_share (r.fdiv 2)
  obtain ⟨x, ex, hx⟩ := bad_name r
  obtain ⟨s, es, hs⟩ : ∃ s, ixD (.lst [.int 1, .int 3]) (.int (r.fmod 2)) = .ok (.int s) ∧ (s = 1 ∨ s = 3) := by
    have := fm_size r 2 (by decide)
    have h2 : r.fmod 2 = 0 ∨ r.fmod 2 = 1 := by omega
    rcases h2 with h | h <;> rw [h]
    · exact ⟨1, rfl, .inl rfl⟩
    · exact ⟨3, rfl, .inr rfl⟩
  have nab : Nm "ab" := ⟨by decide, by decide, by decide⟩
  obtain ⟨u6, ec⟩ := cells_turn hs hh a (.val (.int r)) (.val (.int s)) (.val (.tup [.int t, .int b])) (.val (.int o)) (.val (.tup [.int nt', .int nb'])) [0, 1, 2, 3, 4, 5] s6 (by decide)
  simp only [List.map_cons, List.map_nil, tcell] at ec
  refine ⟨.val (.int s), .val (.tup [.int t, .int b]), .val (.int o), .val (.tup [.int nt', .int nb']), u6, ?_⟩
  simp [y_law_2, es, eh, eo, en, ex, ref0 o1 o3, ref1S o1 o3, ref1T hs n1 n2 n3, ref2 n1 n2 n3, ref3 hx, mkAns, mk_mirror hs, mk_half hs hh, mk_filter hh, mk_fibre nab, ec]
theorem cut_take (ns : List Int) (n : Nat) (hl : ns.length ≤ 63) : cutL (ns.map D.int) none (some (n : Int)) = (ns.take n).map D.int := by
  simp only [cutL, sIx, List.length_map, List.drop_zero, List.map_take]
  rw [if_neg (by omega)]
  by_cases h : ns.length ≤ n
  · rw [List.take_of_length_le (by simp; omega), List.take_of_length_le (by simp; omega)]
  · congr 1; simp; omega
theorem law_true (ns : List Int) (hl : ns.length ≤ 63) : F_law [.val (.lst (ns.map D.int))] = .ok (.bl true) := by
  have cut := cut_take ns 63 hl
  obtain ⟨cs, hcs, hc⟩ : ∃ cs, cs = ns.take 63 ∧ cs.length ≤ 63 := ⟨_, rfl, by rw [List.length_take]; omega⟩
  rw [← hcs] at cut
  obtain ⟨Γ', g1, s1, s2, s3, s4, s5, s6, rfl⟩ := forD_all (t := tgName 1) (B := y_law_2 0) (fun Γ => ∃ s1 s2 s3 s4 s5 s6, Γ = [.val (.lst (ns.map D.int)), s1, s2, s3, s4, s5, s6]) ((0 :: cs).map D.int) [.val (.lst (ns.map D.int)), .no, .no, .no, .no, .no, .no] ⟨_, _, _, _, _, _, rfl⟩ (by
    rintro d hd Γ ⟨s1, s2, s3, s4, s5, s6, rfl⟩
    obtain ⟨r, hr, rfl⟩ := List.mem_map.mp hd
    obtain ⟨u2, u3, u4, u5, u6, e⟩ := raw_turn (.val (.lst (ns.map D.int))) r s2 s3 s4 s5 s6
    exact ⟨_, _, rfl, .inl e, _, _, _, _, _, _, rfl⟩)
  have hz : 1 + cs.length ≤ sizeLine := by have := sizeLine_ge; omega
  generalize ns.map D.int = xs at *
  simp at g1 cut
  simp [F_law, b_law, st0, lCut, cut, catD, hz, g1]
end K07
end
section
set_option Elab.async false
set_option linter.all false
set_option maxRecDepth 100000
set_option maxHeartbeats 4000000
namespace K07
open PySem PySem.Spec PyProof.Rows L2 L4
def top (i : Nat) : Stmt := PySem.Challenge.pw_beamtable_k07_cells_refused.main.body.getD i (.Pass ⟨0, 0, 0, 0⟩)
def inCls (s : Stmt) (j : Nat) : Stmt := match s with
  | .ClassDef _ _ _ b _ _ _ _ _ _ _ => b.getD j (.Pass ⟨0, 0, 0, 0⟩)
  | _ => s
abbrev s_l_low : Stmt := top 28
abbrev s_l_share : Stmt := top 29
abbrev s_l_bad_slant : Stmt := top 30
abbrev s_l_bad_share : Stmt := top 31
abbrev s_check_slant : Stmt := top 16
abbrev s_Mirror___init__ : Stmt := inCls (top 22) 0
abbrev s_under : Stmt := top 12
abbrev s_check_share : Stmt := top 17
abbrev s_Half___init__ : Stmt := inCls (top 23) 0
abbrev s_Filter___init__ : Stmt := inCls (top 24) 0
abbrev s_check_name : Stmt := top 18
abbrev s_Fibre___init__ : Stmt := inCls (top 26) 0
abbrev s_l_refused : Stmt := top 33
abbrev s_l_bad_name : Stmt := top 32
abbrev s_Cell_turned : Stmt := inCls (top 20) 2
abbrev s_other_slant : Stmt := top 19
abbrev s_Mirror_turned : Stmt := inCls (top 22) 3
abbrev s_Half_turned : Stmt := inCls (top 23) 3
abbrev s_Empty_row : Stmt := inCls (top 21) 0
abbrev s_Mirror_row : Stmt := inCls (top 22) 1
abbrev s_Half_row : Stmt := inCls (top 23) 1
abbrev s_Filter_row : Stmt := inCls (top 24) 1
abbrev s_Wall_row : Stmt := inCls (top 25) 0
abbrev s_Fibre_row : Stmt := inCls (top 26) 1
abbrev s_Cell_swallows : Stmt := inCls (top 20) 1
abbrev s_greatest_divisor : Stmt := top 9
abbrev s_fraction : Stmt := top 10
abbrev s_minus : Stmt := top 11
abbrev s_Filter_swallows : Stmt := inCls (top 24) 3
abbrev s_Wall_swallows : Stmt := inCls (top 25) 2
abbrev s_Cell_leads : Stmt := inCls (top 20) 0
abbrev s_Mirror_leads : Stmt := inCls (top 22) 2
abbrev s_Half_leads : Stmt := inCls (top 23) 2
abbrev s_Filter_leads : Stmt := inCls (top 24) 2
abbrev s_Wall_leads : Stmt := inCls (top 25) 1
abbrev s_l_turned : Stmt := top 34
abbrev s_law : Stmt := top 35
structure Tx (K : PySem.W.Frag) (mg : Str → Option Value) (cb : Cb) where
  a_l_low : Addr
  fd_l_low : FuncData
  m_l_low : mg "_law_low" = some (.ref a_l_low)
  k_l_low : PySem.W.keepIn K (.ref a_l_low) = true
  f_l_low : Fun K "_law_low" "_law_low" s_l_low a_l_low fd_l_low
  b_l_low : Binds K fd_l_low p_l_low []
  a_l_share : Addr
  fd_l_share : FuncData
  m_l_share : mg "_law_share" = some (.ref a_l_share)
  k_l_share : PySem.W.keepIn K (.ref a_l_share) = true
  f_l_share : Fun K "_law_share" "_law_share" s_l_share a_l_share fd_l_share
  b_l_share : Binds K fd_l_share p_l_share []
  a_l_bad_slant : Addr
  fd_l_bad_slant : FuncData
  m_l_bad_slant : mg "_law_bad_slant" = some (.ref a_l_bad_slant)
  k_l_bad_slant : PySem.W.keepIn K (.ref a_l_bad_slant) = true
  f_l_bad_slant : Fun K "_law_bad_slant" "_law_bad_slant" s_l_bad_slant a_l_bad_slant fd_l_bad_slant
  b_l_bad_slant : Binds K fd_l_bad_slant p_l_bad_slant []
  a_l_bad_share : Addr
  fd_l_bad_share : FuncData
  m_l_bad_share : mg "_law_bad_share" = some (.ref a_l_bad_share)
  k_l_bad_share : PySem.W.keepIn K (.ref a_l_bad_share) = true
  f_l_bad_share : Fun K "_law_bad_share" "_law_bad_share" s_l_bad_share a_l_bad_share fd_l_bad_share
  b_l_bad_share : Binds K fd_l_bad_share p_l_bad_share []
  a_check_slant : Addr
  fd_check_slant : FuncData
  m_check_slant : mg "check_slant" = some (.ref a_check_slant)
  k_check_slant : PySem.W.keepIn K (.ref a_check_slant) = true
  f_check_slant : Fun K "check_slant" "check_slant" s_check_slant a_check_slant fd_check_slant
  b_check_slant : Binds K fd_check_slant p_check_slant []
  a_Mirror___init__ : Addr
  fd_Mirror___init__ : FuncData
  k_Mirror___init__ : PySem.W.keepIn K (.ref a_Mirror___init__) = true
  f_Mirror___init__ : Fun K "__init__" "Mirror.__init__" s_Mirror___init__ a_Mirror___init__ fd_Mirror___init__
  b_Mirror___init__ : Binds K fd_Mirror___init__ p_Mirror___init__ []
  a_under : Addr
  fd_under : FuncData
  m_under : mg "under" = some (.ref a_under)
  k_under : PySem.W.keepIn K (.ref a_under) = true
  f_under : Fun K "under" "under" s_under a_under fd_under
  b_under : Binds K fd_under p_under []
  a_check_share : Addr
  fd_check_share : FuncData
  m_check_share : mg "check_share" = some (.ref a_check_share)
  k_check_share : PySem.W.keepIn K (.ref a_check_share) = true
  f_check_share : Fun K "check_share" "check_share" s_check_share a_check_share fd_check_share
  b_check_share : Binds K fd_check_share p_check_share []
  a_Half___init__ : Addr
  fd_Half___init__ : FuncData
  k_Half___init__ : PySem.W.keepIn K (.ref a_Half___init__) = true
  f_Half___init__ : Fun K "__init__" "Half.__init__" s_Half___init__ a_Half___init__ fd_Half___init__
  b_Half___init__ : Binds K fd_Half___init__ p_Half___init__ []
  a_Filter___init__ : Addr
  fd_Filter___init__ : FuncData
  k_Filter___init__ : PySem.W.keepIn K (.ref a_Filter___init__) = true
  f_Filter___init__ : Fun K "__init__" "Filter.__init__" s_Filter___init__ a_Filter___init__ fd_Filter___init__
  b_Filter___init__ : Binds K fd_Filter___init__ p_Filter___init__ []
  a_check_name : Addr
  fd_check_name : FuncData
  m_check_name : mg "check_name" = some (.ref a_check_name)
  k_check_name : PySem.W.keepIn K (.ref a_check_name) = true
  f_check_name : Fun K "check_name" "check_name" s_check_name a_check_name fd_check_name
  b_check_name : Binds K fd_check_name p_check_name []
  a_Fibre___init__ : Addr
  fd_Fibre___init__ : FuncData
  k_Fibre___init__ : PySem.W.keepIn K (.ref a_Fibre___init__) = true
  f_Fibre___init__ : Fun K "__init__" "Fibre.__init__" s_Fibre___init__ a_Fibre___init__ fd_Fibre___init__
  b_Fibre___init__ : Binds K fd_Fibre___init__ p_Fibre___init__ []
  a_l_refused : Addr
  fd_l_refused : FuncData
  m_l_refused : mg "_law_refused" = some (.ref a_l_refused)
  k_l_refused : PySem.W.keepIn K (.ref a_l_refused) = true
  f_l_refused : Fun K "_law_refused" "_law_refused" s_l_refused a_l_refused fd_l_refused
  b_l_refused : Binds K fd_l_refused p_l_refused []
  a_l_bad_name : Addr
  fd_l_bad_name : FuncData
  m_l_bad_name : mg "_law_bad_name" = some (.ref a_l_bad_name)
  k_l_bad_name : PySem.W.keepIn K (.ref a_l_bad_name) = true
  f_l_bad_name : Fun K "_law_bad_name" "_law_bad_name" s_l_bad_name a_l_bad_name fd_l_bad_name
  b_l_bad_name : Binds K fd_l_bad_name p_l_bad_name []
  a_Cell_turned : Addr
  fd_Cell_turned : FuncData
  k_Cell_turned : PySem.W.keepIn K (.ref a_Cell_turned) = true
  f_Cell_turned : Fun K "turned" "Cell.turned" s_Cell_turned a_Cell_turned fd_Cell_turned
  b_Cell_turned : Binds K fd_Cell_turned p_Cell_turned []
  a_other_slant : Addr
  fd_other_slant : FuncData
  m_other_slant : mg "other_slant" = some (.ref a_other_slant)
  k_other_slant : PySem.W.keepIn K (.ref a_other_slant) = true
  f_other_slant : Fun K "other_slant" "other_slant" s_other_slant a_other_slant fd_other_slant
  b_other_slant : Binds K fd_other_slant p_other_slant []
  a_Mirror_turned : Addr
  fd_Mirror_turned : FuncData
  k_Mirror_turned : PySem.W.keepIn K (.ref a_Mirror_turned) = true
  f_Mirror_turned : Fun K "turned" "Mirror.turned" s_Mirror_turned a_Mirror_turned fd_Mirror_turned
  b_Mirror_turned : Binds K fd_Mirror_turned p_Mirror_turned []
  a_Half_turned : Addr
  fd_Half_turned : FuncData
  k_Half_turned : PySem.W.keepIn K (.ref a_Half_turned) = true
  f_Half_turned : Fun K "turned" "Half.turned" s_Half_turned a_Half_turned fd_Half_turned
  b_Half_turned : Binds K fd_Half_turned p_Half_turned []
  a_Empty_row : Addr
  fd_Empty_row : FuncData
  k_Empty_row : PySem.W.keepIn K (.ref a_Empty_row) = true
  f_Empty_row : Fun K "row" "Empty.row" s_Empty_row a_Empty_row fd_Empty_row
  b_Empty_row : Binds K fd_Empty_row p_Empty_row []
  a_Mirror_row : Addr
  fd_Mirror_row : FuncData
  k_Mirror_row : PySem.W.keepIn K (.ref a_Mirror_row) = true
  f_Mirror_row : Fun K "row" "Mirror.row" s_Mirror_row a_Mirror_row fd_Mirror_row
  b_Mirror_row : Binds K fd_Mirror_row p_Mirror_row []
  a_Half_row : Addr
  fd_Half_row : FuncData
  k_Half_row : PySem.W.keepIn K (.ref a_Half_row) = true
  f_Half_row : Fun K "row" "Half.row" s_Half_row a_Half_row fd_Half_row
  b_Half_row : Binds K fd_Half_row p_Half_row []
  a_Filter_row : Addr
  fd_Filter_row : FuncData
  k_Filter_row : PySem.W.keepIn K (.ref a_Filter_row) = true
  f_Filter_row : Fun K "row" "Filter.row" s_Filter_row a_Filter_row fd_Filter_row
  b_Filter_row : Binds K fd_Filter_row p_Filter_row []
  a_Wall_row : Addr
  fd_Wall_row : FuncData
  k_Wall_row : PySem.W.keepIn K (.ref a_Wall_row) = true
  f_Wall_row : Fun K "row" "Wall.row" s_Wall_row a_Wall_row fd_Wall_row
  b_Wall_row : Binds K fd_Wall_row p_Wall_row []
  a_Fibre_row : Addr
  fd_Fibre_row : FuncData
  k_Fibre_row : PySem.W.keepIn K (.ref a_Fibre_row) = true
  f_Fibre_row : Fun K "row" "Fibre.row" s_Fibre_row a_Fibre_row fd_Fibre_row
  b_Fibre_row : Binds K fd_Fibre_row p_Fibre_row []
  a_Cell_swallows : Addr
  fd_Cell_swallows : FuncData
  k_Cell_swallows : PySem.W.keepIn K (.ref a_Cell_swallows) = true
  f_Cell_swallows : Fun K "swallows" "Cell.swallows" s_Cell_swallows a_Cell_swallows fd_Cell_swallows
  b_Cell_swallows : Binds K fd_Cell_swallows p_Cell_swallows []
  a_greatest_divisor : Addr
  fd_greatest_divisor : FuncData
  m_greatest_divisor : mg "greatest_divisor" = some (.ref a_greatest_divisor)
  k_greatest_divisor : PySem.W.keepIn K (.ref a_greatest_divisor) = true
  f_greatest_divisor : Fun K "greatest_divisor" "greatest_divisor" s_greatest_divisor a_greatest_divisor fd_greatest_divisor
  b_greatest_divisor : Binds K fd_greatest_divisor p_greatest_divisor []
  a_fraction : Addr
  fd_fraction : FuncData
  m_fraction : mg "fraction" = some (.ref a_fraction)
  k_fraction : PySem.W.keepIn K (.ref a_fraction) = true
  f_fraction : Fun K "fraction" "fraction" s_fraction a_fraction fd_fraction
  b_fraction : Binds K fd_fraction p_fraction []
  a_minus : Addr
  fd_minus : FuncData
  m_minus : mg "minus" = some (.ref a_minus)
  k_minus : PySem.W.keepIn K (.ref a_minus) = true
  f_minus : Fun K "minus" "minus" s_minus a_minus fd_minus
  b_minus : Binds K fd_minus p_minus []
  a_Filter_swallows : Addr
  fd_Filter_swallows : FuncData
  k_Filter_swallows : PySem.W.keepIn K (.ref a_Filter_swallows) = true
  f_Filter_swallows : Fun K "swallows" "Filter.swallows" s_Filter_swallows a_Filter_swallows fd_Filter_swallows
  b_Filter_swallows : Binds K fd_Filter_swallows p_Filter_swallows []
  a_Wall_swallows : Addr
  fd_Wall_swallows : FuncData
  k_Wall_swallows : PySem.W.keepIn K (.ref a_Wall_swallows) = true
  f_Wall_swallows : Fun K "swallows" "Wall.swallows" s_Wall_swallows a_Wall_swallows fd_Wall_swallows
  b_Wall_swallows : Binds K fd_Wall_swallows p_Wall_swallows []
  a_Cell_leads : Addr
  fd_Cell_leads : FuncData
  k_Cell_leads : PySem.W.keepIn K (.ref a_Cell_leads) = true
  f_Cell_leads : Fun K "leads" "Cell.leads" s_Cell_leads a_Cell_leads fd_Cell_leads
  b_Cell_leads : Binds K fd_Cell_leads p_Cell_leads []
  a_Mirror_leads : Addr
  fd_Mirror_leads : FuncData
  k_Mirror_leads : PySem.W.keepIn K (.ref a_Mirror_leads) = true
  f_Mirror_leads : Fun K "leads" "Mirror.leads" s_Mirror_leads a_Mirror_leads fd_Mirror_leads
  b_Mirror_leads : Binds K fd_Mirror_leads p_Mirror_leads []
  a_Half_leads : Addr
  fd_Half_leads : FuncData
  k_Half_leads : PySem.W.keepIn K (.ref a_Half_leads) = true
  f_Half_leads : Fun K "leads" "Half.leads" s_Half_leads a_Half_leads fd_Half_leads
  b_Half_leads : Binds K fd_Half_leads p_Half_leads []
  a_Filter_leads : Addr
  fd_Filter_leads : FuncData
  k_Filter_leads : PySem.W.keepIn K (.ref a_Filter_leads) = true
  f_Filter_leads : Fun K "leads" "Filter.leads" s_Filter_leads a_Filter_leads fd_Filter_leads
  b_Filter_leads : Binds K fd_Filter_leads p_Filter_leads []
  a_Wall_leads : Addr
  fd_Wall_leads : FuncData
  k_Wall_leads : PySem.W.keepIn K (.ref a_Wall_leads) = true
  f_Wall_leads : Fun K "leads" "Wall.leads" s_Wall_leads a_Wall_leads fd_Wall_leads
  b_Wall_leads : Binds K fd_Wall_leads p_Wall_leads []
  a_l_turned : Addr
  fd_l_turned : FuncData
  m_l_turned : mg "_law_turned" = some (.ref a_l_turned)
  k_l_turned : PySem.W.keepIn K (.ref a_l_turned) = true
  f_l_turned : Fun K "_law_turned" "_law_turned" s_l_turned a_l_turned fd_l_turned
  b_l_turned : Binds K fd_l_turned p_l_turned []
  a_law : Addr
  fd_law : FuncData
  m_law : mg "law" = some (.ref a_law)
  k_law : PySem.W.keepIn K (.ref a_law) = true
  f_law : Fun K "law" "law" s_law a_law fd_law
  b_law : Binds K fd_law p_law []
  z_ValueError : mg "ValueError" = none
  z_abs : mg "abs" = none
  z_all : mg "all" = none
  z_isinstance : mg "isinstance" = none
  z_len : mg "len" = none
  z_range : mg "range" = none
  z_sorted : mg "sorted" = none
  u_LETTERS : Value
  v_LETTERS : mg "LETTERS" = some u_LETTERS
  g_LETTERS : GlT K u_LETTERS (.str "abcdefghijklmnopqrstuvwxyz")
  u_LONGEST_NAME : Value
  v_LONGEST_NAME : mg "LONGEST_NAME" = some u_LONGEST_NAME
  g_LONGEST_NAME : GlT K u_LONGEST_NAME (.int 8)
  u_ONE : Value
  v_ONE : mg "ONE" = some u_ONE
  g_ONE : GlT K u_ONE (.tup [(.int 1), (.int 1)])
  u_ZERO : Value
  v_ZERO : mg "ZERO" = some u_ZERO
  g_ZERO : GlT K u_ZERO (.tup [(.int 0), (.int 1)])
  C_BeamError : Addr
  g_BeamError : mg "BeamError" = some (.ref C_BeamError)
  C_NoFraction : Addr
  g_NoFraction : mg "NoFraction" = some (.ref C_NoFraction)
  C_NoCell : Addr
  g_NoCell : mg "NoCell" = some (.ref C_NoCell)
  C_NoTable : Addr
  g_NoTable : mg "NoTable" = some (.ref C_NoTable)
  C_NoPlace : Addr
  g_NoPlace : mg "NoPlace" = some (.ref C_NoPlace)
  C_Empty : Addr
  g_Empty : mg "Empty" = some (.ref C_Empty)
  C_Mirror : Addr
  g_Mirror : mg "Mirror" = some (.ref C_Mirror)
  C_Half : Addr
  g_Half : mg "Half" = some (.ref C_Half)
  C_Filter : Addr
  g_Filter : mg "Filter" = some (.ref C_Filter)
  C_Wall : Addr
  g_Wall : mg "Wall" = some (.ref C_Wall)
  C_Fibre : Addr
  g_Fibre : mg "Fibre" = some (.ref C_Fibre)
  q_Empty : cb.cls "Empty" = some (C_Empty, ([] : List Str))
  n_Empty : cb.ins "Empty" = some C_Empty
  cl_Empty : Cls K C_Empty
  mk_Empty : Mk0 K C_Empty
  me_Empty_turned : Meth K C_Empty "turned" a_Cell_turned
  me_Empty_row : Meth K C_Empty "row" a_Empty_row
  me_Empty_swallows : Meth K C_Empty "swallows" a_Cell_swallows
  me_Empty_leads : Meth K C_Empty "leads" a_Cell_leads
  q_Mirror : cb.cls "Mirror" = some (C_Mirror, (["slant"] : List Str))
  n_Mirror : cb.ins "Mirror" = some C_Mirror
  cl_Mirror : Cls K C_Mirror
  mk_Mirror : Mk K C_Mirror a_Mirror___init__
  me_Mirror_turned : Meth K C_Mirror "turned" a_Mirror_turned
  me_Mirror_row : Meth K C_Mirror "row" a_Mirror_row
  me_Mirror_swallows : Meth K C_Mirror "swallows" a_Cell_swallows
  me_Mirror_leads : Meth K C_Mirror "leads" a_Mirror_leads
  q_Half : cb.cls "Half" = some (C_Half, (["slant", "share"] : List Str))
  n_Half : cb.ins "Half" = some C_Half
  cl_Half : Cls K C_Half
  mk_Half : Mk K C_Half a_Half___init__
  me_Half_turned : Meth K C_Half "turned" a_Half_turned
  me_Half_row : Meth K C_Half "row" a_Half_row
  me_Half_swallows : Meth K C_Half "swallows" a_Cell_swallows
  me_Half_leads : Meth K C_Half "leads" a_Half_leads
  q_Filter : cb.cls "Filter" = some (C_Filter, (["share"] : List Str))
  n_Filter : cb.ins "Filter" = some C_Filter
  cl_Filter : Cls K C_Filter
  mk_Filter : Mk K C_Filter a_Filter___init__
  me_Filter_turned : Meth K C_Filter "turned" a_Cell_turned
  me_Filter_row : Meth K C_Filter "row" a_Filter_row
  me_Filter_swallows : Meth K C_Filter "swallows" a_Filter_swallows
  me_Filter_leads : Meth K C_Filter "leads" a_Filter_leads
  q_Wall : cb.cls "Wall" = some (C_Wall, ([] : List Str))
  n_Wall : cb.ins "Wall" = some C_Wall
  cl_Wall : Cls K C_Wall
  mk_Wall : Mk0 K C_Wall
  me_Wall_turned : Meth K C_Wall "turned" a_Cell_turned
  me_Wall_row : Meth K C_Wall "row" a_Wall_row
  me_Wall_swallows : Meth K C_Wall "swallows" a_Wall_swallows
  me_Wall_leads : Meth K C_Wall "leads" a_Wall_leads
  q_Fibre : cb.cls "Fibre" = some (C_Fibre, (["name"] : List Str))
  n_Fibre : cb.ins "Fibre" = some C_Fibre
  cl_Fibre : Cls K C_Fibre
  mk_Fibre : Mk K C_Fibre a_Fibre___init__
  me_Fibre_turned : Meth K C_Fibre "turned" a_Cell_turned
  me_Fibre_row : Meth K C_Fibre "row" a_Fibre_row
  me_Fibre_swallows : Meth K C_Fibre "swallows" a_Cell_swallows
  me_Fibre_leads : Meth K C_Fibre "leads" a_Cell_leads
  ft : FtOk cb ftab
  fa_name : FA K cb "name"
  fa_share : FA K cb "share"
  fa_slant : FA K cb "slant"
  x_NoFraction : XC K mg cb "NoFraction" "NoFraction" C_NoFraction
  x_NoCell : XC K mg cb "NoCell" "NoCell" C_NoCell
  h_BeamError : Hits K cb (.ref C_BeamError) (hitOf mt "BeamError")
  xt : XTs K cb mt
  i_NoPlace : IsK K cb mt (.ref C_NoPlace) "NoPlace"
  i_NoTable : IsK K cb mt (.ref C_NoTable) "NoTable"
  i_ValueError : IsK K cb mt (.type "ValueError") "ValueError"
  i_NoCell : IsK K cb mt (.ref C_NoCell) "NoCell"
section
variable {P : Program} {w : World} {K : PySem.W.Frag} {mg : Str → Option Value} {cb : Cb} {base : Heap}
theorem sc_l_low : FnScope n_l_low p_l_low (defScope s_l_low) := ⟨rfl, rfl, rfl, by decide +kernel, rfl, by decide +kernel, by decide +kernel⟩
theorem ok_l_low (M : Tx K mg cb) : FnD P w K mg base cb 1 M.a_l_low M.fd_l_low p_l_low F_l_low := by
  refine wfn_okD (B := b_l_low) M.f_l_low sc_l_low (fun c cdv A outer s H E hcb hr g n => ?_) h_l_low
  subst hcb
  have hu := hr.units
  exact (wdss_cons (wds_set 2 g.nd (wd_var 0))
    (wdss_cons (wds_set 3 g.nd (wd_var 1))
    (wdss_cons (wds_whileZ n g (wdt_ne hu (wd_var 3) wd_int) (wdss_one (wds_par 2 3 g.calm g.nd (wda_cons (wd_var 3) (wda_cons (wd_mod (wd_var 2) (wd_var 3)) wda_nil)))))
    (wdss_one (wds_ret (wd_tup (wda_cons (wd_fdiv (wd_var 0) (wd_var 2)) (wda_cons (wd_fdiv (wd_var 1) (wd_var 2)) wda_nil))))))))
theorem sc_l_share : FnScope n_l_share p_l_share (defScope s_l_share) := ⟨rfl, rfl, rfl, by decide +kernel, rfl, by decide +kernel, by decide +kernel⟩
theorem ok_l_share (M : Tx K mg cb) : FnD P w K mg base cb 2 M.a_l_share M.fd_l_share p_l_share F_l_share := by
  refine wfn_okD (B := b_l_share) M.f_l_share sc_l_share (fun c cdv A outer s H E hcb hr g n => ?_) (fun as _ _ => ⟨0, rfl⟩)
  subst hcb
  have hu := hr.units
  exact (wdss_cons (wds_set 1 g.nd (wd_add wd_int (wd_mod (wd_fdiv (wd_var 0) wd_int) wd_int)))
    (wdss_one (wds_ret (wd_fn (ok_l_low M) (hr.mono (by decide)) M.m_l_low M.k_l_low M.b_l_low (wda_cons (wd_add wd_int (wd_mod (wd_mul (wd_fdiv (wd_var 0) wd_int) wd_int) (wd_sub (wd_var 1) wd_int))) (wda_cons (wd_var 1) wda_nil))))))
theorem sc_l_bad_slant : FnScope n_l_bad_slant p_l_bad_slant (defScope s_l_bad_slant) := ⟨rfl, rfl, rfl, by decide +kernel, rfl, by decide +kernel, by decide +kernel⟩
theorem ok_l_bad_slant (M : Tx K mg cb) : FnD P w K mg base cb 1 M.a_l_bad_slant M.fd_l_bad_slant p_l_bad_slant F_l_bad_slant := by
  refine wfn_okD (B := b_l_bad_slant) M.f_l_bad_slant sc_l_bad_slant (fun c cdv A outer s H E hcb hr g n => ?_) (fun as _ _ => ⟨0, rfl⟩)
  subst hcb
  have hu := hr.units
  exact (wdss_one (wds_ret (wd_ix (wd_of_pl (wl_lst (wda_cons wd_int (wda_cons wd_int (wda_cons (wd_sub (wd_neg wd_int) (wd_mod (wd_fdiv (wd_var 0) wd_int) (wd_pow wd_int wd_int))) (wda_cons (wd_add wd_int (wd_mod (wd_fdiv (wd_var 0) wd_int) (wd_pow wd_int wd_int))) (wda_cons wd_int wda_nil))))))) (wd_mod (wd_var 0) wd_int))))
theorem sc_l_bad_share : FnScope n_l_bad_share p_l_bad_share (defScope s_l_bad_share) := ⟨rfl, rfl, rfl, by decide +kernel, rfl, by decide +kernel, by decide +kernel⟩
theorem ok_l_bad_share (M : Tx K mg cb) : FnD P w K mg base cb 2 M.a_l_bad_share M.fd_l_bad_share p_l_bad_share F_l_bad_share := by
  refine wfn_okD (B := b_l_bad_share) M.f_l_bad_share sc_l_bad_share (fun c cdv A outer s H E hcb hr g n => ?_) (fun as _ _ => ⟨0, rfl⟩)
  subst hcb
  have hu := hr.units
  exact (wdss_cons (wds_set 1 g.nd (wd_mod (wd_fdiv (wd_var 0) wd_int) (wd_pow wd_int wd_int)))
    (wdss_cons (wds_set 2 g.nd (wd_of_pl (wl_lst (wda_cons (wd_tup (wda_cons wd_int (wda_cons wd_int wda_nil))) (wda_cons (wd_tup (wda_cons wd_int (wda_cons wd_int wda_nil))) (wda_cons (wd_fn (ok_l_low M) (hr.mono (by decide)) M.m_l_low M.k_l_low M.b_l_low (wda_cons (wd_add (wd_var 1) wd_int) (wda_cons (wd_add (wd_var 1) wd_int) wda_nil))) (wda_cons (wd_tup (wda_cons (wd_sub wd_int wd_int) (wda_cons (wd_add (wd_var 1) wd_int) wda_nil))) wda_nil)))))))
    (wdss_one (wds_ret (wd_ix (wd_var 2) (wd_mod (wd_var 0) wd_int))))))
theorem sc_check_slant : FnScope n_check_slant p_check_slant (defScope s_check_slant) := ⟨rfl, rfl, rfl, by decide +kernel, rfl, by decide +kernel, by decide +kernel⟩
theorem ok_check_slant (M : Tx K mg cb) : FnD P w K mg base cb 1 M.a_check_slant M.fd_check_slant p_check_slant F_check_slant := by
  refine wfn_okD (B := b_check_slant) M.f_check_slant sc_check_slant (fun c cdv A outer s H E hcb hr g n => ?_) (fun as _ _ => ⟨0, rfl⟩)
  subst hcb
  have hu := hr.units
  exact (wdss_one (wds_ifZ (wdt_notinA (wd_var 0) (wd_tup (wda_cons wd_int (wda_cons wd_int wda_nil)))) (wdss_one (wds_raise g M.x_NoCell (wda_cons wd_str wda_nil))) wdss_nil))
theorem sc_Mirror___init__ : FnScope n_Mirror___init__ p_Mirror___init__ (defScope s_Mirror___init__) := ⟨rfl, rfl, rfl, by decide +kernel, rfl, by decide +kernel, by decide +kernel⟩
theorem ok_Mirror___init__ (M : Tx K mg cb) : FnD P w K mg base cb 2 M.a_Mirror___init__ M.fd_Mirror___init__ p_Mirror___init__ F_Mirror___init__ := by
  refine wfn_okG (B := b_Mirror___init__) M.f_Mirror___init__ sc_Mirror___init__ (fun c cdv A outer s H E hcb hr g n => ?_) (fun as _ _ => ⟨0, rfl⟩)
  subst hcb
  have hu := hr.units
  exact (wdss_cons (wds_exprZ (wd_fn (ok_check_slant M) (hr.mono (by decide)) M.m_check_slant M.k_check_slant M.b_check_slant (wda_cons (wd_var 1) wda_nil)))
    (wdss_one (wds_setF 0 M.fa_slant M.ft (fun B => (wd_var 1)))))
theorem sc_under : FnScope n_under p_under (defScope s_under) := ⟨rfl, rfl, rfl, by decide +kernel, rfl, by decide +kernel, by decide +kernel⟩
theorem ok_under (M : Tx K mg cb) : FnD P w K mg base cb 1 M.a_under M.fd_under p_under F_under := by
  refine wfn_okD (B := b_under) M.f_under sc_under (fun c cdv A outer s H E hcb hr g n => ?_) (fun as _ _ => ⟨0, rfl⟩)
  subst hcb
  have hu := hr.units
  exact (wdss_one (wds_ret (wd_lt (wd_mul (wd_ix (wd_var 0) wd_int) (wd_ix (wd_var 1) wd_int)) (wd_mul (wd_ix (wd_var 1) wd_int) (wd_ix (wd_var 0) wd_int)))))
theorem sc_check_share : FnScope n_check_share p_check_share (defScope s_check_share) := ⟨rfl, rfl, rfl, by decide +kernel, rfl, by decide +kernel, by decide +kernel⟩
theorem ok_check_share (M : Tx K mg cb) : FnD P w K mg base cb 2 M.a_check_share M.fd_check_share p_check_share F_check_share := by
  refine wfn_okD (B := b_check_share) M.f_check_share sc_check_share (fun c cdv A outer s H E hcb hr g n => ?_) (fun as _ _ => ⟨0, rfl⟩)
  subst hcb
  have hu := hr.units
  exact (wdss_one (wds_ifZ (wdt_w (wdw_or (wdt_not (wdt_val (wd_fn (ok_under M) (hr.mono (by decide)) M.m_under M.k_under M.b_under (wda_cons (wd_globD M.v_ZERO M.g_ZERO) (wda_cons (wd_var 0) wda_nil))))) (wdw_or1 (wdt_not (wdt_val (wd_fn (ok_under M) (hr.mono (by decide)) M.m_under M.k_under M.b_under (wda_cons (wd_var 0) (wda_cons (wd_globD M.v_ONE M.g_ONE) wda_nil)))))))) (wdss_one (wds_raise g M.x_NoCell (wda_cons wd_str wda_nil))) wdss_nil))
theorem sc_Half___init__ : FnScope n_Half___init__ p_Half___init__ (defScope s_Half___init__) := ⟨rfl, rfl, rfl, by decide +kernel, rfl, by decide +kernel, by decide +kernel⟩
theorem ok_Half___init__ (M : Tx K mg cb) : FnD P w K mg base cb 3 M.a_Half___init__ M.fd_Half___init__ p_Half___init__ F_Half___init__ := by
  refine wfn_okG (B := b_Half___init__) M.f_Half___init__ sc_Half___init__ (fun c cdv A outer s H E hcb hr g n => ?_) (fun as _ _ => ⟨0, rfl⟩)
  subst hcb
  have hu := hr.units
  exact (wdss_cons (wds_exprZ (wd_fn (ok_check_slant M) (hr.mono (by decide)) M.m_check_slant M.k_check_slant M.b_check_slant (wda_cons (wd_var 1) wda_nil)))
    (wdss_cons (wds_exprZ (wd_fn (ok_check_share M) (hr.mono (by decide)) M.m_check_share M.k_check_share M.b_check_share (wda_cons (wd_var 2) wda_nil)))
    (wdss_cons (wds_setF 0 M.fa_slant M.ft (fun B => (wd_var 1)))
    (wdss_one (wds_setF 0 M.fa_share M.ft (fun B => (wd_var 2)))))))
theorem sc_Filter___init__ : FnScope n_Filter___init__ p_Filter___init__ (defScope s_Filter___init__) := ⟨rfl, rfl, rfl, by decide +kernel, rfl, by decide +kernel, by decide +kernel⟩
theorem ok_Filter___init__ (M : Tx K mg cb) : FnD P w K mg base cb 3 M.a_Filter___init__ M.fd_Filter___init__ p_Filter___init__ F_Filter___init__ := by
  refine wfn_okG (B := b_Filter___init__) M.f_Filter___init__ sc_Filter___init__ (fun c cdv A outer s H E hcb hr g n => ?_) (fun as _ _ => ⟨0, rfl⟩)
  subst hcb
  have hu := hr.units
  exact (wdss_cons (wds_exprZ (wd_fn (ok_check_share M) (hr.mono (by decide)) M.m_check_share M.k_check_share M.b_check_share (wda_cons (wd_var 1) wda_nil)))
    (wdss_one (wds_setF 0 M.fa_share M.ft (fun B => (wd_var 1)))))
theorem sc_check_name : FnScope n_check_name p_check_name (defScope s_check_name) := ⟨rfl, rfl, rfl, by decide +kernel, rfl, by decide +kernel, by decide +kernel⟩
theorem ok_check_name (M : Tx K mg cb) : FnD P w K mg base cb 1 M.a_check_name M.fd_check_name p_check_name F_check_name := by
  refine wfn_okD (B := b_check_name) M.f_check_name sc_check_name (fun c cdv A outer s H E hcb hr g n => ?_) (fun as _ _ => ⟨0, rfl⟩)
  subst hcb
  have hu := hr.units
  exact (wdss_one (wds_ifZ (wdt_w (wdw_or (wdt_not (wdt_chain (opR_c op_le) (opR_c op_le) o2_le o2_le wd_int (wd_len M.z_len (wda_cons (wd_var 0) wda_nil)) (wd_globD M.v_LONGEST_NAME M.g_LONGEST_NAME))) (wdw_or1 (wdt_not (wdt_val (wd_all rfl M.z_all (wda_cons (wd_of_pl (wl_compD (tm := false) (k := 1) (caps := []) (N' := ["sign"]) (fun h => nomatch h) rfl (wid_seq (wd_var 0)) ⟨rfl, by decide +kernel, rfl, by decide +kernel, rfl, (fun i c y h => by simp at h)⟩ (by decide +kernel) (fun C s₀ H₀ ex => (wgd_name 0 (by decide +kernel : (["sign"] : List Str).Nodup))) (fun C s₀ H₀ ex => wts_nil) (fun C s₀ H₀ ex => (wd_inA (wd_var 0) (wd_globD M.v_LETTERS M.g_LETTERS))) (tk_name (by decide)))) wda_nil))))))) (wdss_one (wds_raise g M.x_NoCell (wda_cons wd_str wda_nil))) wdss_nil))
theorem sc_Fibre___init__ : FnScope n_Fibre___init__ p_Fibre___init__ (defScope s_Fibre___init__) := ⟨rfl, rfl, rfl, by decide +kernel, rfl, by decide +kernel, by decide +kernel⟩
theorem ok_Fibre___init__ (M : Tx K mg cb) : FnD P w K mg base cb 2 M.a_Fibre___init__ M.fd_Fibre___init__ p_Fibre___init__ F_Fibre___init__ := by
  refine wfn_okG (B := b_Fibre___init__) M.f_Fibre___init__ sc_Fibre___init__ (fun c cdv A outer s H E hcb hr g n => ?_) (fun as _ _ => ⟨0, rfl⟩)
  subst hcb
  have hu := hr.units
  exact (wdss_cons (wds_exprZ (wd_fn (ok_check_name M) (hr.mono (by decide)) M.m_check_name M.k_check_name M.b_check_name (wda_cons (wd_var 1) wda_nil)))
    (wdss_one (wds_setF 0 M.fa_name M.ft (fun B => (wd_var 1)))))
theorem sc_l_refused : FnScope n_l_refused p_l_refused (defScope s_l_refused) := ⟨rfl, rfl, rfl, by decide +kernel, rfl, by decide +kernel, by decide +kernel⟩
theorem ok_l_refused (M : Tx K mg cb) : FnD P w K mg base cb 5 M.a_l_refused M.fd_l_refused p_l_refused F_l_refused := by
  refine wfn_okD (B := b_l_refused) M.f_l_refused sc_l_refused (fun c cdv A outer s H E hcb hr g n => ?_) (fun as _ _ => ⟨0, rfl⟩)
  subst hcb
  have hu := hr.units
  exact (wdss_cons (wds_set 4 g.nd wd_bl)
    (wdss_cons (wds_tryAs 5 g M.g_BeamError M.h_BeamError (fun pn xe g => (wdss_one (wds_ifZ (wdt_eq hu (wd_var 0) wd_int) (wdss_one (wds_exprZ (wd_makeP (we_makeD (lends_plain _) M.mk_Mirror (ok_Mirror___init__ M) (hr.mono (by decide)) M.b_Mirror___init__ M.n_Mirror M.q_Mirror M.g_Mirror (wda_cons (wd_var 1) wda_nil) rfl)))) (wdss_one (wds_ifZ (wdt_eq hu (wd_var 0) wd_int) (wdss_one (wds_exprZ (wd_makeP (we_makeD (lends_plain _) M.mk_Half (ok_Half___init__ M) (hr.mono (by decide)) M.b_Half___init__ M.n_Half M.q_Half M.g_Half (wda_cons (wd_var 1) (wda_cons (wd_var 2) wda_nil)) rfl)))) (wdss_one (wds_ifZ (wdt_eq hu (wd_var 0) wd_int) (wdss_one (wds_exprZ (wd_makeP (we_makeD (lends_plain _) M.mk_Filter (ok_Filter___init__ M) (hr.mono (by decide)) M.b_Filter___init__ M.n_Filter M.q_Filter M.g_Filter (wda_cons (wd_var 2) wda_nil) rfl)))) (wdss_one (wds_exprZ (wd_makeP (we_makeD (lends_plain _) M.mk_Fibre (ok_Fibre___init__ M) (hr.mono (by decide)) M.b_Fibre___init__ M.n_Fibre M.q_Fibre M.g_Fibre (wda_cons (wd_var 3) wda_nil) rfl))))))))))) (fun ev pn => (wdss_one (wds_set 4 g.nd (wd_and (wd_isi M.z_isinstance M.xt M.i_NoCell (clsV_ref M.g_NoCell) (wd_var 5)) (wd_and (wd_isi M.z_isinstance M.xt M.i_ValueError (clsV_ty M.z_ValueError bt_ValueError (by decide)) (wd_var 5)) (wd_one (wd_not (wd_isiT M.z_isinstance M.xt (.cons M.i_NoPlace (.cons M.i_NoTable .nil)) (vu_ref (vu_ref vu_nil)) (wd_var 5) (wa_cons (we_cls (clsV_ref M.g_NoPlace)) (wa_cons (we_cls (clsV_ref M.g_NoTable)) wa_nil)) (fun _ _ _ q => q) (by simp))))))))))
    (wdss_one (wds_ret (wd_var 4)))))
theorem sc_l_bad_name : FnScope n_l_bad_name p_l_bad_name (defScope s_l_bad_name) := ⟨rfl, rfl, rfl, by decide +kernel, rfl, by decide +kernel, by decide +kernel⟩
theorem ok_l_bad_name (M : Tx K mg cb) : FnD P w K mg base cb 1 M.a_l_bad_name M.fd_l_bad_name p_l_bad_name F_l_bad_name := by
  refine wfn_okD (B := b_l_bad_name) M.f_l_bad_name sc_l_bad_name (fun c cdv A outer s H E hcb hr g n => ?_) (fun as _ _ => ⟨0, rfl⟩)
  subst hcb
  have hu := hr.units
  exact (wdss_cons (wds_set 1 g.nd (wd_cutS wd_str wdo_none (wdo_some (wd_add wd_int (wd_mod (wd_var 0) wd_int)))))
    (wdss_cons (wds_set 2 g.nd (wd_mod (wd_fdiv (wd_var 0) wd_int) (wd_len M.z_len (wda_cons (wd_var 1) wda_nil))))
    (wdss_cons (wds_set 3 g.nd (wd_ix (wd_of_pl (wl_lst (wda_cons wd_str (wda_cons wd_str (wda_cons wd_str (wda_cons wd_str (wda_cons wd_str (wda_cons wd_str wda_nil)))))))) (wd_mod (wd_fdiv (wd_var 0) wd_int) wd_int)))
    (wdss_one (wds_ret (wd_ix (wd_of_pl (wl_lst (wda_cons wd_str (wda_cons wd_str (wda_cons (wd_add (wd_add (wd_cutS (wd_var 1) wdo_none (wdo_some (wd_var 2))) (wd_var 3)) (wd_cutS (wd_var 1) (wdo_some (wd_add (wd_var 2) wd_int)) wdo_none)) (wda_cons (wd_add (wd_add (wd_cutS (wd_var 1) wdo_none (wdo_some (wd_var 2))) (wd_var 3)) (wd_cutS (wd_var 1) (wdo_some (wd_add (wd_var 2) wd_int)) wdo_none)) wda_nil)))))) (wd_mod (wd_fdiv (wd_var 0) wd_int) wd_int)))))))
theorem sc_Cell_turned : FnScope n_Cell_turned p_Cell_turned (defScope s_Cell_turned) := ⟨rfl, rfl, rfl, by decide +kernel, rfl, by decide +kernel, by decide +kernel⟩
theorem ok_Cell_turned (M : Tx K mg cb) : FnD P w K mg base cb 1 M.a_Cell_turned M.fd_Cell_turned p_Cell_turned F_Cell_turned := by
  refine wfn_okD (B := b_Cell_turned) M.f_Cell_turned sc_Cell_turned (fun c cdv A outer s H E hcb hr g n => ?_) (fun as _ _ => ⟨0, rfl⟩)
  subst hcb
  have hu := hr.units
  exact (wdss_one (wds_ret (wd_var 0)))
theorem sc_other_slant : FnScope n_other_slant p_other_slant (defScope s_other_slant) := ⟨rfl, rfl, rfl, by decide +kernel, rfl, by decide +kernel, by decide +kernel⟩
theorem ok_other_slant (M : Tx K mg cb) : FnD P w K mg base cb 1 M.a_other_slant M.fd_other_slant p_other_slant F_other_slant := by
  refine wfn_okD (B := b_other_slant) M.f_other_slant sc_other_slant (fun c cdv A outer s H E hcb hr g n => ?_) (fun as _ _ => ⟨0, rfl⟩)
  subst hcb
  have hu := hr.units
  exact (wdss_one (wds_ret (wd_sub wd_int (wd_var 0))))
theorem sc_Mirror_turned : FnScope n_Mirror_turned p_Mirror_turned (defScope s_Mirror_turned) := ⟨rfl, rfl, rfl, by decide +kernel, rfl, by decide +kernel, by decide +kernel⟩
theorem ok_Mirror_turned (M : Tx K mg cb) : FnD P w K mg base cb 4 M.a_Mirror_turned M.fd_Mirror_turned p_Mirror_turned F_Mirror_turned := by
  refine wfn_okD (B := b_Mirror_turned) M.f_Mirror_turned sc_Mirror_turned (fun c cdv A outer s H E hcb hr g n => ?_) (fun as _ _ => ⟨0, rfl⟩)
  subst hcb
  have hu := hr.units
  exact (wdss_one (wds_ret (wd_makeP (we_makeD (lends_plain _) M.mk_Mirror (ok_Mirror___init__ M) (hr.mono (by decide)) M.b_Mirror___init__ M.n_Mirror M.q_Mirror M.g_Mirror (wda_cons (wd_fn (ok_other_slant M) (hr.mono (by decide)) M.m_other_slant M.k_other_slant M.b_other_slant (wda_cons (wd_fld M.fa_slant (wd_var 0)) wda_nil)) wda_nil) rfl))))
theorem sc_Half_turned : FnScope n_Half_turned p_Half_turned (defScope s_Half_turned) := ⟨rfl, rfl, rfl, by decide +kernel, rfl, by decide +kernel, by decide +kernel⟩
theorem ok_Half_turned (M : Tx K mg cb) : FnD P w K mg base cb 5 M.a_Half_turned M.fd_Half_turned p_Half_turned F_Half_turned := by
  refine wfn_okD (B := b_Half_turned) M.f_Half_turned sc_Half_turned (fun c cdv A outer s H E hcb hr g n => ?_) (fun as _ _ => ⟨0, rfl⟩)
  subst hcb
  have hu := hr.units
  exact (wdss_one (wds_ret (wd_makeP (we_makeD (lends_plain _) M.mk_Half (ok_Half___init__ M) (hr.mono (by decide)) M.b_Half___init__ M.n_Half M.q_Half M.g_Half (wda_cons (wd_fn (ok_other_slant M) (hr.mono (by decide)) M.m_other_slant M.k_other_slant M.b_other_slant (wda_cons (wd_fld M.fa_slant (wd_var 0)) wda_nil)) (wda_cons (wd_fld M.fa_share (wd_var 0)) wda_nil)) rfl))))
theorem mt_turned {X : Cx} (M : Tx K mg cb) (hP : X.prog = P) (hw : X.w = w) (hK : X.K = K) (hm : X.mg = mg) (hb : X.base = base) (hr : Room 5 X.A) : MtOk X cb "turned" 0 t_turned := by
  subst hP hw hK hm hb
  exact mt_all (al_cons (mt1 M.q_Empty ⟨1, M.a_Cell_turned, M.fd_Cell_turned, p_Cell_turned, M.cl_Empty, M.me_Empty_turned, ok_Cell_turned M, hr.mono (by decide), M.b_Cell_turned, rfl, by decide⟩)
    (al_cons (mt1 M.q_Mirror ⟨4, M.a_Mirror_turned, M.fd_Mirror_turned, p_Mirror_turned, M.cl_Mirror, M.me_Mirror_turned, ok_Mirror_turned M, hr.mono (by decide), M.b_Mirror_turned, rfl, by decide⟩)
    (al_cons (mt1 M.q_Half ⟨5, M.a_Half_turned, M.fd_Half_turned, p_Half_turned, M.cl_Half, M.me_Half_turned, ok_Half_turned M, hr.mono (by decide), M.b_Half_turned, rfl, by decide⟩)
    (al_cons (mt1 M.q_Filter ⟨1, M.a_Cell_turned, M.fd_Cell_turned, p_Cell_turned, M.cl_Filter, M.me_Filter_turned, ok_Cell_turned M, hr.mono (by decide), M.b_Cell_turned, rfl, by decide⟩)
    (al_cons (mt1 M.q_Wall ⟨1, M.a_Cell_turned, M.fd_Cell_turned, p_Cell_turned, M.cl_Wall, M.me_Wall_turned, ok_Cell_turned M, hr.mono (by decide), M.b_Cell_turned, rfl, by decide⟩)
    (al_cons (mt1 M.q_Fibre ⟨1, M.a_Cell_turned, M.fd_Cell_turned, p_Cell_turned, M.cl_Fibre, M.me_Fibre_turned, ok_Cell_turned M, hr.mono (by decide), M.b_Cell_turned, rfl, by decide⟩)
    al_nil))))))
theorem sc_Empty_row : FnScope n_Empty_row p_Empty_row (defScope s_Empty_row) := ⟨rfl, rfl, rfl, by decide +kernel, rfl, by decide +kernel, by decide +kernel⟩
theorem ok_Empty_row (M : Tx K mg cb) : FnD P w K mg base cb 1 M.a_Empty_row M.fd_Empty_row p_Empty_row F_Empty_row := by
  refine wfn_okD (B := b_Empty_row) M.f_Empty_row sc_Empty_row (fun c cdv A outer s H E hcb hr g n => ?_) (fun as _ _ => ⟨0, rfl⟩)
  subst hcb
  have hu := hr.units
  exact (wdss_one (wds_ret (wd_tup (wda_cons wd_str wda_nil))))
theorem sc_Mirror_row : FnScope n_Mirror_row p_Mirror_row (defScope s_Mirror_row) := ⟨rfl, rfl, rfl, by decide +kernel, rfl, by decide +kernel, by decide +kernel⟩
theorem ok_Mirror_row (M : Tx K mg cb) : FnD P w K mg base cb 1 M.a_Mirror_row M.fd_Mirror_row p_Mirror_row F_Mirror_row := by
  refine wfn_okD (B := b_Mirror_row) M.f_Mirror_row sc_Mirror_row (fun c cdv A outer s H E hcb hr g n => ?_) (fun as _ _ => ⟨0, rfl⟩)
  subst hcb
  have hu := hr.units
  exact (wdss_one (wds_ret (wd_tup (wda_cons wd_str (wda_cons (wd_fld M.fa_slant (wd_var 0)) wda_nil)))))
theorem sc_Half_row : FnScope n_Half_row p_Half_row (defScope s_Half_row) := ⟨rfl, rfl, rfl, by decide +kernel, rfl, by decide +kernel, by decide +kernel⟩
theorem ok_Half_row (M : Tx K mg cb) : FnD P w K mg base cb 1 M.a_Half_row M.fd_Half_row p_Half_row F_Half_row := by
  refine wfn_okD (B := b_Half_row) M.f_Half_row sc_Half_row (fun c cdv A outer s H E hcb hr g n => ?_) (fun as _ _ => ⟨0, rfl⟩)
  subst hcb
  have hu := hr.units
  exact (wdss_one (wds_ret (wd_tup (wda_cons wd_str (wda_cons (wd_fld M.fa_slant (wd_var 0)) (wda_cons (wd_fld M.fa_share (wd_var 0)) wda_nil))))))
theorem sc_Filter_row : FnScope n_Filter_row p_Filter_row (defScope s_Filter_row) := ⟨rfl, rfl, rfl, by decide +kernel, rfl, by decide +kernel, by decide +kernel⟩
theorem ok_Filter_row (M : Tx K mg cb) : FnD P w K mg base cb 1 M.a_Filter_row M.fd_Filter_row p_Filter_row F_Filter_row := by
  refine wfn_okD (B := b_Filter_row) M.f_Filter_row sc_Filter_row (fun c cdv A outer s H E hcb hr g n => ?_) (fun as _ _ => ⟨0, rfl⟩)
  subst hcb
  have hu := hr.units
  exact (wdss_one (wds_ret (wd_tup (wda_cons wd_str (wda_cons (wd_fld M.fa_share (wd_var 0)) wda_nil)))))
theorem sc_Wall_row : FnScope n_Wall_row p_Wall_row (defScope s_Wall_row) := ⟨rfl, rfl, rfl, by decide +kernel, rfl, by decide +kernel, by decide +kernel⟩
theorem ok_Wall_row (M : Tx K mg cb) : FnD P w K mg base cb 1 M.a_Wall_row M.fd_Wall_row p_Wall_row F_Wall_row := by
  refine wfn_okD (B := b_Wall_row) M.f_Wall_row sc_Wall_row (fun c cdv A outer s H E hcb hr g n => ?_) (fun as _ _ => ⟨0, rfl⟩)
  subst hcb
  have hu := hr.units
  exact (wdss_one (wds_ret (wd_tup (wda_cons wd_str wda_nil))))
theorem sc_Fibre_row : FnScope n_Fibre_row p_Fibre_row (defScope s_Fibre_row) := ⟨rfl, rfl, rfl, by decide +kernel, rfl, by decide +kernel, by decide +kernel⟩
theorem ok_Fibre_row (M : Tx K mg cb) : FnD P w K mg base cb 1 M.a_Fibre_row M.fd_Fibre_row p_Fibre_row F_Fibre_row := by
  refine wfn_okD (B := b_Fibre_row) M.f_Fibre_row sc_Fibre_row (fun c cdv A outer s H E hcb hr g n => ?_) (fun as _ _ => ⟨0, rfl⟩)
  subst hcb
  have hu := hr.units
  exact (wdss_one (wds_ret (wd_tup (wda_cons wd_str (wda_cons (wd_fld M.fa_name (wd_var 0)) wda_nil)))))
theorem mt_row {X : Cx} (M : Tx K mg cb) (hP : X.prog = P) (hw : X.w = w) (hK : X.K = K) (hm : X.mg = mg) (hb : X.base = base) (hr : Room 1 X.A) : MtOk X cb "row" 0 t_row := by
  subst hP hw hK hm hb
  exact mt_all (al_cons (mt1 M.q_Empty ⟨1, M.a_Empty_row, M.fd_Empty_row, p_Empty_row, M.cl_Empty, M.me_Empty_row, ok_Empty_row M, hr.mono (by decide), M.b_Empty_row, rfl, by decide⟩)
    (al_cons (mt1 M.q_Mirror ⟨1, M.a_Mirror_row, M.fd_Mirror_row, p_Mirror_row, M.cl_Mirror, M.me_Mirror_row, ok_Mirror_row M, hr.mono (by decide), M.b_Mirror_row, rfl, by decide⟩)
    (al_cons (mt1 M.q_Half ⟨1, M.a_Half_row, M.fd_Half_row, p_Half_row, M.cl_Half, M.me_Half_row, ok_Half_row M, hr.mono (by decide), M.b_Half_row, rfl, by decide⟩)
    (al_cons (mt1 M.q_Filter ⟨1, M.a_Filter_row, M.fd_Filter_row, p_Filter_row, M.cl_Filter, M.me_Filter_row, ok_Filter_row M, hr.mono (by decide), M.b_Filter_row, rfl, by decide⟩)
    (al_cons (mt1 M.q_Wall ⟨1, M.a_Wall_row, M.fd_Wall_row, p_Wall_row, M.cl_Wall, M.me_Wall_row, ok_Wall_row M, hr.mono (by decide), M.b_Wall_row, rfl, by decide⟩)
    (al_cons (mt1 M.q_Fibre ⟨1, M.a_Fibre_row, M.fd_Fibre_row, p_Fibre_row, M.cl_Fibre, M.me_Fibre_row, ok_Fibre_row M, hr.mono (by decide), M.b_Fibre_row, rfl, by decide⟩)
    al_nil))))))
theorem sc_Cell_swallows : FnScope n_Cell_swallows p_Cell_swallows (defScope s_Cell_swallows) := ⟨rfl, rfl, rfl, by decide +kernel, rfl, by decide +kernel, by decide +kernel⟩
theorem ok_Cell_swallows (M : Tx K mg cb) : FnD P w K mg base cb 1 M.a_Cell_swallows M.fd_Cell_swallows p_Cell_swallows F_Cell_swallows := by
  refine wfn_okD (B := b_Cell_swallows) M.f_Cell_swallows sc_Cell_swallows (fun c cdv A outer s H E hcb hr g n => ?_) (fun as _ _ => ⟨0, rfl⟩)
  subst hcb
  have hu := hr.units
  exact (wdss_one (wds_ret (wd_globD M.v_ZERO M.g_ZERO)))
theorem sc_greatest_divisor : FnScope n_greatest_divisor p_greatest_divisor (defScope s_greatest_divisor) := ⟨rfl, rfl, rfl, by decide +kernel, rfl, by decide +kernel, by decide +kernel⟩
theorem ok_greatest_divisor (M : Tx K mg cb) : FnD P w K mg base cb 1 M.a_greatest_divisor M.fd_greatest_divisor p_greatest_divisor F_greatest_divisor := by
  refine wfn_okD (B := b_greatest_divisor) M.f_greatest_divisor sc_greatest_divisor (fun c cdv A outer s H E hcb hr g n => ?_) h_greatest_divisor
  subst hcb
  have hu := hr.units
  exact (wdss_cons (wds_set 2 g.nd (wd_abs M.z_abs (wda_cons (wd_var 0) wda_nil)))
    (wdss_cons (wds_set 3 g.nd (wd_abs M.z_abs (wda_cons (wd_var 1) wda_nil)))
    (wdss_cons (wds_whileZ n g (wdt_ne hu (wd_var 3) wd_int) (wdss_cons (wds_set 4 g.nd (wd_mod (wd_var 2) (wd_var 3)))
    (wdss_cons (wds_set 2 g.nd (wd_var 3))
    (wdss_one (wds_set 3 g.nd (wd_var 4))))))
    (wdss_one (wds_ret (wd_var 2))))))
theorem sc_fraction : FnScope n_fraction p_fraction (defScope s_fraction) := ⟨rfl, rfl, rfl, by decide +kernel, rfl, by decide +kernel, by decide +kernel⟩
theorem ok_fraction (M : Tx K mg cb) : FnD P w K mg base cb 2 M.a_fraction M.fd_fraction p_fraction F_fraction := by
  refine wfn_okD (B := b_fraction) M.f_fraction sc_fraction (fun c cdv A outer s H E hcb hr g n => ?_) (fun as _ _ => ⟨0, rfl⟩)
  subst hcb
  have hu := hr.units
  exact (wdss_cons (wds_ifZ (wdt_eq hu (wd_var 1) wd_int) (wdss_one (wds_raise g M.x_NoFraction (wda_cons wd_str wda_nil))) wdss_nil)
    (wdss_cons (wds_set 2 g.nd (wd_fn (ok_greatest_divisor M) (hr.mono (by decide)) M.m_greatest_divisor M.k_greatest_divisor M.b_greatest_divisor (wda_cons (wd_var 0) (wda_cons (wd_var 1) wda_nil))))
    (wdss_cons (wds_ifZ (wdt_lt (wd_var 1) wd_int) (wdss_one (wds_set 2 g.nd (wd_neg (wd_var 2)))) wdss_nil)
    (wdss_one (wds_ret (wd_tup (wda_cons (wd_fdiv (wd_var 0) (wd_var 2)) (wda_cons (wd_fdiv (wd_var 1) (wd_var 2)) wda_nil))))))))
theorem sc_minus : FnScope n_minus p_minus (defScope s_minus) := ⟨rfl, rfl, rfl, by decide +kernel, rfl, by decide +kernel, by decide +kernel⟩
theorem ok_minus (M : Tx K mg cb) : FnD P w K mg base cb 3 M.a_minus M.fd_minus p_minus F_minus := by
  refine wfn_okD (B := b_minus) M.f_minus sc_minus (fun c cdv A outer s H E hcb hr g n => ?_) (fun as _ _ => ⟨0, rfl⟩)
  subst hcb
  have hu := hr.units
  exact (wdss_one (wds_ret (wd_fn (ok_fraction M) (hr.mono (by decide)) M.m_fraction M.k_fraction M.b_fraction (wda_cons (wd_sub (wd_mul (wd_ix (wd_var 0) wd_int) (wd_ix (wd_var 1) wd_int)) (wd_mul (wd_ix (wd_var 1) wd_int) (wd_ix (wd_var 0) wd_int))) (wda_cons (wd_mul (wd_ix (wd_var 0) wd_int) (wd_ix (wd_var 1) wd_int)) wda_nil)))))
theorem sc_Filter_swallows : FnScope n_Filter_swallows p_Filter_swallows (defScope s_Filter_swallows) := ⟨rfl, rfl, rfl, by decide +kernel, rfl, by decide +kernel, by decide +kernel⟩
theorem ok_Filter_swallows (M : Tx K mg cb) : FnD P w K mg base cb 4 M.a_Filter_swallows M.fd_Filter_swallows p_Filter_swallows F_Filter_swallows := by
  refine wfn_okD (B := b_Filter_swallows) M.f_Filter_swallows sc_Filter_swallows (fun c cdv A outer s H E hcb hr g n => ?_) (fun as _ _ => ⟨0, rfl⟩)
  subst hcb
  have hu := hr.units
  exact (wdss_one (wds_ret (wd_fn (ok_minus M) (hr.mono (by decide)) M.m_minus M.k_minus M.b_minus (wda_cons (wd_globD M.v_ONE M.g_ONE) (wda_cons (wd_fld M.fa_share (wd_var 0)) wda_nil)))))
theorem sc_Wall_swallows : FnScope n_Wall_swallows p_Wall_swallows (defScope s_Wall_swallows) := ⟨rfl, rfl, rfl, by decide +kernel, rfl, by decide +kernel, by decide +kernel⟩
theorem ok_Wall_swallows (M : Tx K mg cb) : FnD P w K mg base cb 1 M.a_Wall_swallows M.fd_Wall_swallows p_Wall_swallows F_Wall_swallows := by
  refine wfn_okD (B := b_Wall_swallows) M.f_Wall_swallows sc_Wall_swallows (fun c cdv A outer s H E hcb hr g n => ?_) (fun as _ _ => ⟨0, rfl⟩)
  subst hcb
  have hu := hr.units
  exact (wdss_one (wds_ret (wd_globD M.v_ONE M.g_ONE)))
theorem mt_swallows {X : Cx} (M : Tx K mg cb) (hP : X.prog = P) (hw : X.w = w) (hK : X.K = K) (hm : X.mg = mg) (hb : X.base = base) (hr : Room 4 X.A) : MtOk X cb "swallows" 0 t_swallows := by
  subst hP hw hK hm hb
  exact mt_all (al_cons (mt1 M.q_Empty ⟨1, M.a_Cell_swallows, M.fd_Cell_swallows, p_Cell_swallows, M.cl_Empty, M.me_Empty_swallows, ok_Cell_swallows M, hr.mono (by decide), M.b_Cell_swallows, rfl, by decide⟩)
    (al_cons (mt1 M.q_Mirror ⟨1, M.a_Cell_swallows, M.fd_Cell_swallows, p_Cell_swallows, M.cl_Mirror, M.me_Mirror_swallows, ok_Cell_swallows M, hr.mono (by decide), M.b_Cell_swallows, rfl, by decide⟩)
    (al_cons (mt1 M.q_Half ⟨1, M.a_Cell_swallows, M.fd_Cell_swallows, p_Cell_swallows, M.cl_Half, M.me_Half_swallows, ok_Cell_swallows M, hr.mono (by decide), M.b_Cell_swallows, rfl, by decide⟩)
    (al_cons (mt1 M.q_Filter ⟨4, M.a_Filter_swallows, M.fd_Filter_swallows, p_Filter_swallows, M.cl_Filter, M.me_Filter_swallows, ok_Filter_swallows M, hr.mono (by decide), M.b_Filter_swallows, rfl, by decide⟩)
    (al_cons (mt1 M.q_Wall ⟨1, M.a_Wall_swallows, M.fd_Wall_swallows, p_Wall_swallows, M.cl_Wall, M.me_Wall_swallows, ok_Wall_swallows M, hr.mono (by decide), M.b_Wall_swallows, rfl, by decide⟩)
    (al_cons (mt1 M.q_Fibre ⟨1, M.a_Cell_swallows, M.fd_Cell_swallows, p_Cell_swallows, M.cl_Fibre, M.me_Fibre_swallows, ok_Cell_swallows M, hr.mono (by decide), M.b_Cell_swallows, rfl, by decide⟩)
    al_nil))))))
theorem sc_Cell_leads : FnScope n_Cell_leads p_Cell_leads (defScope s_Cell_leads) := ⟨rfl, rfl, rfl, by decide +kernel, rfl, by decide +kernel, by decide +kernel⟩
theorem ok_Cell_leads (M : Tx K mg cb) : FnD P w K mg base cb 1 M.a_Cell_leads M.fd_Cell_leads p_Cell_leads F_Cell_leads := by
  refine wfn_okD (B := b_Cell_leads) M.f_Cell_leads sc_Cell_leads (fun c cdv A outer s H E hcb hr g n => ?_) (fun as _ _ => ⟨0, rfl⟩)
  subst hcb
  have hu := hr.units
  exact (wdss_one (wds_retM (fun B => (wm_of_pl (wl_lst (wda_cons (wd_tup (wda_cons (wd_var 1) (wda_cons (wd_globD M.v_ONE M.g_ONE) wda_nil))) wda_nil))))))
theorem sc_Mirror_leads : FnScope n_Mirror_leads p_Mirror_leads (defScope s_Mirror_leads) := ⟨rfl, rfl, rfl, by decide +kernel, rfl, by decide +kernel, by decide +kernel⟩
theorem ok_Mirror_leads (M : Tx K mg cb) : FnD P w K mg base cb 1 M.a_Mirror_leads M.fd_Mirror_leads p_Mirror_leads F_Mirror_leads := by
  refine wfn_okD (B := b_Mirror_leads) M.f_Mirror_leads sc_Mirror_leads (fun c cdv A outer s H E hcb hr g n => ?_) (fun as _ _ => ⟨0, rfl⟩)
  subst hcb
  have hu := hr.units
  exact (wdss_one (wds_retM (fun B => (wm_of_pl (wl_lst (wda_cons (wd_tup (wda_cons (wd_xor (wd_var 1) (wd_fld M.fa_slant (wd_var 0))) (wda_cons (wd_globD M.v_ONE M.g_ONE) wda_nil))) wda_nil))))))
theorem sc_Half_leads : FnScope n_Half_leads p_Half_leads (defScope s_Half_leads) := ⟨rfl, rfl, rfl, by decide +kernel, rfl, by decide +kernel, by decide +kernel⟩
theorem ok_Half_leads (M : Tx K mg cb) : FnD P w K mg base cb 4 M.a_Half_leads M.fd_Half_leads p_Half_leads F_Half_leads := by
  refine wfn_okD (B := b_Half_leads) M.f_Half_leads sc_Half_leads (fun c cdv A outer s H E hcb hr g n => ?_) (fun as _ _ => ⟨0, rfl⟩)
  subst hcb
  have hu := hr.units
  exact (wdss_cons (wds_set 2 g.nd (wd_tup (wda_cons (wd_xor (wd_var 1) (wd_fld M.fa_slant (wd_var 0))) (wda_cons (wd_fld M.fa_share (wd_var 0)) wda_nil))))
    (wdss_cons (wds_set 3 g.nd (wd_tup (wda_cons (wd_var 1) (wda_cons (wd_fn (ok_minus M) (hr.mono (by decide)) M.m_minus M.k_minus M.b_minus (wda_cons (wd_globD M.v_ONE M.g_ONE) (wda_cons (wd_fld M.fa_share (wd_var 0)) wda_nil))) wda_nil))))
    (wdss_one (wds_retM (fun B => (wm_of_pl (wl_sorted2 M.z_sorted (wda_cons (wd_of_pl (wl_lst (wda_cons (wd_var 2) (wda_cons (wd_var 3) wda_nil)))) wda_nil))))))))
theorem sc_Filter_leads : FnScope n_Filter_leads p_Filter_leads (defScope s_Filter_leads) := ⟨rfl, rfl, rfl, by decide +kernel, rfl, by decide +kernel, by decide +kernel⟩
theorem ok_Filter_leads (M : Tx K mg cb) : FnD P w K mg base cb 1 M.a_Filter_leads M.fd_Filter_leads p_Filter_leads F_Filter_leads := by
  refine wfn_okD (B := b_Filter_leads) M.f_Filter_leads sc_Filter_leads (fun c cdv A outer s H E hcb hr g n => ?_) (fun as _ _ => ⟨0, rfl⟩)
  subst hcb
  have hu := hr.units
  exact (wdss_one (wds_retM (fun B => (wm_of_pl (wl_lst (wda_cons (wd_tup (wda_cons (wd_var 1) (wda_cons (wd_fld M.fa_share (wd_var 0)) wda_nil))) wda_nil))))))
theorem sc_Wall_leads : FnScope n_Wall_leads p_Wall_leads (defScope s_Wall_leads) := ⟨rfl, rfl, rfl, by decide +kernel, rfl, by decide +kernel, by decide +kernel⟩
theorem ok_Wall_leads (M : Tx K mg cb) : FnD P w K mg base cb 1 M.a_Wall_leads M.fd_Wall_leads p_Wall_leads F_Wall_leads := by
  refine wfn_okD (B := b_Wall_leads) M.f_Wall_leads sc_Wall_leads (fun c cdv A outer s H E hcb hr g n => ?_) (fun as _ _ => ⟨0, rfl⟩)
  subst hcb
  have hu := hr.units
  exact (wdss_one (wds_retM (fun B => (wm_of_pl (wl_lst wda_nil)))))
theorem mt_leads {X : Cx} (M : Tx K mg cb) (hP : X.prog = P) (hw : X.w = w) (hK : X.K = K) (hm : X.mg = mg) (hb : X.base = base) (hr : Room 4 X.A) : MtOk X cb "leads" 1 t_leads := by
  subst hP hw hK hm hb
  exact mt_all (al_cons (mt1 M.q_Empty ⟨1, M.a_Cell_leads, M.fd_Cell_leads, p_Cell_leads, M.cl_Empty, M.me_Empty_leads, ok_Cell_leads M, hr.mono (by decide), M.b_Cell_leads, rfl, by decide⟩)
    (al_cons (mt1 M.q_Mirror ⟨1, M.a_Mirror_leads, M.fd_Mirror_leads, p_Mirror_leads, M.cl_Mirror, M.me_Mirror_leads, ok_Mirror_leads M, hr.mono (by decide), M.b_Mirror_leads, rfl, by decide⟩)
    (al_cons (mt1 M.q_Half ⟨4, M.a_Half_leads, M.fd_Half_leads, p_Half_leads, M.cl_Half, M.me_Half_leads, ok_Half_leads M, hr.mono (by decide), M.b_Half_leads, rfl, by decide⟩)
    (al_cons (mt1 M.q_Filter ⟨1, M.a_Filter_leads, M.fd_Filter_leads, p_Filter_leads, M.cl_Filter, M.me_Filter_leads, ok_Filter_leads M, hr.mono (by decide), M.b_Filter_leads, rfl, by decide⟩)
    (al_cons (mt1 M.q_Wall ⟨1, M.a_Wall_leads, M.fd_Wall_leads, p_Wall_leads, M.cl_Wall, M.me_Wall_leads, ok_Wall_leads M, hr.mono (by decide), M.b_Wall_leads, rfl, by decide⟩)
    (al_cons (mt1 M.q_Fibre ⟨1, M.a_Cell_leads, M.fd_Cell_leads, p_Cell_leads, M.cl_Fibre, M.me_Fibre_leads, ok_Cell_leads M, hr.mono (by decide), M.b_Cell_leads, rfl, by decide⟩)
    al_nil))))))
theorem sc_l_turned : FnScope n_l_turned p_l_turned (defScope s_l_turned) := ⟨rfl, rfl, rfl, by decide +kernel, rfl, by decide +kernel, by decide +kernel⟩
theorem ok_l_turned (M : Tx K mg cb) : FnD P w K mg base cb 6 M.a_l_turned M.fd_l_turned p_l_turned F_l_turned := by
  refine wfn_okD (B := b_l_turned) M.f_l_turned sc_l_turned (fun c cdv A outer s H E hcb hr g n => ?_) (fun as _ _ => ⟨0, rfl⟩)
  subst hcb
  have hu := hr.units
  exact (wdss_cons (wds_set 1 g.nd (wd_of_pm (wm_methP (we_methD0 (lends_plain _) (mt_turned M rfl rfl rfl rfl rfl (hr.mono (by decide))) (wd_var 0)))))
    (wdss_cons (wds_set 2 g.nd (wd_of_pm (wm_methP (we_methD0 (lends_plain _) (mt_row M rfl rfl rfl rfl rfl (hr.mono (by decide))) (wd_var 0)))))
    (wdss_cons (wds_ifZ (wdt_ne hu (wd_of_pm (wm_methP (we_methD0 (lends_plain _) (mt_swallows M rfl rfl rfl rfl rfl (hr.mono (by decide))) (wd_var 1)))) (wd_of_pm (wm_methP (we_methD0 (lends_plain _) (mt_swallows M rfl rfl rfl rfl rfl (hr.mono (by decide))) (wd_var 0))))) (wdss_one (wds_ret wd_bl)) wdss_nil)
    (wdss_cons (wds_forI g (wid_rng1 M.z_range (wda_cons wd_int wda_nil)) (wgd_name 3 g.nd) (wdss_cons (wds_set 4 g.nd (wd_of_pl (wl_sorted2 M.z_sorted (wda_cons (wd_of_pl (wl_compD (tm := false) (k := 2) (caps := []) (N' := ["_law_onward", "_law_share_here"]) (fun h => nomatch h) rfl (wid_seq (wd_of_pm (wm_methP (we_methD (lends_plain _) (mt_leads M rfl rfl rfl rfl rfl (hr.mono (by decide))) (wd_var 0) (wda_cons (wd_var 3) wda_nil))))) ⟨rfl, by decide +kernel, rfl, by decide +kernel, rfl, (fun i c y h => by simp at h)⟩ (by decide +kernel) (fun C s₀ H₀ ex => (wgd_tup rfl (wgds_cons (wgd_name 0 (by decide +kernel : (["_law_onward", "_law_share_here"] : List Str).Nodup)) (wgds_cons (wgd_name 1 (by decide +kernel : (["_law_onward", "_law_share_here"] : List Str).Nodup)) wgds_nil)))) (fun C s₀ H₀ ex => wts_nil) (fun C s₀ H₀ ex => (wd_tup (wda_cons (wd_mod (wd_add (wd_var 0) wd_int) wd_int) (wda_cons (wd_var 1) wda_nil)))) (tk_tup (tk_cons (tk_name (by decide)) (tk_cons (tk_name (by decide)) tk_nil))))) wda_nil))))
    (wdss_one (wds_ifZ (wdt_ne hu (wd_of_pm (wm_methP (we_methD (lends_plain _) (mt_leads M rfl rfl rfl rfl rfl (hr.mono (by decide))) (wd_var 1) (wda_cons (wd_mod (wd_add (wd_var 3) wd_int) wd_int) wda_nil)))) (wd_var 4)) (wdss_one (wds_ret wd_bl)) wdss_nil))))
    (wdss_cons (wds_set 5 g.nd (wd_of_pm (wm_methP (we_methD0 (lends_plain _) (mt_turned M rfl rfl rfl rfl rfl (hr.mono (by decide))) (wd_of_pm (wm_methP (we_methD0 (lends_plain _) (mt_turned M rfl rfl rfl rfl rfl (hr.mono (by decide))) (wd_of_pm (wm_methP (we_methD0 (lends_plain _) (mt_turned M rfl rfl rfl rfl rfl (hr.mono (by decide))) (wd_var 1)))))))))))
    (wdss_one (wds_ret (wd_and (wd_eq hu (wd_of_pm (wm_methP (we_methD0 (lends_plain _) (mt_row M rfl rfl rfl rfl rfl (hr.mono (by decide))) (wd_var 5)))) (wd_var 2)) (wd_one (wd_eq hu (wd_of_pm (wm_methP (we_methD0 (lends_plain _) (mt_row M rfl rfl rfl rfl rfl (hr.mono (by decide))) (wd_var 0)))) (wd_var 2)))))))))))
theorem sc_law : FnScope n_law p_law (defScope s_law) := ⟨rfl, rfl, rfl, by decide +kernel, rfl, by decide +kernel, by decide +kernel⟩
theorem ok_law (M : Tx K mg cb) : FnD P w K mg base cb 7 M.a_law M.fd_law p_law F_law := by
  refine wfn_okD (B := b_law) M.f_law sc_law (fun c cdv A outer s H E hcb hr g n => ?_) (fun as _ _ => ⟨0, rfl⟩)
  subst hcb
  have hu := hr.units
  exact (wdss_cons (wds_forI g (wid_seq (wd_of_pl (wl_cat (wd_of_pl (wl_lst (wda_cons wd_int wda_nil))) (wd_of_pl (wl_cut (wd_var 0) wdo_none (wdo_some wd_int)))))) (wgd_name 1 g.nd) (wdss_cons (wds_set 2 g.nd (wd_ix (wd_of_pl (wl_lst (wda_cons wd_int (wda_cons wd_int wda_nil)))) (wd_mod (wd_var 1) wd_int)))
    (wdss_cons (wds_set 3 g.nd (wd_fn (ok_l_share M) (hr.mono (by decide)) M.m_l_share M.k_l_share M.b_l_share (wda_cons (wd_fdiv (wd_var 1) wd_int) wda_nil)))
    (wdss_cons (wds_set 4 g.nd (wd_fn (ok_l_bad_slant M) (hr.mono (by decide)) M.m_l_bad_slant M.k_l_bad_slant M.b_l_bad_slant (wda_cons (wd_var 1) wda_nil)))
    (wdss_cons (wds_set 5 g.nd (wd_fn (ok_l_bad_share M) (hr.mono (by decide)) M.m_l_bad_share M.k_l_bad_share M.b_l_bad_share (wda_cons (wd_fdiv (wd_var 1) wd_int) wda_nil)))
    (wdss_cons (wds_ifZ (wdt_w (wdw_or (wdt_not (wdt_val (wd_fn (ok_l_refused M) (hr.mono (by decide)) M.m_l_refused M.k_l_refused M.b_l_refused (wda_cons wd_int (wda_cons (wd_var 4) (wda_cons (wd_var 3) (wda_cons wd_str wda_nil))))))) (wdw_or1 (wdt_not (wdt_val (wd_fn (ok_l_refused M) (hr.mono (by decide)) M.m_l_refused M.k_l_refused M.b_l_refused (wda_cons wd_int (wda_cons (wd_var 4) (wda_cons (wd_var 3) (wda_cons wd_str wda_nil)))))))))) (wdss_one (wds_ret wd_bl)) wdss_nil)
    (wdss_cons (wds_ifZ (wdt_w (wdw_or (wdt_not (wdt_val (wd_fn (ok_l_refused M) (hr.mono (by decide)) M.m_l_refused M.k_l_refused M.b_l_refused (wda_cons wd_int (wda_cons (wd_var 2) (wda_cons (wd_var 5) (wda_cons wd_str wda_nil))))))) (wdw_or1 (wdt_not (wdt_val (wd_fn (ok_l_refused M) (hr.mono (by decide)) M.m_l_refused M.k_l_refused M.b_l_refused (wda_cons wd_int (wda_cons (wd_var 4) (wda_cons (wd_var 5) (wda_cons wd_str wda_nil)))))))))) (wdss_one (wds_ret wd_bl)) wdss_nil)
    (wdss_cons (wds_ifZ (wdt_w (wdw_or (wdt_not (wdt_val (wd_fn (ok_l_refused M) (hr.mono (by decide)) M.m_l_refused M.k_l_refused M.b_l_refused (wda_cons wd_int (wda_cons (wd_var 2) (wda_cons (wd_var 5) (wda_cons wd_str wda_nil))))))) (wdw_or1 (wdt_not (wdt_val (wd_fn (ok_l_refused M) (hr.mono (by decide)) M.m_l_refused M.k_l_refused M.b_l_refused (wda_cons wd_int (wda_cons (wd_var 2) (wda_cons (wd_var 3) (wda_cons (wd_fn (ok_l_bad_name M) (hr.mono (by decide)) M.m_l_bad_name M.k_l_bad_name M.b_l_bad_name (wda_cons (wd_var 1) wda_nil)) wda_nil)))))))))) (wdss_one (wds_ret wd_bl)) wdss_nil)
    (wdss_one (wds_forI g (wid_seq (wd_of_pl (wl_lst (wda_cons (wd_make0 M.mk_Empty M.q_Empty M.g_Empty) (wda_cons (wd_makeP (we_makeD (lends_plain _) M.mk_Mirror (ok_Mirror___init__ M) (hr.mono (by decide)) M.b_Mirror___init__ M.n_Mirror M.q_Mirror M.g_Mirror (wda_cons (wd_var 2) wda_nil) rfl)) (wda_cons (wd_makeP (we_makeD (lends_plain _) M.mk_Half (ok_Half___init__ M) (hr.mono (by decide)) M.b_Half___init__ M.n_Half M.q_Half M.g_Half (wda_cons (wd_var 2) (wda_cons (wd_var 3) wda_nil)) rfl)) (wda_cons (wd_makeP (we_makeD (lends_plain _) M.mk_Filter (ok_Filter___init__ M) (hr.mono (by decide)) M.b_Filter___init__ M.n_Filter M.q_Filter M.g_Filter (wda_cons (wd_var 3) wda_nil) rfl)) (wda_cons (wd_make0 M.mk_Wall M.q_Wall M.g_Wall) (wda_cons (wd_makeP (we_makeD (lends_plain _) M.mk_Fibre (ok_Fibre___init__ M) (hr.mono (by decide)) M.b_Fibre___init__ M.n_Fibre M.q_Fibre M.g_Fibre (wda_cons wd_str wda_nil) rfl)) wda_nil))))))))) (wgd_name 6 g.nd) (wdss_one (wds_ifZ (wdt_not (wdt_val (wd_fn (ok_l_turned M) (hr.mono (by decide)) M.m_l_turned M.k_l_turned M.b_l_turned (wda_cons (wd_var 6) wda_nil)))) (wdss_one (wds_ret wd_bl)) wdss_nil))))))))))))
    (wdss_one (wds_ret wd_bl)))
end
theorem all_mk {P : Program} {w : World} {K : PySem.W.Frag} {h : Heap} {mg : Str → Option Value} {fa : Addr} (X : K.In h) (G : h.Ns mainGlobals mg) (hfa : mg "law" = some (.ref fa))
    {C_BeamError : Addr}
    {C_NoFraction : Addr}
    {C_NoCell : Addr}
    {C_NoTable : Addr}
    {C_NoPlace : Addr}
    {C_Empty : Addr}
    {C_Mirror : Addr}
    {C_Half : Addr}
    {C_Filter : Addr}
    {C_Wall : Addr}
    {C_Fibre : Addr}
    {f_l_low : Addr} {od_l_low an_l_low : Option Addr} {sl_l_low : Array (Option Value)} {oc_l_low kV_l_low dc_l_low pm_l_low cd_l_low ct_l_low : Value}
    {f_l_share : Addr} {od_l_share an_l_share : Option Addr} {sl_l_share : Array (Option Value)} {oc_l_share kV_l_share dc_l_share pm_l_share cd_l_share ct_l_share : Value}
    {f_l_bad_slant : Addr} {od_l_bad_slant an_l_bad_slant : Option Addr} {sl_l_bad_slant : Array (Option Value)} {oc_l_bad_slant kV_l_bad_slant dc_l_bad_slant pm_l_bad_slant cd_l_bad_slant ct_l_bad_slant : Value}
    {f_l_bad_share : Addr} {od_l_bad_share an_l_bad_share : Option Addr} {sl_l_bad_share : Array (Option Value)} {oc_l_bad_share kV_l_bad_share dc_l_bad_share pm_l_bad_share cd_l_bad_share ct_l_bad_share : Value}
    {f_check_slant : Addr} {od_check_slant an_check_slant : Option Addr} {sl_check_slant : Array (Option Value)} {oc_check_slant kV_check_slant dc_check_slant pm_check_slant cd_check_slant ct_check_slant : Value}
    {f_Mirror___init__ : Addr} {od_Mirror___init__ an_Mirror___init__ : Option Addr} {sl_Mirror___init__ : Array (Option Value)} {oc_Mirror___init__ kV_Mirror___init__ dc_Mirror___init__ pm_Mirror___init__ cd_Mirror___init__ ct_Mirror___init__ : Value}
    {f_under : Addr} {od_under an_under : Option Addr} {sl_under : Array (Option Value)} {oc_under kV_under dc_under pm_under cd_under ct_under : Value}
    {f_check_share : Addr} {od_check_share an_check_share : Option Addr} {sl_check_share : Array (Option Value)} {oc_check_share kV_check_share dc_check_share pm_check_share cd_check_share ct_check_share : Value}
    {f_Half___init__ : Addr} {od_Half___init__ an_Half___init__ : Option Addr} {sl_Half___init__ : Array (Option Value)} {oc_Half___init__ kV_Half___init__ dc_Half___init__ pm_Half___init__ cd_Half___init__ ct_Half___init__ : Value}
    {f_Filter___init__ : Addr} {od_Filter___init__ an_Filter___init__ : Option Addr} {sl_Filter___init__ : Array (Option Value)} {oc_Filter___init__ kV_Filter___init__ dc_Filter___init__ pm_Filter___init__ cd_Filter___init__ ct_Filter___init__ : Value}
    {f_check_name : Addr} {od_check_name an_check_name : Option Addr} {sl_check_name : Array (Option Value)} {oc_check_name kV_check_name dc_check_name pm_check_name cd_check_name ct_check_name : Value}
    {f_Fibre___init__ : Addr} {od_Fibre___init__ an_Fibre___init__ : Option Addr} {sl_Fibre___init__ : Array (Option Value)} {oc_Fibre___init__ kV_Fibre___init__ dc_Fibre___init__ pm_Fibre___init__ cd_Fibre___init__ ct_Fibre___init__ : Value}
    {f_l_refused : Addr} {od_l_refused an_l_refused : Option Addr} {sl_l_refused : Array (Option Value)} {oc_l_refused kV_l_refused dc_l_refused pm_l_refused cd_l_refused ct_l_refused : Value}
    {f_l_bad_name : Addr} {od_l_bad_name an_l_bad_name : Option Addr} {sl_l_bad_name : Array (Option Value)} {oc_l_bad_name kV_l_bad_name dc_l_bad_name pm_l_bad_name cd_l_bad_name ct_l_bad_name : Value}
    {f_Cell_turned : Addr} {od_Cell_turned an_Cell_turned : Option Addr} {sl_Cell_turned : Array (Option Value)} {oc_Cell_turned kV_Cell_turned dc_Cell_turned pm_Cell_turned cd_Cell_turned ct_Cell_turned : Value}
    {f_other_slant : Addr} {od_other_slant an_other_slant : Option Addr} {sl_other_slant : Array (Option Value)} {oc_other_slant kV_other_slant dc_other_slant pm_other_slant cd_other_slant ct_other_slant : Value}
    {f_Mirror_turned : Addr} {od_Mirror_turned an_Mirror_turned : Option Addr} {sl_Mirror_turned : Array (Option Value)} {oc_Mirror_turned kV_Mirror_turned dc_Mirror_turned pm_Mirror_turned cd_Mirror_turned ct_Mirror_turned : Value}
    {f_Half_turned : Addr} {od_Half_turned an_Half_turned : Option Addr} {sl_Half_turned : Array (Option Value)} {oc_Half_turned kV_Half_turned dc_Half_turned pm_Half_turned cd_Half_turned ct_Half_turned : Value}
    {f_Empty_row : Addr} {od_Empty_row an_Empty_row : Option Addr} {sl_Empty_row : Array (Option Value)} {oc_Empty_row kV_Empty_row dc_Empty_row pm_Empty_row cd_Empty_row ct_Empty_row : Value}
    {f_Mirror_row : Addr} {od_Mirror_row an_Mirror_row : Option Addr} {sl_Mirror_row : Array (Option Value)} {oc_Mirror_row kV_Mirror_row dc_Mirror_row pm_Mirror_row cd_Mirror_row ct_Mirror_row : Value}
    {f_Half_row : Addr} {od_Half_row an_Half_row : Option Addr} {sl_Half_row : Array (Option Value)} {oc_Half_row kV_Half_row dc_Half_row pm_Half_row cd_Half_row ct_Half_row : Value}
    {f_Filter_row : Addr} {od_Filter_row an_Filter_row : Option Addr} {sl_Filter_row : Array (Option Value)} {oc_Filter_row kV_Filter_row dc_Filter_row pm_Filter_row cd_Filter_row ct_Filter_row : Value}
    {f_Wall_row : Addr} {od_Wall_row an_Wall_row : Option Addr} {sl_Wall_row : Array (Option Value)} {oc_Wall_row kV_Wall_row dc_Wall_row pm_Wall_row cd_Wall_row ct_Wall_row : Value}
    {f_Fibre_row : Addr} {od_Fibre_row an_Fibre_row : Option Addr} {sl_Fibre_row : Array (Option Value)} {oc_Fibre_row kV_Fibre_row dc_Fibre_row pm_Fibre_row cd_Fibre_row ct_Fibre_row : Value}
    {f_Cell_swallows : Addr} {od_Cell_swallows an_Cell_swallows : Option Addr} {sl_Cell_swallows : Array (Option Value)} {oc_Cell_swallows kV_Cell_swallows dc_Cell_swallows pm_Cell_swallows cd_Cell_swallows ct_Cell_swallows : Value}
    {f_greatest_divisor : Addr} {od_greatest_divisor an_greatest_divisor : Option Addr} {sl_greatest_divisor : Array (Option Value)} {oc_greatest_divisor kV_greatest_divisor dc_greatest_divisor pm_greatest_divisor cd_greatest_divisor ct_greatest_divisor : Value}
    {f_fraction : Addr} {od_fraction an_fraction : Option Addr} {sl_fraction : Array (Option Value)} {oc_fraction kV_fraction dc_fraction pm_fraction cd_fraction ct_fraction : Value}
    {f_minus : Addr} {od_minus an_minus : Option Addr} {sl_minus : Array (Option Value)} {oc_minus kV_minus dc_minus pm_minus cd_minus ct_minus : Value}
    {f_Filter_swallows : Addr} {od_Filter_swallows an_Filter_swallows : Option Addr} {sl_Filter_swallows : Array (Option Value)} {oc_Filter_swallows kV_Filter_swallows dc_Filter_swallows pm_Filter_swallows cd_Filter_swallows ct_Filter_swallows : Value}
    {f_Wall_swallows : Addr} {od_Wall_swallows an_Wall_swallows : Option Addr} {sl_Wall_swallows : Array (Option Value)} {oc_Wall_swallows kV_Wall_swallows dc_Wall_swallows pm_Wall_swallows cd_Wall_swallows ct_Wall_swallows : Value}
    {f_Cell_leads : Addr} {od_Cell_leads an_Cell_leads : Option Addr} {sl_Cell_leads : Array (Option Value)} {oc_Cell_leads kV_Cell_leads dc_Cell_leads pm_Cell_leads cd_Cell_leads ct_Cell_leads : Value}
    {f_Mirror_leads : Addr} {od_Mirror_leads an_Mirror_leads : Option Addr} {sl_Mirror_leads : Array (Option Value)} {oc_Mirror_leads kV_Mirror_leads dc_Mirror_leads pm_Mirror_leads cd_Mirror_leads ct_Mirror_leads : Value}
    {f_Half_leads : Addr} {od_Half_leads an_Half_leads : Option Addr} {sl_Half_leads : Array (Option Value)} {oc_Half_leads kV_Half_leads dc_Half_leads pm_Half_leads cd_Half_leads ct_Half_leads : Value}
    {f_Filter_leads : Addr} {od_Filter_leads an_Filter_leads : Option Addr} {sl_Filter_leads : Array (Option Value)} {oc_Filter_leads kV_Filter_leads dc_Filter_leads pm_Filter_leads cd_Filter_leads ct_Filter_leads : Value}
    {f_Wall_leads : Addr} {od_Wall_leads an_Wall_leads : Option Addr} {sl_Wall_leads : Array (Option Value)} {oc_Wall_leads kV_Wall_leads dc_Wall_leads pm_Wall_leads cd_Wall_leads ct_Wall_leads : Value}
    {f_l_turned : Addr} {od_l_turned an_l_turned : Option Addr} {sl_l_turned : Array (Option Value)} {oc_l_turned kV_l_turned dc_l_turned pm_l_turned cd_l_turned ct_l_turned : Value}
    {f_law : Addr} {od_law an_law : Option Addr} {sl_law : Array (Option Value)} {oc_law kV_law dc_law pm_law cd_law ct_law : Value}
    {t_LETTERS_1 : Tok}
    {t_LONGEST_NAME_2 : Tok}
    {t_ONE_3 : Tok}
    {t_ONE_4 : Tok}
    {A_ONE_5 : Addr} {od_A_ONE_5 : Option Addr} {nn_A_ONE_5 : Nat} {sl_A_ONE_5 : Array (Option Value)}
    {t_ZERO_6 : Tok}
    {t_ZERO_7 : Tok}
    {A_ZERO_8 : Addr} {od_A_ZERO_8 : Option Addr} {nn_A_ZERO_8 : Nat} {sl_A_ZERO_8 : Array (Option Value)}
    (e_BeamError : PySem.W.nsIn K mainGlobals "BeamError" = some (some (.ref C_BeamError)))
    (e_NoFraction : PySem.W.nsIn K mainGlobals "NoFraction" = some (some (.ref C_NoFraction)))
    (e_NoCell : PySem.W.nsIn K mainGlobals "NoCell" = some (some (.ref C_NoCell)))
    (e_NoTable : PySem.W.nsIn K mainGlobals "NoTable" = some (some (.ref C_NoTable)))
    (e_NoPlace : PySem.W.nsIn K mainGlobals "NoPlace" = some (some (.ref C_NoPlace)))
    (e_Empty : PySem.W.nsIn K mainGlobals "Empty" = some (some (.ref C_Empty)))
    (e_Mirror : PySem.W.nsIn K mainGlobals "Mirror" = some (some (.ref C_Mirror)))
    (e_Half : PySem.W.nsIn K mainGlobals "Half" = some (some (.ref C_Half)))
    (e_Filter : PySem.W.nsIn K mainGlobals "Filter" = some (some (.ref C_Filter)))
    (e_Wall : PySem.W.nsIn K mainGlobals "Wall" = some (some (.ref C_Wall)))
    (e_Fibre : PySem.W.nsIn K mainGlobals "Fibre" = some (some (.ref C_Fibre)))
    (a_l_low : PySem.W.nsIn K mainGlobals "_law_low" = some (some (.ref f_l_low)))
    (l_l_low : K.lookup f_l_low = some ⟨oc_l_low, od_l_low, .func (PySem.W.fnOf "_law_low" "_law_low" (defArgs s_l_low) (defBody s_l_low) (defScope s_l_low) .none kV_l_low dc_l_low pm_l_low an_l_low cd_l_low ct_l_low), sl_l_low⟩) (c_l_low : PySem.W.codeIn K cd_l_low "_law_low" = true) (k_l_low : PySem.W.keepIn K (.ref f_l_low) = true)
    (a_l_share : PySem.W.nsIn K mainGlobals "_law_share" = some (some (.ref f_l_share)))
    (l_l_share : K.lookup f_l_share = some ⟨oc_l_share, od_l_share, .func (PySem.W.fnOf "_law_share" "_law_share" (defArgs s_l_share) (defBody s_l_share) (defScope s_l_share) .none kV_l_share dc_l_share pm_l_share an_l_share cd_l_share ct_l_share), sl_l_share⟩) (c_l_share : PySem.W.codeIn K cd_l_share "_law_share" = true) (k_l_share : PySem.W.keepIn K (.ref f_l_share) = true)
    (a_l_bad_slant : PySem.W.nsIn K mainGlobals "_law_bad_slant" = some (some (.ref f_l_bad_slant)))
    (l_l_bad_slant : K.lookup f_l_bad_slant = some ⟨oc_l_bad_slant, od_l_bad_slant, .func (PySem.W.fnOf "_law_bad_slant" "_law_bad_slant" (defArgs s_l_bad_slant) (defBody s_l_bad_slant) (defScope s_l_bad_slant) .none kV_l_bad_slant dc_l_bad_slant pm_l_bad_slant an_l_bad_slant cd_l_bad_slant ct_l_bad_slant), sl_l_bad_slant⟩) (c_l_bad_slant : PySem.W.codeIn K cd_l_bad_slant "_law_bad_slant" = true) (k_l_bad_slant : PySem.W.keepIn K (.ref f_l_bad_slant) = true)
    (a_l_bad_share : PySem.W.nsIn K mainGlobals "_law_bad_share" = some (some (.ref f_l_bad_share)))
    (l_l_bad_share : K.lookup f_l_bad_share = some ⟨oc_l_bad_share, od_l_bad_share, .func (PySem.W.fnOf "_law_bad_share" "_law_bad_share" (defArgs s_l_bad_share) (defBody s_l_bad_share) (defScope s_l_bad_share) .none kV_l_bad_share dc_l_bad_share pm_l_bad_share an_l_bad_share cd_l_bad_share ct_l_bad_share), sl_l_bad_share⟩) (c_l_bad_share : PySem.W.codeIn K cd_l_bad_share "_law_bad_share" = true) (k_l_bad_share : PySem.W.keepIn K (.ref f_l_bad_share) = true)
    (a_check_slant : PySem.W.nsIn K mainGlobals "check_slant" = some (some (.ref f_check_slant)))
    (l_check_slant : K.lookup f_check_slant = some ⟨oc_check_slant, od_check_slant, .func (PySem.W.fnOf "check_slant" "check_slant" (defArgs s_check_slant) (defBody s_check_slant) (defScope s_check_slant) .none kV_check_slant dc_check_slant pm_check_slant an_check_slant cd_check_slant ct_check_slant), sl_check_slant⟩) (c_check_slant : PySem.W.codeIn K cd_check_slant "check_slant" = true) (k_check_slant : PySem.W.keepIn K (.ref f_check_slant) = true)
    (a_Mirror___init__ : PySem.W.findIn K (.ref C_Mirror) "__init__" = some (some (.ref f_Mirror___init__)))
    (l_Mirror___init__ : K.lookup f_Mirror___init__ = some ⟨oc_Mirror___init__, od_Mirror___init__, .func (PySem.W.fnOf "__init__" "Mirror.__init__" (defArgs s_Mirror___init__) (defBody s_Mirror___init__) (defScope s_Mirror___init__) .none kV_Mirror___init__ dc_Mirror___init__ pm_Mirror___init__ an_Mirror___init__ cd_Mirror___init__ ct_Mirror___init__), sl_Mirror___init__⟩) (c_Mirror___init__ : PySem.W.codeIn K cd_Mirror___init__ "Mirror.__init__" = true) (k_Mirror___init__ : PySem.W.keepIn K (.ref f_Mirror___init__) = true)
    (a_under : PySem.W.nsIn K mainGlobals "under" = some (some (.ref f_under)))
    (l_under : K.lookup f_under = some ⟨oc_under, od_under, .func (PySem.W.fnOf "under" "under" (defArgs s_under) (defBody s_under) (defScope s_under) .none kV_under dc_under pm_under an_under cd_under ct_under), sl_under⟩) (c_under : PySem.W.codeIn K cd_under "under" = true) (k_under : PySem.W.keepIn K (.ref f_under) = true)
    (a_check_share : PySem.W.nsIn K mainGlobals "check_share" = some (some (.ref f_check_share)))
    (l_check_share : K.lookup f_check_share = some ⟨oc_check_share, od_check_share, .func (PySem.W.fnOf "check_share" "check_share" (defArgs s_check_share) (defBody s_check_share) (defScope s_check_share) .none kV_check_share dc_check_share pm_check_share an_check_share cd_check_share ct_check_share), sl_check_share⟩) (c_check_share : PySem.W.codeIn K cd_check_share "check_share" = true) (k_check_share : PySem.W.keepIn K (.ref f_check_share) = true)
    (a_Half___init__ : PySem.W.findIn K (.ref C_Half) "__init__" = some (some (.ref f_Half___init__)))
    (l_Half___init__ : K.lookup f_Half___init__ = some ⟨oc_Half___init__, od_Half___init__, .func (PySem.W.fnOf "__init__" "Half.__init__" (defArgs s_Half___init__) (defBody s_Half___init__) (defScope s_Half___init__) .none kV_Half___init__ dc_Half___init__ pm_Half___init__ an_Half___init__ cd_Half___init__ ct_Half___init__), sl_Half___init__⟩) (c_Half___init__ : PySem.W.codeIn K cd_Half___init__ "Half.__init__" = true) (k_Half___init__ : PySem.W.keepIn K (.ref f_Half___init__) = true)
    (a_Filter___init__ : PySem.W.findIn K (.ref C_Filter) "__init__" = some (some (.ref f_Filter___init__)))
    (l_Filter___init__ : K.lookup f_Filter___init__ = some ⟨oc_Filter___init__, od_Filter___init__, .func (PySem.W.fnOf "__init__" "Filter.__init__" (defArgs s_Filter___init__) (defBody s_Filter___init__) (defScope s_Filter___init__) .none kV_Filter___init__ dc_Filter___init__ pm_Filter___init__ an_Filter___init__ cd_Filter___init__ ct_Filter___init__), sl_Filter___init__⟩) (c_Filter___init__ : PySem.W.codeIn K cd_Filter___init__ "Filter.__init__" = true) (k_Filter___init__ : PySem.W.keepIn K (.ref f_Filter___init__) = true)
    (a_check_name : PySem.W.nsIn K mainGlobals "check_name" = some (some (.ref f_check_name)))
    (l_check_name : K.lookup f_check_name = some ⟨oc_check_name, od_check_name, .func (PySem.W.fnOf "check_name" "check_name" (defArgs s_check_name) (defBody s_check_name) (defScope s_check_name) .none kV_check_name dc_check_name pm_check_name an_check_name cd_check_name ct_check_name), sl_check_name⟩) (c_check_name : PySem.W.codeIn K cd_check_name "check_name" = true) (k_check_name : PySem.W.keepIn K (.ref f_check_name) = true)
    (a_Fibre___init__ : PySem.W.findIn K (.ref C_Fibre) "__init__" = some (some (.ref f_Fibre___init__)))
    (l_Fibre___init__ : K.lookup f_Fibre___init__ = some ⟨oc_Fibre___init__, od_Fibre___init__, .func (PySem.W.fnOf "__init__" "Fibre.__init__" (defArgs s_Fibre___init__) (defBody s_Fibre___init__) (defScope s_Fibre___init__) .none kV_Fibre___init__ dc_Fibre___init__ pm_Fibre___init__ an_Fibre___init__ cd_Fibre___init__ ct_Fibre___init__), sl_Fibre___init__⟩) (c_Fibre___init__ : PySem.W.codeIn K cd_Fibre___init__ "Fibre.__init__" = true) (k_Fibre___init__ : PySem.W.keepIn K (.ref f_Fibre___init__) = true)
    (a_l_refused : PySem.W.nsIn K mainGlobals "_law_refused" = some (some (.ref f_l_refused)))
    (l_l_refused : K.lookup f_l_refused = some ⟨oc_l_refused, od_l_refused, .func (PySem.W.fnOf "_law_refused" "_law_refused" (defArgs s_l_refused) (defBody s_l_refused) (defScope s_l_refused) .none kV_l_refused dc_l_refused pm_l_refused an_l_refused cd_l_refused ct_l_refused), sl_l_refused⟩) (c_l_refused : PySem.W.codeIn K cd_l_refused "_law_refused" = true) (k_l_refused : PySem.W.keepIn K (.ref f_l_refused) = true)
    (a_l_bad_name : PySem.W.nsIn K mainGlobals "_law_bad_name" = some (some (.ref f_l_bad_name)))
    (l_l_bad_name : K.lookup f_l_bad_name = some ⟨oc_l_bad_name, od_l_bad_name, .func (PySem.W.fnOf "_law_bad_name" "_law_bad_name" (defArgs s_l_bad_name) (defBody s_l_bad_name) (defScope s_l_bad_name) .none kV_l_bad_name dc_l_bad_name pm_l_bad_name an_l_bad_name cd_l_bad_name ct_l_bad_name), sl_l_bad_name⟩) (c_l_bad_name : PySem.W.codeIn K cd_l_bad_name "_law_bad_name" = true) (k_l_bad_name : PySem.W.keepIn K (.ref f_l_bad_name) = true)
    (a_Cell_turned : PySem.W.findIn K (.ref C_Empty) "turned" = some (some (.ref f_Cell_turned)))
    (l_Cell_turned : K.lookup f_Cell_turned = some ⟨oc_Cell_turned, od_Cell_turned, .func (PySem.W.fnOf "turned" "Cell.turned" (defArgs s_Cell_turned) (defBody s_Cell_turned) (defScope s_Cell_turned) .none kV_Cell_turned dc_Cell_turned pm_Cell_turned an_Cell_turned cd_Cell_turned ct_Cell_turned), sl_Cell_turned⟩) (c_Cell_turned : PySem.W.codeIn K cd_Cell_turned "Cell.turned" = true) (k_Cell_turned : PySem.W.keepIn K (.ref f_Cell_turned) = true)
    (a_other_slant : PySem.W.nsIn K mainGlobals "other_slant" = some (some (.ref f_other_slant)))
    (l_other_slant : K.lookup f_other_slant = some ⟨oc_other_slant, od_other_slant, .func (PySem.W.fnOf "other_slant" "other_slant" (defArgs s_other_slant) (defBody s_other_slant) (defScope s_other_slant) .none kV_other_slant dc_other_slant pm_other_slant an_other_slant cd_other_slant ct_other_slant), sl_other_slant⟩) (c_other_slant : PySem.W.codeIn K cd_other_slant "other_slant" = true) (k_other_slant : PySem.W.keepIn K (.ref f_other_slant) = true)
    (a_Mirror_turned : PySem.W.findIn K (.ref C_Mirror) "turned" = some (some (.ref f_Mirror_turned)))
    (l_Mirror_turned : K.lookup f_Mirror_turned = some ⟨oc_Mirror_turned, od_Mirror_turned, .func (PySem.W.fnOf "turned" "Mirror.turned" (defArgs s_Mirror_turned) (defBody s_Mirror_turned) (defScope s_Mirror_turned) .none kV_Mirror_turned dc_Mirror_turned pm_Mirror_turned an_Mirror_turned cd_Mirror_turned ct_Mirror_turned), sl_Mirror_turned⟩) (c_Mirror_turned : PySem.W.codeIn K cd_Mirror_turned "Mirror.turned" = true) (k_Mirror_turned : PySem.W.keepIn K (.ref f_Mirror_turned) = true)
    (a_Half_turned : PySem.W.findIn K (.ref C_Half) "turned" = some (some (.ref f_Half_turned)))
    (l_Half_turned : K.lookup f_Half_turned = some ⟨oc_Half_turned, od_Half_turned, .func (PySem.W.fnOf "turned" "Half.turned" (defArgs s_Half_turned) (defBody s_Half_turned) (defScope s_Half_turned) .none kV_Half_turned dc_Half_turned pm_Half_turned an_Half_turned cd_Half_turned ct_Half_turned), sl_Half_turned⟩) (c_Half_turned : PySem.W.codeIn K cd_Half_turned "Half.turned" = true) (k_Half_turned : PySem.W.keepIn K (.ref f_Half_turned) = true)
    (a_Empty_row : PySem.W.findIn K (.ref C_Empty) "row" = some (some (.ref f_Empty_row)))
    (l_Empty_row : K.lookup f_Empty_row = some ⟨oc_Empty_row, od_Empty_row, .func (PySem.W.fnOf "row" "Empty.row" (defArgs s_Empty_row) (defBody s_Empty_row) (defScope s_Empty_row) .none kV_Empty_row dc_Empty_row pm_Empty_row an_Empty_row cd_Empty_row ct_Empty_row), sl_Empty_row⟩) (c_Empty_row : PySem.W.codeIn K cd_Empty_row "Empty.row" = true) (k_Empty_row : PySem.W.keepIn K (.ref f_Empty_row) = true)
    (a_Mirror_row : PySem.W.findIn K (.ref C_Mirror) "row" = some (some (.ref f_Mirror_row)))
    (l_Mirror_row : K.lookup f_Mirror_row = some ⟨oc_Mirror_row, od_Mirror_row, .func (PySem.W.fnOf "row" "Mirror.row" (defArgs s_Mirror_row) (defBody s_Mirror_row) (defScope s_Mirror_row) .none kV_Mirror_row dc_Mirror_row pm_Mirror_row an_Mirror_row cd_Mirror_row ct_Mirror_row), sl_Mirror_row⟩) (c_Mirror_row : PySem.W.codeIn K cd_Mirror_row "Mirror.row" = true) (k_Mirror_row : PySem.W.keepIn K (.ref f_Mirror_row) = true)
    (a_Half_row : PySem.W.findIn K (.ref C_Half) "row" = some (some (.ref f_Half_row)))
    (l_Half_row : K.lookup f_Half_row = some ⟨oc_Half_row, od_Half_row, .func (PySem.W.fnOf "row" "Half.row" (defArgs s_Half_row) (defBody s_Half_row) (defScope s_Half_row) .none kV_Half_row dc_Half_row pm_Half_row an_Half_row cd_Half_row ct_Half_row), sl_Half_row⟩) (c_Half_row : PySem.W.codeIn K cd_Half_row "Half.row" = true) (k_Half_row : PySem.W.keepIn K (.ref f_Half_row) = true)
    (a_Filter_row : PySem.W.findIn K (.ref C_Filter) "row" = some (some (.ref f_Filter_row)))
    (l_Filter_row : K.lookup f_Filter_row = some ⟨oc_Filter_row, od_Filter_row, .func (PySem.W.fnOf "row" "Filter.row" (defArgs s_Filter_row) (defBody s_Filter_row) (defScope s_Filter_row) .none kV_Filter_row dc_Filter_row pm_Filter_row an_Filter_row cd_Filter_row ct_Filter_row), sl_Filter_row⟩) (c_Filter_row : PySem.W.codeIn K cd_Filter_row "Filter.row" = true) (k_Filter_row : PySem.W.keepIn K (.ref f_Filter_row) = true)
    (a_Wall_row : PySem.W.findIn K (.ref C_Wall) "row" = some (some (.ref f_Wall_row)))
    (l_Wall_row : K.lookup f_Wall_row = some ⟨oc_Wall_row, od_Wall_row, .func (PySem.W.fnOf "row" "Wall.row" (defArgs s_Wall_row) (defBody s_Wall_row) (defScope s_Wall_row) .none kV_Wall_row dc_Wall_row pm_Wall_row an_Wall_row cd_Wall_row ct_Wall_row), sl_Wall_row⟩) (c_Wall_row : PySem.W.codeIn K cd_Wall_row "Wall.row" = true) (k_Wall_row : PySem.W.keepIn K (.ref f_Wall_row) = true)
    (a_Fibre_row : PySem.W.findIn K (.ref C_Fibre) "row" = some (some (.ref f_Fibre_row)))
    (l_Fibre_row : K.lookup f_Fibre_row = some ⟨oc_Fibre_row, od_Fibre_row, .func (PySem.W.fnOf "row" "Fibre.row" (defArgs s_Fibre_row) (defBody s_Fibre_row) (defScope s_Fibre_row) .none kV_Fibre_row dc_Fibre_row pm_Fibre_row an_Fibre_row cd_Fibre_row ct_Fibre_row), sl_Fibre_row⟩) (c_Fibre_row : PySem.W.codeIn K cd_Fibre_row "Fibre.row" = true) (k_Fibre_row : PySem.W.keepIn K (.ref f_Fibre_row) = true)
    (a_Cell_swallows : PySem.W.findIn K (.ref C_Empty) "swallows" = some (some (.ref f_Cell_swallows)))
    (l_Cell_swallows : K.lookup f_Cell_swallows = some ⟨oc_Cell_swallows, od_Cell_swallows, .func (PySem.W.fnOf "swallows" "Cell.swallows" (defArgs s_Cell_swallows) (defBody s_Cell_swallows) (defScope s_Cell_swallows) .none kV_Cell_swallows dc_Cell_swallows pm_Cell_swallows an_Cell_swallows cd_Cell_swallows ct_Cell_swallows), sl_Cell_swallows⟩) (c_Cell_swallows : PySem.W.codeIn K cd_Cell_swallows "Cell.swallows" = true) (k_Cell_swallows : PySem.W.keepIn K (.ref f_Cell_swallows) = true)
    (a_greatest_divisor : PySem.W.nsIn K mainGlobals "greatest_divisor" = some (some (.ref f_greatest_divisor)))
    (l_greatest_divisor : K.lookup f_greatest_divisor = some ⟨oc_greatest_divisor, od_greatest_divisor, .func (PySem.W.fnOf "greatest_divisor" "greatest_divisor" (defArgs s_greatest_divisor) (defBody s_greatest_divisor) (defScope s_greatest_divisor) .none kV_greatest_divisor dc_greatest_divisor pm_greatest_divisor an_greatest_divisor cd_greatest_divisor ct_greatest_divisor), sl_greatest_divisor⟩) (c_greatest_divisor : PySem.W.codeIn K cd_greatest_divisor "greatest_divisor" = true) (k_greatest_divisor : PySem.W.keepIn K (.ref f_greatest_divisor) = true)
    (a_fraction : PySem.W.nsIn K mainGlobals "fraction" = some (some (.ref f_fraction)))
    (l_fraction : K.lookup f_fraction = some ⟨oc_fraction, od_fraction, .func (PySem.W.fnOf "fraction" "fraction" (defArgs s_fraction) (defBody s_fraction) (defScope s_fraction) .none kV_fraction dc_fraction pm_fraction an_fraction cd_fraction ct_fraction), sl_fraction⟩) (c_fraction : PySem.W.codeIn K cd_fraction "fraction" = true) (k_fraction : PySem.W.keepIn K (.ref f_fraction) = true)
    (a_minus : PySem.W.nsIn K mainGlobals "minus" = some (some (.ref f_minus)))
    (l_minus : K.lookup f_minus = some ⟨oc_minus, od_minus, .func (PySem.W.fnOf "minus" "minus" (defArgs s_minus) (defBody s_minus) (defScope s_minus) .none kV_minus dc_minus pm_minus an_minus cd_minus ct_minus), sl_minus⟩) (c_minus : PySem.W.codeIn K cd_minus "minus" = true) (k_minus : PySem.W.keepIn K (.ref f_minus) = true)
    (a_Filter_swallows : PySem.W.findIn K (.ref C_Filter) "swallows" = some (some (.ref f_Filter_swallows)))
    (l_Filter_swallows : K.lookup f_Filter_swallows = some ⟨oc_Filter_swallows, od_Filter_swallows, .func (PySem.W.fnOf "swallows" "Filter.swallows" (defArgs s_Filter_swallows) (defBody s_Filter_swallows) (defScope s_Filter_swallows) .none kV_Filter_swallows dc_Filter_swallows pm_Filter_swallows an_Filter_swallows cd_Filter_swallows ct_Filter_swallows), sl_Filter_swallows⟩) (c_Filter_swallows : PySem.W.codeIn K cd_Filter_swallows "Filter.swallows" = true) (k_Filter_swallows : PySem.W.keepIn K (.ref f_Filter_swallows) = true)
    (a_Wall_swallows : PySem.W.findIn K (.ref C_Wall) "swallows" = some (some (.ref f_Wall_swallows)))
    (l_Wall_swallows : K.lookup f_Wall_swallows = some ⟨oc_Wall_swallows, od_Wall_swallows, .func (PySem.W.fnOf "swallows" "Wall.swallows" (defArgs s_Wall_swallows) (defBody s_Wall_swallows) (defScope s_Wall_swallows) .none kV_Wall_swallows dc_Wall_swallows pm_Wall_swallows an_Wall_swallows cd_Wall_swallows ct_Wall_swallows), sl_Wall_swallows⟩) (c_Wall_swallows : PySem.W.codeIn K cd_Wall_swallows "Wall.swallows" = true) (k_Wall_swallows : PySem.W.keepIn K (.ref f_Wall_swallows) = true)
    (a_Cell_leads : PySem.W.findIn K (.ref C_Empty) "leads" = some (some (.ref f_Cell_leads)))
    (l_Cell_leads : K.lookup f_Cell_leads = some ⟨oc_Cell_leads, od_Cell_leads, .func (PySem.W.fnOf "leads" "Cell.leads" (defArgs s_Cell_leads) (defBody s_Cell_leads) (defScope s_Cell_leads) .none kV_Cell_leads dc_Cell_leads pm_Cell_leads an_Cell_leads cd_Cell_leads ct_Cell_leads), sl_Cell_leads⟩) (c_Cell_leads : PySem.W.codeIn K cd_Cell_leads "Cell.leads" = true) (k_Cell_leads : PySem.W.keepIn K (.ref f_Cell_leads) = true)
    (a_Mirror_leads : PySem.W.findIn K (.ref C_Mirror) "leads" = some (some (.ref f_Mirror_leads)))
    (l_Mirror_leads : K.lookup f_Mirror_leads = some ⟨oc_Mirror_leads, od_Mirror_leads, .func (PySem.W.fnOf "leads" "Mirror.leads" (defArgs s_Mirror_leads) (defBody s_Mirror_leads) (defScope s_Mirror_leads) .none kV_Mirror_leads dc_Mirror_leads pm_Mirror_leads an_Mirror_leads cd_Mirror_leads ct_Mirror_leads), sl_Mirror_leads⟩) (c_Mirror_leads : PySem.W.codeIn K cd_Mirror_leads "Mirror.leads" = true) (k_Mirror_leads : PySem.W.keepIn K (.ref f_Mirror_leads) = true)
    (a_Half_leads : PySem.W.findIn K (.ref C_Half) "leads" = some (some (.ref f_Half_leads)))
    (l_Half_leads : K.lookup f_Half_leads = some ⟨oc_Half_leads, od_Half_leads, .func (PySem.W.fnOf "leads" "Half.leads" (defArgs s_Half_leads) (defBody s_Half_leads) (defScope s_Half_leads) .none kV_Half_leads dc_Half_leads pm_Half_leads an_Half_leads cd_Half_leads ct_Half_leads), sl_Half_leads⟩) (c_Half_leads : PySem.W.codeIn K cd_Half_leads "Half.leads" = true) (k_Half_leads : PySem.W.keepIn K (.ref f_Half_leads) = true)
    (a_Filter_leads : PySem.W.findIn K (.ref C_Filter) "leads" = some (some (.ref f_Filter_leads)))
    (l_Filter_leads : K.lookup f_Filter_leads = some ⟨oc_Filter_leads, od_Filter_leads, .func (PySem.W.fnOf "leads" "Filter.leads" (defArgs s_Filter_leads) (defBody s_Filter_leads) (defScope s_Filter_leads) .none kV_Filter_leads dc_Filter_leads pm_Filter_leads an_Filter_leads cd_Filter_leads ct_Filter_leads), sl_Filter_leads⟩) (c_Filter_leads : PySem.W.codeIn K cd_Filter_leads "Filter.leads" = true) (k_Filter_leads : PySem.W.keepIn K (.ref f_Filter_leads) = true)
    (a_Wall_leads : PySem.W.findIn K (.ref C_Wall) "leads" = some (some (.ref f_Wall_leads)))
    (l_Wall_leads : K.lookup f_Wall_leads = some ⟨oc_Wall_leads, od_Wall_leads, .func (PySem.W.fnOf "leads" "Wall.leads" (defArgs s_Wall_leads) (defBody s_Wall_leads) (defScope s_Wall_leads) .none kV_Wall_leads dc_Wall_leads pm_Wall_leads an_Wall_leads cd_Wall_leads ct_Wall_leads), sl_Wall_leads⟩) (c_Wall_leads : PySem.W.codeIn K cd_Wall_leads "Wall.leads" = true) (k_Wall_leads : PySem.W.keepIn K (.ref f_Wall_leads) = true)
    (a_l_turned : PySem.W.nsIn K mainGlobals "_law_turned" = some (some (.ref f_l_turned)))
    (l_l_turned : K.lookup f_l_turned = some ⟨oc_l_turned, od_l_turned, .func (PySem.W.fnOf "_law_turned" "_law_turned" (defArgs s_l_turned) (defBody s_l_turned) (defScope s_l_turned) .none kV_l_turned dc_l_turned pm_l_turned an_l_turned cd_l_turned ct_l_turned), sl_l_turned⟩) (c_l_turned : PySem.W.codeIn K cd_l_turned "_law_turned" = true) (k_l_turned : PySem.W.keepIn K (.ref f_l_turned) = true)
    (a_law : PySem.W.nsIn K mainGlobals "law" = some (some (.ref f_law)))
    (l_law : K.lookup f_law = some ⟨oc_law, od_law, .func (PySem.W.fnOf "law" "law" (defArgs s_law) (defBody s_law) (defScope s_law) .none kV_law dc_law pm_law an_law cd_law ct_law), sl_law⟩) (c_law : PySem.W.codeIn K cd_law "law" = true) (k_law : PySem.W.keepIn K (.ref f_law) = true)
    (z_ValueError : PySem.W.nsIn K mainGlobals "ValueError" = some none)
    (z_abs : PySem.W.nsIn K mainGlobals "abs" = some none)
    (z_all : PySem.W.nsIn K mainGlobals "all" = some none)
    (z_isinstance : PySem.W.nsIn K mainGlobals "isinstance" = some none)
    (z_len : PySem.W.nsIn K mainGlobals "len" = some none)
    (z_range : PySem.W.nsIn K mainGlobals "range" = some none)
    (z_sorted : PySem.W.nsIn K mainGlobals "sorted" = some none)
    (gc_LETTERS : PySem.W.nsIn K mainGlobals "LETTERS" = some (some (.str "abcdefghijklmnopqrstuvwxyz" t_LETTERS_1)))
    (gc_LONGEST_NAME : PySem.W.nsIn K mainGlobals "LONGEST_NAME" = some (some (.int 8 t_LONGEST_NAME_2)))
    (gc_ONE : PySem.W.nsIn K mainGlobals "ONE" = some (some (.ref A_ONE_5)))
    (lA_ONE_5 : K.lookup A_ONE_5 = some ⟨.type "tuple", od_A_ONE_5, .seq [(.int 1 t_ONE_3), (.int 1 t_ONE_4)].toArray nn_A_ONE_5, sl_A_ONE_5⟩)
    (gc_ZERO : PySem.W.nsIn K mainGlobals "ZERO" = some (some (.ref A_ZERO_8)))
    (lA_ZERO_8 : K.lookup A_ZERO_8 = some ⟨.type "tuple", od_A_ZERO_8, .seq [(.int 0 t_ZERO_6), (.int 1 t_ZERO_7)].toArray nn_A_ZERO_8, sl_A_ZERO_8⟩)
    (pg_Empty : PySem.W.plainGet K C_Empty Str.empty = true)
    (hd_Empty : PySem.W.hasDictIn K C_Empty = true)
    (po_Empty : PySem.W.plainOver K C_Empty = true)
    (sa_Empty : PySem.W.findIn K (.ref C_Empty) "__setattr__" = some (some (.builtin "object.__setattr__")))
    (ic1_Empty : PySem.W.findIn K (.ref C_Empty) "__class__" = some (some (.builtin "object.__class__")))
    (ic4_Empty : PySem.W.mroIn K C_Empty (.type "object") = some true)
    (mm_Empty : PySem.W.makesIn K C_Empty = true)
    (kp_Empty : PySem.W.keepIn K (.ref C_Empty) = true)
    (in_Empty : PySem.W.findIn K (.ref C_Empty) "__init__" = some (some (.builtin "object.__init__")))
    (me_Empty_turned : PySem.W.findIn K (.ref C_Empty) "turned" = some (some (.ref f_Cell_turned)))
    (me_Empty_row : PySem.W.findIn K (.ref C_Empty) "row" = some (some (.ref f_Empty_row)))
    (me_Empty_swallows : PySem.W.findIn K (.ref C_Empty) "swallows" = some (some (.ref f_Cell_swallows)))
    (me_Empty_leads : PySem.W.findIn K (.ref C_Empty) "leads" = some (some (.ref f_Cell_leads)))
    (na_Empty_name : PySem.W.findIn K (.ref C_Empty) "name" = some none)
    (na_Empty_share : PySem.W.findIn K (.ref C_Empty) "share" = some none)
    (na_Empty_slant : PySem.W.findIn K (.ref C_Empty) "slant" = some none)
    (pg_Mirror : PySem.W.plainGet K C_Mirror Str.empty = true)
    (hd_Mirror : PySem.W.hasDictIn K C_Mirror = true)
    (po_Mirror : PySem.W.plainOver K C_Mirror = true)
    (sa_Mirror : PySem.W.findIn K (.ref C_Mirror) "__setattr__" = some (some (.builtin "object.__setattr__")))
    (ic1_Mirror : PySem.W.findIn K (.ref C_Mirror) "__class__" = some (some (.builtin "object.__class__")))
    (ic4_Mirror : PySem.W.mroIn K C_Mirror (.type "object") = some true)
    (mm_Mirror : PySem.W.makesIn K C_Mirror = true)
    (kp_Mirror : PySem.W.keepIn K (.ref C_Mirror) = true)
    (in_Mirror : PySem.W.findIn K (.ref C_Mirror) "__init__" = some (some (.ref f_Mirror___init__)))
    (me_Mirror_turned : PySem.W.findIn K (.ref C_Mirror) "turned" = some (some (.ref f_Mirror_turned)))
    (me_Mirror_row : PySem.W.findIn K (.ref C_Mirror) "row" = some (some (.ref f_Mirror_row)))
    (me_Mirror_swallows : PySem.W.findIn K (.ref C_Mirror) "swallows" = some (some (.ref f_Cell_swallows)))
    (me_Mirror_leads : PySem.W.findIn K (.ref C_Mirror) "leads" = some (some (.ref f_Mirror_leads)))
    (na_Mirror_name : PySem.W.findIn K (.ref C_Mirror) "name" = some none)
    (na_Mirror_share : PySem.W.findIn K (.ref C_Mirror) "share" = some none)
    (na_Mirror_slant : PySem.W.findIn K (.ref C_Mirror) "slant" = some none)
    (pg_Half : PySem.W.plainGet K C_Half Str.empty = true)
    (hd_Half : PySem.W.hasDictIn K C_Half = true)
    (po_Half : PySem.W.plainOver K C_Half = true)
    (sa_Half : PySem.W.findIn K (.ref C_Half) "__setattr__" = some (some (.builtin "object.__setattr__")))
    (ic1_Half : PySem.W.findIn K (.ref C_Half) "__class__" = some (some (.builtin "object.__class__")))
    (ic4_Half : PySem.W.mroIn K C_Half (.type "object") = some true)
    (mm_Half : PySem.W.makesIn K C_Half = true)
    (kp_Half : PySem.W.keepIn K (.ref C_Half) = true)
    (in_Half : PySem.W.findIn K (.ref C_Half) "__init__" = some (some (.ref f_Half___init__)))
    (me_Half_turned : PySem.W.findIn K (.ref C_Half) "turned" = some (some (.ref f_Half_turned)))
    (me_Half_row : PySem.W.findIn K (.ref C_Half) "row" = some (some (.ref f_Half_row)))
    (me_Half_swallows : PySem.W.findIn K (.ref C_Half) "swallows" = some (some (.ref f_Cell_swallows)))
    (me_Half_leads : PySem.W.findIn K (.ref C_Half) "leads" = some (some (.ref f_Half_leads)))
    (na_Half_name : PySem.W.findIn K (.ref C_Half) "name" = some none)
    (na_Half_share : PySem.W.findIn K (.ref C_Half) "share" = some none)
    (na_Half_slant : PySem.W.findIn K (.ref C_Half) "slant" = some none)
    (pg_Filter : PySem.W.plainGet K C_Filter Str.empty = true)
    (hd_Filter : PySem.W.hasDictIn K C_Filter = true)
    (po_Filter : PySem.W.plainOver K C_Filter = true)
    (sa_Filter : PySem.W.findIn K (.ref C_Filter) "__setattr__" = some (some (.builtin "object.__setattr__")))
    (ic1_Filter : PySem.W.findIn K (.ref C_Filter) "__class__" = some (some (.builtin "object.__class__")))
    (ic4_Filter : PySem.W.mroIn K C_Filter (.type "object") = some true)
    (mm_Filter : PySem.W.makesIn K C_Filter = true)
    (kp_Filter : PySem.W.keepIn K (.ref C_Filter) = true)
    (in_Filter : PySem.W.findIn K (.ref C_Filter) "__init__" = some (some (.ref f_Filter___init__)))
    (me_Filter_turned : PySem.W.findIn K (.ref C_Filter) "turned" = some (some (.ref f_Cell_turned)))
    (me_Filter_row : PySem.W.findIn K (.ref C_Filter) "row" = some (some (.ref f_Filter_row)))
    (me_Filter_swallows : PySem.W.findIn K (.ref C_Filter) "swallows" = some (some (.ref f_Filter_swallows)))
    (me_Filter_leads : PySem.W.findIn K (.ref C_Filter) "leads" = some (some (.ref f_Filter_leads)))
    (na_Filter_name : PySem.W.findIn K (.ref C_Filter) "name" = some none)
    (na_Filter_share : PySem.W.findIn K (.ref C_Filter) "share" = some none)
    (na_Filter_slant : PySem.W.findIn K (.ref C_Filter) "slant" = some none)
    (pg_Wall : PySem.W.plainGet K C_Wall Str.empty = true)
    (hd_Wall : PySem.W.hasDictIn K C_Wall = true)
    (po_Wall : PySem.W.plainOver K C_Wall = true)
    (sa_Wall : PySem.W.findIn K (.ref C_Wall) "__setattr__" = some (some (.builtin "object.__setattr__")))
    (ic1_Wall : PySem.W.findIn K (.ref C_Wall) "__class__" = some (some (.builtin "object.__class__")))
    (ic4_Wall : PySem.W.mroIn K C_Wall (.type "object") = some true)
    (mm_Wall : PySem.W.makesIn K C_Wall = true)
    (kp_Wall : PySem.W.keepIn K (.ref C_Wall) = true)
    (in_Wall : PySem.W.findIn K (.ref C_Wall) "__init__" = some (some (.builtin "object.__init__")))
    (me_Wall_turned : PySem.W.findIn K (.ref C_Wall) "turned" = some (some (.ref f_Cell_turned)))
    (me_Wall_row : PySem.W.findIn K (.ref C_Wall) "row" = some (some (.ref f_Wall_row)))
    (me_Wall_swallows : PySem.W.findIn K (.ref C_Wall) "swallows" = some (some (.ref f_Wall_swallows)))
    (me_Wall_leads : PySem.W.findIn K (.ref C_Wall) "leads" = some (some (.ref f_Wall_leads)))
    (na_Wall_name : PySem.W.findIn K (.ref C_Wall) "name" = some none)
    (na_Wall_share : PySem.W.findIn K (.ref C_Wall) "share" = some none)
    (na_Wall_slant : PySem.W.findIn K (.ref C_Wall) "slant" = some none)
    (pg_Fibre : PySem.W.plainGet K C_Fibre Str.empty = true)
    (hd_Fibre : PySem.W.hasDictIn K C_Fibre = true)
    (po_Fibre : PySem.W.plainOver K C_Fibre = true)
    (sa_Fibre : PySem.W.findIn K (.ref C_Fibre) "__setattr__" = some (some (.builtin "object.__setattr__")))
    (ic1_Fibre : PySem.W.findIn K (.ref C_Fibre) "__class__" = some (some (.builtin "object.__class__")))
    (ic4_Fibre : PySem.W.mroIn K C_Fibre (.type "object") = some true)
    (mm_Fibre : PySem.W.makesIn K C_Fibre = true)
    (kp_Fibre : PySem.W.keepIn K (.ref C_Fibre) = true)
    (in_Fibre : PySem.W.findIn K (.ref C_Fibre) "__init__" = some (some (.ref f_Fibre___init__)))
    (me_Fibre_turned : PySem.W.findIn K (.ref C_Fibre) "turned" = some (some (.ref f_Cell_turned)))
    (me_Fibre_row : PySem.W.findIn K (.ref C_Fibre) "row" = some (some (.ref f_Fibre_row)))
    (me_Fibre_swallows : PySem.W.findIn K (.ref C_Fibre) "swallows" = some (some (.ref f_Cell_swallows)))
    (me_Fibre_leads : PySem.W.findIn K (.ref C_Fibre) "leads" = some (some (.ref f_Cell_leads)))
    (na_Fibre_name : PySem.W.findIn K (.ref C_Fibre) "name" = some none)
    (na_Fibre_share : PySem.W.findIn K (.ref C_Fibre) "share" = some none)
    (na_Fibre_slant : PySem.W.findIn K (.ref C_Fibre) "slant" = some none)
    (ic2 : PySem.W.specialIn K (.builtin "object.__class__") "__get__" = some (some (.builtin "getset_descriptor.__get__")))
    (ic3 : PySem.W.takesIn K (.builtin "object.__class__") = some true)
    (nd : ([C_Empty, C_Mirror, C_Half, C_Filter, C_Wall, C_Fibre] : List Addr).Nodup)
    (fn_Mirror___init__ : PySem.W.isFn K (.ref f_Mirror___init__) = true)
    (fn_Half___init__ : PySem.W.isFn K (.ref f_Half___init__) = true)
    (fn_Filter___init__ : PySem.W.isFn K (.ref f_Filter___init__) = true)
    (fn_Fibre___init__ : PySem.W.isFn K (.ref f_Fibre___init__) = true)
    (fn_Cell_turned : PySem.W.isFn K (.ref f_Cell_turned) = true)
    (fn_Mirror_turned : PySem.W.isFn K (.ref f_Mirror_turned) = true)
    (fn_Half_turned : PySem.W.isFn K (.ref f_Half_turned) = true)
    (fn_Empty_row : PySem.W.isFn K (.ref f_Empty_row) = true)
    (fn_Mirror_row : PySem.W.isFn K (.ref f_Mirror_row) = true)
    (fn_Half_row : PySem.W.isFn K (.ref f_Half_row) = true)
    (fn_Filter_row : PySem.W.isFn K (.ref f_Filter_row) = true)
    (fn_Wall_row : PySem.W.isFn K (.ref f_Wall_row) = true)
    (fn_Fibre_row : PySem.W.isFn K (.ref f_Fibre_row) = true)
    (fn_Cell_swallows : PySem.W.isFn K (.ref f_Cell_swallows) = true)
    (fn_Filter_swallows : PySem.W.isFn K (.ref f_Filter_swallows) = true)
    (fn_Wall_swallows : PySem.W.isFn K (.ref f_Wall_swallows) = true)
    (fn_Cell_leads : PySem.W.isFn K (.ref f_Cell_leads) = true)
    (fn_Mirror_leads : PySem.W.isFn K (.ref f_Mirror_leads) = true)
    (fn_Half_leads : PySem.W.isFn K (.ref f_Half_leads) = true)
    (fn_Filter_leads : PySem.W.isFn K (.ref f_Filter_leads) = true)
    (fn_Wall_leads : PySem.W.isFn K (.ref f_Wall_leads) = true)
    (x_NoFraction : PySem.W.excIn K C_NoFraction bmVE "ValueError.__new__" = true)
    (ga_NoFraction : PySem.W.findIn K (.ref C_NoFraction) "__getattribute__" = some (some (.builtin "BaseException.__getattribute__")))
    (gt_NoFraction : PySem.W.findIn K (.ref C_NoFraction) "__getattr__" = some none)
    (ca_NoFraction : PySem.W.findIn K (.ref C_NoFraction) "__class__" = some (some (.builtin "object.__class__")))
    (mo_NoFraction : PySem.W.mroIn K C_NoFraction (.type "object") = some true)
    (mb_NoFraction : PySem.W.subIn K (.ref C_NoFraction) (.type "BaseException") = some true)
    (cl_NoFraction : PySem.W.isClsIn K C_NoFraction = true)
    (h_NoFraction_BeamError : PySem.W.exmOne K (.ref C_NoFraction) (.ref C_BeamError) = some true)
    (x_NoCell : PySem.W.excIn K C_NoCell bmVE "ValueError.__new__" = true)
    (ga_NoCell : PySem.W.findIn K (.ref C_NoCell) "__getattribute__" = some (some (.builtin "BaseException.__getattribute__")))
    (gt_NoCell : PySem.W.findIn K (.ref C_NoCell) "__getattr__" = some none)
    (ca_NoCell : PySem.W.findIn K (.ref C_NoCell) "__class__" = some (some (.builtin "object.__class__")))
    (mo_NoCell : PySem.W.mroIn K C_NoCell (.type "object") = some true)
    (mb_NoCell : PySem.W.subIn K (.ref C_NoCell) (.type "BaseException") = some true)
    (cl_NoCell : PySem.W.isClsIn K C_NoCell = true)
    (h_NoCell_BeamError : PySem.W.exmOne K (.ref C_NoCell) (.ref C_BeamError) = some true)
    (inn_NoPlace : PySem.W.kitOne K (.type "NoneType") (.ref C_NoPlace) = some false)
    (ibb_NoPlace : PySem.W.kitOne K (.type "bool") (.ref C_NoPlace) = some false)
    (iii_NoPlace : PySem.W.kitOne K (.type "int") (.ref C_NoPlace) = some false)
    (iss_NoPlace : PySem.W.kitOne K (.type "str") (.ref C_NoPlace) = some false)
    (itt_NoPlace : PySem.W.kitOne K (.type "tuple") (.ref C_NoPlace) = some false)
    (ill_NoPlace : PySem.W.kitOne K (.type "list") (.ref C_NoPlace) = some false)
    (idd_NoPlace : PySem.W.kitOne K (.type "dict") (.ref C_NoPlace) = some false)
    (io_NoFraction_NoPlace : PySem.W.kitOne K (.ref C_NoFraction) (.ref C_NoPlace) = some false)
    (io_NoCell_NoPlace : PySem.W.kitOne K (.ref C_NoCell) (.ref C_NoPlace) = some false)
    (io_Empty_NoPlace : PySem.W.kitOne K (.ref C_Empty) (.ref C_NoPlace) = some false)
    (io_Mirror_NoPlace : PySem.W.kitOne K (.ref C_Mirror) (.ref C_NoPlace) = some false)
    (io_Half_NoPlace : PySem.W.kitOne K (.ref C_Half) (.ref C_NoPlace) = some false)
    (io_Filter_NoPlace : PySem.W.kitOne K (.ref C_Filter) (.ref C_NoPlace) = some false)
    (io_Wall_NoPlace : PySem.W.kitOne K (.ref C_Wall) (.ref C_NoPlace) = some false)
    (io_Fibre_NoPlace : PySem.W.kitOne K (.ref C_Fibre) (.ref C_NoPlace) = some false)
    (inn_NoTable : PySem.W.kitOne K (.type "NoneType") (.ref C_NoTable) = some false)
    (ibb_NoTable : PySem.W.kitOne K (.type "bool") (.ref C_NoTable) = some false)
    (iii_NoTable : PySem.W.kitOne K (.type "int") (.ref C_NoTable) = some false)
    (iss_NoTable : PySem.W.kitOne K (.type "str") (.ref C_NoTable) = some false)
    (itt_NoTable : PySem.W.kitOne K (.type "tuple") (.ref C_NoTable) = some false)
    (ill_NoTable : PySem.W.kitOne K (.type "list") (.ref C_NoTable) = some false)
    (idd_NoTable : PySem.W.kitOne K (.type "dict") (.ref C_NoTable) = some false)
    (io_NoFraction_NoTable : PySem.W.kitOne K (.ref C_NoFraction) (.ref C_NoTable) = some false)
    (io_NoCell_NoTable : PySem.W.kitOne K (.ref C_NoCell) (.ref C_NoTable) = some false)
    (io_Empty_NoTable : PySem.W.kitOne K (.ref C_Empty) (.ref C_NoTable) = some false)
    (io_Mirror_NoTable : PySem.W.kitOne K (.ref C_Mirror) (.ref C_NoTable) = some false)
    (io_Half_NoTable : PySem.W.kitOne K (.ref C_Half) (.ref C_NoTable) = some false)
    (io_Filter_NoTable : PySem.W.kitOne K (.ref C_Filter) (.ref C_NoTable) = some false)
    (io_Wall_NoTable : PySem.W.kitOne K (.ref C_Wall) (.ref C_NoTable) = some false)
    (io_Fibre_NoTable : PySem.W.kitOne K (.ref C_Fibre) (.ref C_NoTable) = some false)
    (inn_ValueError : PySem.W.kitOne K (.type "NoneType") (.type "ValueError") = some false)
    (ibb_ValueError : PySem.W.kitOne K (.type "bool") (.type "ValueError") = some false)
    (iii_ValueError : PySem.W.kitOne K (.type "int") (.type "ValueError") = some false)
    (iss_ValueError : PySem.W.kitOne K (.type "str") (.type "ValueError") = some false)
    (itt_ValueError : PySem.W.kitOne K (.type "tuple") (.type "ValueError") = some false)
    (ill_ValueError : PySem.W.kitOne K (.type "list") (.type "ValueError") = some false)
    (idd_ValueError : PySem.W.kitOne K (.type "dict") (.type "ValueError") = some false)
    (io_NoFraction_ValueError : PySem.W.kitOne K (.ref C_NoFraction) (.type "ValueError") = some true)
    (io_NoCell_ValueError : PySem.W.kitOne K (.ref C_NoCell) (.type "ValueError") = some true)
    (io_Empty_ValueError : PySem.W.kitOne K (.ref C_Empty) (.type "ValueError") = some false)
    (io_Mirror_ValueError : PySem.W.kitOne K (.ref C_Mirror) (.type "ValueError") = some false)
    (io_Half_ValueError : PySem.W.kitOne K (.ref C_Half) (.type "ValueError") = some false)
    (io_Filter_ValueError : PySem.W.kitOne K (.ref C_Filter) (.type "ValueError") = some false)
    (io_Wall_ValueError : PySem.W.kitOne K (.ref C_Wall) (.type "ValueError") = some false)
    (io_Fibre_ValueError : PySem.W.kitOne K (.ref C_Fibre) (.type "ValueError") = some false)
    (inn_NoCell : PySem.W.kitOne K (.type "NoneType") (.ref C_NoCell) = some false)
    (ibb_NoCell : PySem.W.kitOne K (.type "bool") (.ref C_NoCell) = some false)
    (iii_NoCell : PySem.W.kitOne K (.type "int") (.ref C_NoCell) = some false)
    (iss_NoCell : PySem.W.kitOne K (.type "str") (.ref C_NoCell) = some false)
    (itt_NoCell : PySem.W.kitOne K (.type "tuple") (.ref C_NoCell) = some false)
    (ill_NoCell : PySem.W.kitOne K (.type "list") (.ref C_NoCell) = some false)
    (idd_NoCell : PySem.W.kitOne K (.type "dict") (.ref C_NoCell) = some false)
    (io_NoFraction_NoCell : PySem.W.kitOne K (.ref C_NoFraction) (.ref C_NoCell) = some false)
    (io_NoCell_NoCell : PySem.W.kitOne K (.ref C_NoCell) (.ref C_NoCell) = some true)
    (io_Empty_NoCell : PySem.W.kitOne K (.ref C_Empty) (.ref C_NoCell) = some false)
    (io_Mirror_NoCell : PySem.W.kitOne K (.ref C_Mirror) (.ref C_NoCell) = some false)
    (io_Half_NoCell : PySem.W.kitOne K (.ref C_Half) (.ref C_NoCell) = some false)
    (io_Filter_NoCell : PySem.W.kitOne K (.ref C_Filter) (.ref C_NoCell) = some false)
    (io_Wall_NoCell : PySem.W.kitOne K (.ref C_Wall) (.ref C_NoCell) = some false)
    (io_Fibre_NoCell : PySem.W.kitOne K (.ref C_Fibre) (.ref C_NoCell) = some false) :
    ∃ (cb : Cb) (fd : FuncData), (∀ (s : Shared) (u : Value), BindsTo s fd ⟨[u], []⟩ [("_law_script", u)]) ∧ ∀ base : Heap, FnD P w K mg base cb 7 fa fd ["_law_script"] F_law := by
  have e : fa = f_law := Value.ref.inj (Option.some.inj (hfa.symm.trans (PySem.W.mg_of X G a_law)))
  rw [e]
  have F_l_low := fun_mk (st := s_l_low) l_l_low c_l_low k_l_low
  have b_l_low := F_l_low.binds (ps := p_l_low) fun _ _ _ _ _ _ us hl => by obtain ⟨u0, u1, rfl⟩ := len2 hl; rfl
  have F_l_share := fun_mk (st := s_l_share) l_l_share c_l_share k_l_share
  have b_l_share := F_l_share.binds (ps := p_l_share) fun _ _ _ _ _ _ us hl => by obtain ⟨u0, rfl⟩ := len1 hl; rfl
  have F_l_bad_slant := fun_mk (st := s_l_bad_slant) l_l_bad_slant c_l_bad_slant k_l_bad_slant
  have b_l_bad_slant := F_l_bad_slant.binds (ps := p_l_bad_slant) fun _ _ _ _ _ _ us hl => by obtain ⟨u0, rfl⟩ := len1 hl; rfl
  have F_l_bad_share := fun_mk (st := s_l_bad_share) l_l_bad_share c_l_bad_share k_l_bad_share
  have b_l_bad_share := F_l_bad_share.binds (ps := p_l_bad_share) fun _ _ _ _ _ _ us hl => by obtain ⟨u0, rfl⟩ := len1 hl; rfl
  have F_check_slant := fun_mk (st := s_check_slant) l_check_slant c_check_slant k_check_slant
  have b_check_slant := F_check_slant.binds (ps := p_check_slant) fun _ _ _ _ _ _ us hl => by obtain ⟨u0, rfl⟩ := len1 hl; rfl
  have F_Mirror___init__ := fun_mk (st := s_Mirror___init__) l_Mirror___init__ c_Mirror___init__ k_Mirror___init__
  have b_Mirror___init__ := F_Mirror___init__.binds (ps := p_Mirror___init__) fun _ _ _ _ _ _ us hl => by obtain ⟨u0, u1, rfl⟩ := len2 hl; rfl
  have F_under := fun_mk (st := s_under) l_under c_under k_under
  have b_under := F_under.binds (ps := p_under) fun _ _ _ _ _ _ us hl => by obtain ⟨u0, u1, rfl⟩ := len2 hl; rfl
  have F_check_share := fun_mk (st := s_check_share) l_check_share c_check_share k_check_share
  have b_check_share := F_check_share.binds (ps := p_check_share) fun _ _ _ _ _ _ us hl => by obtain ⟨u0, rfl⟩ := len1 hl; rfl
  have F_Half___init__ := fun_mk (st := s_Half___init__) l_Half___init__ c_Half___init__ k_Half___init__
  have b_Half___init__ := F_Half___init__.binds (ps := p_Half___init__) fun _ _ _ _ _ _ us hl => by obtain ⟨u0, u1, u2, rfl⟩ := len3 hl; rfl
  have F_Filter___init__ := fun_mk (st := s_Filter___init__) l_Filter___init__ c_Filter___init__ k_Filter___init__
  have b_Filter___init__ := F_Filter___init__.binds (ps := p_Filter___init__) fun _ _ _ _ _ _ us hl => by obtain ⟨u0, u1, rfl⟩ := len2 hl; rfl
  have F_check_name := fun_mk (st := s_check_name) l_check_name c_check_name k_check_name
  have b_check_name := F_check_name.binds (ps := p_check_name) fun _ _ _ _ _ _ us hl => by obtain ⟨u0, rfl⟩ := len1 hl; rfl
  have F_Fibre___init__ := fun_mk (st := s_Fibre___init__) l_Fibre___init__ c_Fibre___init__ k_Fibre___init__
  have b_Fibre___init__ := F_Fibre___init__.binds (ps := p_Fibre___init__) fun _ _ _ _ _ _ us hl => by obtain ⟨u0, u1, rfl⟩ := len2 hl; rfl
  have F_l_refused := fun_mk (st := s_l_refused) l_l_refused c_l_refused k_l_refused
  have b_l_refused := F_l_refused.binds (ps := p_l_refused) fun _ _ _ _ _ _ us hl => by obtain ⟨u0, u1, u2, u3, rfl⟩ := len4 hl; rfl
  have F_l_bad_name := fun_mk (st := s_l_bad_name) l_l_bad_name c_l_bad_name k_l_bad_name
  have b_l_bad_name := F_l_bad_name.binds (ps := p_l_bad_name) fun _ _ _ _ _ _ us hl => by obtain ⟨u0, rfl⟩ := len1 hl; rfl
  have F_Cell_turned := fun_mk (st := s_Cell_turned) l_Cell_turned c_Cell_turned k_Cell_turned
  have b_Cell_turned := F_Cell_turned.binds (ps := p_Cell_turned) fun _ _ _ _ _ _ us hl => by obtain ⟨u0, rfl⟩ := len1 hl; rfl
  have F_other_slant := fun_mk (st := s_other_slant) l_other_slant c_other_slant k_other_slant
  have b_other_slant := F_other_slant.binds (ps := p_other_slant) fun _ _ _ _ _ _ us hl => by obtain ⟨u0, rfl⟩ := len1 hl; rfl
  have F_Mirror_turned := fun_mk (st := s_Mirror_turned) l_Mirror_turned c_Mirror_turned k_Mirror_turned
  have b_Mirror_turned := F_Mirror_turned.binds (ps := p_Mirror_turned) fun _ _ _ _ _ _ us hl => by obtain ⟨u0, rfl⟩ := len1 hl; rfl
  have F_Half_turned := fun_mk (st := s_Half_turned) l_Half_turned c_Half_turned k_Half_turned
  have b_Half_turned := F_Half_turned.binds (ps := p_Half_turned) fun _ _ _ _ _ _ us hl => by obtain ⟨u0, rfl⟩ := len1 hl; rfl
  have F_Empty_row := fun_mk (st := s_Empty_row) l_Empty_row c_Empty_row k_Empty_row
  have b_Empty_row := F_Empty_row.binds (ps := p_Empty_row) fun _ _ _ _ _ _ us hl => by obtain ⟨u0, rfl⟩ := len1 hl; rfl
  have F_Mirror_row := fun_mk (st := s_Mirror_row) l_Mirror_row c_Mirror_row k_Mirror_row
  have b_Mirror_row := F_Mirror_row.binds (ps := p_Mirror_row) fun _ _ _ _ _ _ us hl => by obtain ⟨u0, rfl⟩ := len1 hl; rfl
  have F_Half_row := fun_mk (st := s_Half_row) l_Half_row c_Half_row k_Half_row
  have b_Half_row := F_Half_row.binds (ps := p_Half_row) fun _ _ _ _ _ _ us hl => by obtain ⟨u0, rfl⟩ := len1 hl; rfl
  have F_Filter_row := fun_mk (st := s_Filter_row) l_Filter_row c_Filter_row k_Filter_row
  have b_Filter_row := F_Filter_row.binds (ps := p_Filter_row) fun _ _ _ _ _ _ us hl => by obtain ⟨u0, rfl⟩ := len1 hl; rfl
  have F_Wall_row := fun_mk (st := s_Wall_row) l_Wall_row c_Wall_row k_Wall_row
  have b_Wall_row := F_Wall_row.binds (ps := p_Wall_row) fun _ _ _ _ _ _ us hl => by obtain ⟨u0, rfl⟩ := len1 hl; rfl
  have F_Fibre_row := fun_mk (st := s_Fibre_row) l_Fibre_row c_Fibre_row k_Fibre_row
  have b_Fibre_row := F_Fibre_row.binds (ps := p_Fibre_row) fun _ _ _ _ _ _ us hl => by obtain ⟨u0, rfl⟩ := len1 hl; rfl
  have F_Cell_swallows := fun_mk (st := s_Cell_swallows) l_Cell_swallows c_Cell_swallows k_Cell_swallows
  have b_Cell_swallows := F_Cell_swallows.binds (ps := p_Cell_swallows) fun _ _ _ _ _ _ us hl => by obtain ⟨u0, rfl⟩ := len1 hl; rfl
  have F_greatest_divisor := fun_mk (st := s_greatest_divisor) l_greatest_divisor c_greatest_divisor k_greatest_divisor
  have b_greatest_divisor := F_greatest_divisor.binds (ps := p_greatest_divisor) fun _ _ _ _ _ _ us hl => by obtain ⟨u0, u1, rfl⟩ := len2 hl; rfl
  have F_fraction := fun_mk (st := s_fraction) l_fraction c_fraction k_fraction
  have b_fraction := F_fraction.binds (ps := p_fraction) fun _ _ _ _ _ _ us hl => by obtain ⟨u0, u1, rfl⟩ := len2 hl; rfl
  have F_minus := fun_mk (st := s_minus) l_minus c_minus k_minus
  have b_minus := F_minus.binds (ps := p_minus) fun _ _ _ _ _ _ us hl => by obtain ⟨u0, u1, rfl⟩ := len2 hl; rfl
  have F_Filter_swallows := fun_mk (st := s_Filter_swallows) l_Filter_swallows c_Filter_swallows k_Filter_swallows
  have b_Filter_swallows := F_Filter_swallows.binds (ps := p_Filter_swallows) fun _ _ _ _ _ _ us hl => by obtain ⟨u0, rfl⟩ := len1 hl; rfl
  have F_Wall_swallows := fun_mk (st := s_Wall_swallows) l_Wall_swallows c_Wall_swallows k_Wall_swallows
  have b_Wall_swallows := F_Wall_swallows.binds (ps := p_Wall_swallows) fun _ _ _ _ _ _ us hl => by obtain ⟨u0, rfl⟩ := len1 hl; rfl
  have F_Cell_leads := fun_mk (st := s_Cell_leads) l_Cell_leads c_Cell_leads k_Cell_leads
  have b_Cell_leads := F_Cell_leads.binds (ps := p_Cell_leads) fun _ _ _ _ _ _ us hl => by obtain ⟨u0, u1, rfl⟩ := len2 hl; rfl
  have F_Mirror_leads := fun_mk (st := s_Mirror_leads) l_Mirror_leads c_Mirror_leads k_Mirror_leads
  have b_Mirror_leads := F_Mirror_leads.binds (ps := p_Mirror_leads) fun _ _ _ _ _ _ us hl => by obtain ⟨u0, u1, rfl⟩ := len2 hl; rfl
  have F_Half_leads := fun_mk (st := s_Half_leads) l_Half_leads c_Half_leads k_Half_leads
  have b_Half_leads := F_Half_leads.binds (ps := p_Half_leads) fun _ _ _ _ _ _ us hl => by obtain ⟨u0, u1, rfl⟩ := len2 hl; rfl
  have F_Filter_leads := fun_mk (st := s_Filter_leads) l_Filter_leads c_Filter_leads k_Filter_leads
  have b_Filter_leads := F_Filter_leads.binds (ps := p_Filter_leads) fun _ _ _ _ _ _ us hl => by obtain ⟨u0, u1, rfl⟩ := len2 hl; rfl
  have F_Wall_leads := fun_mk (st := s_Wall_leads) l_Wall_leads c_Wall_leads k_Wall_leads
  have b_Wall_leads := F_Wall_leads.binds (ps := p_Wall_leads) fun _ _ _ _ _ _ us hl => by obtain ⟨u0, u1, rfl⟩ := len2 hl; rfl
  have F_l_turned := fun_mk (st := s_l_turned) l_l_turned c_l_turned k_l_turned
  have b_l_turned := F_l_turned.binds (ps := p_l_turned) fun _ _ _ _ _ _ us hl => by obtain ⟨u0, rfl⟩ := len1 hl; rfl
  have F_law := fun_mk (st := s_law) l_law c_law k_law
  have b_law := F_law.binds (ps := p_law) fun _ _ _ _ _ _ us hl => by obtain ⟨u0, rfl⟩ := len1 hl; rfl
  have xt_NoFraction : XT K C_NoFraction := ⟨ga_NoFraction, gt_NoFraction, ca_NoFraction, mo_NoFraction, mb_NoFraction, cl_NoFraction⟩
  have xt_NoCell : XT K C_NoCell := ⟨ga_NoCell, gt_NoCell, ca_NoCell, mo_NoCell, mb_NoCell, cl_NoCell⟩
  have cl_Empty : Cls K C_Empty := ⟨pg_Empty, hd_Empty, po_Empty, sa_Empty⟩
  have cl_Mirror : Cls K C_Mirror := ⟨pg_Mirror, hd_Mirror, po_Mirror, sa_Mirror⟩
  have cl_Half : Cls K C_Half := ⟨pg_Half, hd_Half, po_Half, sa_Half⟩
  have cl_Filter : Cls K C_Filter := ⟨pg_Filter, hd_Filter, po_Filter, sa_Filter⟩
  have cl_Wall : Cls K C_Wall := ⟨pg_Wall, hd_Wall, po_Wall, sa_Wall⟩
  have cl_Fibre : Cls K C_Fibre := ⟨pg_Fibre, hd_Fibre, po_Fibre, sa_Fibre⟩
  let M : Tx K mg (cbOf [("NoFraction", C_NoFraction), ("NoCell", C_NoCell)] ([("Empty", (C_Empty, [])), ("Mirror", (C_Mirror, ["slant"])), ("Half", (C_Half, ["slant", "share"])), ("Filter", (C_Filter, ["share"])), ("Wall", (C_Wall, [])), ("Fibre", (C_Fibre, ["name"]))] : ClsTb)) := {
    a_l_low := f_l_low, fd_l_low := _, k_l_low := k_l_low, f_l_low := F_l_low, b_l_low := b_l_low,
    m_l_low := PySem.W.mg_of X G a_l_low,
    a_l_share := f_l_share, fd_l_share := _, k_l_share := k_l_share, f_l_share := F_l_share, b_l_share := b_l_share,
    m_l_share := PySem.W.mg_of X G a_l_share,
    a_l_bad_slant := f_l_bad_slant, fd_l_bad_slant := _, k_l_bad_slant := k_l_bad_slant, f_l_bad_slant := F_l_bad_slant, b_l_bad_slant := b_l_bad_slant,
    m_l_bad_slant := PySem.W.mg_of X G a_l_bad_slant,
    a_l_bad_share := f_l_bad_share, fd_l_bad_share := _, k_l_bad_share := k_l_bad_share, f_l_bad_share := F_l_bad_share, b_l_bad_share := b_l_bad_share,
    m_l_bad_share := PySem.W.mg_of X G a_l_bad_share,
    a_check_slant := f_check_slant, fd_check_slant := _, k_check_slant := k_check_slant, f_check_slant := F_check_slant, b_check_slant := b_check_slant,
    m_check_slant := PySem.W.mg_of X G a_check_slant,
    a_Mirror___init__ := f_Mirror___init__, fd_Mirror___init__ := _, k_Mirror___init__ := k_Mirror___init__, f_Mirror___init__ := F_Mirror___init__, b_Mirror___init__ := b_Mirror___init__,
    a_under := f_under, fd_under := _, k_under := k_under, f_under := F_under, b_under := b_under,
    m_under := PySem.W.mg_of X G a_under,
    a_check_share := f_check_share, fd_check_share := _, k_check_share := k_check_share, f_check_share := F_check_share, b_check_share := b_check_share,
    m_check_share := PySem.W.mg_of X G a_check_share,
    a_Half___init__ := f_Half___init__, fd_Half___init__ := _, k_Half___init__ := k_Half___init__, f_Half___init__ := F_Half___init__, b_Half___init__ := b_Half___init__,
    a_Filter___init__ := f_Filter___init__, fd_Filter___init__ := _, k_Filter___init__ := k_Filter___init__, f_Filter___init__ := F_Filter___init__, b_Filter___init__ := b_Filter___init__,
    a_check_name := f_check_name, fd_check_name := _, k_check_name := k_check_name, f_check_name := F_check_name, b_check_name := b_check_name,
    m_check_name := PySem.W.mg_of X G a_check_name,
    a_Fibre___init__ := f_Fibre___init__, fd_Fibre___init__ := _, k_Fibre___init__ := k_Fibre___init__, f_Fibre___init__ := F_Fibre___init__, b_Fibre___init__ := b_Fibre___init__,
    a_l_refused := f_l_refused, fd_l_refused := _, k_l_refused := k_l_refused, f_l_refused := F_l_refused, b_l_refused := b_l_refused,
    m_l_refused := PySem.W.mg_of X G a_l_refused,
    a_l_bad_name := f_l_bad_name, fd_l_bad_name := _, k_l_bad_name := k_l_bad_name, f_l_bad_name := F_l_bad_name, b_l_bad_name := b_l_bad_name,
    m_l_bad_name := PySem.W.mg_of X G a_l_bad_name,
    a_Cell_turned := f_Cell_turned, fd_Cell_turned := _, k_Cell_turned := k_Cell_turned, f_Cell_turned := F_Cell_turned, b_Cell_turned := b_Cell_turned,
    a_other_slant := f_other_slant, fd_other_slant := _, k_other_slant := k_other_slant, f_other_slant := F_other_slant, b_other_slant := b_other_slant,
    m_other_slant := PySem.W.mg_of X G a_other_slant,
    a_Mirror_turned := f_Mirror_turned, fd_Mirror_turned := _, k_Mirror_turned := k_Mirror_turned, f_Mirror_turned := F_Mirror_turned, b_Mirror_turned := b_Mirror_turned,
    a_Half_turned := f_Half_turned, fd_Half_turned := _, k_Half_turned := k_Half_turned, f_Half_turned := F_Half_turned, b_Half_turned := b_Half_turned,
    a_Empty_row := f_Empty_row, fd_Empty_row := _, k_Empty_row := k_Empty_row, f_Empty_row := F_Empty_row, b_Empty_row := b_Empty_row,
    a_Mirror_row := f_Mirror_row, fd_Mirror_row := _, k_Mirror_row := k_Mirror_row, f_Mirror_row := F_Mirror_row, b_Mirror_row := b_Mirror_row,
    a_Half_row := f_Half_row, fd_Half_row := _, k_Half_row := k_Half_row, f_Half_row := F_Half_row, b_Half_row := b_Half_row,
    a_Filter_row := f_Filter_row, fd_Filter_row := _, k_Filter_row := k_Filter_row, f_Filter_row := F_Filter_row, b_Filter_row := b_Filter_row,
    a_Wall_row := f_Wall_row, fd_Wall_row := _, k_Wall_row := k_Wall_row, f_Wall_row := F_Wall_row, b_Wall_row := b_Wall_row,
    a_Fibre_row := f_Fibre_row, fd_Fibre_row := _, k_Fibre_row := k_Fibre_row, f_Fibre_row := F_Fibre_row, b_Fibre_row := b_Fibre_row,
    a_Cell_swallows := f_Cell_swallows, fd_Cell_swallows := _, k_Cell_swallows := k_Cell_swallows, f_Cell_swallows := F_Cell_swallows, b_Cell_swallows := b_Cell_swallows,
    a_greatest_divisor := f_greatest_divisor, fd_greatest_divisor := _, k_greatest_divisor := k_greatest_divisor, f_greatest_divisor := F_greatest_divisor, b_greatest_divisor := b_greatest_divisor,
    m_greatest_divisor := PySem.W.mg_of X G a_greatest_divisor,
    a_fraction := f_fraction, fd_fraction := _, k_fraction := k_fraction, f_fraction := F_fraction, b_fraction := b_fraction,
    m_fraction := PySem.W.mg_of X G a_fraction,
    a_minus := f_minus, fd_minus := _, k_minus := k_minus, f_minus := F_minus, b_minus := b_minus,
    m_minus := PySem.W.mg_of X G a_minus,
    a_Filter_swallows := f_Filter_swallows, fd_Filter_swallows := _, k_Filter_swallows := k_Filter_swallows, f_Filter_swallows := F_Filter_swallows, b_Filter_swallows := b_Filter_swallows,
    a_Wall_swallows := f_Wall_swallows, fd_Wall_swallows := _, k_Wall_swallows := k_Wall_swallows, f_Wall_swallows := F_Wall_swallows, b_Wall_swallows := b_Wall_swallows,
    a_Cell_leads := f_Cell_leads, fd_Cell_leads := _, k_Cell_leads := k_Cell_leads, f_Cell_leads := F_Cell_leads, b_Cell_leads := b_Cell_leads,
    a_Mirror_leads := f_Mirror_leads, fd_Mirror_leads := _, k_Mirror_leads := k_Mirror_leads, f_Mirror_leads := F_Mirror_leads, b_Mirror_leads := b_Mirror_leads,
    a_Half_leads := f_Half_leads, fd_Half_leads := _, k_Half_leads := k_Half_leads, f_Half_leads := F_Half_leads, b_Half_leads := b_Half_leads,
    a_Filter_leads := f_Filter_leads, fd_Filter_leads := _, k_Filter_leads := k_Filter_leads, f_Filter_leads := F_Filter_leads, b_Filter_leads := b_Filter_leads,
    a_Wall_leads := f_Wall_leads, fd_Wall_leads := _, k_Wall_leads := k_Wall_leads, f_Wall_leads := F_Wall_leads, b_Wall_leads := b_Wall_leads,
    a_l_turned := f_l_turned, fd_l_turned := _, k_l_turned := k_l_turned, f_l_turned := F_l_turned, b_l_turned := b_l_turned,
    m_l_turned := PySem.W.mg_of X G a_l_turned,
    a_law := f_law, fd_law := _, k_law := k_law, f_law := F_law, b_law := b_law,
    m_law := PySem.W.mg_of X G a_law,
    z_ValueError := PySem.W.mg_none_of X G z_ValueError,
    z_abs := PySem.W.mg_none_of X G z_abs,
    z_all := PySem.W.mg_none_of X G z_all,
    z_isinstance := PySem.W.mg_none_of X G z_isinstance,
    z_len := PySem.W.mg_none_of X G z_len,
    z_range := PySem.W.mg_none_of X G z_range,
    z_sorted := PySem.W.mg_none_of X G z_sorted,
    u_LETTERS := (.str "abcdefghijklmnopqrstuvwxyz" t_LETTERS_1), v_LETTERS := PySem.W.mg_of X G gc_LETTERS, g_LETTERS := glt_str,
    u_LONGEST_NAME := (.int 8 t_LONGEST_NAME_2), v_LONGEST_NAME := PySem.W.mg_of X G gc_LONGEST_NAME, g_LONGEST_NAME := glt_int,
    u_ONE := (.ref A_ONE_5), v_ONE := PySem.W.mg_of X G gc_ONE, g_ONE := (glt_tup lA_ONE_5 (by simp) (glts_cons glt_int (glts_cons glt_int glts_nil))),
    u_ZERO := (.ref A_ZERO_8), v_ZERO := PySem.W.mg_of X G gc_ZERO, g_ZERO := (glt_tup lA_ZERO_8 (by simp) (glts_cons glt_int (glts_cons glt_int glts_nil))),
    C_BeamError := C_BeamError, g_BeamError := PySem.W.mg_of X G e_BeamError,
    C_NoFraction := C_NoFraction, g_NoFraction := PySem.W.mg_of X G e_NoFraction,
    C_NoCell := C_NoCell, g_NoCell := PySem.W.mg_of X G e_NoCell,
    C_NoTable := C_NoTable, g_NoTable := PySem.W.mg_of X G e_NoTable,
    C_NoPlace := C_NoPlace, g_NoPlace := PySem.W.mg_of X G e_NoPlace,
    C_Empty := C_Empty, g_Empty := PySem.W.mg_of X G e_Empty,
    C_Mirror := C_Mirror, g_Mirror := PySem.W.mg_of X G e_Mirror,
    C_Half := C_Half, g_Half := PySem.W.mg_of X G e_Half,
    C_Filter := C_Filter, g_Filter := PySem.W.mg_of X G e_Filter,
    C_Wall := C_Wall, g_Wall := PySem.W.mg_of X G e_Wall,
    C_Fibre := C_Fibre, g_Fibre := PySem.W.mg_of X G e_Fibre,
    q_Empty := rfl, n_Empty := rfl, cl_Empty := cl_Empty,
    mk_Empty := ⟨mm_Empty, in_Empty, kp_Empty⟩,
    me_Empty_turned := ⟨me_Empty_turned, fn_Cell_turned, k_Cell_turned⟩,
    me_Empty_row := ⟨me_Empty_row, fn_Empty_row, k_Empty_row⟩,
    me_Empty_swallows := ⟨me_Empty_swallows, fn_Cell_swallows, k_Cell_swallows⟩,
    me_Empty_leads := ⟨me_Empty_leads, fn_Cell_leads, k_Cell_leads⟩,
    q_Mirror := rfl, n_Mirror := rfl, cl_Mirror := cl_Mirror,
    mk_Mirror := ⟨mm_Mirror, in_Mirror, fn_Mirror___init__, kp_Mirror⟩,
    me_Mirror_turned := ⟨me_Mirror_turned, fn_Mirror_turned, k_Mirror_turned⟩,
    me_Mirror_row := ⟨me_Mirror_row, fn_Mirror_row, k_Mirror_row⟩,
    me_Mirror_swallows := ⟨me_Mirror_swallows, fn_Cell_swallows, k_Cell_swallows⟩,
    me_Mirror_leads := ⟨me_Mirror_leads, fn_Mirror_leads, k_Mirror_leads⟩,
    q_Half := rfl, n_Half := rfl, cl_Half := cl_Half,
    mk_Half := ⟨mm_Half, in_Half, fn_Half___init__, kp_Half⟩,
    me_Half_turned := ⟨me_Half_turned, fn_Half_turned, k_Half_turned⟩,
    me_Half_row := ⟨me_Half_row, fn_Half_row, k_Half_row⟩,
    me_Half_swallows := ⟨me_Half_swallows, fn_Cell_swallows, k_Cell_swallows⟩,
    me_Half_leads := ⟨me_Half_leads, fn_Half_leads, k_Half_leads⟩,
    q_Filter := rfl, n_Filter := rfl, cl_Filter := cl_Filter,
    mk_Filter := ⟨mm_Filter, in_Filter, fn_Filter___init__, kp_Filter⟩,
    me_Filter_turned := ⟨me_Filter_turned, fn_Cell_turned, k_Cell_turned⟩,
    me_Filter_row := ⟨me_Filter_row, fn_Filter_row, k_Filter_row⟩,
    me_Filter_swallows := ⟨me_Filter_swallows, fn_Filter_swallows, k_Filter_swallows⟩,
    me_Filter_leads := ⟨me_Filter_leads, fn_Filter_leads, k_Filter_leads⟩,
    q_Wall := rfl, n_Wall := rfl, cl_Wall := cl_Wall,
    mk_Wall := ⟨mm_Wall, in_Wall, kp_Wall⟩,
    me_Wall_turned := ⟨me_Wall_turned, fn_Cell_turned, k_Cell_turned⟩,
    me_Wall_row := ⟨me_Wall_row, fn_Wall_row, k_Wall_row⟩,
    me_Wall_swallows := ⟨me_Wall_swallows, fn_Wall_swallows, k_Wall_swallows⟩,
    me_Wall_leads := ⟨me_Wall_leads, fn_Wall_leads, k_Wall_leads⟩,
    q_Fibre := rfl, n_Fibre := rfl, cl_Fibre := cl_Fibre,
    mk_Fibre := ⟨mm_Fibre, in_Fibre, fn_Fibre___init__, kp_Fibre⟩,
    me_Fibre_turned := ⟨me_Fibre_turned, fn_Cell_turned, k_Cell_turned⟩,
    me_Fibre_row := ⟨me_Fibre_row, fn_Fibre_row, k_Fibre_row⟩,
    me_Fibre_swallows := ⟨me_Fibre_swallows, fn_Cell_swallows, k_Cell_swallows⟩,
    me_Fibre_leads := ⟨me_Fibre_leads, fn_Cell_leads, k_Cell_leads⟩,
    ft := ftOk_of nd,
    fa_name := fa_of (al_cons ⟨cl_Empty, na_Empty_name⟩ (al_cons ⟨cl_Mirror, na_Mirror_name⟩ (al_cons ⟨cl_Half, na_Half_name⟩ (al_cons ⟨cl_Filter, na_Filter_name⟩ (al_cons ⟨cl_Wall, na_Wall_name⟩ (al_cons ⟨cl_Fibre, na_Fibre_name⟩ al_nil)))))),
    fa_share := fa_of (al_cons ⟨cl_Empty, na_Empty_share⟩ (al_cons ⟨cl_Mirror, na_Mirror_share⟩ (al_cons ⟨cl_Half, na_Half_share⟩ (al_cons ⟨cl_Filter, na_Filter_share⟩ (al_cons ⟨cl_Wall, na_Wall_share⟩ (al_cons ⟨cl_Fibre, na_Fibre_share⟩ al_nil)))))),
    fa_slant := fa_of (al_cons ⟨cl_Empty, na_Empty_slant⟩ (al_cons ⟨cl_Mirror, na_Mirror_slant⟩ (al_cons ⟨cl_Half, na_Half_slant⟩ (al_cons ⟨cl_Filter, na_Filter_slant⟩ (al_cons ⟨cl_Wall, na_Wall_slant⟩ (al_cons ⟨cl_Fibre, na_Fibre_slant⟩ al_nil)))))),
    x_NoFraction := ⟨PySem.W.mg_of X G e_NoFraction, x_NoFraction, rfl⟩,
    x_NoCell := ⟨PySem.W.mg_of X G e_NoCell, x_NoCell, rfl⟩,
    h_BeamError := fun c C b hc hb => ex_all (E := [("NoFraction", C_NoFraction), ("NoCell", C_NoCell)]) (P := fun c C => ∀ b, hitOf mt "BeamError" c = some b → PySem.W.exmOne K (.ref C) (.ref C_BeamError) = some b) (al_cons (hb1 (show hitOf mt "BeamError" "NoFraction" = some true from by decide) h_NoFraction_BeamError) (al_cons (hb1 (show hitOf mt "BeamError" "NoCell" = some true from by decide) h_NoCell_BeamError) al_nil)) hc b hb,
    xt := ⟨fun c C hc _ => ex_all (E := [("NoFraction", C_NoFraction), ("NoCell", C_NoCell)]) (P := fun _ C => XT K C) (al_cons xt_NoFraction (al_cons xt_NoCell al_nil)) hc, fun c C ns hc => in_all (T := ([("Empty", (C_Empty, [])), ("Mirror", (C_Mirror, ["slant"])), ("Half", (C_Half, ["slant", "share"])), ("Filter", (C_Filter, ["share"])), ("Wall", (C_Wall, [])), ("Fibre", (C_Fibre, ["name"]))] : ClsTb)) (P := fun _ C => IC K C) (al_cons ⟨cl_Empty, ic1_Empty, ic2, ic3, ic4_Empty⟩ (al_cons ⟨cl_Mirror, ic1_Mirror, ic2, ic3, ic4_Mirror⟩ (al_cons ⟨cl_Half, ic1_Half, ic2, ic3, ic4_Half⟩ (al_cons ⟨cl_Filter, ic1_Filter, ic2, ic3, ic4_Filter⟩ (al_cons ⟨cl_Wall, ic1_Wall, ic2, ic3, ic4_Wall⟩ (al_cons ⟨cl_Fibre, ic1_Fibre, ic2, ic3, ic4_Fibre⟩ al_nil)))))) hc⟩,
    i_NoPlace := ⟨inn_NoPlace, ibb_NoPlace, iii_NoPlace, iss_NoPlace, itt_NoPlace, ill_NoPlace, idd_NoPlace, fun c C ks hc hk => ex_all (E := [("NoFraction", C_NoFraction), ("NoCell", C_NoCell)]) (P := fun c C => ∀ ks, mt.lookup c = some ks → PySem.W.kitOne K (.ref C) (.ref C_NoPlace) = some (ks.contains "NoPlace")) (al_cons (lk1 (show mt.lookup "NoFraction" = some ["NoFraction", "BeamError", "ValueError"] from by decide) io_NoFraction_NoPlace) (al_cons (lk1 (show mt.lookup "NoCell" = some ["NoCell", "BeamError", "ValueError"] from by decide) io_NoCell_NoPlace) al_nil)) hc ks hk, fun c C ns ks hc hk => in_all (T := ([("Empty", (C_Empty, [])), ("Mirror", (C_Mirror, ["slant"])), ("Half", (C_Half, ["slant", "share"])), ("Filter", (C_Filter, ["share"])), ("Wall", (C_Wall, [])), ("Fibre", (C_Fibre, ["name"]))] : ClsTb)) (P := fun c C => ∀ ks, mt.lookup c = some ks → PySem.W.kitOne K (.ref C) (.ref C_NoPlace) = some (ks.contains "NoPlace")) (al_cons (lk1 (show mt.lookup "Empty" = some ["Empty", "Cell"] from by decide) io_Empty_NoPlace) (al_cons (lk1 (show mt.lookup "Mirror" = some ["Mirror", "Cell"] from by decide) io_Mirror_NoPlace) (al_cons (lk1 (show mt.lookup "Half" = some ["Half", "Cell"] from by decide) io_Half_NoPlace) (al_cons (lk1 (show mt.lookup "Filter" = some ["Filter", "Cell"] from by decide) io_Filter_NoPlace) (al_cons (lk1 (show mt.lookup "Wall" = some ["Wall", "Cell"] from by decide) io_Wall_NoPlace) (al_cons (lk1 (show mt.lookup "Fibre" = some ["Fibre", "Cell"] from by decide) io_Fibre_NoPlace) al_nil)))))) hc ks hk⟩,
    i_NoTable := ⟨inn_NoTable, ibb_NoTable, iii_NoTable, iss_NoTable, itt_NoTable, ill_NoTable, idd_NoTable, fun c C ks hc hk => ex_all (E := [("NoFraction", C_NoFraction), ("NoCell", C_NoCell)]) (P := fun c C => ∀ ks, mt.lookup c = some ks → PySem.W.kitOne K (.ref C) (.ref C_NoTable) = some (ks.contains "NoTable")) (al_cons (lk1 (show mt.lookup "NoFraction" = some ["NoFraction", "BeamError", "ValueError"] from by decide) io_NoFraction_NoTable) (al_cons (lk1 (show mt.lookup "NoCell" = some ["NoCell", "BeamError", "ValueError"] from by decide) io_NoCell_NoTable) al_nil)) hc ks hk, fun c C ns ks hc hk => in_all (T := ([("Empty", (C_Empty, [])), ("Mirror", (C_Mirror, ["slant"])), ("Half", (C_Half, ["slant", "share"])), ("Filter", (C_Filter, ["share"])), ("Wall", (C_Wall, [])), ("Fibre", (C_Fibre, ["name"]))] : ClsTb)) (P := fun c C => ∀ ks, mt.lookup c = some ks → PySem.W.kitOne K (.ref C) (.ref C_NoTable) = some (ks.contains "NoTable")) (al_cons (lk1 (show mt.lookup "Empty" = some ["Empty", "Cell"] from by decide) io_Empty_NoTable) (al_cons (lk1 (show mt.lookup "Mirror" = some ["Mirror", "Cell"] from by decide) io_Mirror_NoTable) (al_cons (lk1 (show mt.lookup "Half" = some ["Half", "Cell"] from by decide) io_Half_NoTable) (al_cons (lk1 (show mt.lookup "Filter" = some ["Filter", "Cell"] from by decide) io_Filter_NoTable) (al_cons (lk1 (show mt.lookup "Wall" = some ["Wall", "Cell"] from by decide) io_Wall_NoTable) (al_cons (lk1 (show mt.lookup "Fibre" = some ["Fibre", "Cell"] from by decide) io_Fibre_NoTable) al_nil)))))) hc ks hk⟩,
    i_ValueError := ⟨inn_ValueError, ibb_ValueError, iii_ValueError, iss_ValueError, itt_ValueError, ill_ValueError, idd_ValueError, fun c C ks hc hk => ex_all (E := [("NoFraction", C_NoFraction), ("NoCell", C_NoCell)]) (P := fun c C => ∀ ks, mt.lookup c = some ks → PySem.W.kitOne K (.ref C) (.type "ValueError") = some (ks.contains "ValueError")) (al_cons (lk1 (show mt.lookup "NoFraction" = some ["NoFraction", "BeamError", "ValueError"] from by decide) io_NoFraction_ValueError) (al_cons (lk1 (show mt.lookup "NoCell" = some ["NoCell", "BeamError", "ValueError"] from by decide) io_NoCell_ValueError) al_nil)) hc ks hk, fun c C ns ks hc hk => in_all (T := ([("Empty", (C_Empty, [])), ("Mirror", (C_Mirror, ["slant"])), ("Half", (C_Half, ["slant", "share"])), ("Filter", (C_Filter, ["share"])), ("Wall", (C_Wall, [])), ("Fibre", (C_Fibre, ["name"]))] : ClsTb)) (P := fun c C => ∀ ks, mt.lookup c = some ks → PySem.W.kitOne K (.ref C) (.type "ValueError") = some (ks.contains "ValueError")) (al_cons (lk1 (show mt.lookup "Empty" = some ["Empty", "Cell"] from by decide) io_Empty_ValueError) (al_cons (lk1 (show mt.lookup "Mirror" = some ["Mirror", "Cell"] from by decide) io_Mirror_ValueError) (al_cons (lk1 (show mt.lookup "Half" = some ["Half", "Cell"] from by decide) io_Half_ValueError) (al_cons (lk1 (show mt.lookup "Filter" = some ["Filter", "Cell"] from by decide) io_Filter_ValueError) (al_cons (lk1 (show mt.lookup "Wall" = some ["Wall", "Cell"] from by decide) io_Wall_ValueError) (al_cons (lk1 (show mt.lookup "Fibre" = some ["Fibre", "Cell"] from by decide) io_Fibre_ValueError) al_nil)))))) hc ks hk⟩,
    i_NoCell := ⟨inn_NoCell, ibb_NoCell, iii_NoCell, iss_NoCell, itt_NoCell, ill_NoCell, idd_NoCell, fun c C ks hc hk => ex_all (E := [("NoFraction", C_NoFraction), ("NoCell", C_NoCell)]) (P := fun c C => ∀ ks, mt.lookup c = some ks → PySem.W.kitOne K (.ref C) (.ref C_NoCell) = some (ks.contains "NoCell")) (al_cons (lk1 (show mt.lookup "NoFraction" = some ["NoFraction", "BeamError", "ValueError"] from by decide) io_NoFraction_NoCell) (al_cons (lk1 (show mt.lookup "NoCell" = some ["NoCell", "BeamError", "ValueError"] from by decide) io_NoCell_NoCell) al_nil)) hc ks hk, fun c C ns ks hc hk => in_all (T := ([("Empty", (C_Empty, [])), ("Mirror", (C_Mirror, ["slant"])), ("Half", (C_Half, ["slant", "share"])), ("Filter", (C_Filter, ["share"])), ("Wall", (C_Wall, [])), ("Fibre", (C_Fibre, ["name"]))] : ClsTb)) (P := fun c C => ∀ ks, mt.lookup c = some ks → PySem.W.kitOne K (.ref C) (.ref C_NoCell) = some (ks.contains "NoCell")) (al_cons (lk1 (show mt.lookup "Empty" = some ["Empty", "Cell"] from by decide) io_Empty_NoCell) (al_cons (lk1 (show mt.lookup "Mirror" = some ["Mirror", "Cell"] from by decide) io_Mirror_NoCell) (al_cons (lk1 (show mt.lookup "Half" = some ["Half", "Cell"] from by decide) io_Half_NoCell) (al_cons (lk1 (show mt.lookup "Filter" = some ["Filter", "Cell"] from by decide) io_Filter_NoCell) (al_cons (lk1 (show mt.lookup "Wall" = some ["Wall", "Cell"] from by decide) io_Wall_NoCell) (al_cons (lk1 (show mt.lookup "Fibre" = some ["Fibre", "Cell"] from by decide) io_Fibre_NoCell) al_nil)))))) hc ks hk⟩ }
  refine ⟨(cbOf [("NoFraction", C_NoFraction), ("NoCell", C_NoCell)] ([("Empty", (C_Empty, [])), ("Mirror", (C_Mirror, ["slant"])), ("Half", (C_Half, ["slant", "share"])), ("Filter", (C_Filter, ["share"])), ("Wall", (C_Wall, [])), ("Fibre", (C_Fibre, ["name"]))] : ClsTb)), _, ?_, fun base => ok_law M⟩
  exact fun s v => .of_eq rfl
end K07
end
open PySem PySem.W PyProof.Rows
set_option Elab.async false
set_option linter.all false
set_option maxRecDepth 100000 in
set_option maxHeartbeats 0 in
theorem PySem.Challenge.cw_beamtable_k07_cells_refused_holds : PySem.Challenge.rw_beamtable_k07_cells_refused.Holds := by
  refine KO.looked fun said => ?_
  refine PySem.W.holds_openX (q := PySem.W.view PySem.Challenge.pw_beamtable_k07_cells_refused [35]) (loose := KO.LZ) (Xt := fun _ => true) (XP := fun _ _ => True) (Yf := PySem.W.X.obsZ KO.AF)
    (Ya := PySem.W.X.valZ KO.KF 419 705) (N := 7588) KO.hl (fun _ _ => trivial) (fun _ _ _ _ _ => trivial) (by rfl) (by rfl) (by rfl)
    (fun _ _ => PySem.W.recFacts_nil rfl) (by rfl) said (by decide +kernel) ⟨rfl, rfl, rfl, rfl, rfl, by decide +kernel⟩ ?hw ?hc
  case hw => w_witness2
  k_fill
  refine L4.walkZ (l := PySem.Challenge.rw_beamtable_k07_cells_refused) (k := 7) rfl rfl (by decide) (by decide) (fun _ => by kernel_rfl) ?F K07.law_true
  case F =>
    intro w mg fa h KX G hmg
    refine' K07.all_mk KX G hmg ?e_BeamError ?e_NoFraction ?e_NoCell ?e_NoTable ?e_NoPlace ?e_Empty ?e_Mirror ?e_Half ?e_Filter ?e_Wall ?e_Fibre ?a_l_low ?l_l_low ?c_l_low ?k_l_low ?a_l_share ?l_l_share ?c_l_share ?k_l_share ?a_l_bad_slant ?l_l_bad_slant ?c_l_bad_slant ?k_l_bad_slant ?a_l_bad_share ?l_l_bad_share ?c_l_bad_share ?k_l_bad_share ?a_check_slant ?l_check_slant ?c_check_slant ?k_check_slant ?a_Mirror___init__ ?l_Mirror___init__ ?c_Mirror___init__ ?k_Mirror___init__ ?a_under ?l_under ?c_under ?k_under ?a_check_share ?l_check_share ?c_check_share ?k_check_share ?a_Half___init__ ?l_Half___init__ ?c_Half___init__ ?k_Half___init__ ?a_Filter___init__ ?l_Filter___init__ ?c_Filter___init__ ?k_Filter___init__ ?a_check_name ?l_check_name ?c_check_name ?k_check_name ?a_Fibre___init__ ?l_Fibre___init__ ?c_Fibre___init__ ?k_Fibre___init__ ?a_l_refused ?l_l_refused ?c_l_refused ?k_l_refused ?a_l_bad_name ?l_l_bad_name ?c_l_bad_name ?k_l_bad_name ?a_Cell_turned ?l_Cell_turned ?c_Cell_turned ?k_Cell_turned ?a_other_slant ?l_other_slant ?c_other_slant ?k_other_slant ?a_Mirror_turned ?l_Mirror_turned ?c_Mirror_turned ?k_Mirror_turned ?a_Half_turned ?l_Half_turned ?c_Half_turned ?k_Half_turned ?a_Empty_row ?l_Empty_row ?c_Empty_row ?k_Empty_row ?a_Mirror_row ?l_Mirror_row ?c_Mirror_row ?k_Mirror_row ?a_Half_row ?l_Half_row ?c_Half_row ?k_Half_row ?a_Filter_row ?l_Filter_row ?c_Filter_row ?k_Filter_row ?a_Wall_row ?l_Wall_row ?c_Wall_row ?k_Wall_row ?a_Fibre_row ?l_Fibre_row ?c_Fibre_row ?k_Fibre_row ?a_Cell_swallows ?l_Cell_swallows ?c_Cell_swallows ?k_Cell_swallows ?a_greatest_divisor ?l_greatest_divisor ?c_greatest_divisor ?k_greatest_divisor ?a_fraction ?l_fraction ?c_fraction ?k_fraction ?a_minus ?l_minus ?c_minus ?k_minus ?a_Filter_swallows ?l_Filter_swallows ?c_Filter_swallows ?k_Filter_swallows ?a_Wall_swallows ?l_Wall_swallows ?c_Wall_swallows ?k_Wall_swallows ?a_Cell_leads ?l_Cell_leads ?c_Cell_leads ?k_Cell_leads ?a_Mirror_leads ?l_Mirror_leads ?c_Mirror_leads ?k_Mirror_leads ?a_Half_leads ?l_Half_leads ?c_Half_leads ?k_Half_leads ?a_Filter_leads ?l_Filter_leads ?c_Filter_leads ?k_Filter_leads ?a_Wall_leads ?l_Wall_leads ?c_Wall_leads ?k_Wall_leads ?a_l_turned ?l_l_turned ?c_l_turned ?k_l_turned ?a_law ?l_law ?c_law ?k_law ?z_ValueError ?z_abs ?z_all ?z_isinstance ?z_len ?z_range ?z_sorted ?gc_LETTERS ?gc_LONGEST_NAME ?gc_ONE ?lA_ONE_5 ?gc_ZERO ?lA_ZERO_8 ?pg_Empty ?hd_Empty ?po_Empty ?sa_Empty ?ic1_Empty ?ic4_Empty ?mm_Empty ?kp_Empty ?in_Empty ?me_Empty_turned ?me_Empty_row ?me_Empty_swallows ?me_Empty_leads ?na_Empty_name ?na_Empty_share ?na_Empty_slant ?pg_Mirror ?hd_Mirror ?po_Mirror ?sa_Mirror ?ic1_Mirror ?ic4_Mirror ?mm_Mirror ?kp_Mirror ?in_Mirror ?me_Mirror_turned ?me_Mirror_row ?me_Mirror_swallows ?me_Mirror_leads ?na_Mirror_name ?na_Mirror_share ?na_Mirror_slant ?pg_Half ?hd_Half ?po_Half ?sa_Half ?ic1_Half ?ic4_Half ?mm_Half ?kp_Half ?in_Half ?me_Half_turned ?me_Half_row ?me_Half_swallows ?me_Half_leads ?na_Half_name ?na_Half_share ?na_Half_slant ?pg_Filter ?hd_Filter ?po_Filter ?sa_Filter ?ic1_Filter ?ic4_Filter ?mm_Filter ?kp_Filter ?in_Filter ?me_Filter_turned ?me_Filter_row ?me_Filter_swallows ?me_Filter_leads ?na_Filter_name ?na_Filter_share ?na_Filter_slant ?pg_Wall ?hd_Wall ?po_Wall ?sa_Wall ?ic1_Wall ?ic4_Wall ?mm_Wall ?kp_Wall ?in_Wall ?me_Wall_turned ?me_Wall_row ?me_Wall_swallows ?me_Wall_leads ?na_Wall_name ?na_Wall_share ?na_Wall_slant ?pg_Fibre ?hd_Fibre ?po_Fibre ?sa_Fibre ?ic1_Fibre ?ic4_Fibre ?mm_Fibre ?kp_Fibre ?in_Fibre ?me_Fibre_turned ?me_Fibre_row ?me_Fibre_swallows ?me_Fibre_leads ?na_Fibre_name ?na_Fibre_share ?na_Fibre_slant ?ic2 ?ic3 ?nd ?fn_Mirror___init__ ?fn_Half___init__ ?fn_Filter___init__ ?fn_Fibre___init__ ?fn_Cell_turned ?fn_Mirror_turned ?fn_Half_turned ?fn_Empty_row ?fn_Mirror_row ?fn_Half_row ?fn_Filter_row ?fn_Wall_row ?fn_Fibre_row ?fn_Cell_swallows ?fn_Filter_swallows ?fn_Wall_swallows ?fn_Cell_leads ?fn_Mirror_leads ?fn_Half_leads ?fn_Filter_leads ?fn_Wall_leads ?x_NoFraction ?ga_NoFraction ?gt_NoFraction ?ca_NoFraction ?mo_NoFraction ?mb_NoFraction ?cl_NoFraction ?h_NoFraction_BeamError ?x_NoCell ?ga_NoCell ?gt_NoCell ?ca_NoCell ?mo_NoCell ?mb_NoCell ?cl_NoCell ?h_NoCell_BeamError ?inn_NoPlace ?ibb_NoPlace ?iii_NoPlace ?iss_NoPlace ?itt_NoPlace ?ill_NoPlace ?idd_NoPlace ?io_NoFraction_NoPlace ?io_NoCell_NoPlace ?io_Empty_NoPlace ?io_Mirror_NoPlace ?io_Half_NoPlace ?io_Filter_NoPlace ?io_Wall_NoPlace ?io_Fibre_NoPlace ?inn_NoTable ?ibb_NoTable ?iii_NoTable ?iss_NoTable ?itt_NoTable ?ill_NoTable ?idd_NoTable ?io_NoFraction_NoTable ?io_NoCell_NoTable ?io_Empty_NoTable ?io_Mirror_NoTable ?io_Half_NoTable ?io_Filter_NoTable ?io_Wall_NoTable ?io_Fibre_NoTable ?inn_ValueError ?ibb_ValueError ?iii_ValueError ?iss_ValueError ?itt_ValueError ?ill_ValueError ?idd_ValueError ?io_NoFraction_ValueError ?io_NoCell_ValueError ?io_Empty_ValueError ?io_Mirror_ValueError ?io_Half_ValueError ?io_Filter_ValueError ?io_Wall_ValueError ?io_Fibre_ValueError ?inn_NoCell ?ibb_NoCell ?iii_NoCell ?iss_NoCell ?itt_NoCell ?ill_NoCell ?idd_NoCell ?io_NoFraction_NoCell ?io_NoCell_NoCell ?io_Empty_NoCell ?io_Mirror_NoCell ?io_Half_NoCell ?io_Filter_NoCell ?io_Wall_NoCell ?io_Fibre_NoCell
    (case e_BeamError => k_is)
    (case e_NoFraction => k_is)
    (case e_NoCell => k_is)
    (case e_NoTable => k_is)
    (case e_NoPlace => k_is)
    (case e_Empty => k_is)
    (case e_Mirror => k_is)
    (case e_Half => k_is)
    (case e_Filter => k_is)
    (case e_Wall => k_is)
    (case e_Fibre => k_is)
    (case a_l_low => k_is)
    (case l_l_low => k_is)
    (case c_l_low => k_is)
    (case k_l_low => k_is)
    (case a_l_share => k_is)
    (case l_l_share => k_is)
    (case c_l_share => k_is)
    (case k_l_share => k_is)
    (case a_l_bad_slant => k_is)
    (case l_l_bad_slant => k_is)
    (case c_l_bad_slant => k_is)
    (case k_l_bad_slant => k_is)
    (case a_l_bad_share => k_is)
    (case l_l_bad_share => k_is)
    (case c_l_bad_share => k_is)
    (case k_l_bad_share => k_is)
    (case a_check_slant => k_is)
    (case l_check_slant => k_is)
    (case c_check_slant => k_is)
    (case k_check_slant => k_is)
    (case a_Mirror___init__ => k_is)
    (case l_Mirror___init__ => k_is)
    (case c_Mirror___init__ => k_is)
    (case k_Mirror___init__ => k_is)
    (case a_under => k_is)
    (case l_under => k_is)
    (case c_under => k_is)
    (case k_under => k_is)
    (case a_check_share => k_is)
    (case l_check_share => k_is)
    (case c_check_share => k_is)
    (case k_check_share => k_is)
    (case a_Half___init__ => k_is)
    (case l_Half___init__ => k_is)
    (case c_Half___init__ => k_is)
    (case k_Half___init__ => k_is)
    (case a_Filter___init__ => k_is)
    (case l_Filter___init__ => k_is)
    (case c_Filter___init__ => k_is)
    (case k_Filter___init__ => k_is)
    (case a_check_name => k_is)
    (case l_check_name => k_is)
    (case c_check_name => k_is)
    (case k_check_name => k_is)
    (case a_Fibre___init__ => k_is)
    (case l_Fibre___init__ => k_is)
    (case c_Fibre___init__ => k_is)
    (case k_Fibre___init__ => k_is)
    (case a_l_refused => k_is)
    (case l_l_refused => k_is)
    (case c_l_refused => k_is)
    (case k_l_refused => k_is)
    (case a_l_bad_name => k_is)
    (case l_l_bad_name => k_is)
    (case c_l_bad_name => k_is)
    (case k_l_bad_name => k_is)
    (case a_Cell_turned => k_is)
    (case l_Cell_turned => k_is)
    (case c_Cell_turned => k_is)
    (case k_Cell_turned => k_is)
    (case a_other_slant => k_is)
    (case l_other_slant => k_is)
    (case c_other_slant => k_is)
    (case k_other_slant => k_is)
    (case a_Mirror_turned => k_is)
    (case l_Mirror_turned => k_is)
    (case c_Mirror_turned => k_is)
    (case k_Mirror_turned => k_is)
    (case a_Half_turned => k_is)
    (case l_Half_turned => k_is)
    (case c_Half_turned => k_is)
    (case k_Half_turned => k_is)
    (case a_Empty_row => k_is)
    (case l_Empty_row => k_is)
    (case c_Empty_row => k_is)
    (case k_Empty_row => k_is)
    (case a_Mirror_row => k_is)
    (case l_Mirror_row => k_is)
    (case c_Mirror_row => k_is)
    (case k_Mirror_row => k_is)
    (case a_Half_row => k_is)
    (case l_Half_row => k_is)
    (case c_Half_row => k_is)
    (case k_Half_row => k_is)
    (case a_Filter_row => k_is)
    (case l_Filter_row => k_is)
    (case c_Filter_row => k_is)
    (case k_Filter_row => k_is)
    (case a_Wall_row => k_is)
    (case l_Wall_row => k_is)
    (case c_Wall_row => k_is)
    (case k_Wall_row => k_is)
    (case a_Fibre_row => k_is)
    (case l_Fibre_row => k_is)
    (case c_Fibre_row => k_is)
    (case k_Fibre_row => k_is)
    (case a_Cell_swallows => k_is)
    (case l_Cell_swallows => k_is)
    (case c_Cell_swallows => k_is)
    (case k_Cell_swallows => k_is)
    (case a_greatest_divisor => k_is)
    (case l_greatest_divisor => k_is)
    (case c_greatest_divisor => k_is)
    (case k_greatest_divisor => k_is)
    (case a_fraction => k_is)
    (case l_fraction => k_is)
    (case c_fraction => k_is)
    (case k_fraction => k_is)
    (case a_minus => k_is)
    (case l_minus => k_is)
    (case c_minus => k_is)
    (case k_minus => k_is)
    (case a_Filter_swallows => k_is)
    (case l_Filter_swallows => k_is)
    (case c_Filter_swallows => k_is)
    (case k_Filter_swallows => k_is)
    (case a_Wall_swallows => k_is)
    (case l_Wall_swallows => k_is)
    (case c_Wall_swallows => k_is)
    (case k_Wall_swallows => k_is)
    (case a_Cell_leads => k_is)
    (case l_Cell_leads => k_is)
    (case c_Cell_leads => k_is)
    (case k_Cell_leads => k_is)
    (case a_Mirror_leads => k_is)
    (case l_Mirror_leads => k_is)
    (case c_Mirror_leads => k_is)
    (case k_Mirror_leads => k_is)
    (case a_Half_leads => k_is)
    (case l_Half_leads => k_is)
    (case c_Half_leads => k_is)
    (case k_Half_leads => k_is)
    (case a_Filter_leads => k_is)
    (case l_Filter_leads => k_is)
    (case c_Filter_leads => k_is)
    (case k_Filter_leads => k_is)
    (case a_Wall_leads => k_is)
    (case l_Wall_leads => k_is)
    (case c_Wall_leads => k_is)
    (case k_Wall_leads => k_is)
    (case a_l_turned => k_is)
    (case l_l_turned => k_is)
    (case c_l_turned => k_is)
    (case k_l_turned => k_is)
    (case a_law => k_is)
    (case l_law => k_is)
    (case c_law => k_is)
    (case k_law => k_is)
    (case z_ValueError => k_is)
    (case z_abs => k_is)
    (case z_all => k_is)
    (case z_isinstance => k_is)
    (case z_len => k_is)
    (case z_range => k_is)
    (case z_sorted => k_is)
    (case gc_LETTERS => k_is)
    (case gc_LONGEST_NAME => k_is)
    (case gc_ONE => k_is)
    (case lA_ONE_5 => k_is)
    (case gc_ZERO => k_is)
    (case lA_ZERO_8 => k_is)
    (case pg_Empty => kernel_rfl)
    (case hd_Empty => kernel_rfl)
    (case po_Empty => kernel_rfl)
    (case sa_Empty => k_is)
    (case ic1_Empty => k_is)
    (case ic4_Empty => k_is)
    (case mm_Empty => kernel_rfl)
    (case kp_Empty => k_is)
    (case in_Empty => k_is)
    (case me_Empty_turned => k_is)
    (case me_Empty_row => k_is)
    (case me_Empty_swallows => k_is)
    (case me_Empty_leads => k_is)
    (case na_Empty_name => k_is)
    (case na_Empty_share => k_is)
    (case na_Empty_slant => k_is)
    (case pg_Mirror => kernel_rfl)
    (case hd_Mirror => kernel_rfl)
    (case po_Mirror => kernel_rfl)
    (case sa_Mirror => k_is)
    (case ic1_Mirror => k_is)
    (case ic4_Mirror => k_is)
    (case mm_Mirror => kernel_rfl)
    (case kp_Mirror => k_is)
    (case in_Mirror => k_is)
    (case me_Mirror_turned => k_is)
    (case me_Mirror_row => k_is)
    (case me_Mirror_swallows => k_is)
    (case me_Mirror_leads => k_is)
    (case na_Mirror_name => k_is)
    (case na_Mirror_share => k_is)
    (case na_Mirror_slant => k_is)
    (case pg_Half => kernel_rfl)
    (case hd_Half => kernel_rfl)
    (case po_Half => kernel_rfl)
    (case sa_Half => k_is)
    (case ic1_Half => k_is)
    (case ic4_Half => k_is)
    (case mm_Half => kernel_rfl)
    (case kp_Half => k_is)
    (case in_Half => k_is)
    (case me_Half_turned => k_is)
    (case me_Half_row => k_is)
    (case me_Half_swallows => k_is)
    (case me_Half_leads => k_is)
    (case na_Half_name => k_is)
    (case na_Half_share => k_is)
    (case na_Half_slant => k_is)
    (case pg_Filter => kernel_rfl)
    (case hd_Filter => kernel_rfl)
    (case po_Filter => kernel_rfl)
    (case sa_Filter => k_is)
    (case ic1_Filter => k_is)
    (case ic4_Filter => k_is)
    (case mm_Filter => kernel_rfl)
    (case kp_Filter => k_is)
    (case in_Filter => k_is)
    (case me_Filter_turned => k_is)
    (case me_Filter_row => k_is)
    (case me_Filter_swallows => k_is)
    (case me_Filter_leads => k_is)
    (case na_Filter_name => k_is)
    (case na_Filter_share => k_is)
    (case na_Filter_slant => k_is)
    (case pg_Wall => kernel_rfl)
    (case hd_Wall => kernel_rfl)
    (case po_Wall => kernel_rfl)
    (case sa_Wall => k_is)
    (case ic1_Wall => k_is)
    (case ic4_Wall => k_is)
    (case mm_Wall => kernel_rfl)
    (case kp_Wall => k_is)
    (case in_Wall => k_is)
    (case me_Wall_turned => k_is)
    (case me_Wall_row => k_is)
    (case me_Wall_swallows => k_is)
    (case me_Wall_leads => k_is)
    (case na_Wall_name => k_is)
    (case na_Wall_share => k_is)
    (case na_Wall_slant => k_is)
    (case pg_Fibre => kernel_rfl)
    (case hd_Fibre => kernel_rfl)
    (case po_Fibre => kernel_rfl)
    (case sa_Fibre => k_is)
    (case ic1_Fibre => k_is)
    (case ic4_Fibre => k_is)
    (case mm_Fibre => kernel_rfl)
    (case kp_Fibre => k_is)
    (case in_Fibre => k_is)
    (case me_Fibre_turned => k_is)
    (case me_Fibre_row => k_is)
    (case me_Fibre_swallows => k_is)
    (case me_Fibre_leads => k_is)
    (case na_Fibre_name => k_is)
    (case na_Fibre_share => k_is)
    (case na_Fibre_slant => k_is)
    (case ic2 => kernel_rfl)
    (case ic3 => kernel_rfl)
    (case nd => decide)
    (case fn_Mirror___init__ => kernel_rfl)
    (case fn_Half___init__ => kernel_rfl)
    (case fn_Filter___init__ => kernel_rfl)
    (case fn_Fibre___init__ => kernel_rfl)
    (case fn_Cell_turned => kernel_rfl)
    (case fn_Mirror_turned => kernel_rfl)
    (case fn_Half_turned => kernel_rfl)
    (case fn_Empty_row => kernel_rfl)
    (case fn_Mirror_row => kernel_rfl)
    (case fn_Half_row => kernel_rfl)
    (case fn_Filter_row => kernel_rfl)
    (case fn_Wall_row => kernel_rfl)
    (case fn_Fibre_row => kernel_rfl)
    (case fn_Cell_swallows => kernel_rfl)
    (case fn_Filter_swallows => kernel_rfl)
    (case fn_Wall_swallows => kernel_rfl)
    (case fn_Cell_leads => kernel_rfl)
    (case fn_Mirror_leads => kernel_rfl)
    (case fn_Half_leads => kernel_rfl)
    (case fn_Filter_leads => kernel_rfl)
    (case fn_Wall_leads => kernel_rfl)
    (case x_NoFraction => kernel_rfl)
    (case ga_NoFraction => k_is)
    (case gt_NoFraction => k_is)
    (case ca_NoFraction => k_is)
    (case mo_NoFraction => k_is)
    (case mb_NoFraction => k_is)
    (case cl_NoFraction => k_is)
    (case h_NoFraction_BeamError => kernel_rfl)
    (case x_NoCell => kernel_rfl)
    (case ga_NoCell => k_is)
    (case gt_NoCell => k_is)
    (case ca_NoCell => k_is)
    (case mo_NoCell => k_is)
    (case mb_NoCell => k_is)
    (case cl_NoCell => k_is)
    (case h_NoCell_BeamError => kernel_rfl)
    (case inn_NoPlace => kernel_rfl)
    (case ibb_NoPlace => kernel_rfl)
    (case iii_NoPlace => kernel_rfl)
    (case iss_NoPlace => kernel_rfl)
    (case itt_NoPlace => kernel_rfl)
    (case ill_NoPlace => kernel_rfl)
    (case idd_NoPlace => kernel_rfl)
    (case io_NoFraction_NoPlace => kernel_rfl)
    (case io_NoCell_NoPlace => kernel_rfl)
    (case io_Empty_NoPlace => kernel_rfl)
    (case io_Mirror_NoPlace => kernel_rfl)
    (case io_Half_NoPlace => kernel_rfl)
    (case io_Filter_NoPlace => kernel_rfl)
    (case io_Wall_NoPlace => kernel_rfl)
    (case io_Fibre_NoPlace => kernel_rfl)
    (case inn_NoTable => kernel_rfl)
    (case ibb_NoTable => kernel_rfl)
    (case iii_NoTable => kernel_rfl)
    (case iss_NoTable => kernel_rfl)
    (case itt_NoTable => kernel_rfl)
    (case ill_NoTable => kernel_rfl)
    (case idd_NoTable => kernel_rfl)
    (case io_NoFraction_NoTable => kernel_rfl)
    (case io_NoCell_NoTable => kernel_rfl)
    (case io_Empty_NoTable => kernel_rfl)
    (case io_Mirror_NoTable => kernel_rfl)
    (case io_Half_NoTable => kernel_rfl)
    (case io_Filter_NoTable => kernel_rfl)
    (case io_Wall_NoTable => kernel_rfl)
    (case io_Fibre_NoTable => kernel_rfl)
    (case inn_ValueError => kernel_rfl)
    (case ibb_ValueError => kernel_rfl)
    (case iii_ValueError => kernel_rfl)
    (case iss_ValueError => kernel_rfl)
    (case itt_ValueError => kernel_rfl)
    (case ill_ValueError => kernel_rfl)
    (case idd_ValueError => kernel_rfl)
    (case io_NoFraction_ValueError => kernel_rfl)
    (case io_NoCell_ValueError => kernel_rfl)
    (case io_Empty_ValueError => kernel_rfl)
    (case io_Mirror_ValueError => kernel_rfl)
    (case io_Half_ValueError => kernel_rfl)
    (case io_Filter_ValueError => kernel_rfl)
    (case io_Wall_ValueError => kernel_rfl)
    (case io_Fibre_ValueError => kernel_rfl)
    (case inn_NoCell => kernel_rfl)
    (case ibb_NoCell => kernel_rfl)
    (case iii_NoCell => kernel_rfl)
    (case iss_NoCell => kernel_rfl)
    (case itt_NoCell => kernel_rfl)
    (case ill_NoCell => kernel_rfl)
    (case idd_NoCell => kernel_rfl)
    (case io_NoFraction_NoCell => kernel_rfl)
    (case io_NoCell_NoCell => kernel_rfl)
    (case io_Empty_NoCell => kernel_rfl)
    (case io_Mirror_NoCell => kernel_rfl)
    (case io_Half_NoCell => kernel_rfl)
    (case io_Filter_NoCell => kernel_rfl)
    (case io_Wall_NoCell => kernel_rfl)
    (case io_Fibre_NoCell => kernel_rfl)
